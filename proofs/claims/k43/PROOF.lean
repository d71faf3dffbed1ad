import PyProof.Rows.All
import Wide.FinOn
import Lean
import PyProof.EqAt
import PyProof.EqKinds
import PyProof.TupleCall
import PyProof.DictCompW
import PyProof.Rows.Range3
import KE.KRevIter
import PyProof.AutoRange
import PyProof.FactsAll.range_2
import PyProof.Rows.CallKwBuiltin
import PyProof.ListRange
import PyProof.TupleOfGen
import PyProof.P3Eq
import PyProof.Rows.RowHeap
import PyProof.CollectIter
import PyProof.WalksMore
import PyProof.AutoSeq1
import KE.KListMore
import PyProof.AttrMissHeap
import KE.KDictOf
import KE.KSortTup
import PyProof.Rows.SortWalk
import PyProof.SumWalkG
import PyProof.DictWalks
import KE.KDictSum
import PyProof.SetKind
import PyProof.SetRoads
import PyProof.Rows.SetFrom
import PyProof.TupleKey
import KE.KTryMore
import PyProof.ExcArgs
import PyProof.ExcBaseAll.ValueError
import OpenK.KOwn
import PySem.Challenge.RW_keepwhole_k43_put_and_fetched
set_option compiler.extract_closed false
set_option genSizeOf false
set_option genInjectivity false
local macro_rules | `(⋯) => `(by lia)
open PySem.Builtin.SmallTypes renaming ownedTupleHandOut->ac,ownedTupleIsFree->ae,nextOf->aL
open List renaming take_succ_eq_append_getElem->af,eq_nil_of_length_eq_zero->aj,getElem?_append_right->az,getD_eq_getElem?_getD->aA,getElem?_eq_some_iff->aI,getElem?_eq_none_iff->aJ,getElem?_append_left->aK,getElem?_take_of_lt->aU,getElem?_eq_getElem->aV,getElem?_replicate->bh,take_of_length_le->br,getElem?_set_self->bu,drop_of_length_le->bv,take_append_drop->bG,mem_append_right->bH,length_replicate->bI,getElem?_zipWith->bJ,mem_of_mem_take->bQ,mem_of_getElem?->bR,mem_iff_getElem->bS,mem_cons_of_mem->bT,mem_append_left->bU,getElem?_set_ne->bV,drop_eq_nil_iff->bW,replicate_succ->cp,map_congr_left->cq,length_reverse->cr,filterMap_cons->cu,zip_nil_right->cL,zip_cons_cons->cM,mem_singleton->cO,mem_filterMap->cP,mem_cons_self->cQ,length_append->cR,size_toArray->dG,reverse_cons->dH,length_range->dI,getElem?_map->dJ,flatten_cons->dL,append_assoc->dM,zipIdx_cons->eD,take_length->eE,not_mem_nil->eF,lookup_cons->eG,length_take->eI,length_drop->eJ,length_cons->eK,getElem_mem->eL,cons_append->eM,all_eq_true->eO,zipIdx_nil->ft,of_mem_zip->fu,nodup_cons->fv,nil_append->fw,mem_filter->fy,mem_append->fA,length_set->fB,length_nil->fC,length_map->fE,forIn_cons->fF,find?_cons->fG,append_nil->fH,tail_drop->ge,replicate->gf,mem_range->gh,forIn_nil->gi,drop_zero->gj,drop_drop->gk,take_nil->gL,mem_cons->gM,map_cons->gN,drop_nil->gO,any_cons->gP,zipWith->iq,mem_map->ir,map_nil->iu,map_map->iw,length->iL,range->i7,foldl->i8,tail->jb,getD->jc,map->jl
open PyProof.Rows renaming slot_tuple_getitem->ag,callWith_type1->aq,subscriptTail_builtinR->bj,boot_zip->bE,entry_tuple_getitem->cf,lt_int->cj,assignInOrder_cons->cF,args_tuple_getitem->cG,assignInOrder_nil->dq,slicePart_none->fS,tupleItemsOf_->gA,Constant_none->gR,Subscript_->iW,IntsAre->js,AllBare->jv,IsTup->jJ
open PySem.F renaming args_dict_keyiterator_next_1->ah,entry_dict_keyiterator_next->ak,slot_dict_keyiterator_next->al,args_tuple_iterator_next_1->am,entry_tuple_iterator_next->ar,slot_NoneType_hash->aw,slot_tuple_iterator_next->aB,args_tuple_add_2->aS,plainAttrs_list->bc,entry_tuple_add->bd,args_enumerate_next_1->bi,slot_tuple_add->bp,entry_enumerate_next->bz,slot_enumerate_next->bL,args_object_init_2->bX,plain_tuple_new->dO,plain_list_iadd->dP,args_zip_next_1->dQ,slot_dict_iter->eP,entry_zip_next->eQ,slot_zip_next->fI,slot_int_rmul->fJ,called_tuple->gp
open PySem renaming wpAny_typeNameOfWhole_keyiter->ai,wpAny_typeNameOf_keyiter->aQ,wpAny_comprehension_free->aR,wpAny_callSpecial?_slot->aZ,wpAny_isTrue_Compare1->bA,wpAny_isOneOf_keyiter->bB,builtinLookup_eq_fast->bC,ofString_length->bD,wpAny_updateSeq_pair->bO,wpAny_loadName_local->bP,wpAny_loadName_cell->cb,mem_of_lookup->cg,wpAny_setField_rec->cA,wpAny_pyIter_tuple->cC,wpAny_Call_Name_kw->cD,tupleKind_room_in1->cE,wpAny_truthy_bool->cW,wpAny_sequenceKey->cX,wpAny_pyIter_list->cY,wpAny_pyIter_enum->cZ,wpAny_newObj_type->db,wpAny_dictEntries->dc,wpAny_assign_Name->dh,slot_list_getitem->dj,wpAny_pyIter_zip->dS,wpAny_isInstance->dU,wpAny_forIn_list->dW,wpAny_execs_cons->dX,wpAny_call_entry->dY,noFill_tuple_add->dZ,wpAny_updateSeq->eT,wpAny_specialOf->eU,wpAny_passesOwn->eV,wpAny_loadPart'->eW,wpAny_execs_nil->eX,wpAny_dictEpoch->eY,typeLookup_type->eZ,pushCells_keeps->fc,codeAny_of_tree->ff,codeAny_builtin->fg,wpAny_tryCatch->fM,wpAny_setField->fN,wpAny_seqItems->fO,wpAny_newTuple->fP,wpAny_fieldsOf->fQ,wpAny_bindName->fR,isSubtype_type->fT,isSubtype_stop->fU,wpAny_standAt->gu,wpAny_onRaise->gv,wpAny_newList->gw,wpAny_holding->gx,wpAny_handled->gy,wpAny_attempt->gz,seq_tuple_add->gB,plainId_quiet->gC,intBits_le_64->gD,evalPart_none->gE,call_list_seq->gF,Comprehension->gS,wpAny_typeOf->gX,seqIndex_neg->gY,concat_meets->gZ,codeAny_mono->hG,Within->hZ,wpAny_of_eq->iB,wpAny_letGo->iC,wpAny_field->iD,sizeLine_eq->iE,seqIndex_of->iF,wpAny_rule->iN,wpAny_pure->iO,wpAny_mono->iP,wpAny_load->iQ,wpAny_bind->iR,wpAny_Name->iS,typeIs_int->iT,call_meets->iU,call->iY,IsEnumOut->je,DictEntry->jf,ZipApart->jg,SetTable->jh,Operator->ji,NameKind->jj,FuncData->jm,Program->jn,ItemsOf->jr,Builtin->jt,BindsTo->ju,Shared->jw,Result->jx,Paired->jy,IsPart->jz,IsPair->jA,IsEnum->jB,DefRec->jC,Around->jD,World->jE,Value->jF,Scope->jG,Model->jH,IsZip->jI,CmpOp->jK,Stmt->jL,Heap->jM,Code->jO,Addr->jP
open PySem.Builtin.Dict_items renaming ownsTuple->ap
open PySem.Builtin.List renaming listExtendWith->au,listFitsIndex->aG,listTooLong->aX,listSameRef->aY
open PySem.Builtin.Builtins renaming bindParams->av
open PySem.Around renaming under_plainId->ay,under_plainId->b9
open PySem.Calls renaming Name_function_global->aC,spliced_cons->cT,spliced_nil->dR
open PySem.Builtin.Tuple renaming tupleItemsOf->aD,tupleIsExact->aE,tupleExact->aW
open PySem.Builtin.Slice renaming sliceApplied->aF,slicePlaces->aM,sliceFields->aN,sliceAdjust->aO
open Array renaming getElem?_eq_some_iff->aH,getElem?_eq_getElem->aP,getElem?_toList->bN,toArray_toList->bZ,length_toList->cz,toList->iA
open Option renaming isSome_iff_exists->aT,map_eq_some_iff->bq,isSome_some->cI,isSome_map->dA,getD_some->er,getD_none->et
open PySem.Str renaming ofString_eq_toList->bn,ofString->hW
open PySem.W renaming cellsFrom_some->bo,methodObj->dr,kitx_list->du,kitx_dict->dv,plainGet->ef,kia_one->fh,instObj->fi,lookIn->fW,kitOne->fX,keepIn->fY,findIn->fZ,codeIn->gc,fnOf->ia,Frag->ib,OpenLaw->jo,Frag->jN
open PySem.Heap renaming get?_update_other->bw,get?_push_of_some->bx,get?_update_self->bK,get?_push_size->cw,size_push->gn,lt_size->iy,SameBut->iz,ExtBut->iM
open PySem.Obj renaming isFreed_of_fields->bF,data_mapFields->cJ,cls_mapFields->dC,mapFields->gJ,mapSeq->iZ
open PySem.Builtin.Dict renaming showsAll->bM
open Bool renaming and_eq_true_iff->bY,false_ne_true->cU,false_eq_true->cV,and_eq_true->eR,or_eq_true->fK,eq_iff_iff->fL,and_false->gr,and_true->gU,and_self->gV
open PySem.PyData renaming intsShortAll->ck,showableAll->cH,hasDictAll->dw,canLayAll0->dz,weightAll->eg,depthAll->fj,weight->gH,strOk->ic,depth->ie
open PySem.Heap.SameBut renaming update->cy
open Nat renaming lt_of_lt_of_le->cK,lt_succ_of_lt->dD,le_of_succ_le->dE,succ_ne_zero->eu,lt_succ_self->eA,le_add_right->eB,not_lt_zero->fq,lt_irrefl->gK,zero_add->ig,ne_of_lt->ii,ne_of_gt->ij,le_trans->ik,le_of_lt->il,le_of_eq->ip,zero_le->iI,le_succ->iJ,le_refl->iK,not_lt->i0,not_le->i6
open PySem.Heap.IsSliceOf renaming new->cS
open Int renaming toNat_natCast->dN
open PySem.PassesOwn renaming never->fm
open Option.some renaming inj->fo
open PySem.SetTable renaming Probe->fV
open PySem.Value renaming isStrOf->gG,isInt->iG
open PySem.Paired renaming length->gI
open PySem.Env renaming blockKind->gQ
open PySem.Shared renaming heap->iH
open PySem.Walks renaming list->iV
open PySem.SeqAt renaming EqAt->iX
open False renaming elim->i9
open Char renaming toNat->ja
open PyProof.Rows.IsTup renaming new->jd
open Ne renaming symm->jp
namespace L2
end L2
local macro_rules | `(tactic| nofun) => `(tactic| decide +kernel)
open Option renaming some->Ψ,none->Φ
open Bool renaming true->Ω,false->Ξ
open Decidable renaming decide->Δ
local macro_rules | `(tactic| let $p:term := $e:term) => do
 let rec f:Nat->Lean.Term->Lean.MacroM (Lean.TSyntax `rcasesPat)
  | 0,_=>Lean.Macro.throwUnsupported
  | n+1,t=>do match t with
   | `(⟨$ts,*⟩)=>
    let ps <- ts.getElems.mapM fun x=>do
     let y <- f n x
     `(Lean.Parser.Tactic.rcasesPatLo| $y:rcasesPat)
    `(rcasesPat| ⟨$ps,*⟩)
   | `(($a,$ts,*))=>
    let ps <- (#[a]++ts.getElems).mapM fun x=>do
     let y <- f n x
     `(Lean.Parser.Tactic.rcasesPatLo| $y:rcasesPat)
    `(rcasesPat| ⟨$ps,*⟩)
   | `($i:ident)=>`(rcasesPat| $i:ident)
   | `(_)=>`(rcasesPat| _)
   | _=>Lean.Macro.throwUnsupported
 match p with
 | `(⟨$_,*⟩)|`(($_,$_,*))=>
  let q <- f 20 p
  `(tactic| obtain $q:rcasesPat := $e)
 | _=>Lean.Macro.throwUnsupported
local macro_rules | `(tactic| exact $e) => if (e.raw.find? (·.isOfKind ``Lean.Parser.Term.syntheticHole)).isSome then `(tactic| refine $e) else Lean.Macro.throwUnsupported
local macro_rules | `(tactic| simp! [$ls,*] $[$l:location]?) => `(tactic| simp only [$ls,*] $[$l:location]?)
local macro_rules
 | `(tactic| let $i:ident := $e) => if i.getId==`W then Lean.Macro.throwUnsupported else `(tactic| have $i:ident := $e)
 | `(tactic| let $i:ident : $t := $e) => if i.getId==`W then Lean.Macro.throwUnsupported else `(tactic| have $i:ident : $t := $e)
local macro_rules | `(∅) => `(by simp)
local macro_rules | `((·)) => `(by decide)
local macro_rules | `(command| $m:declModifiers abbrev $i:declId $s:optDeclSig $v:declVal) => if m.raw.getArgs.all (·.getNumArgs == 0) then `(command| noncomputable def $i:declId $s:optDeclSig $v:declVal) else Lean.Macro.throwUnsupported
local macro_rules | `(command| $m:declModifiers def $i:declId $s:optDeclSig $v:declVal) => if s.raw[1].getNumArgs == 1 then
  let d:Lean.TSyntax ``Lean.Parser.Command.declSig:=⟨.node .none ``Lean.Parser.Command.declSig #[s.raw[0],s.raw[1][0]]⟩
  if m.raw.getArgs.all (·.getNumArgs == 0) then `(command| theorem $i:declId $d:declSig $v:declVal) else if (m.raw.find? (·.isToken "nonrec")).isSome then `(command| @[scoped simp ↓] theorem $i:declId $d:declSig $v:declVal) else Lean.Macro.throwUnsupported else Lean.Macro.throwUnsupported
set_option Elab.async false
set_option linter.all false
set_option maxRecDepth 100000
section
open PySem PySem.Spec PyProof.Rows
open PySem PySem.Spec PyProof.Rows
open PySem PySem.Spec PyProof.Rows
open PySem PySem.Spec PyProof.Rows
open PySem PySem.Spec PyProof.Rows
open PySem PySem.Spec PyProof.Rows
open PySem PySem.Spec PyProof.Rows
open PySem PySem.Spec PyProof.Rows
open PySem PySem.Spec PyProof.Rows
open PySem PySem.Spec PyProof.Rows
open PySem PyProof.Rows
open PySem.SeqAt
open PySem.AutoSeq1 (wpAny_loadPart')
open PySem.MeetsSeq PySem.MeetsSeq2 PySem.MeetsSeq3
open PySem PySem.Spec PyProof.Rows
open PySem PySem.Spec PyProof.Rows
open PySem PySem.Spec PyProof.Rows
open PySem PySem.W PySem.Calls PyProof.Rows
open PySem PySem.Spec PyProof.Rows
open PySem PySem.Spec PyProof.Rows
namespace L2
open PySem PySem.Spec PyProof.Rows
abbrev nM (s:jL):Arguments:=match s with
 | .FunctionDef _ a _ _ _ _ _ _ _ _=>a
 | _=>{ posonlyargs:=[],args:=[],vararg:=Φ,kwonlyargs:=[],kw_defaults:=[],kwarg:=Φ,defaults:=[] }
abbrev ku (s:jL):List jL:=match s with
 | .FunctionDef _ _ b _ _ _ _ _ _ _=>b
 | _=>[]
abbrev kr (s:jL):jG:=match s with
 | .FunctionDef _ _ _ _ _ _ sc _ _ _=>sc
 | _=>{ kind:=.function,names:=[],isGenerator:=Ξ,isCoroutine:=Ξ }
end L2
end
set_option maxHeartbeats 4000000
namespace Kq
open PySem PySem.Spec PyProof.Rows L2
abbrev bltNames:List String:=["len","abs","int","sum","all","any","min","max","tuple","list","isinstance","range","zip","bool","str","enumerate","reversed","sorted","dict","set"]
end Kq
namespace Kq
open PySem PySem.Spec PySem.Calls PyProof.Rows L2 PySem.W
abbrev freeIn (q:jn)(loose:List Str)(x:Str):Bool:=!startupNames.contains x && !loose.contains x && !((recsOf q).map (·.name)).contains x && !((litsOf q).map (·.1)).contains x && !((clssOf q loose).map (·.name)).contains x
abbrev nZ (h:jM):jN:=(i7 h.objs.size).filterMap λa=>(h.get? a).map λo=>(a,o)
structure CSp where
 c:Str
 a:jP
 fl:List Str
 ms:List (Str×jP)
 x:jN->(Str->Option jF)->Bool
abbrev Ox (r:Option (Option jF))(f:jP):Bool:=match r with
 | some (Ψ (.ref g))=>g == f
 | _=>Ξ
abbrev EE (r:Option (Option jF)):Bool:=match r with
 | some Φ=>Ω
 | _=>Ξ
abbrev Ch (r:Option (Option jF))(x:String):Bool:=match r with
 | some (Ψ (.builtin y))=>y == x
 | _=>Ξ
abbrev Gh (r:Option jF)(f:jP):Bool:=match r with
 | some (.ref g)=>g == f
 | _=>Ξ
abbrev M7 (K:jN)(f:jP):Bool:=match K.lookup f with
 | some ⟨_,_,.func fd,_⟩=>codeIn K fd.code fd.qualname
 | _=>Ξ
abbrev dB (K:jN)(mg:Str->Option jF)(x:Str):Bool:=match mg x with
 | some (.ref a)=>match K.lookup a with
  | some ⟨_,_,.func fd,_⟩=>match fd.code with
   | .ref c=>(K.lookup c).isSome
   | _=>Ξ
  | _=>Ξ
 | _=>Ξ
abbrev cB (K:jN)(mg:Str->Option jF)(c:CSp):Bool:=Gh (mg c.c) c.a && (plainGet K c.a Str.empty && (hasDictIn K c.a && (plainOver K c.a && (Ch (findIn K (.ref c.a) "__setattr__") "object.__setattr__" && (c.fl.all (λf=>EE (findIn K (.ref c.a) f)) && (c.ms.all (λm=>Ox (findIn K (.ref c.a) m.1) m.2 && (isFn K (.ref m.2) && (keepIn K (.ref m.2) && M7 K m.2))) && (makesIn K c.a && (keepIn K (.ref c.a) && c.x K mg))))))))
abbrev ya (fd:jm):=(fd.name,fd.qualname,fd.params,fd.body,fd.scope,fd.globals,fd.closure,fd.defaults,fd.builtins)
structure Vw where
 f:jP
 m:Str
 q:Str
 st:jL
abbrev Vw.due (p:Vw):=ya (fnOf p.m p.q (nM p.st) (ku p.st) (kr p.st) .none .none .none .none Φ .none .none)
abbrev F1 (o:Obj):=match o.data with
 | .func fd=>Ψ (ya fd)
 | _=>Φ
abbrev YfC (vw:List Vw)(s:jw):=vw.map λp=>(s.heap.get? p.f).bind F1
abbrev YaC (vw:List Vw):=vw.map λp=>Ψ p.due
abbrev allB (cs:List CSp)(xs:List Str)(K:jN)(mg:Str->Option jF):Bool:=xs.all (dB K mg) && cs.all (cB K mg)
abbrev XtC (q:jn)(cs:List CSp)(s:jw):Bool:=xlAt q [] s && allB cs ((recsOf q).map (·.name)) (nZ s.heap) (s.heap.nsMap mainGlobals)
end Kq
namespace Kq
open PySem PySem.Spec PyProof.Rows L2
abbrev Oy:jL->Bool
 | .FunctionDef ..=>Ω
 | .ClassDef ..=>Ω
 | _=>Ξ
abbrev J8 (p:jn):jn:={ p with main:={ p.main with body:=p.main.body.filter Oy } }
abbrev LO:jL->List jL
 | .ClassDef _ _ _ b ..=>b
 | _=>[]
end Kq
namespace Kq
open PySem PySem.Spec PySem.Calls PyProof.Rows L2
noncomputable abbrev bmV:List jF:=[.type "ValueError",.type "Exception",.type "BaseException",.type "object"]
end Kq
section
open PySem PySem.Spec PyProof.Rows L2
namespace Kq
open PySem PySem.Spec PyProof.Rows L2
abbrev Cg (x:Option Bool)(b:Bool):Bool:=match x with
 | some c=>c == b
 | none=>Ξ
abbrev F0 (K:ib)(D:jP):Bool:=(PySem.W.clsIn K D).isSome && (Ch (fZ K (.ref D) "__getattribute__") "BaseException.__getattribute__" && (EE (fZ K (.ref D) "__getattr__") && (Ch (fZ K (.ref D) "__class__") "object.__class__" && (Cg (PySem.W.mroIn K D (.type "object")) Ω && Cg (PySem.W.mroIn K D (.type "BaseException")) Ω))))
end Kq
end
namespace Kq
open PySem PySem.Spec PySem.Calls PyProof.Rows L2
abbrev Dc (w1 w2 w3:String):Bool->Bool->Bool->Option String
 | true,Ξ,Ξ=>Ψ w1
 | false,Ω,Ξ=>Ψ w2
 | false,Ξ,Ω=>Ψ w3
 | _,_,_=>Φ
end Kq
namespace Kq
open PySem PySem.Spec PyProof.Rows L2
abbrev Fp (K:ib)(C1 C2 C3:jP)(w1 w2 w3:String)(p:jP×String):Bool:=match fX K (.ref p.1) (.ref C1) with
 | some b1=>match fX K (.ref p.1) (.ref C2) with
  | some b2=>match fX K (.ref p.1) (.ref C3) with
   | some b3=>Δ (Dc w1 w2 w3 b1 b2 b3=Ψ p.2)
   | none=>Ξ
  | none=>Ξ
 | none=>Ξ
abbrev LQ (Ck C1 C2 C3:jP)(kx n1 n2 n3 nV:Str)(ws:List (jP×String))(w1 w2 w3:String)(K:ib)(mg:Str->Option jF):Bool:=Gh (mg kx) Ck && (Gh (mg n1) C1 && (Gh (mg n2) C2 && (Gh (mg n3) C3 && ((mg nV).isNone && ws.all λp=>Cg (PySem.W.exmOne K (.ref p.1) (.ref Ck)) Ω && (Fp K C1 C2 C3 w1 w2 w3 p && (Cg (fX K (.ref p.1) (.type "ValueError")) Ω && F0 K p.1))))))
abbrev GC (cn:Str)(Cn:jP)(K:ib)(mg:Str->Option jF):Bool:=Gh (mg cn) Cn && PySem.W.excIn K Cn bmV "ValueError.__new__"
end Kq
namespace Kq
abbrev xY:List (PySem.Addr×String):=[(96,"no make"),(108,"loop")]
end Kq
namespace Kq
open PySem PySem.Spec PyProof.Rows L2 PySem.W
abbrev top (i:Nat):jL:=PySem.Challenge.pw_keepwhole_k43_put_and_fetched.main.body.getD i (.Pass ⟨0,0,0,0⟩)
abbrev nh (i j:Nat):jL:=(LO (top i)).getD j (.Pass ⟨0,0,0,0⟩)
abbrev view:jn:=J8 PySem.Challenge.pw_keepwhole_k43_put_and_fetched
abbrev css:List CSp:=[⟨"Shelf",281,["ons","kept","given","spent","deeds"],[("__init__",155),("put",162),("rest",169),("fetch",174),("makes_now",181),("on_now",188),("way_now",195),("thing_now",202),("room_now",207),("spent_now",214),("stock_now",219),("laying_now",224),("tidy",231),("forget",236),("undo",243),("begin",250),("look_for",257),("keep",264),("takes",271),("lay_least",278)],(λK mg=>LQ 83 96 108 127 "KeepError" "NoMake" "Loop" "BadRow" "ValueError" xY "no make" "loop" "bad row" K mg && GC "NoMake" 96 K mg)⟩]
abbrev vws:List Vw:=[⟨155,"__init__","Shelf.__init__",nh 19 0⟩,⟨162,"put","Shelf.put",nh 19 1⟩,⟨169,"rest","Shelf.rest",nh 19 2⟩,⟨174,"fetch","Shelf.fetch",nh 19 3⟩,⟨181,"makes_now","Shelf.makes_now",nh 19 4⟩,⟨188,"on_now","Shelf.on_now",nh 19 5⟩,⟨195,"way_now","Shelf.way_now",nh 19 6⟩,⟨202,"thing_now","Shelf.thing_now",nh 19 7⟩,⟨207,"room_now","Shelf.room_now",nh 19 8⟩,⟨214,"spent_now","Shelf.spent_now",nh 19 9⟩,⟨219,"stock_now","Shelf.stock_now",nh 19 10⟩,⟨224,"laying_now","Shelf.laying_now",nh 19 11⟩,⟨231,"tidy","Shelf.tidy",nh 19 12⟩,⟨236,"forget","Shelf.forget",nh 19 13⟩,⟨243,"undo","Shelf.undo",nh 19 14⟩,⟨250,"begin","Shelf.begin",nh 19 15⟩,⟨257,"look_for","Shelf.look_for",nh 19 16⟩,⟨264,"keep","Shelf.keep",nh 19 17⟩,⟨271,"takes","Shelf.takes",nh 19 18⟩,⟨278,"lay_least","Shelf.lay_least",nh 19 19⟩]
end Kq
set_option maxHeartbeats 0
section
open PySem PySem.W PyProof.Rows
def Kq.left:LeftO PySem.Challenge.rw_keepwhole_k43_put_and_fetched.prog Kq.view [] (λs=>Kq.XtC Kq.view Kq.css s && recOk (RowW.records PySem.Challenge.rw_keepwhole_k43_put_and_fetched.row.toRowW) s) (Kq.YfC Kq.vws) (λ_=>Kq.YaC Kq.vws) 3000:=by
  intro w
  kernel_rfl!
def Kq.said:PySem.Challenge.rw_keepwhole_k43_put_and_fetched.wellSaid=Ω:=by nofun
def Kq.freeAll:(Kq.bltNames.all λb=>Kq.freeIn Kq.view (looseW Kq.view []) (hW b))=Ω:=by nofun
end
namespace L2
open PySem PySem.Spec PyProof.Rows
noncomputable abbrev lF:=Sum Int (Option Str)
abbrev rR:lF->jF->Bool
 | .inl k,v=>iG k v
 | .inr (Ψ x),v=>gG x v
 | .inr Φ,v=>match v with
  | .none=>Ω
  | _=>Ξ
abbrev Ov (w:jE):lF->Int
 | .inl k=>hashInt k
 | .inr (Ψ x)=>hashStr w x
 | .inr Φ=>4238894112
def Ac {prog:jn}{w:jE}{A:jD}{E:jF->jw->Prop}{s:jw}{Q:Int->jw->Prop}(h:Q 4238894112 { s with toks:=s.toks+1 }):wpAny (model prog w) A (pyHash .none) Q E s:=by
 let hT:s.TypeIs .none "NoneType":=rfl
 show wpAny _ _ (pyHashByItsType .none) Q E s
 unfold pyHashByItsType
 let hv:[Value.none].any Value.onHeap=Ξ:=rfl
 exact iR ?_
 rw[cRoomFor,if_neg (by rw[hv];exact cU)];exact iO ?_
 exact iR (eU hT aw.lookup ?_)
 show wpAny _ _ (if (Ψ (Value.builtin "NoneType.__hash__") == Ψ Value.none)=Ω then _ else _) Q E s
 rw[if_neg (·)]
 exact iR (eU hT aw.lookup ?_)
 show wpAny _ _ (callSpecialIfBoundUnlessNone? .none "__hash__" _ >>= _) Q E s
 exact iR (wpAny_callSpecialIfBoundUnlessNone?_slot hT aw
  (dY aw hT PySem.F.entry_NoneType_hash
   (show wpAny _ _ (do ret (<- mkInt 4238894112)) _ _ s from wpAny_ret_mkInt ?_) (PySem.F.args_NoneType_hash_1 _)))
 show wpAny _ _ (if (Δ (-(2:Int) ^ 63<=4238894112) && Δ ((4238894112:Int)<2 ^ 63))=Ω then _ else _) Q E _
 rw[if_pos (·)]
 exact iO h
def kJ:∀ {k:lF}{v:jF},rR k v=Ω->(∃ i t,k=Sum.inl i/\v=Value.int i t) ∨ (∃ x t,k=Sum.inr (Ψ x)/\v=Value.str x t) ∨ (k=Sum.inr Φ/\v=Value.none)
 | .inl i,v,h=>by
  let(t,e):=Value.isInt_shape (k:=i) (v:=v) h
  exact .inl ⟨i,t,rfl,e⟩
 | .inr (Ψ x),v,h=>by
  let(t,e):=Value.isStrOf_shape (x:=x) (v:=v) h
  exact .inr (.inl ⟨x,t,rfl,e⟩)
 | .inr Φ,v,h=>by
  cases v with
  | none=>exact .inr (.inr ⟨rfl,rfl⟩)
  | _=>cases h
def z0 (i:Int)(t:Tok):rR (.inl i) (.int i t)=Ω:=by simp[rR,iG]
def zZ (x:Str)(t:Tok):rR (.inr (Ψ x)) (.str x t)=Ω:=by simp[rR,gG]
def HJ (a b:Int):Δ ((Sum.inl a:lF)=Sum.inl b)=(a == b):=by
 by_cases e:a=b
 ·subst e;simp
 ·let h:¬ (Sum.inl a:lF)=Sum.inl b:=λq=>e (Sum.inl.inj q)
  rw[decide_eq_false h]
  exact (beq_eq_false_iff_ne.mpr e).symm
def HI (a b:Str):Δ ((Sum.inr (Ψ a):lF)=Sum.inr (Ψ b))=Δ (a=b):=by
 by_cases e:a=b
 ·subst e;simp
 ·let h:¬ (Sum.inr (Ψ a):lF)=Sum.inr (Ψ b):=λq=>e (fo (Sum.inr.inj q))
  rw[decide_eq_false h,decide_eq_false e]
abbrev kH (prog:jn)(w:jE):PySem.KeyKind prog w lF where
 is:=rR
 hash:=Ov w
 inj:=λv a b ha hb=>by
  rcases kJ ha with⟨i,t,rfl,rfl⟩|⟨x,t,rfl,rfl⟩|⟨rfl,rfl⟩<;>rcases kJ hb with⟨j,u,rfl,e⟩|⟨y,u,rfl,e⟩|⟨rfl,e⟩<;>first|rfl|(injection e with e1 _;rw[e1])|cases e
 byValue:=λk v h=>by
  rcases kJ h with⟨i,t,rfl,rfl⟩|⟨x,t,rfl,rfl⟩|⟨rfl,rfl⟩<;>rfl
 pyHash:=λhv h=>by
  rcases kJ hv with⟨i,t,rfl,rfl⟩|⟨x,t,rfl,rfl⟩|⟨rfl,rfl⟩
  ·exact wpAny_pyHash_int h
  ·exact wpAny_pyHash_str h
  ·exact Ac h
 eqBool:=λhu hv h=>by
  rcases kJ hu with⟨i,t,rfl,rfl⟩|⟨x,t,rfl,rfl⟩|⟨rfl,rfl⟩
  ·rcases kJ hv with⟨j,u,rfl,rfl⟩|⟨y,u,rfl,rfl⟩|⟨rfl,rfl⟩
   ·rw[HJ] at h;exact wpAny_eqBool_int h
   ·rw[decide_eq_false (show ¬ (Sum.inl i:lF)=Sum.inr (Ψ y) from λq=>nomatch q)] at h;exact SeqAt.EqAt.int_str i t y u _ _ _ _ h
   ·rw[decide_eq_false (show ¬ (Sum.inl i:lF)=Sum.inr Φ from λq=>nomatch q)] at h;exact SeqAt.EqAt.int_none i t _ _ _ _ h
  ·rcases kJ hv with⟨j,u,rfl,rfl⟩|⟨y,u,rfl,rfl⟩|⟨rfl,rfl⟩
   ·rw[decide_eq_false (show ¬ (Sum.inr (Ψ x):lF)=Sum.inl j from λq=>nomatch q)] at h;exact SeqAt.EqAt.str_int x t j u _ _ _ _ h
   ·rw[HI] at h;exact wpAny_eqBool_str h
   ·rw[decide_eq_false (show ¬ (Sum.inr (Ψ x):lF)=Sum.inr Φ from λq=>nomatch q)] at h;exact SeqAt.EqAt.str_none x t _ _ _ _ h
  ·rcases kJ hv with⟨j,u,rfl,rfl⟩|⟨y,u,rfl,rfl⟩|⟨rfl,rfl⟩
   ·rw[decide_eq_false (show ¬ (Sum.inr Φ:lF)=Sum.inl j from λq=>nomatch q)] at h;exact SeqAt.EqAt.none_int j u _ _ _ _ h
   ·rw[decide_eq_false (show ¬ (Sum.inr Φ:lF)=Sum.inr (Ψ y) from λq=>nomatch q)] at h;exact SeqAt.EqAt.none_str y u _ _ _ _ h
   ·rw[decide_eq_true rfl] at h;exact SeqAt.EqAt.same .none _ _ _ _ h
 «strs»:=λk x t v h=>by
  rcases kJ h with⟨i,u,rfl,e⟩|⟨y,u,rfl,e⟩|⟨rfl,e⟩
  ·exact nomatch e
  ·injection e with e1 _
   subst e1
   cases v<;>rfl
  ·exact nomatch e
def rJ (prog:jn)(w:jE)(k:lF)(v:jF):(kH prog w).is k v=rR k v:=rfl
def wb (prog:jn)(w:jE) (i:Int)(t:Tok):(kH prog w).is (.inl i) (.int i t)=Ω:=z0 i t
def uQ (prog:jn)(w:jE):(kH prog w).is (.inr Φ) .none=Ω:=rfl
def wa (prog:jn)(w:jE)(x:Str)(t:Tok):(kH prog w).is (.inr (Ψ x)) (.str x t)=Ω:=zZ x t
set_option genInjectivity true in
inductive V where
 | non|bl (b:Bool)|int (i:Int)|str (x:Str)|byt (b:Array UInt8)|flt (b:UInt64)|ref (a:jP)|ty (n:String)
 deriving DecidableEq
abbrev RelV:V->jF->Prop
 | .non,u=>u=Value.none
 | .bl b,u=>u=Value.bool b
 | .int i,u=>∃ t,u=Value.int i t
 | .str x,u=>∃ t,u=Value.str x t
 | .byt b,u=>∃ t,u=Value.bytes b t
 | .flt b,u=>∃ t,u=Value.float b t
 | .ref a,u=>u=Value.ref a
 | .ty n,u=>u=Value.type n
noncomputable abbrev Vals:List V->List jF->Prop:=jy RelV
def Vals.length {xs:List V}{us:List jF}(r:Vals xs us):xs.length=us.length:=gI r
def Vals.get:∀ {xs:List V}{us:List jF}{i:Nat}{x:V},Vals xs us->xs[i]?=Ψ x->∃ u,us[i]?=Ψ u/\RelV x u
 | _,_,_,_,.nil,e=>by simp at e
 | _,_,0,_,.cons r _,e=>by simp at e;subst e;exact⟨_,rfl,r⟩
 | _,_,i+1,x,.cons _ t,e=>by
  let(u,h1,h2):=Vals.get (i:=i) (x:=x) t (by simpa using e)
  exact⟨u,by simpa using h1,h2⟩
def Vals.set {x:V}{u:jF}(r:RelV x u):∀ {xs:List V}{us:List jF} (i:Nat),Vals xs us->Vals (xs.set i x) (us.set i u)
 | _,_,_,.nil=>.nil
 | _,_,0,.cons _ t=>.cons r t
 | _,_,i+1,.cons q t=>.cons q (Vals.set r i t)
def Vals.append:∀ {xs ys:List V}{us ws:List jF},Vals xs us->Vals ys ws->Vals (xs++ys) (us++ws):=λh s=>by
 induction h with
 | nil=>exact s
 | cons r _ ih=>exact .cons r ih
def Vals.unc {x:V}{xs:List V}{us:List jF}(h:Vals (x :: xs) us):∃ u r,us=u :: r/\RelV x u/\Vals xs r:=by
 cases h with|cons r t=>exact⟨_,_,rfl,r,t⟩
def Vals.unn {us:List jF}(h:Vals [] us):us=[]:=by cases h;rfl
def Vals.take:∀ {xs:List V}{us:List jF} (n:Nat),Vals xs us->Vals (xs.take n) (us.take n):=λn h=>by
 induction h generalizing n with
 | nil=>cases n<;>exact .nil
 | cons r _ ih=>cases n with|zero=>exact .nil|succ n=>exact .cons r (ih n)
def Vals.drop:∀ {xs:List V}{us:List jF} (n:Nat),Vals xs us->Vals (xs.drop n) (us.drop n):=λn h=>by
 induction h generalizing n with
 | nil=>cases n<;>exact .nil
 | cons r t ih=>cases n with|zero=>exact .cons r t|succ n=>exact ih n
abbrev RelO:Option V->Option jF->Prop
 | some v,Ψ u=>RelV v u
 | none,Φ=>True
 | _,_=>False
abbrev KV {κ:Type}:List (κ×V)->List (κ×jF)->Prop:=jy λ(p:κ×V)(q:κ×jF)=>p.1=q.1/\RelV p.2 q.2
abbrev kV:lF->V
 | .inl i=>.int i
 | .inr (Ψ x)=>.str x
 | .inr Φ=>.non
inductive GO where
 | lst (xs:List V)|dk (kvs:List (lF×V))|fdk (o:Obj)(kvs:List (lF×V))
inductive HO where
 | lst (xs:List V)
 | tup (xs:List V)
 | dK (kvs:List (lF×V))|dT (kvs:List (List lF×V))
 | set (S:Int->Bool) (n:Nat)
 | ins (C dx:jP)(fs:List (Str×V))
 | big (C dx:jP)(fs:List (Str×V))(gs:List (jP×List V))
 | bag (C dx:jP)(fs:List (Str×V))(gs:List (jP×GO))
 | own (x:jP)
 | xd (fs:List (Str×V))
 | met (f x:jP)
 | rng (lo hi:Int)
 | frz (o:Obj)(u:HO)
 | tbl (ps:Array jF)
 | ext (φ:jM->Prop)
noncomputable abbrev Hp:=jP->Option HO
abbrev kh (H:Hp)(a:jP)(o:HO):Hp:=λb=>if b=a then Ψ o else H b
def jV {H:Hp}{a:jP}{o:HO}:kh H a o a=Ψ o:=by unfold kh;rw[if_pos rfl]
def jT {H:Hp}{a b:jP}{o:HO}(h:b≠a):kh H a o b=H b:=by unfold kh;rw[if_neg h]
def K7 {H:Hp}{a b:jP}{o u:HO}(h:H a=Ψ o)(h':H b=Ψ u)(d:o≠u):a≠b:=by
 intro e;subst e;rw[h] at h';exact d (fo h')
def kK {H:Hp}{a b:jP}{o:HO}(h:H a=Ψ o)(h':H b=Φ):a≠b:=by
 intro e;subst e;rw[h] at h';cases h'
section
variable (P:jn)(w:jE)
abbrev GoOk (h:jM)(a:jP):GO->Prop
 | .lst xs=>xs.length<=sizeLine/\∃ (Z7:List jF) (n:Nat),Vals xs Z7/\h.get? a=Ψ { cls:=.type "list",data:=.seq Z7.toArray n }
 | .dk kvs=>kvs.length<=sizeLine/\(a == sysModules)=Ξ/\∃ vs,KV kvs vs/\h.DictOf (kH P w) a vs
 | .fdk o kvs=>h.get? a=Ψ o/\kvs.length<=sizeLine/\(a == sysModules)=Ξ/\∃ vs,KV kvs vs/\h.DictOf (kH P w) a vs
abbrev ObjOk (H:Hp)(h:jM)(a:jP):HO->Prop
 | .lst xs=>xs.length<=sizeLine/\∃ (Z7:List jF) (n:Nat),Vals xs Z7/\h.get? a=Ψ { cls:=.type "list",data:=.seq Z7.toArray n }
 | .tup xs=>xs.length<=sizeLine/\∃ Z7:List jF,Vals xs Z7/\jJ h a Z7.toArray
 | .dK kvs=>kvs.length<=sizeLine/\(a == sysModules)=Ξ/\∃ vs,KV kvs vs/\h.DictOf (kH P w) a vs
 | .dT kvs=>kvs.length<=sizeLine/\(a == sysModules)=Ξ/\∃ xs:List (List lF×jP×jF),
   jy (λ(p:List lF×V)(q:List lF×jP×jF)=>p.1=q.1/\H q.2.1=Ψ (.tup (p.1.map kV))/\RelV p.2 q.2.2) kvs xs /\
   ∃ o es ep,h.get? a=Ψ o/\o.ExactDict/\o.data=.dict es ep/\es.toList=xs.map (entryOfKey (tupleKind (kH P w)))/\(xs.map (·.1)).Nodup
 | .set S n=>h.SetOf (intKind P w) a S n
 | .ins C dx fs=>H dx=Ψ (.own a)/\fs.length<=1000/\dx≠a/\h.get? a=Ψ (fi C dx) /\
   ∃ mA,h.Ns1 dx mA/\(∀ f,RelO (fs.lookup f) (mA f))/\hZ mA (fs.map (·.1))
 | .big C dx fs gs=>(H dx=Ψ (.own a)/\a=dx+1)/\(∀ g∈gs,H g.1=Ψ (.own a))/\(a :: dx :: gs.map (·.1)).Nodup/\fs.length<=1000/\h.get? a=Ψ (fi C dx) /\
   (∃ mA,h.Ns1 dx mA/\(∀ f,RelO (fs.lookup f) (mA f))/\hZ mA (fs.map (·.1))) /\
   ∀ g∈gs,g.2.length<=sizeLine/\∃ (Z7:List jF) (n:Nat),Vals g.2 Z7/\h.get? g.1=Ψ { cls:=.type "list",data:=.seq Z7.toArray n }
 | .bag C dx fs gs=>(H dx=Ψ (.own a)/\a=dx+1)/\(∀ g∈gs,H g.1=Ψ (.own a))/\(a :: dx :: gs.map (·.1)).Nodup/\fs.length<=1000/\h.get? a=Ψ (fi C dx) /\
   (∃ mA,h.Ns1 dx mA/\(∀ f,RelO (fs.lookup f) (mA f))/\hZ mA (fs.map (·.1)))/\∀ g∈gs,GoOk P w h g.1 g.2
 | .own _=>∃ o,h.get? a=Ψ o
 | .xd fs=>∃ mA,h.Ns1 a mA/\∀ f,RelO (fs.lookup f) (mA f)
 | .rng lo hi=>∃ t u v,h.get? a=Ψ { cls:=.type "range",data:=.fields #[.int lo t,.int hi u,.int 1 v] }
 | .frz o u=>h.get? a=Ψ o/\ObjOk H h a u
 | .tbl ps=>h.get? a=Ψ { cls:=.none,data:=.fields ps }
 | .met f x=>h.get? a=Ψ (dr (.ref f) (.ref x))
 | .ext φ=>φ h/\(∃ o,h.get? a=Ψ o)/\∀ h1 h2:jM,φ h1->(∀ o,h1.get? a=Ψ o->h2.get? a=Ψ o)->φ h2
abbrev HOk (H:Hp)(h:jM):Prop:=∀ a o,H a=Ψ o->ObjOk P w H h a o
end
section
variable {P:jn}{w:jE}{H H':Hp}{h h':jM}{a:jP}{o:HO}
def ObjOk.lt (x:ObjOk P w H h a o):a<h.objs.size:=by
 cases o with
 | lst xs=>let(_,_,_,_,e):=x;exact iy e
 | tup xs=>let(_,_,_,p):=x;exact p.lt
 | dK kvs=>let(_,_,_,_,o,_,_,e,_):=x;exact iy e
 | dT kvs=>let(_,_,_,_,o,_,_,e,_):=x;exact iy e
 | set S n=>let(o,_,_,_,e,_):=x;exact iy e
 | ins C dx fs=>let(_,_,_,e,_):=x;exact iy e
 | big C dx fs gs=>let(_,_,_,_,e,_):=x;exact iy e
 | bag C dx fs gs=>let(_,_,_,_,e,_):=x;exact iy e
 | own y=>let(_,e):=x;exact iy e
 | xd fs=>let(_,(_,_,_,e,_),_):=x;exact iy e
 | rng lo hi=>let(_,_,_,e):=x;exact iy e
 | frz ob u=>let(e,_):=x;exact iy e
 | tbl ps=>exact iy (show h.get? a=Ψ _ from x)
 | met f y=>exact iy (show h.get? a=Ψ _ from x)
 | ext φ=>let(_,(_,e),_):=x;exact iy e
def Paired.mapP {α β:Type}{F G:α->β->Prop}:∀ {l₁:List α}{l₂:List β},jy F l₁ l₂->(∀ a b,F a b->G a b)->jy G l₁ l₂:=λh f=>by
 induction h with
 | nil=>exact .nil
 | cons r _ ih=>exact .cons (f _ _ r) ih
def GoOk.stay {g:GO}(x:GoOk P w h a g)(k:∀ u,h.get? a=Ψ u->h'.get? a=Ψ u):GoOk P w h' a g:=by
 cases g with
 | lst xs=>let(z,Z7,n,r,e):=x;exact⟨z,Z7,n,r,k _ e⟩
 | dk kvs=>let(z,y,vs,r,ob,es,ep,e,c):=x;exact⟨z,y,vs,r,ob,es,ep,k _ e,c⟩
 | fdk o kvs=>let(e0,z,y,vs,r,ob,es,ep,e,c):=x;exact⟨k _ e0,z,y,vs,r,ob,es,ep,k _ e,c⟩
def ObjOk.stay (x:ObjOk P w H h a o)(k:∀ b u,(b=a ∨ H b=Ψ (.own a))->h.get? b=Ψ u->h'.get? b=Ψ u)
  (ho:∀ b,H b=Ψ (.own a)->H' b=Ψ (.own a))(ht:∀ b xs,H b=Ψ (.tup xs)->H' b=Ψ (.tup xs)):ObjOk P w H' h' a o:=by
 induction o with
 | lst xs=>let(z,Z7,n,r,e):=x;exact⟨z,Z7,n,r,k _ _ (.inl rfl) e⟩
 | tup xs=>let(z,Z7,r,ob,e,c):=x;exact⟨z,Z7,r,ob,k _ _ (.inl rfl) e,c⟩
 | dK kvs=>let(z,y,vs,r,ob,es,ep,e,c):=x;exact⟨z,y,vs,r,ob,es,ep,k _ _ (.inl rfl) e,c⟩
 | dT kvs =>
  let(z,y,xs,r,ob,es,ep,e,c):=x
  exact⟨z,y,xs,Paired.mapP r λp q z=>⟨z.1,ht _ _ z.2.1,z.2.2⟩,ob,es,ep,k _ _ (.inl rfl) e,c⟩
 | set S n=>let(ob,es,ep,t,e,c):=x;exact⟨ob,es,ep,t,k _ _ (.inl rfl) e,c⟩
 | ins C dx fs =>
  let(d,z,ne,e,mA,(od,es,ep,e2,c),r):=x
  exact⟨ho _ d,z,ne,k _ _ (.inl rfl) e,mA,⟨od,es,ep,k _ _ (.inr d) e2,c⟩,r⟩
 | big C dx fs gs =>
  let(d,gg,nd,z,e,(mA,(od,es,ep,e2,c),r),ls):=x
  exact⟨⟨ho _ d.1,d.2⟩,λg m=>ho _ (gg g m),nd,z,k _ _ (.inl rfl) e,⟨mA,⟨od,es,ep,k _ _ (.inr d.1) e2,c⟩,r⟩,λg m=>let ⟨l1,Z7,n,l2,l3⟩:=ls g m;⟨l1,Z7,n,l2,k _ _ (.inr (gg g m)) l3⟩⟩
 | bag C dx fs gs =>
  let(d,gg,nd,z,e,(mA,(od,es,ep,e2,c),r),ls):=x
  exact⟨⟨ho _ d.1,d.2⟩,λg m=>ho _ (gg g m),nd,z,k _ _ (.inl rfl) e,⟨mA,⟨od,es,ep,k _ _ (.inr d.1) e2,c⟩,r⟩,λg m=>(ls g m).stay λu q=>k _ _ (.inr (gg g m)) q⟩
 | own y=>let(ob,e):=x;exact⟨ob,k _ _ (.inl rfl) e⟩
 | xd fs=>let(mA,(od,es,ep,e,c),r):=x;exact⟨mA,⟨od,es,ep,k _ _ (.inl rfl) e,c⟩,r⟩
 | rng lo hi=>let(t,u,v,e):=x;exact⟨t,u,v,k _ _ (.inl rfl) e⟩
 | frz ob u ih=>let(e,q):=x;exact⟨k _ _ (.inl rfl) e,ih q⟩
 | tbl ps =>
  let e:h.get? a=Ψ { cls:=.none,data:=.fields ps }:=x
  show h'.get? a=Ψ { cls:=.none,data:=.fields ps }
  exact k a _ (.inl rfl) e
 | met f y =>
  let e:h.get? a=Ψ (dr (.ref f) (.ref y)):=x
  show h'.get? a=Ψ (dr (.ref f) (.ref y))
  exact k a _ (.inl rfl) e
 | ext φ=>let(p,(o,e),st):=x;exact⟨st _ _ p λo q=>k _ _ (.inl rfl) q,⟨o,k _ _ (.inl rfl) e⟩,st⟩
def HOk.lt (x:HOk P w H h)(e:H a=Ψ o):a<h.objs.size:=(x a o e).lt
def HOk.fresh (x:HOk P w H h)(e:h.objs.size<=a):H a=Φ:=by
 cases q:H a with
 | none=>rfl
 | some u=>exact absurd (cK (x.lt q) e) (gK _)
def HOk.kept (x:HOk P w H h)(k:∀ b u,h.get? b=Ψ u->h'.get? b=Ψ u):HOk P w H h':=λa o e =>
 (x a o e).stay (λb u _ q=>k b u q) (λ_ q=>q) λ_ _ q=>q
def HOk.laid (x:HOk P w H h)(k:∀ b u,h.get? b=Ψ u->h'.get? b=Ψ u)(hp:h.objs.size<=a)(new:ObjOk P w (kh H a o) h' a o):HOk P w (kh H a o) h':=λb u e=>by
 let hn:=x.fresh hp
 by_cases hb:b=a
 ·subst hb;rw[jV] at e;cases e;exact new
 ·rw[jT hb] at e
  exact (x b u e).stay (λc v _ q=>k c v q) (λc q=>by rw[jT (kK q hn)];exact q) λc xs q=>by rw[jT (kK q hn)];exact q
end
abbrev Rd (H:Hp)(a:jP)(u:HO):Prop:=H a=Ψ u ∨ ∃ o,H a=Ψ (.frz o u)
def Rd.ok {P:jn}{w:jE}{H:Hp}{h:jM}{a:jP}{u:HO}(r:Rd H a u)(x:HOk P w H h):ObjOk P w H h a u:=by
 rcases r with r|⟨o,r⟩
 ·exact x a u r
 ·let(_,q):=x a _ r
  exact q
abbrev Mb:Option HO->Prop
 | some (.lst _)=>True
 | some (.dK _)=>True
 | some (.dT _)=>True
 | some (.set _ _)=>True
 | some (.ins _ _ _)=>True
 | some (.ext _)=>True
 | _=>False
section
variable {P:jn}{w:jE}{H:Hp}{h h':jM}{x e:jP}{o':HO}
def HOk.write (ok:HOk P w H h)(mu:Mb (H x))(he:e=x ∨ H e=Ψ (.own x))(k:∀ b u,b≠e->h.get? b=Ψ u->h'.get? b=Ψ u)(heo:∃ u,h'.get? e=Ψ u)
  (new:ObjOk P w (kh H x o') h' x o'):HOk P w (kh H x o') h':=λb u q=>by
 let nown:∀ c y,H c=Ψ (.own y)->c≠x:=λc y r z=>by subst z;rw[r] at mu;exact mu
 let ntup:∀ c xs,H c=Ψ (.tup xs)->c≠x:=λc xs r z=>by subst z;rw[r] at mu;exact mu
 by_cases hb:b=x
 ·subst hb;rw[jV] at q;cases q;exact new
 ·rw[jT hb] at q
  by_cases hbe:b=e
  ·let q':H b=Ψ (.own x):=by
    rcases he with z|z
    ·exact absurd (hbe.trans z) hb
    ·rw[hbe];exact z
   rw[q] at q';cases q'
   let(v,hv):=heo
   exact⟨v,by rw[hbe];exact hv⟩
  ·exact (ok b u q).stay (λc v hc r=>k c v ?_ r) (λc r=>by rw[jT (nown c b r)];exact r) λc xs r=>by rw[jT (ntup c xs r)];exact r
   rcases hc with rfl|hc
   ·exact hbe
   ·rintro rfl
    rcases he with z|z
    ·exact nown c b hc z
    ·rw[hc] at z;cases z;exact hb rfl
end
structure Un (fs ex:List jP)(H H':Hp)(h h':jM):Prop where
 keep:∀ b o,h.get? b=Ψ o->H b=Φ->b ∉ fs->b ∉ ex->h'.get? b=Ψ o
 slot:∀ b o,h.get? b=Ψ o->H b=Φ->b∈fs->b ∉ ex->∃ sl,h'.get? b=Ψ { o with slots:=sl }
 free:∀ b o,h.get? b=Ψ o->H b=Φ->b ∉ ex->H' b=Φ
 there:∀ b o,h.get? b=Ψ o->b ∉ ex->∃ o',h'.get? b=Ψ o'
 tups:∀ b xs,H b=Ψ (.tup xs)->H' b=Ψ (.tup xs)
 frzs:∀ b o u,H b=Ψ (.frz o u)->H' b=Ψ (.frz o u)
 tbls:∀ b ps,H b=Ψ (.tbl ps)->∃ more,H' b=Ψ (.tbl (ps++more))
section
variable {fs ex:List jP}{H H1:Hp}{h h1 h':jM}{a x e:jP}{o:HO}
def Un.any (u:Un fs ex H H1 h h1){b:jP}{ob:Obj}(q:h.get? b=Ψ ob)(n:H b=Φ)(hx:b ∉ ex):∃ sl,h1.get? b=Ψ { ob with slots:=sl }:=by
 by_cases hb:b∈fs
 ·exact u.slot b ob q n hb hx
 ·exact⟨ob.slots,u.keep b ob q n hb hx⟩
def Un.kept (k:∀ b u,h.get? b=Ψ u->h'.get? b=Ψ u):Un fs ex H H h h' :=
 ⟨λb ob q _ _ _=>k b ob q,λb ob q _ _ _=>⟨ob.slots,k b ob q⟩,λ_ _ _ n _=>n,λb ob q _=>⟨ob,k b ob q⟩,λ_ _ q=>q,λ_ _ _ q=>q,λ_ ps q=>⟨#[],by rw[q];simp⟩⟩
def Un.refl:Un fs ex H H h h:=Un.kept λ_ _ q=>q
def Un.laid (k:∀ b u,h.get? b=Ψ u->h'.get? b=Ψ u)(hp:h.objs.size<=a)(hn:H a=Φ):Un fs ex H (kh H a o) h h' where
 keep:=λb u q _ _ _=>k b u q
 slot:=λb u q _ _ _=>⟨u.slots,k b u q⟩
 free:=λb u q n _=>by rw[jT (ii (cK (iy q) hp))];exact n
 there:=λb u q _=>⟨u,k b u q⟩
 tups:=λb xs q=>by rw[jT (kK q hn)];exact q
 frzs:=λb u xs q=>by rw[jT (kK q hn)];exact q
 tbls:=λb ps q=>⟨#[],by rw[jT (kK q hn),q];simp⟩
def Un.write (mu:Mb (H x))(he:e=x ∨ H e=Ψ (.own x))(k:∀ b u,b≠e->h.get? b=Ψ u->h'.get? b=Ψ u)(heo:∃ u,h'.get? e=Ψ u):Un fs ex H (kh H x o) h h':=by
 let hx:∀ b,H b=Φ->b≠x:=λb n z=>by subst z;rw[n] at mu;exact mu
 let hb:∀ b,H b=Φ->b≠e:=λb n z=>by
  subst z
  rcases he with r|r
  ·exact hx b n r
  ·rw[n] at r;cases r
 let hm:∀ b u,H b=Ψ u->¬ Mb (Ψ u)->b≠x:=λb u q nm z=>by subst z;rw[q] at mu;exact nm mu
 exact⟨λb u q n _ _=>k b u (hb b n) q,λb u q n _ _=>⟨u.slots,k b u (hb b n) q⟩,λb u q n _=>by rw[jT (hx b n)];exact n,λb u q _=>?_,
  λb xs q=>by rw[jT (hm b _ q λz=>z)];exact q,λb u xs q=>by rw[jT (hm b _ q λz=>z)];exact q,λb ps q=>⟨#[],by rw[jT (hm b _ q λz=>z),q];simp⟩⟩
 by_cases hbe:b=e
 ·subst hbe;exact heo
 ·exact⟨u,k b u hbe q⟩
end
abbrev Mq (h:jM)(H:Hp):List jP:=(i7 h.objs.size).filter λa=>(H a).isSome
abbrev uX (h:jM)(H:Hp):jM:=PySem.W.hideAll h (Mq h H)
def Ab (h:jM)(H:Hp):(uX h H).objs.size=h.objs.size:=PySem.W.hideAll_size _ _
def Cp {h:jM}{H:Hp}{b:jP}{o:Obj}(e:h.get? b=Ψ o)(n:H b=Φ):(uX h H).get? b=Ψ o :=
 PySem.W.hideAll_get _ e λhm=>by
  let q:(H b).isSome=Ω:=(fy.mp hm).2
  rw[n] at q;simp at q
def El {h:jM}{H:Hp}{b:jP}{o:Obj}(e:(uX h H).get? b=Ψ o):h.get? b=Ψ o/\H b=Φ:=by
 let e':h.get? b=Ψ o:=PySem.W.of_hideAll (Mq h H) e
 exact⟨e',?_⟩
 cases q:H b with
 | none=>rfl
 | some x =>
  let hm:b∈Mq h H:=fy.mpr ⟨gh.mpr (iy e'),by simp[q]⟩
  let z:(uX h H).get? b=Φ:=PySem.W.hideAll_none (Mq h H) hm
  rw[z] at e;cases e
structure Mod (K:ib)(mg:Str->Option jF)(base:jM):Prop where
 kin:K.In base
 glob:base.Ns mainGlobals mg
 blt:∃ mb,base.Ns builtinsNs mb/\∀ x:Str,x≠"__name__"->mb x=bootBuiltins x
 nolimit:base.NoLimit
set_option genInjectivity true in
structure Cx where
 prog:jn
 w:jE
 K:ib
 mg:Str->Option jF
 base:jM
 A:jD
 N:List Str
 s₀:jw
 H₀:Hp
 env:Env
 outer:List Env
 stack:List Env
 ex:List jP
 fn:Str->Bool
 calm:Bool
 pn:List (jP×Obj)
 xe:jF->jw->Prop
abbrev mx (l:List Env):List jP:=l.filterMap (·.frame)
noncomputable abbrev Cx.fs (X:Cx):List jP:=mx X.outer
abbrev J0 (sc:jG)(x:Str):Prop:=sc.names.lookup x=Ψ .local ∨ sc.names.lookup x=Ψ .cell ∨ sc.names.lookup x=Ψ .free
abbrev Loc (sc:jG)(x:Str):Prop:=sc.names.lookup x=Ψ .local ∨ sc.names.lookup x=Ψ .cell
abbrev Look (env:Env)(h:jM)(m:Str->Option jF)(x:Str)(u:jF):Prop :=
 (env.kindOf x=Ψ .local/\m x=Ψ u) ∨ ((env.kindOf x=Ψ .cell ∨ env.kindOf x=Ψ .free)/\∃ c,env.cells.lookup x=Ψ c/\h.IsCell c (Ψ u))
set_option genInjectivity true in
structure Cx.Ok (X:Cx):Prop where
 mod:Mod X.K X.mg X.base
 kind:X.env.scope.kind=.function
 glob:X.env.globals=mainGlobals
 blt:X.env.builtins=builtinsNs
 above:X.s₀.heap.objs.size<=X.env.locals
 inj:∀ x y c,X.env.cells.lookup x=Ψ c->X.env.cells.lookup y=Ψ c->x=y
 has:∀ x,(X.env.kindOf x=Ψ .cell ∨ X.env.kindOf x=Ψ .free)->∃ c,X.env.cells.lookup x=Ψ c
 cab:∀ x c,X.fn x=Ω->X.env.cells.lookup x=Ψ c->X.s₀.heap.objs.size<=c
 hd:X.calm=Ω->X.A.handled=Φ
 frames:X.A.frames=Ψ X.stack
 stk:X.stack=X.outer ∨ (X.stack=X.env :: X.outer/\X.env.frame=Ψ X.env.locals)
 exf:∀ b∈X.ex,b≠X.env.locals/\∀ x c,X.env.cells.lookup x=Ψ c->c≠b
 bs:∀ b o,X.base.get? b=Ψ o->X.s₀.heap.get? b=Ψ o/\X.H₀ b=Φ
 bsz:X.base.objs.size<=X.s₀.heap.objs.size
 noex:∀ b o,X.base.get? b=Ψ o->b ∉ X.ex
 exfs:∀ b∈X.ex,b ∉ X.fs
 funs:X.s₀.heap.FunFrames X.base X.outer
 frf:∀ b∈X.fs,X.H₀ b=Φ
structure Inv (X:Cx)(Z9:List (jP×Obj))(σ:List (Option V))(H:Hp)(s:jw):Prop where
 ok:X.Ok
 os:s.os=X.s₀.os
 bare:jv s.gens
 base:Un X.fs X.ex X.H₀ H X.s₀.heap s.heap
 loc:∃ m,s.heap.Ns X.env.locals m/\∀ (i:Nat)(x:Str)(v:V),X.N[i]?=Ψ x->σ[i]?=Ψ (Ψ v)->J0 X.env.scope x->∃ u,RelV v u/\Look X.env s.heap m x u
 cell:∀ x c,X.env.cells.lookup x=Ψ c->∃ v,s.heap.IsCell c v
 free:H X.env.locals=Φ
 freeC:∀ x c,X.env.cells.lookup x=Ψ c->H c=Φ
 pin:∀ p∈X.pn++Z9,s.heap.get? p.1=Ψ p.2/\H p.1=Φ/\p.1≠X.env.locals/\p.1 ∉ X.fs/\∀ v,p.2.data≠.cell v
 hok:HOk X.prog X.w H s.heap
 len:σ.length=X.N.length
section
variable {X:Cx}{Z9:List (jP×Obj)}{σ:List (Option V)}{H H':Hp}{s:jw}{h':jM}
def Cx.Ok.nofr (ok:X.Ok){b:jP}{o:Obj}(e:X.base.get? b=Ψ o):b ∉ X.fs:=λhb=>by
 have:=(ok.funs.mem hb).1
 rw[e] at this;cases this
def Inv.bs (I:Inv X Z9 σ H s):∀ b o,X.base.get? b=Ψ o->s.heap.get? b=Ψ o/\H b=Φ:=λb o e =>
 ⟨I.base.keep b o (I.ok.bs b o e).1 (I.ok.bs b o e).2 (I.ok.nofr e) (I.ok.noex b o e),I.base.free b o (I.ok.bs b o e).1 (I.ok.bs b o e).2 (I.ok.noex b o e)⟩
def Inv.bk (I:Inv X Z9 σ H s):∀ b o,X.base.get? b=Ψ o->s.heap.get? b=Ψ o:=λb o e=>(I.bs b o e).1
def Inv.mod (I:Inv X Z9 σ H s):Mod X.K X.mg X.base:=I.ok.mod
def Inv.kIn (I:Inv X Z9 σ H s):X.K.In s.heap:=I.ok.mod.kin.keeps I.bk
def Inv.lt (I:Inv X Z9 σ H s):X.env.locals<s.heap.objs.size:=let ⟨_,hn,_⟩:=I.loc;hn.lt
def Inv.sz (I:Inv X Z9 σ H s):X.s₀.heap.objs.size<=s.heap.objs.size:=ik I.ok.above (il I.lt)
def Inv.nofs (I:Inv X Z9 σ H s){a:jP}(h:s.heap.objs.size<=a):a ∉ X.fs:=λhb=>by
 let(_,o,ho,_):=I.ok.funs.mem hb
 exact absurd (cK (iy ho) (ik I.sz h)) (gK _)
def Inv.cne (I:Inv X Z9 σ H s):∀ x c,X.env.cells.lookup x=Ψ c->c≠X.env.locals:=λx c e z=>by
 let(v,o,ho,hd):=I.cell x c e
 let(m,(o',es,ep,ho',hd',_),_):=I.loc
 rw[z,ho'] at ho;cases ho;rw[hd'] at hd;cases hd
def Inv.funs (I:Inv X Z9 σ H s):s.heap.FunFrames X.base X.outer:=by
 let all:∀ (l:List Env),(∀ b∈mx l,b∈X.fs)->X.s₀.heap.FunFrames X.base l->s.heap.FunFrames X.base l:=by
  intro l
  induction l with
  | nil=>intro _ _;trivial
  | cons env r ih =>
   intro hs hl
   let(hk,(L,o,hf,hn,ho,hd),hr):=hl
   let hL:L∈X.fs:=hs L (by unfold mx;rw[cu,hf];exact cQ)
   let(sl,e):=I.base.slot L o ho (I.ok.frf L hL) hL λz=>I.ok.exfs L z hL
   exact⟨hk,⟨L,_,hf,hn,e,hd⟩,ih (λb hb=>hs b (by unfold mx;rw[cu,hf];exact bT _ hb)) hr⟩
 exact all X.outer (λ_ hb=>hb) I.ok.funs
def Inv.stack (I:Inv X Z9 σ H s):s.heap.FunFrames X.base X.stack:=by
 rcases I.ok.stk with e|⟨e,hf⟩
 ·rw[e];exact I.funs
 ·rw[e]
  let(m,hn,_):=I.loc
  exact .cons (by rw[I.ok.kind];decide) hf hn ?_ I.funs
  exact Heap.get?_none_of_le (ik I.ok.bsz I.ok.above)
def Inv.stkSub (I:Inv X Z9 σ H s):∀ b∈mx X.stack,b∈X.env.locals :: X.fs:=λb hb=>by
 rcases I.ok.stk with e|⟨e,hf⟩
 ·rw[e] at hb;exact bT _ hb
 ·rw[e] at hb
  unfold mx at hb
  rw[cu,hf] at hb
  exact hb
def Inv.stkFree (I:Inv X Z9 σ H s):∀ b∈mx X.stack,H b=Φ:=λb hb=>by
 rcases gM.mp (I.stkSub b hb) with e|hb
 ·rw[e];exact I.free
 ·let(_,o,ho,_):=I.ok.funs.mem hb
  exact I.base.free b o ho (I.ok.frf b hb) λz=>I.ok.exfs b z hb
def Inv.step {g':Array GenState}{t':Nat}{d':Drawn}{ch:List jP}(I:Inv X Z9 σ H s)
  (hch:∀ b∈ch,(b∈X.ex ∨ X.s₀.heap.objs.size<=b)/\b≠X.env.locals/\(∀ x c,X.env.cells.lookup x=Ψ c->c≠b)/\∀ p∈X.pn++Z9,p.1≠b)
  (keep:∀ b o,b≠X.env.locals->b ∉ X.fs->b ∉ ch->s.heap.get? b=Ψ o->H b=Φ->h'.get? b=Ψ o)
  (slot:∀ b o,b≠X.env.locals->b∈X.fs->b ∉ ch->s.heap.get? b=Ψ o->H b=Φ->∃ sl,h'.get? b=Ψ { o with slots:=sl })(free:∀ b o,b ∉ ch->s.heap.get? b=Ψ o->H b=Φ->H' b=Φ)
  (there:∀ b o,b ∉ ch->s.heap.get? b=Ψ o->∃ o',h'.get? b=Ψ o')
  (tups:∀ b xs,H b=Ψ (.tup xs)->H' b=Ψ (.tup xs))(frzs:∀ b o u,H b=Ψ (.frz o u)->H' b=Ψ (.frz o u))(tbls:∀ b ps,H b=Ψ (.tbl ps)->∃ more,H' b=Ψ (.tbl (ps++more)))
  (ns:∀ m,s.heap.Ns X.env.locals m->h'.Ns X.env.locals m)(hok:HOk X.prog X.w H' h')(hg:jv g') :
  Inv X Z9 σ H' { s with heap:=h',gens:=g',drawn:=d',toks:=t' }:=by
 let neL:∀ b o,X.s₀.heap.get? b=Ψ o->b≠X.env.locals:=λb o e=>ii (cK (iy e) I.ok.above)
 let neC:∀ b o,X.s₀.heap.get? b=Ψ o->b ∉ X.ex->b ∉ ch:=λb o e hx hb=>by
  rcases (hch b hb).1 with z|z
  ·exact hx z
  ·exact absurd (cK (iy e) z) (gK _)
 let cellK:∀ x c,X.env.cells.lookup x=Ψ c->∀ v,s.heap.IsCell c v->h'.IsCell c v:=λx c e v q1=>by
  let(o,ho,hd):=q1
  let nch:c ∉ ch:=λz=>(hch c z).2.2.1 x c e rfl
  by_cases hc:c∈X.fs
  ·let(sl,q):=slot c o (I.cne x c e) hc nch ho (I.freeC x c e)
   exact⟨_,q,hd⟩
  ·exact⟨o,keep c o (I.cne x c e) hc nch ho (I.freeC x c e),hd⟩
 exact⟨I.ok,I.os,hg,⟨λb o e n hb hx=>?_,λb o e n hb hx=>?_,λb o e n hx=>?_,λb o e hx=>?_,λb xs e=>tups b xs (I.base.tups b xs e),λb o xs e=>frzs b o xs (I.base.frzs b o xs e),λb ps e=>?_⟩,?_,λx c e=>?_,?_,λx c e=>?_,λp hp=>?_,hok,I.len⟩
 ·exact keep b o (neL b o e) hb (neC b o e hx) (I.base.keep b o e n hb hx) (I.base.free b o e n hx)
 ·let(sl,e1):=I.base.slot b o e n hb hx
  let(sl',e2):=slot b _ (neL b o e) hb (neC b o e hx) e1 (I.base.free b o e n hx)
  exact⟨sl',e2⟩
 ·let(o',e1):=I.base.there b o e hx
  exact free b o' (neC b o e hx) e1 (I.base.free b o e n hx)
 ·let(o',e1):=I.base.there b o e hx
  exact there b o' (neC b o e hx) e1
 ·let(m1,e1):=I.base.tbls b ps e
  let(m2,e2):=tbls b _ e1
  exact⟨m1++m2,by rw[e2,Array.append_assoc]⟩
 ·let(m,hn,hl):=I.loc
  exact⟨m,ns m hn,λi x v e1 e2 e3=>?_⟩
  let(u,r,l):=hl i x v e1 e2 e3
  exact⟨u,r,?_⟩
  rcases l with l|⟨k,c,e,z⟩
  ·exact .inl l
  ·exact .inr ⟨k,c,e,cellK x c e _ z⟩
 ·let(v,z):=I.cell x c e
  exact⟨v,cellK x c e v z⟩
 ·let(m,(o,_,_,ho,_),_):=I.loc
  exact free _ o (λz=>(hch _ z).2.1 rfl) ho I.free
 ·let(v,o,ho,hd):=I.cell x c e
  exact free c o (λz=>(hch c z).2.2.1 x c e rfl) ho (I.freeC x c e)
 ·let(e,n,ne,nf,d):=I.pin p hp
  let nch:p.1 ∉ ch:=λz=>(hch p.1 z).2.2.2 p hp rfl
  exact⟨keep p.1 p.2 ne nf nch e n,free p.1 p.2 nch e n,ne,nf,d⟩
def Inv.un {t':Nat}(I:Inv X Z9 σ H s)(u:Un X.fs [] H H' s.heap h')(hok:HOk X.prog X.w H' h'):Inv X Z9 σ H' { s with heap:=h',toks:=t' }:=by
 let(m,(o,es,ep,ho,r),_):=id I.loc
 let(sl,hL):=u.any ho I.free ∅
 exact I.step (g':=s.gens) (d':=s.drawn) (ch:=[]) (λ_ z=>nomatch z) (λb o _ hb _ e n=>u.keep b o e n hb ∅) (λb o _ hb _ e n=>u.slot b o e n hb ∅) (λb o _ e n=>u.free b o e n ∅) (λb o _ e=>u.there b o e ∅) u.tups u.frzs u.tbls (λm' hm=>by
  let(o',es',ep',ho',r'):=hm
  rw[ho] at ho';cases ho'
  exact⟨_,es',ep',hL,r'⟩) hok I.bare
def Inv.call {g':Array GenState}{t':Nat}{d':Drawn}{ch:List jP}(I:Inv X Z9 σ H s)(u:Un (mx X.stack) ch H H' s.heap h')(hok:HOk X.prog X.w H' h')(hg:jv g')
  (hch:∀ b∈ch,(b∈X.ex ∨ X.s₀.heap.objs.size<=b)/\b≠X.env.locals/\(∀ x c,X.env.cells.lookup x=Ψ c->c≠b)/\∀ p∈X.pn++Z9,p.1≠b) :
  Inv X Z9 σ H' { s with heap:=h',gens:=g',drawn:=d',toks:=t' }:=by
 let(m,(o,es,ep,ho,r),_):=id I.loc
 let(sl,hL):=u.any ho I.free λz=>(hch _ z).2.1 rfl
 exact I.step (ch:=ch) hch (λb o hL hb hc e n=>u.keep b o e n (λz=>(gM.mp (I.stkSub b z)).elim hL hb) hc) (λb o _ _ hc e n=>u.any e n hc) (λb o hc e n=>u.free b o e n hc) (λb o hc e=>u.there b o e hc) u.tups u.frzs u.tbls (λm' hm=>by
  let(o',es',ep',ho',r'):=hm
  rw[ho] at ho';cases ho'
  exact⟨_,es',ep',hL,r'⟩) hok hg
def Inv.turned {t':Nat}{it:jP}(I:Inv X Z9 σ H s)(k:∀ b o,b≠it->s.heap.get? b=Ψ o->h'.get? b=Ψ o)(hn:H it=Φ)(hL:it≠X.env.locals)
  (h1:it∈X.ex ∨ X.s₀.heap.objs.size<=it)(h2:∀ x c,X.env.cells.lookup x=Ψ c->c≠it)(h3:∀ p∈X.pn++Z9,p.1≠it):Inv X Z9 σ H { s with heap:=h',toks:=t' }:=by
 let nit:∀ b u,H b=Ψ u->b≠it:=λb u e z=>by rw[z,hn] at e;cases e
 exact I.step (g':=s.gens) (d':=s.drawn) (ch:=[it]) (λb hb=>?_) (λb o _ _ hc e _=>k b o (λz=>hc (by simp[z])) e) (λb o _ _ hc e _=>⟨o.slots,k b o (λz=>hc (by simp[z])) e⟩) (λ_ _ _ _ n=>n)
  (λb o hc e=>⟨o,k b o (λz=>hc (by simp[z])) e⟩) (λ_ _ e=>e) (λ_ _ _ e=>e) (λb ps e=>⟨#[],by rw[e];simp⟩) (λm hm=>?_) (λb u e=>?_) I.bare
 ·let e:b=it:=by simpa using hb
  subst e
  exact⟨h1,hL,h2,h3⟩
 ·let(o,es,ep,ho,r):=hm
  exact⟨o,es,ep,k _ o (jp hL) ho,r⟩
 ·exact (I.hok b u e).stay (λc v hc q=>k c v ?_ q) (λ_ q=>q) λ_ _ q=>q
  rcases hc with z|z
  ·rw[z];exact nit b u e
  ·exact nit c _ z
def Inv.tok (I:Inv X Z9 σ H s) (t:Nat):Inv X Z9 σ H { s with toks:=t }:=I.un (h':=s.heap) (t':=t) Un.refl I.hok
def Inv.kept {t':Nat}(I:Inv X Z9 σ H s)(k:∀ b u,s.heap.get? b=Ψ u->h'.get? b=Ψ u):Inv X Z9 σ H { s with heap:=h',toks:=t' }:=I.un (Un.kept k) (I.hok.kept k)
def Inv.laid {a:jP}{o:HO}{t':Nat}(I:Inv X Z9 σ H s)(k:∀ b u,s.heap.get? b=Ψ u->h'.get? b=Ψ u)(hp:s.heap.objs.size<=a)(new:ObjOk X.prog X.w (kh H a o) h' a o) :
  Inv X Z9 σ (kh H a o) { s with heap:=h',toks:=t' }:=I.un (Un.laid k hp (I.hok.fresh hp)) (I.hok.laid k hp new)
def Inv.write {x e:jP}{o:HO}{t':Nat}(I:Inv X Z9 σ H s)(mu:Mb (H x))(he:e=x ∨ H e=Ψ (.own x))(k:∀ b u,b≠e->s.heap.get? b=Ψ u->h'.get? b=Ψ u)(heo:∃ u,h'.get? e=Ψ u)
  (new:ObjOk X.prog X.w (kh H x o) h' x o):Inv X Z9 σ (kh H x o) { s with heap:=h',toks:=t' }:=I.un (Un.write mu he k heo) (I.hok.write mu he k heo new)
def Inv.weak {σ':List (Option V)}(I:Inv X Z9 σ H s)(hl:σ'.length=σ.length)(w:∀ (i:Nat) v,σ'[i]?=Ψ (Ψ v)->σ[i]?=Ψ (Ψ v)):Inv X Z9 σ' H s :=
 ⟨I.ok,I.os,I.bare,I.base,let ⟨m,hn,hl'⟩:=I.loc;⟨m,hn,λi x v e1 e2 e3=>hl' i x v e1 (w i v e2) e3⟩,I.cell,I.free,I.freeC,I.pin,I.hok,hl.trans I.len⟩
def Inv.pins_of {pins':List (jP×Obj)}(I:Inv X Z9 σ H s)(h:∀ p∈pins',s.heap.get? p.1=Ψ p.2/\H p.1=Φ/\p.1≠X.env.locals/\p.1 ∉ X.fs/\∀ v,p.2.data≠.cell v):Inv X pins' σ H s :=
 ⟨I.ok,I.os,I.bare,I.base,I.loc,I.cell,I.free,I.freeC,λp hp=>(fA.mp hp).elim (λz=>I.pin p (bU _ z)) (h p),I.hok,I.len⟩
def rG {N:List Str}(hN:N.Nodup){i j:Nat}{x:Str}(a:N[i]?=Ψ x)(b:N[j]?=Ψ x):i=j:=by
 let(h1,e1):=aI.mp a
 let(h2,e2):=aI.mp b
 exact (List.getElem_inj hN).mp (e1.trans e2.symm)
def pX {M:jH}{A:jD}{E:jF->jw->Prop}{i:Nat}{x:Str}{v:V}{u:jF}{Q:Unit->jw->Prop}(I:Inv X Z9 σ H s)(hN:X.N.Nodup)(hi:X.N[i]?=Ψ x)(hx:Loc X.env.scope x)(r:RelV v u)
  (h:∀ s',Inv X Z9 (σ.set i (Ψ v)) H s'->(∃ a,iz a s.heap s'.heap/\(a=X.env.locals ∨ X.env.cells.lookup x=Ψ a))->Q () s')(hf:X.fn x=Ω ∨ X.env.scope.names.lookup x=Ψ .local:=by first|exact .inl rfl|exact .inr rfl|assumption):wpAny M A (storeName X.env x u) Q E s:=by
 let(m,hn,hl):=id I.loc
 let hcls:(X.env.scope.kind == .class || (X.env.scope.kind == .module && X.env.locals != X.env.globals))=Ξ:=by rw[I.ok.kind];rfl
 let hiσ:i<σ.length:=by rw[I.len];exact (aI.mp hi).1
 let cne:=I.cne
 let tracked:∀ {a:jP}{h':jM},(∃ o,s.heap.get? a=Ψ o/\H a=Φ)->iz a s.heap h'->HOk X.prog X.w H h':=λ{a h'} ha hs b ob e=>by
  let(_,_,hfree):=ha
  exact (I.hok b ob e).stay (λc w' hc q=>(hs.2 c ?_).trans q) (λ_ q=>q) λ_ _ q=>q
  rintro rfl
  rcases hc with rfl|hc
  ·rw[hfree] at e;cases e
  ·rw[hfree] at hc;cases hc
 rcases hx with hk|hk
 ·exact wpAny_storeName_local hk hn (λh' hn' hs=>?_) hcls
  let(oL,_,_,hoL,_):=id hn
  exact h _ ⟨I.ok,I.os,I.bare,⟨λb o e n hb hx=>?_,λb o e n hb hx=>?_,I.base.free,λb o e hx=>?_,I.base.tups,I.base.frzs,I.base.tbls⟩,⟨_,hn',λj y v' e1 e2 e3=>?_⟩,λy c e=>?_,I.free,I.freeC,λp hp=>?_,tracked ⟨oL,hoL,I.free⟩ hs,by simpa using I.len⟩ ⟨_,hs,.inl rfl⟩
  ·exact (hs.2 b (ii (cK (iy e) I.ok.above))).trans (I.base.keep b o e n hb hx)
  ·let(sl,e1):=I.base.slot b o e n hb hx
   exact⟨sl,(hs.2 b (ii (cK (iy e) I.ok.above))).trans e1⟩
  ·let(o',e1):=I.base.there b o e hx
   exact⟨o',(hs.2 b (ii (cK (iy e) I.ok.above))).trans e1⟩
  ·by_cases hj:j=i
   ·subst hj
    rw[hi] at e1;cases e1
    rw[bu hiσ] at e2
    cases e2
    exact⟨u,r,.inl ⟨hk,∅⟩⟩
   ·rw[bV (jp hj)] at e2
    let(u',r',q):=hl j y v' e1 e2 e3
    exact⟨u',r',?_⟩
    rcases q with⟨k,e⟩|⟨k,c,e,z⟩
    ·exact .inl ⟨k,?_⟩
     have:y≠x:=λe=>hj (rG hN e1 (e ▸ hi))
     simp[this,e]
    ·exact .inr ⟨k,c,e,z.sameBut hs (cne y c e)⟩
  ·let(w',z):=I.cell y c e
   exact⟨w',z.sameBut hs (cne y c e)⟩
  ·let(e,n,ne,nf,d):=I.pin p hp
   exact⟨(hs.2 p.1 ne).trans e,n,ne,nf,d⟩
 ·let hfn:X.fn x=Ω:=by
   rcases hf with z|z
   ·exact z
   ·rw[z] at hk;cases hk
  let(c,hc):=I.ok.has x (.inl hk)
  let(w',z):=I.cell x c hc
  exact wpAny_storeName_cell I.ok.kind hk hc z (λh' hc' hs=>?_)
  let(oc,hoc,hocd):=id z
  exact h { s with heap:=h' } ⟨I.ok,I.os,I.bare,⟨λb o e n hb hx=>?_,λb o e n hb hx=>?_,I.base.free,λb o e hx=>?_,I.base.tups,I.base.frzs,I.base.tbls⟩,⟨m,hn.sameBut hs (jp (cne x c hc)),λj y v' e1 e2 e3=>?_⟩,λy c' e=>?_,I.free,I.freeC,λp hp=>?_,tracked ⟨oc,hoc,I.freeC x c hc⟩ hs,by simpa using I.len⟩ ⟨c,hs,.inr hc⟩
  ·exact (hs.2 b (ii (cK (iy e) (I.ok.cab x c hfn hc)))).trans (I.base.keep b o e n hb hx)
  ·let(sl,e1):=I.base.slot b o e n hb hx
   exact⟨sl,(hs.2 b (ii (cK (iy e) (I.ok.cab x c hfn hc)))).trans e1⟩
  ·let(o',e1):=I.base.there b o e hx
   exact⟨o',(hs.2 b (ii (cK (iy e) (I.ok.cab x c hfn hc)))).trans e1⟩
  ·by_cases hj:j=i
   ·subst hj
    rw[hi] at e1;cases e1
    rw[bu hiσ] at e2
    cases e2
    exact⟨u,r,.inr ⟨.inl hk,c,hc,hc'⟩⟩
   ·rw[bV (jp hj)] at e2
    let(u',r',q):=hl j y v' e1 e2 e3
    exact⟨u',r',?_⟩
    rcases q with q|⟨k,c',e,z'⟩
    ·exact .inl q
    ·exact .inr ⟨k,c',e,z'.sameBut hs ?_⟩
     rintro rfl
     exact hj (rG hN e1 (I.ok.inj _ _ _ e hc ▸ hi))
  ·by_cases hcc:c'=c
   ·subst hcc;exact⟨_,hc'⟩
   ·let(w2,z2):=I.cell y c' e
    exact⟨w2,z2.sameBut hs hcc⟩
  ·let(e,n,ne,nf,d):=I.pin p hp
   exact⟨(hs.2 p.1 ?_).trans e,n,ne,nf,d⟩
   intro q
   rw[q,hoc] at e
   let q':oc=p.2:=fo e
   exact d w' (by rw[<- q'];exact hocd)
def mT {M:jH}{A:jD}{E:jF->jw->Prop}{i:Nat}{x:Str}{v:V}{u:jF}{Q:Unit->jw->Prop}(I:Inv X Z9 σ H s)(hN:X.N.Nodup)(hi:X.N[i]?=Ψ x)(hx:Loc X.env.scope x)(r:RelV v u)
  (h:∀ s',Inv X Z9 (σ.set i (Ψ v)) H s'->Q () s')(hf:X.fn x=Ω ∨ X.env.scope.names.lookup x=Ψ .local:=by first|exact .inl rfl|exact .inr rfl|assumption):wpAny M A (storeName X.env x u) Q E s :=
 pX I hN hi hx r (λs' I' _=>h s' I') hf
def Inv.call' {s':jw}{ch:List jP}(I:Inv X Z9 σ H s)(ho:s'.os=s.os)(u:Un (mx X.stack) ch H H' s.heap s'.heap)(hok:HOk X.prog X.w H' s'.heap)(hg:jv s'.gens)
  (hch:∀ b∈ch,(b∈X.ex ∨ X.s₀.heap.objs.size<=b)/\b≠X.env.locals/\(∀ x c,X.env.cells.lookup x=Ψ c->c≠b)/\∀ p∈X.pn++Z9,p.1≠b):Inv X Z9 σ H' s':=by
 let(h',g',d',t',o'):=s'
 let e:o'=s.os:=ho
 subst e
 exact I.call (g':=g') (t':=t') (d':=d') u hok hg hch
end
noncomputable abbrev XK:=jF->Option jP->Hp->Prop
noncomputable abbrev St:=List (Option V)
noncomputable abbrev VK:=V->Hp->Prop
noncomputable abbrev TE:=St->Hp->VK->Prop
noncomputable abbrev TT:=St->Hp->(Bool->Hp->Prop)->Prop
noncomputable abbrev TA:=St->Hp->(List V->Hp->Prop)->Prop
structure Ends where
 nx:St->Hp->Prop
 rt:VK
 bk:St->Hp->Prop:=λ_ _=>False
 ct:St->Hp->Prop:=λ_ _=>False
noncomputable abbrev TS:=Ends->St->Hp->Prop
inductive EP (X:Cx)(Z9:List (jP×Obj))(σ:St)(Q:VK)(u:jF)(s':jw):Prop
 | mk (v:_)(H':_)(_:Inv X Z9 σ H' s')(_:RelV v u)(_:Q v H'):EP X Z9 σ Q u s'
inductive TP (X:Cx)(Z9:List (jP×Obj))(σ:St)(Q:Bool->Hp->Prop)(b:Bool)(s':jw):Prop
 | mk (H':_)(_:Inv X Z9 σ H' s')(_:Q b H'):TP X Z9 σ Q b s'
inductive AP (X:Cx)(Z9:List (jP×Obj))(σ:St)(Q:List V->Hp->Prop)(us:List jF)(s':jw):Prop
 | mk (vs:_)(H':_)(_:Inv X Z9 σ H' s')(_:Vals vs us)(_:Q vs H'):AP X Z9 σ Q us s'
abbrev SP (X:Cx)(Z9:List (jP×Obj))(D:Ends)(f:Flow)(s':jw):Prop :=
 match f with
 | .next=>∃ σ' H',Inv X Z9 σ' H' s'/\D.nx σ' H'
 | .brk=>∃ σ' H',Inv X Z9 σ' H' s'/\D.bk σ' H'
 | .cont=>∃ σ' H',Inv X Z9 σ' H' s'/\D.ct σ' H'
 | .ret u=>∃ v σ' H',Inv X Z9 σ' H' s'/\RelV v u/\D.rt v H'
abbrev PE (X:Cx)(e:Expr)(t:TE):Prop :=
 ∀ (Z9:List (jP×Obj))(s:jw)(σ:St)(H:Hp)(Q:VK),Inv X Z9 σ H s->t σ H Q->wpAny (model X.prog X.w) X.A (eval e X.env) (EP X Z9 σ Q) X.xe s
abbrev PT (X:Cx)(e:Expr)(t:TT):Prop :=
 ∀ (Z9:List (jP×Obj))(s:jw)(σ:St)(H:Hp)(Q:Bool->Hp->Prop),Inv X Z9 σ H s->t σ H Q->wpAny (model X.prog X.w) X.A (isTrue e X.env (eval e X.env)) (TP X Z9 σ Q) X.xe s
abbrev PW (X:Cx)(e:Expr)(t:TT):Prop :=
 ∀ (nZ:Sem jF)(Z9:List (jP×Obj))(s:jw)(σ:St)(H:Hp)(Q:Bool->Hp->Prop),Inv X Z9 σ H s->t σ H Q->wpAny (model X.prog X.w) X.A (isTrue e X.env nZ) (TP X Z9 σ Q) X.xe s
def PW.pt {X:Cx}{e:Expr}{t:TT}(h:PW X e t):PT X e t:=h _
abbrev PA (X:Cx)(es:List Expr)(t:TA):Prop :=
 ∀ (pos:Pos)(Z9:List (jP×Obj))(s:jw)(σ:St)(H:Hp)(Q:List V->Hp->Prop),Inv X Z9 σ H s->t σ H Q->wpAny (model X.prog X.w) X.A (spliced (backTo pos (starEach es X.env))) (AP X Z9 σ Q) X.xe s
abbrev PS (X:Cx)(st:jL)(t:TS):Prop :=
 ∀ (Z9:List (jP×Obj))(s:jw)(σ:St)(H:Hp)(D:Ends),Inv X Z9 σ H s->t D σ H->wpAny (model X.prog X.w) X.A (exec st X.env) (SP X Z9 D) X.xe s
abbrev PSs (X:Cx)(st:List jL)(t:TS):Prop :=
 ∀ (Z9:List (jP×Obj))(s:jw)(σ:St)(H:Hp)(D:Ends),Inv X Z9 σ H s->t D σ H->wpAny (model X.prog X.w) X.A (execs st X.env) (SP X Z9 D) X.xe s
def ko {α:Type}{t:Sem α}{Q Q':α->jw->Prop}{M:jH}{A:jD}{E:jF->jw->Prop}{s:jw}(h:wpAny M A t Q E s)(hQ:∀ a s,Q a s->Q' a s):wpAny M A t Q' E s:=iP h hQ λ_ _ x=>x
section
variable {X:Cx}
inductive tVar (i:Nat)(σ:L2.St)(H:Hp)(Q:VK):Prop
 | mk (v:_)(_:σ[i]?=Ψ (Ψ v))(_:Q v H):tVar i σ H Q
abbrev tC (v:V):TE:=λ_ H Q=>Q v H
def uL {i:Nat}{x:Str}{pos:Pos}(hN:X.N[i]?=Ψ x)(hv:J0 X.env.scope x)(hd:(x == ("__debug__":Str))=Ξ:=by decide)(hcd:(x == ("__classdict__":Str))=Ξ:=by decide):PE X (.Name x pos) (tVar i):=by
 intro Z9 s σ H Q I h
 let(v,e,h):=h
 let(m,hn,hl):=I.loc
 let(u,r,l):=hl i x v hN e hv
 let fin:EP X Z9 σ Q u s:=⟨v,H,I,r,h⟩
 rcases l with⟨hk,hm⟩|⟨hk,c,hc,hcell⟩
 ·exact iS (bP I.ok.kind hk hn hm fin) hd
 ·rcases hk with hk|hk
  ·exact iS (cb I.ok.kind hk hc hcell fin) hd
  ·exact iS (wpAny_loadName_free I.ok.kind hk hc hcell fin hcd) hd
def Hh {i j pos}:PE X (.Constant (.int i) j pos) (tC (.int i)):=λ_ _ _ H _ I h=>wpAny_Constant_int ⟨.int i,H,I.tok _,⟨_,rfl⟩,h⟩
def KO {b j pos}:PE X (.Constant (.bool b) j pos) (tC (.bl b)):=λ_ _ _ H _ I h=>Constant_bool ⟨.bl b,H,I,rfl,h⟩
def Hg {j pos}:PE X (.Constant .none j pos) (tC .non):=λ_ _ _ H _ I h=>gR ⟨.non,H,I,rfl,h⟩
def Bs {x j pos}:PE X (.Constant (.str x) j pos) (tC (.str x)):=λ_ _ _ H _ I h=>Calls.Constant_str ⟨.str x,H,I.tok _,⟨_,rfl⟩,h⟩
abbrev Gl (X:Cx)(x:Str):Prop:=X.env.kindOf x=Ψ .globalImplicit
def oR {E:jF->jw->Prop}{Z9:List (jP×Obj)}{s:jw}{σ:St}{H:Hp}{x:Str}{u:jF}{pos:Pos}{Q:jF->jw->Prop}(I:Inv X Z9 σ H s)(hg:Gl X x)(hm:X.mg x=Ψ u)(h:Q u s)
  (hd:(x == ("__debug__":Str))=Ξ:=by decide):wpAny (model X.prog X.w) X.A (eval (.Name x pos) X.env) Q E s :=
 aC I.ok.kind hg (Calls.loadGlobal_global (by rw[I.ok.glob];exact I.mod.glob.keeps I.bk) hm h) hd
def lY {E:jF->jw->Prop}{Z9:List (jP×Obj)}{s:jw}{σ:St}{H:Hp}{x:Str}{u:jF}{pos:Pos}{Q:jF->jw->Prop}(I:Inv X Z9 σ H s)(hg:Gl X x)(hm:X.mg x=Φ)(hv:bootBuiltins x=Ψ u)(h:Q u s)
  (hn:x≠"__name__":=by decide)(hd:(x == ("__debug__":Str))=Ξ:=by decide):wpAny (model X.prog X.w) X.A (eval (.Name x pos) X.env) Q E s:=by
 let(mb,h1,h2):=I.mod.blt
 exact aC I.ok.kind hg (Calls.loadGlobal_builtin (by rw[I.ok.glob];exact I.mod.glob.keeps I.bk) hm (by rw[I.ok.blt];exact h1.keeps I.bk) ((h2 x hn).trans hv) h) hd
def D7 {x:Str}{v:V}{u:jF}{pos:Pos}(hg:Gl X x)(hm:X.mg x=Ψ u)(r:RelV v u)(hd:(x == ("__debug__":Str))=Ξ:=by decide):PE X (.Name x pos) (tC v) :=
 λ_ _ _ H _ I h=>oR I hg hm ⟨v,H,I,r,h⟩ hd
def uN {x:Str}{v:V}{u:jF}{pos:Pos}(hg:Gl X x)(hm:X.mg x=Φ)(hv:bootBuiltins x=Ψ u)(r:RelV v u)(hn:x≠"__name__":=by decide)(hd:(x == ("__debug__":Str))=Ξ:=by decide):PE X (.Name x pos) (tC v) :=
 λ_ _ _ H _ I h=>lY I hg hm hv ⟨v,H,I,r,h⟩ hn hd
variable {a b:Expr}{ta tb:TE}{pos:Pos}
abbrev PC (X:Cx)(op:jK)(a b:Expr)(t:TE):Prop :=
 ∀ (Z9:List (jP×Obj))(s:jw)(σ:St)(H:Hp)(Q:VK),Inv X Z9 σ H s->t σ H Q ->
  wpAny (model X.prog X.w) X.A (eval a X.env) (λv s₁=>wpAny (model X.prog X.w) X.A (eval b X.env) (λu s₂=>wpAny (model X.prog X.w) X.A (compareOp op v u) (EP X Z9 σ Q) X.xe s₂) X.xe s₁) X.xe s
def l9 (b:Expr){op:jK}(h:op≠.In)(h2:op≠.NotIn):behindInMarks op b=Ξ:=by
 let e1:(op == CmpOp.In)=Ξ:=by cases op<;>first|rfl|exact absurd rfl h
 let e2:(op == CmpOp.NotIn)=Ξ:=by cases op<;>first|rfl|exact absurd rfl h2
 cases b<;>simp[behindInMarks,e1,e2]
abbrev N5 (ta:TE):TE:=λσ H Q=>ta σ H λx H1=>Q (.bl (Δ (x=.non))) H1
abbrev Ki (ta:TE):TE:=λσ H Q=>ta σ H λx H1=>Q (.bl (!Δ (x=.non))) H1
def RelV.none_iff {x:V}{v:jF}(r:RelV x v):(v == Value.none)=Δ (x=.non):=by
 cases x with
 | non=>cases r;rfl
 | bl _=>cases r;rfl
 | int _=>let(t,rfl):=r;rfl
 | str _=>let(t,rfl):=r;rfl
 | byt _=>let(t,rfl):=r;rfl
 | flt _=>let(t,rfl):=r;rfl
 | ref _=>cases r;rfl
 | ty _=>cases r;rfl
def Hj {j pos'}(ha:PE X a ta):PC X .Is a (.Constant .none j pos') (N5 ta):=by
 intro Z9 s σ H Q I h
 exact ko (ha Z9 s σ H _ I h) λv s1 q1=>?_;let(x,H1,I1,r1,q1):=q1
 exact gR (is_none_gen ⟨.bl _,H1,I1,by rw[r1.none_iff];rfl,q1⟩)
def Eb {j pos'}(ha:PE X a ta):PC X .IsNot a (.Constant .none j pos') (Ki ta):=by
 intro Z9 s σ H Q I h
 exact ko (ha Z9 s σ H _ I h) λv s1 q1=>?_;let(x,H1,I1,r1,q1):=q1
 exact gR (isnot_none_gen ⟨.bl _,H1,I1,by rw[r1.none_iff];rfl,q1⟩)
abbrev tB (t:TE):TT:=λσ H Q=>t σ H λx H1=>∃ c,x=.bl c/\Q c H1
def xr {op:jK}{t:TE}(h:PC X op a b t)(h1:behindInMarks op b=Ξ:=by first|exact l9 _ (·) (·)|rfl):PT X (.Compare a [op] [b] pos) (tB t):=by
 intro Z9 s σ H Q I hw
 exact bA (ko (h Z9 s σ H _ I hw) λv s1 h1=>ko h1 λu s2 h2=>ko h2 λc s3 ⟨x,H1,I1,r1,q1⟩=>?_) h1
 let(d,rfl,q):=q1
 cases r1
 exact cW ⟨H1,I1,q⟩
variable {tA tB':TT}{rest:List Expr}
abbrev N9 (t u:TT):TT:=λσ H Q=>t σ H λc H1=>if c=Ω then u σ H1 Q else Q Ξ H1
abbrev tOr (t u:TT):TT:=λσ H Q=>t σ H λc H1=>if c=Ω then Q Ω H1 else u σ H1 Q
abbrev N3 (t:TT):TT:=λσ H Q=>t σ H λc H1=>Q (!c) H1
def DR (ha:PT X a tA):PW X (.BoolOp .And [a] pos) tA:=by
 intro wh Z9 s σ H Q I h
 exact isTrue_and (ko (ha Z9 s σ H Q I h) λc s1 e=>?_)
 cases c with
 | true=>exact isTrue_and_nil e
 | false=>exact e
def G4 (ha:PT X a tA):PW X (.BoolOp .Or [a] pos) tA:=by
 intro wh Z9 s σ H Q I h
 exact isTrue_or (ko (ha Z9 s σ H Q I h) λc s1 e=>?_)
 cases c with
 | false=>exact isTrue_or_nil e
 | true=>exact e
def G5 (ha:PT X a tA)(hb:PW X (.BoolOp .And (b :: rest) pos) tB'):PW X (.BoolOp .And (a :: b :: rest) pos) (N9 tA tB'):=by
 intro wh Z9 s σ H Q I h
 exact isTrue_and (ko (ha Z9 s σ H _ I h) λc s1 ⟨H1,I1,q1⟩=>?_)
 cases c with
 | true=>exact hb wh Z9 s1 σ H1 Q I1 q1
 | false=>exact⟨H1,I1,q1⟩
def KJ (ha:PT X a tA)(hb:PW X (.BoolOp .Or (b :: rest) pos) tB'):PW X (.BoolOp .Or (a :: b :: rest) pos) (tOr tA tB'):=by
 intro wh Z9 s σ H Q I h
 exact isTrue_or (ko (ha Z9 s σ H _ I h) λc s1 ⟨H1,I1,q1⟩=>?_)
 cases c with
 | true=>exact⟨H1,I1,q1⟩
 | false=>exact hb wh Z9 s1 σ H1 Q I1 q1
def G6 (ha:PT X a tA):PT X (.UnaryOp .Not a pos) (N3 tA):=by
 intro Z9 s σ H Q I h
 exact isTrue_not (ko (ha Z9 s σ H (λc H1=>Q (!c) H1) I h) λu s' q1=>by let(H1,I1,q):=q1;exact⟨H1,I1,q⟩)
abbrev Kh (ta:TE):TE:=λσ H Q=>ta σ H λx H1=>∃ c,x=.bl c/\Q (.bl (!c)) H1
def He {op}{t:TE}(h:PE X a t):PE X (.BoolOp op [a] pos) t:=λZ9 s σ H Q I hw=>BoolOp_one (h Z9 s σ H Q I hw)
def Hf (ha:PE X a ta):PE X (.UnaryOp .Not a pos) (Kh ta):=by
 intro Z9 s σ H Q I h
 exact UnaryOp_ (ko (ha Z9 s σ H _ I h) λv s1 ⟨x,H1,I1,r1,q1⟩=>?_)
 let(c,rfl,q1):=q1
 cases r1
 exact not_of (cW ⟨.bl (!c),H1,I1,rfl,q1⟩)
abbrev tIf (t:TT)(ta tb:TE):TE:=λσ H Q=>t σ H λc H1=>if c=Ω then ta σ H1 Q else tb σ H1 Q
def Bu {c:Expr}(hc:PT X c tA)(ha:PE X a ta)(hb:PE X b tb):PE X (.IfExp c a b pos) (tIf tA ta tb):=by
 intro Z9 s σ H Q I h
 exact wpAny_IfExp (ko (hc Z9 s σ H _ I h) λd s1 ⟨H1,I1,q1⟩=>?_)
 cases d with
 | true=>exact ha Z9 s1 σ H1 Q I1 q1
 | false=>exact hb Z9 s1 σ H1 Q I1 q1
end
abbrev SqL (K:ib)(H:Hp)(a:jP)(xs:List V):Prop :=
 Rd H a (.lst xs) ∨
  ∃ (o:Obj)(Z7:Array jF) (n:Nat),K.lookup a=Ψ o/\o.cls=.type "list"/\o.dict=Φ/\o.data=.seq Z7 n/\Z7.size<=sizeLine/\Vals xs Z7.toList
abbrev SqT (K:ib)(H:Hp)(a:jP)(xs:List V):Prop :=
 Rd H a (.tup xs) ∨
  ∃ (o:Obj)(Z7:Array jF) (n:Nat),K.lookup a=Ψ o/\o.cls=.type "tuple"/\o.data=.seq Z7 n/\Z7.size<=sizeLine/\Vals xs Z7.toList
abbrev Q9:jF->Option V
 | .none=>Ψ .non
 | .bool b=>Ψ (.bl b)
 | .int i _=>Ψ (.int i)
 | .str x _=>Ψ (.str x)
 | .bytes b _=>Ψ (.byt b)
 | .float b _=>Ψ (.flt b)
 | .ref a=>Ψ (.ref a)
 | .type n=>Ψ (.ty n)
 | _=>Φ
def RelV.abs {x:V}{u:jF}(r:RelV x u):Q9 u=Ψ x:=by
 cases x with
 | non=>cases r;rfl
 | bl _=>cases r;rfl
 | int _=>let(t,rfl):=r;rfl
 | str _=>let(t,rfl):=r;rfl
 | byt _=>let(t,rfl):=r;rfl
 | flt _=>let(t,rfl):=r;rfl
 | ref _=>cases r;rfl
 | ty _=>cases r;rfl
def RelV.inj {x y:V}{u:jF}(r:RelV x u)(q:RelV y u):x=y:=fo (r.abs.symm.trans q.abs)
def Vals.inj:∀ {xs ys:List V}{us:List jF},Vals xs us->Vals ys us->xs=ys:=λ{_ ys _} h=>by
 induction h generalizing ys with
 | nil=>intro h;cases h;rfl
 | cons r _ ih=>intro h;cases h with|cons r' t'=>rw[r.inj r',ih t']
section
variable {X:Cx}{Z9:List (jP×Obj)}{σ:St}{H:Hp}{s:jw}{a:jP}{xs ys:List V}
def SqL.of {K:ib}(h:H a=Ψ (.lst xs)):SqL K H a xs:=.inl (.inl h)
def SqT.of {K:ib}(h:H a=Ψ (.tup xs)):SqT K H a xs:=.inl (.inl h)
def Inv.list (I:Inv X Z9 σ H s)(h:SqL X.K H a xs):∃ Z7:List jF,Vals xs Z7/\PlainL s.heap a Z7.toArray/\xs.length<=sizeLine:=by
 rcases h with h|⟨o,Z7,n,hk,hc,hd,hs,hz,r⟩
 ·let(z,Z7,n,r,e):=h.ok I.hok
  exact⟨Z7,r,⟨_,n,e,rfl,rfl,rfl⟩,z⟩
 ·exact⟨Z7.toList,r,⟨o,n,I.kIn a o hk,hc,hd,by simpa using hs⟩,?_⟩
  let e:=r.length
  simp -iota only[cz] at e
  lia
def Inv.tuple (I:Inv X Z9 σ H s)(h:SqT X.K H a xs):∃ Z7:List jF,Vals xs Z7/\jJ s.heap a Z7.toArray/\xs.length<=sizeLine:=by
 rcases h with h|⟨o,Z7,n,hk,hc,hs,hz,r⟩
 ·let(z,Z7,r,p):=h.ok I.hok
  exact⟨Z7,r,p,z⟩
 ·exact⟨Z7.toList,r,⟨o,I.kIn a o hk,hc,n,by simpa using hs⟩,?_⟩
  let e:=r.length
  simp -iota only[cz] at e
  lia
def Inv.list_inj (I:Inv X Z9 σ H s)(h:SqL X.K H a xs)(h':SqL X.K H a ys):xs=ys:=by
 let(Z7,r,(o,n,e,_,_,d),_):=I.list h
 let(its',r',(o',n',e',_,_,d'),_):=I.list h'
 rw[e] at e';cases e'
 rw[d] at d'
 injection d' with d1 _
 have:Z7=its':=by simpa using congrArg iA d1
 subst this
 exact r.inj r'
def Inv.tuple_inj (I:Inv X Z9 σ H s)(h:SqT X.K H a xs)(h':SqT X.K H a ys):xs=ys:=by
 let(Z7,r,(o,e,_,n,d),_):=I.tuple h
 let(its',r',(o',e',_,n',d'),_):=I.tuple h'
 rw[e] at e';cases e'
 rw[d] at d'
 injection d' with d1 _
 have:Z7=its':=by simpa using congrArg iA d1
 subst this
 exact r.inj r'
end
noncomputable abbrev Cx.wish (X:Cx)(E:jF->jw->Prop):Cx:={ X with xe:=E }
noncomputable abbrev Cx.nox (X:Cx):Cx:=X.wish λ_ _=>False
def Cx.Ok.wish {X:Cx}(ok:X.Ok)(E:jF->jw->Prop):(X.wish E).Ok :=
 ⟨ok.mod,ok.kind,ok.glob,ok.blt,ok.above,ok.inj,ok.has,ok.cab,ok.hd,ok.frames,ok.stk,ok.exf,ok.bs,ok.bsz,ok.noex,ok.exfs,ok.funs,ok.frf⟩
def Cx.Ok.unwish {X:Cx}{E:jF->jw->Prop}(ok:(X.wish E).Ok):X.Ok :=
 ⟨ok.mod,ok.kind,ok.glob,ok.blt,ok.above,ok.inj,ok.has,ok.cab,ok.hd,ok.frames,ok.stk,ok.exf,ok.bs,ok.bsz,ok.noex,ok.exfs,ok.funs,ok.frf⟩
section
variable {X:Cx}{Z9:List (jP×Obj)}{σ:St}{H:Hp}{s:jw}{E:jF->jw->Prop}
def Inv.wish (I:Inv X Z9 σ H s)(E:jF->jw->Prop):Inv (X.wish E) Z9 σ H s:=⟨I.ok.wish E,I.os,I.bare,I.base,I.loc,I.cell,I.free,I.freeC,I.pin,I.hok,I.len⟩
def Inv.unwish (I:Inv (X.wish E) Z9 σ H s):Inv X Z9 σ H s:=⟨I.ok.unwish,I.os,I.bare,I.base,I.loc,I.cell,I.free,I.freeC,I.pin,I.hok,I.len⟩
def SP.unwish {D:Ends}{f:Flow}{s':jw}(h:SP (X.wish E) Z9 D f s'):SP X Z9 D f s':=by
 cases f with
 | next=>let(σ',H',I,q):=h;exact⟨σ',H',I.unwish,q⟩
 | brk=>let(σ',H',I,q):=h;exact⟨σ',H',I.unwish,q⟩
 | cont=>let(σ',H',I,q):=h;exact⟨σ',H',I.unwish,q⟩
 | ret u=>let(v,σ',H',I,r,q):=h;exact⟨v,σ',H',I.unwish,r,q⟩
def PE.nox {e:Expr}{t:TE}(h:PE X.nox e t):PE X e t:=λZ9 s σ H Q I hw =>
 iP (h Z9 s σ H Q (I.wish _) hw) (λ_ _ q1=>by let(v,H',I',r,q):=q1;exact⟨v,H',I'.unwish,r,q⟩) λ_ _ z=>i9 z
def PSs.nox {st:List jL}{t:TS}(h:PSs X.nox st t):PSs X st t:=λZ9 s σ H D I hw =>
 iP (h Z9 s σ H D (I.wish _) hw) (λ_ _ q=>q.unwish) λ_ _ z=>i9 z
end
section
variable {X:Cx}{st:jL}{rest:List jL}{t u:TS}{e:Expr}{te:TE}{pos:Pos}
abbrev F3:TS:=λD σ H=>D.nx σ H
abbrev N1 (t u:TS):TS:=λD σ H=>t { D with nx:=u D } σ H
def DT:PSs X [] F3:=λ_ _ σ H _ I h=>eX ⟨σ,H,I,h⟩
def Bf (h1:PS X st t)(h2:PSs X rest u):PSs X (st :: rest) (N1 t u):=by
 intro Z9 s σ H D I h
 exact dX (ko (h1 Z9 s σ H { D with nx:=u D } I h) λf s1 q=>?_)
 cases f with
 | next =>
  let(σ',H',I',q):=q
  exact h2 Z9 s1 σ' H' D I' q
 | ret v=>exact q
 | brk=>exact q
 | cont=>exact q
def yr (h1:PS X st t):PSs X [st] t:=by
 intro Z9 s σ H D I h
 exact dX (ko (h1 Z9 s σ H D I h) λf s1 q=>?_)
 cases f with
 | next=>exact eX q
 | ret v=>exact q
 | brk=>exact q
 | cont=>exact q
def DU:PS X (.Pass pos) F3:=λ_ _ σ H _ I h=>wpAny_Pass ⟨σ,H,I,h⟩
def Inv.quiet {Z9:List (jP×Obj)}{σ:St}{H:Hp}{s:jw}(I:Inv X Z9 σ H s):interactive X.env=Ξ:=by simp[interactive,I.ok.kind]
abbrev Kl (te:TE):TS:=λD σ H=>te σ H λ_ H1=>D.nx σ H1
def DV (he:PE X e te)(hs:swapsWith e Φ pos.line X.env=pure Ξ:=by rfl):PS X (.Expr e pos) (Kl te):=by
 intro Z9 s σ H D I h
 exact wpAny_Expr_any (ko (he Z9 s σ H _ I h) λv s1 q1=>by let(x,H1,I1,r1,q1):=q1;exact⟨σ,H1,I1,q1⟩) I.quiet hs
abbrev N2 (te:TE):TS:=λD σ H=>te σ H D.rt
def xu (he:PE X e te):PS X (.Return (Ψ e) pos) (N2 te):=by
 intro Z9 s σ H D I h
 exact wpAny_Return_some (ko (he Z9 s σ H _ I h) λv s1 q1=>by let(x,H1,I1,r1,q1):=q1;exact⟨x,σ,H1,I1,r1,q1⟩)
abbrev N6 (c:TT)(t u:TS):TS:=λD σ H=>c σ H λb H1=>if b=Ω then t D σ H1 else u D σ H1
def KL {c:Expr}{a b:List jL}{tc:TT}(hc:PT X c tc)(ha:PSs X a t)(hb:PSs X b u):PS X (.If c a b pos) (N6 tc t u):=by
 intro Z9 s σ H D I h
 exact wpAny_If (ko (hc Z9 s σ H _ I h) λd s1 ⟨H1,I1,q1⟩=>?_)
 cases d with
 | true=>exact ha Z9 s1 σ H1 D I1 q1
 | false=>exact hb Z9 s1 σ H1 D I1 q1
end
noncomputable abbrev TG:=V->St->Hp->(St->Hp->Prop)->Prop
noncomputable abbrev Du:=List V->St->Hp->(St->Hp->Prop)->Prop
abbrev PG (X:Cx)(Z2:Expr)(t:TG):Prop :=
 ∀ (Z9:List (jP×Obj))(s:jw)(σ:St)(H:Hp)(v:V)(u:jF)(Q:St->Hp->Prop),Inv X Z9 σ H s->RelV v u->t v σ H Q ->
  wpAny (model X.prog X.w) X.A (assign Z2 X.env u) (λ_ s'=>∃ σ' H',Inv X Z9 σ' H' s'/\Q σ' H') X.xe s
abbrev GB (X:Cx)(ts:List Expr)(t:Du):Prop :=
 ∀ (Z9:List (jP×Obj))(s:jw)(σ:St)(H:Hp)(vs:List V)(us:List jF)(Q:St->Hp->Prop),Inv X Z9 σ H s->Vals vs us->t vs σ H Q ->
  wpAny (model X.prog X.w) X.A (assignInOrder ((assignEach ts X.env).map (·.2)) us) (λ_ s'=>∃ σ' H',Inv X Z9 σ' H' s'/\Q σ' H') X.xe s
noncomputable abbrev JD:=V->V->V->Hp->(Hp->Prop)->Prop
abbrev L9 (X:Cx)(t:JD):Prop :=
 ∀ (Z9:List (jP×Obj))(s:jw)(σ:St)(H:Hp)(o i v:V)(ov iv u:jF)(Q:Hp->Prop),Inv X Z9 σ H s->RelV o ov->RelV i iv->RelV v u->t o i v H Q ->
  wpAny (model X.prog X.w) X.A (setItem ov iv u) (λ_ s'=>∃ H',Inv X Z9 σ H' s'/\Q H') X.xe s
noncomputable abbrev Re:=V->V->Hp->VK->Prop
abbrev PIp (X:Cx)(op:ji)(t:Re):Prop :=
 ∀ (Z9:List (jP×Obj))(s:jw)(σ:St)(H:Hp)(x y:V)(v u:jF)(Q:VK),Inv X Z9 σ H s->RelV x v->RelV y u->t x y H Q ->
  wpAny (model X.prog X.w) X.A (inplaceOp op v u) (EP X Z9 σ Q) X.xe s
section
variable {X:Cx}{pos:Pos}
abbrev mq (i:Nat):TG:=λv σ H Q=>Q (σ.set i (Ψ v)) H
def D3 {i:Nat}{x:Str}(hN:X.N.Nodup)(hi:X.N[i]?=Ψ x)(hx:Loc X.env.scope x)(hf:X.fn x=Ω ∨ X.env.scope.names.lookup x=Ψ .local:=by first|exact .inl rfl|exact .inr rfl|assumption):PG X (.Name x pos) (mq i):=by
 intro Z9 s σ H v u Q I r h
 exact dh (mT I hN hi hx r (λs' I'=>⟨_,H,I',h⟩) hf)
abbrev HU:Du:=λvs σ H Q=>vs=[]/\Q σ H
inductive gCons (t:TG)(u:Du)(vs:List V)(σ:L2.St)(H:Hp)(Q:(L2.St->Hp->Prop)):Prop
 | mk (v:_)(r:_)(_:vs=v :: r)(_:t v σ H λσ' H'=>u r σ' H' Q):gCons t u vs σ H Q
def yu:GB X [] HU:=by
 intro Z9 s σ H vs us Q I r h
 let(e,h):=h
 subst e
 cases r
 exact dq ⟨σ,H,I,h⟩
def vQ {e:Expr}{es:List Expr}{t:TG}{u:Du}(h1:PG X e t)(h2:GB X es u)
  (hs:(assignEach (e :: es) X.env).map (·.2)=assign e X.env :: (assignEach es X.env).map (·.2):=by rfl):GB X (e :: es) (gCons t u):=by
 intro Z9 s σ H vs us Q I r h
 let(v,vr,e1,h):=h
 subst e1
 cases r with
 | cons r rr =>
  rw[hs]
  exact cF (ko (h1 Z9 s σ H _ _ _ I r h) λ_ s1 ⟨σ1,H1,I1,q1⟩=>?_)
  exact h2 Z9 s1 σ1 H1 _ _ Q I1 rr q1
inductive gTup (K:ib) (n:Nat)(t:Du)(v:V)(σ:L2.St)(H:Hp)(Q:(L2.St->Hp->Prop)):Prop
 | mk (a:_)(xs:_)(_:v=.ref a)(_:SqT K H a xs)(_:xs.length=n)(_:t xs σ H Q):gTup K n t v σ H Q
def Hb {es:List Expr}{k:Nat}{t:Du}{n:Nat}(hc:X.calm=Ω)(h:GB X es t)
  (hn:(assignEach es X.env).length=n:=by rfl)(hst:(assignEach es X.env).findIdx? (·.1)=Φ:=by rfl):PG X (.Tuple es k pos) (gTup X.K n t):=by
 intro Z9 s σ H v u Q I r hw
 let(a,xs,e1,hq,hl,hw):=hw
 subst e1
 cases r
 let(Z7,rv,ht,hz):=I.tuple hq
 exact assign_Tuple_tuple (I.ok.hd hc) ht (by simp[hn,<- hl,rv.length]) hst λh' hx=>?_
 let I1:Inv X Z9 σ H { s with heap:=h' }:=I.kept (t':=s.toks) λb o e=>hx b o (ii (iy e)) e
 exact h Z9 _ σ H xs _ Q I1 (by simpa using rv) hw
abbrev OA (to ti:TE)(t:JD):TG:=λv σ H Q=>to σ H λo H1=>ti σ H1 λi H2=>t o i v H2 λH3=>Q σ H3
def Hc {o i:Expr}{to ti:TE}{t:JD}(ho:PE X o to)(hi:PE X i ti)(hs:L9 X t)
  (ha:∀ v,assign (.Subscript o i pos) X.env v=(do
   let ov <- holding [v] (eval o X.env)
   let iv <- holding [v,ov] (eval i X.env)
   standAt pos
   holding [v,ov,iv] (setItem ov iv v)
   release [v,ov,iv] []):=by intro _;rfl):PG X (.Subscript o i pos) (OA to ti t):=by
 intro Z9 s σ H v u Q I r h
 rw[ha]
 exact iR (gx (ko (ho Z9 s σ H _ I h) λov s1 ⟨x,H1,I1,r1,q1⟩=>?_))
 exact iR (gx (ko (hi Z9 s1 σ H1 _ I1 q1) λiv s2 ⟨y,H2,I2,r2,q2⟩=>?_))
 exact iR (gu (iR (gx (ko (hs Z9 s2 σ H2 x y v ov iv u _ I2 r1 r2 r q2) λ_ s3 ⟨H3,I3,q3⟩=>?_))))
 exact wpAny_release ⟨σ,H3,I3,q3⟩
abbrev qM (te:TE)(g:TG):TS:=λD σ H=>te σ H λx H1=>g x σ H1 D.nx
def Bj {tg e:Expr}{te:TE}{g:TG}(he:PE X e te)(hg:PG X tg g)(hs:swapsWithSole [tg] e pos.line X.env=pure Ξ:=by rfl)(hw:swappedStores [tg] e X.env=pure Φ:=by rfl)
  (h1:(assignEach [tg] X.env).map (·.2)=[assign tg X.env]:=by rfl):PS X (.Assign [tg] e pos) (qM te g):=by
 intro Z9 s σ H D I h
 exact wpAny_Assign_stores (ko (he Z9 s σ H _ I h) λv s1 ⟨x,H1,I1,r1,q1⟩=>?_) hs hw
 rw[h1]
 exact ko (hg Z9 s1 σ H1 x v _ I1 r1 q1) λ_ s2 q=>q
def Bh {i:Nat}{x:Str}{e:Expr}{te:TE}{pos':Pos}(hN:X.N.Nodup)(hi:X.N[i]?=Ψ x)(hx:Loc X.env.scope x)(he:PE X e te)(hs:swapsWith e (Ψ (.Name x pos')) pos.line X.env=pure Ξ:=by rfl)(hf:X.fn x=Ω ∨ X.env.scope.names.lookup x=Ψ .local:=by first|exact .inl rfl|exact .inr rfl|assumption) :
  PS X (.Assign [.Name x pos'] e pos) (qM te (mq i)):=by
 intro Z9 s σ H D I h
 exact wpAny_Assign_Name (ko (he Z9 s σ H _ I h) λv s1 ⟨y,H1,I1,r1,q1⟩=>?_) hs
 exact mT I1 hN hi hx r1 (λs2 I2=>⟨_,H1,I2,q1⟩) hf
abbrev Kg (i j:Nat)(ta:TA):TS:=λD σ H=>ta σ H λvs H1=>∃ v w,vs=[v,w]/\D.nx ((σ.set i (Ψ v)).set j (Ψ w)) H1
def G8 {i j:Nat}{x y:Str}{a b:Expr}{ta:TA}{px py pt:Pos} {kt k2 pt2}(hc:X.calm=Ω)(hN:X.N.Nodup)(hi:X.N[i]?=Ψ x)(hj:X.N[j]?=Ψ y)(hij:i≠j)
  (hx:X.env.scope.names.lookup x=Ψ .local)(hy:X.env.scope.names.lookup y=Ψ .local)(ha:PA X [a,b] ta)
  (hw:swappedStores [.Tuple [.Name x px,.Name y py] kt pt] (.Tuple [a,b] k2 pt2) X.env=pure (Ψ [x,y]))
  (hs:swapsWithSole [.Tuple [.Name x px,.Name y py] kt pt] (.Tuple [a,b] k2 pt2) pos.line X.env=pure Ξ:=by rfl) :
  PS X (.Assign [.Tuple [.Name x px,.Name y py] kt pt] (.Tuple [a,b] k2 pt2) pos) (Kg i j ta):=by
 intro Z9 s σ H D I h
 rw[exec_Assign_arm]
 exact iR (gu ?_)
 rw[hs]
 exact iR (iO ?_)
 rw[if_neg (·)]
 exact iR (Tuple_ (ko (ha _ Z9 s σ H _ I h) λus s1 ⟨vs,H1,I1,r1,q1⟩=>?_))
 let(v,w,e1,q1):=q1
 subst e1
 obtain⟨u1,u2,rfl,rv,rw'⟩:∃ u1 u2,us=[u1,u2]/\RelV v u1/\RelV w u2:=by
  cases r1 with
  | cons p q =>
   cases q with
   | cons p' q' =>
    cases q'
    exact⟨_,_,rfl,p,p'⟩
 exact db ?_ (by show 2<=sizeLine;decide)
 let I2:Inv X Z9 σ H1 { s1 with heap:=s1.heap.push { cls:=.type "tuple",data:=.seq [u1,u2].toArray } }:=I1.kept (t':=s1.toks) λb o e=>bx _ e
 rw[hw]
 exact iR (iO ?_)
 show wpAny (model X.prog X.w) X.A (do rule "assign.swapped-stores";let items <- unpackItems (.ref s1.heap.objs.size) 2 Φ;assignInOrder [λv=>bindName X.env y v,λv=>bindName X.env x v] items.reverse;pure Flow.next) _ _ _
 exact iR (iN (iR (unpackItems_tuple (items:=#[u1,u2]) (I.ok.hd hc) (jd s1.heap _) λh' hx'=>?_)))
 let I3:=I2.kept (h':=h') (t':=s1.toks) λb o e=>hx' b o (ii (iy e)) e
 show wpAny _ _ (assignInOrder [λv=>bindName X.env y v,λv=>bindName X.env x v] [u2,u1] >>= λ_=>pure Flow.next) _ _ _
 exact iR (cF (fR (mT I3 hN hj (.inl hy) rw' (λs2 I4=>?_) (.inr hy))))
 exact cF (fR (mT I4 hN hi (.inl hx) rv (λs3 I5=>dq (iO ?_)) (.inr hx)))
 rw[List.set_comm _ _ (jp hij)] at I5
 exact⟨_,H1,I5,q1⟩
inductive tAug (i:Nat)(te:TE)(ti:Re)(D:Ends)(σ:L2.St)(H:Hp):Prop
 | mk (x:_)(_:σ[i]?=Ψ (Ψ x))(_:te σ H λy H1=>ti x y H1 λz H2=>D.nx (σ.set i (Ψ z)) H2):tAug i te ti D σ H
def Ha {i:Nat}{x:Str}{e:Expr}{te:TE}{op:ji}{ti:Re}{pos':Pos}(hN:X.N.Nodup)(hi:X.N[i]?=Ψ x)(hx:Loc X.env.scope x)(he:PE X e te)(ho:PIp X op ti)(hf:X.fn x=Ω ∨ X.env.scope.names.lookup x=Ψ .local:=by first|exact .inl rfl|exact .inr rfl|assumption) :
  PS X (.AugAssign (.Name x pos') op e pos) (tAug i te ti):=by
 intro Z9 s σ H D I h
 let(v,e1,h):=h
 let(m,hn,hl):=I.loc
 let vis:J0 X.env.scope x:=by rcases hx with k|k;exact .inl k;exact .inr (.inl k)
 let(u,r,l):=hl i x v hi e1 vis
 exact wpAny_AugAssign_Name ?_
 let go:wpAny (model X.prog X.w) X.A (eval e X.env) (λw s₂=>wpAny (model X.prog X.w) X.A (inplaceOp op u w) (λr s₃=>wpAny (model X.prog X.w) X.A (storeName X.env x r) (λ_=>SP X Z9 D .next) X.xe s₃) X.xe s₂) X.xe s:=by
  exact ko (he Z9 s σ H _ I h) λw s1 q1=>?_;let(y,H1,I1,r1,q1):=q1
  exact ko (ho Z9 s1 σ H1 v y u w _ I1 r r1 q1) λz s2 q2=>?_;let(zv,H2,I2,r2,q2):=q2
  exact mT I2 hN hi hx r2 (λs3 I3=>⟨_,H2,I3,q2⟩) hf
 rcases l with⟨hk,hm⟩|⟨hk,c,hc,hcell⟩
 ·exact bP I.ok.kind hk hn hm go
 ·rcases hk with hk|hk
  ·exact cb I.ok.kind hk hc hcell go
  ·rcases hx with k|k
   ·have:X.env.scope.names.lookup x=Ψ .free:=hk
    rw[k] at this;cases this
   ·have:X.env.scope.names.lookup x=Ψ .free:=hk
    rw[k] at this;cases this
inductive ipI (f:Int->Int->Int)(x:V)(y:V)(H:Hp)(Q:VK):Prop
 | mk (i:_)(j:_)(_:x=.int i)(_:y=.int j)(_:Q (.int (f i j)) H):ipI f x y H Q
def Ci:PIp X .Add (ipI λi j=>i+j):=by
 intro Z9 s σ H x y v u Q I r1 r2 h
 let(i,j,e1,e2,q):=h
 subst e1;subst e2
 let(t,rfl):=r1
 let(t',rfl):=r2
 exact iadd_int ⟨.int _,H,I.tok _,⟨_,rfl⟩,q⟩
end
section
variable {X:Cx}{pos:Pos}
inductive tWhile (c:TT)(tb:TS)(D:Ends)(σ:L2.St)(H:Hp):Prop
 | mk (W:Nat->St->Hp->Prop)(_:(∃ m,W m σ H))(_:∀ m σ H,W m σ H->c σ H λb H1=>if b=Ω then ∃ N:St->Hp->Prop,(∀ σ' H',N σ' H'->∃ m',m'<m/\W m' σ' H')/\tb { D with nx:=N,ct:=N,bk:=D.nx } σ H1 else D.nx σ H1):tWhile c tb D σ H
def Bg {c:Expr}{body:List jL}{tc:TT}{tb:TS}(hp:PassesOwn (model X.prog X.w) X.A X.env X.xe)(hc:PT X c tc)(hb:PSs X body tb):PS X (.While c body [] pos) (tWhile tc tb):=by
 intro Z9 s σ H D I h
 let(W,(m0,w0),turn):=h
 exact wpAny_While (codeAny_whileLoop (λn s'=>∃ σ' H',Inv X Z9 σ' H' s'/\W n σ' H') ?_ m0 ⟨σ,H,I,w0⟩)
 rintro n s1 ⟨σ1,H1,I1,w1⟩
 exact eV hp (ko (hc Z9 s1 σ1 H1 _ I1 (turn n σ1 H1 w1)) λb s2 ⟨H2,I2,q2⟩=>?_)
 cases b with
 | true =>
  let(N,hN,q2):=q2
  rw[if_pos rfl]
  exact eV hp (ko (hb Z9 s2 σ1 H2 _ I2 q2) λf s3 q3=>?_)
  cases f with
  | next =>
   let(σ3,H3,I3,n3):=q3
   let(m',hm,w3):=hN σ3 H3 n3
   exact⟨m',hm,σ3,H3,I3,w3⟩
  | cont =>
   let(σ3,H3,I3,n3):=q3
   let(m',hm,w3):=hN σ3 H3 n3
   exact⟨m',hm,σ3,H3,I3,w3⟩
  | brk=>exact q3
  | ret v=>exact q3
 | false =>
  rw[if_neg cU]
  exact eX ⟨σ1,H2,I2,q2⟩
end
structure It where
 go:Nat->Hp->Prop
 yld:Nat->Hp->V->Hp->Prop
 stop:Nat->Hp->Prop
abbrev oZ (X:Cx)(Z9:List (jP×Obj))(H:Hp)(b:jP):Prop :=
 H b=Φ/\b≠X.env.locals/\b ∉ X.fs/\(b∈X.ex ∨ X.s₀.heap.objs.size<=b)/\(∀ x c,X.env.cells.lookup x=Ψ c->c≠b)/\∀ p∈X.pn++Z9,p.1≠b
def Inv.fpOk {X:Cx}{Z9:List (jP×Obj)}{σ:St}{H H':Hp}{s:jw}{b:jP}(I:Inv X Z9 σ H s)(hb:s.heap.objs.size<=b)(hn:H' b=Φ):oZ X Z9 H' b:=by
 exact⟨hn,ij (cK I.lt hb),I.nofs hb,.inr (ik I.sz hb),λx c e z=>?_,λp hp z=>?_⟩
 ·let(v,q):=I.cell x c e
  exact absurd (cK q.lt (by rw[z];exact hb)) (gK _)
 ·exact absurd (cK (iy (I.pin p hp).1) (by rw[z];exact hb)) (gK _)
structure Turn (P:jn)(w:jE)(K:ib)(tg:Expr)(J:It)(fp:List jP)(it:jP)(tn:Nat->jM->Prop):Prop where
 mem:it∈fp
 obj:∀ i h,tn i h->∀ b∈fp,∃ o,h.get? b=Ψ o/\∀ v,o.data≠.cell v
 keep:∀ i h h',tn i h->(∀ b∈fp,∀ o,h.get? b=Ψ o->h'.get? b=Ψ o)->tn i h'
 item:∀ (X:Cx),X.prog=P->X.w=w->X.K=K->X.calm=Ω->∀ (i:Nat)(Z9:List (jP×Obj))(s:jw)(σ:St)(H:Hp)(E:jF->jw->Prop),Inv X Z9 σ H s->(∀ b∈fp,oZ X Z9 H b)->tn i s.heap->J.go i H ->
  wpAny (model P w) X.A (pyNext (.ref it)) (λr s1=>∃ u,r=Ψ u /\
   wpAny (model P w) X.A (letOwnedTupleGo tg (.ref it) u) (λ_ s2=>∃ x H',Inv X Z9 σ H' s2/\RelV x u/\J.yld i H x H'/\tn (i+1) s2.heap/\∀ b∈fp,H' b=Φ) E s1) E s
 done:∀ (X:Cx),X.prog=P->X.w=w->X.K=K->X.calm=Ω->∀ (i:Nat)(Z9:List (jP×Obj))(s:jw)(σ:St)(H:Hp)(E:jF->jw->Prop),Inv X Z9 σ H s->(∀ b∈fp,oZ X Z9 H b)->tn i s.heap->J.stop i H ->
  wpAny (model P w) X.A (pyNext (.ref it)) (λr s1=>r=Φ/\Inv X Z9 σ H s1) E s
 self:∀ (A:jD) (i:Nat)(s:jw)(Q:jF->jw->Prop)(E:jF->jw->Prop),tn i s.heap->Q (.ref it) s->wpAny (model P w) A (pyIter (.ref it)) Q E s
noncomputable abbrev TI:=St->Hp->(It->Hp->Prop)->Prop
inductive PIE (X:Cx)(Z9:List (jP×Obj))(σ:St)(tg:Expr)(R:It->Hp->Prop)(itv:jF)(s2:jw):Prop
 | mk (it:jP)(fp:List jP)(tn:Nat->jM->Prop)(J:It)(H':Hp)(_:itv=.ref it)(_:Inv X Z9 σ H' s2)(_:Turn X.prog X.w X.K tg J fp it tn)(_:tn 0 s2.heap)(_:(∀ b∈fp,oZ X Z9 H' b))(_:R J H'):PIE X Z9 σ tg R itv s2
abbrev PI (X:Cx)(tg Z6:Expr)(wi:TI):Prop :=
 ∀ (Z9:List (jP×Obj))(s:jw)(σ:St)(H:Hp)(R:It->Hp->Prop),Inv X Z9 σ H s->wi σ H R ->
  wpAny (model X.prog X.w) X.A (eval Z6 X.env) (λv s1=>wpAny (model X.prog X.w) X.A (pyIter v) (PIE X Z9 σ tg R) X.xe s1) X.xe s
def wA {M : jH} {A : jD} {E : jF -> jw -> Prop} {s : jw} {tg : Expr} {it : jP} {u : jF} {o : Obj} {n : String} {vs : Array jF} {Q : Unit -> jw -> Prop} (ho : s.heap.get? it = Ψ o) (hc : o.cls = .type n) (hd : o.data = .fields vs)
    (hn:["enumerate","zip","dict_itemiterator","dict_reverseitemiterator","odict_iterator","itertools.zip_longest","itertools.pairwise"].contains n=Ξ) (hQ:Q () s):wpAny M A (letOwnedTupleGo tg (.ref it) u) Q E s:=by
  unfold letOwnedTupleGo
  cases tg<;>first
    | exact iO hQ
    | (cases u <;> first
        | exact iO hQ
        | (exact iR (iQ ho ?_)
           rw [hc, hd]
           show wpAny M A (if (["enumerate", "zip", "dict_itemiterator", "dict_reverseitemiterator", "odict_iterator", "itertools.zip_longest", "itertools.pairwise"].contains n && vs[0]? == Ψ (rawInt _)) = Ω then _ else _) Q E s
           rw [if_neg (by intro h; rw [hn, Bool.false_and] at h; cases h)]
           exact iO hQ))
abbrev Itl (K:ib)(a:jP):It :=
 ⟨λi H=>∃ xs x,SqL K H a xs/\xs[i]?=Ψ x,λi H x H'=>H'=H/\∀ xs,SqL K H a xs->xs[i]?=Ψ x,λi H=>∃ xs,SqL K H a xs/\xs.length<=i⟩
abbrev Itt (K:ib)(a:jP):It :=
 ⟨λi H=>∃ xs x,SqT K H a xs/\xs[i]?=Ψ x,λi H x H'=>H'=H/\∀ xs,SqT K H a xs->xs[i]?=Ψ x,λi H=>∃ xs,SqT K H a xs/\xs.length<=i⟩
abbrev NU (lo:Int) (n:Nat):It:=⟨λi _=>i<n,λi H x H'=>H'=H/\x=.int (lo+i),λi _=>n<=i⟩
def zt {P:jn}{w:jE}{K:ib}{tg:Expr}(a it:jP):Turn P w K tg (Itl K a) [it] it (λi h=>h.IsListIter it a i) where
 mem:=∅
 obj:=λi h st b hb=>by
  let e:b=it:=by simpa using hb
  subst e
  let(o,e,c,d):=st
  exact⟨o,e,λv z=>by rw[d] at z;cases z⟩
 keep:=λi h h' st k=>st.at λo e=>k it ∅ o e
 item:=by
  intro X hP hw hK hc i Z9 s σ H E I hf st hg
  subst hP hw hK
  let(xs,x,hq,hx):=hg
  let(Z7,rv,p,hz):=I.list hq
  let(u,hu,ru):=rv.get hx
  let(f0,f1,f2,f3,f4,f5):=hf it ∅
  exact wpAny_pyNext_list_item st p.isList (x:=u) (by simpa using hu) λh' st' sb=>?_
  let I1:Inv X Z9 σ H { s with heap:=h' }:=I.turned (t':=s.toks) (λb o hb e=>(sb.2 b hb).trans e) f0 f1 f3 f4 f5
  let(o,e,c,d):=id st'
  exact⟨u,rfl,wA (s:={ s with heap:=h' }) e c d (·) ⟨x,H,I1,ru,⟨rfl,λys hy=>by rw[I.list_inj hy hq];exact hx⟩,st',λb hb=>(hf b hb).1⟩⟩
 done:=by
  intro X hP hw hK hc i Z9 s σ H E I hf st hg
  subst hP hw hK
  let(xs,hq,hx):=hg
  let(Z7,rv,p,hz):=I.list hq
  let(f0,f1,f2,f3,f4,f5):=hf it ∅
  let hl:=rv.length
  exact wpAny_pyNext_list_end (I.ok.hd hc) st p.isList (by simp;lia) λh' eb=>⟨rfl,I.turned (t':=s.toks) (λb o hb e=>eb b o hb e) f0 f1 f3 f4 f5⟩
 self:=λ_ _ _ _ _ st h=>wpAny_pyIter_listiter st h
def xf {P:jn}{w:jE}{K:ib}{tg:Expr}(a it:jP):Turn P w K tg (Itt K a) [it] it (λi h=>h.IsTupleIter it a i) where
 mem:=∅
 obj:=λi h st b hb=>by
  let e:b=it:=by simpa using hb
  subst e
  let(o,e,c,d):=st
  exact⟨o,e,λv z=>by rw[d] at z;cases z⟩
 keep:=λi h h' st k=>st.at λo e=>k it ∅ o e
 item:=by
  intro X hP hw hK hc i Z9 s σ H E I hf st hg
  subst hP hw hK
  let(xs,x,hq,hx):=hg
  let(Z7,rv,p,hz):=I.tuple hq
  let(u,hu,ru):=rv.get hx
  let(f0,f1,f2,f3,f4,f5):=hf it ∅
  exact wpAny_pyNext_tuple_item st (show s.heap.IsTuple a Z7.toArray from p) (x:=u) (by simpa using hu) λh' st' sb=>?_
  let I1:Inv X Z9 σ H { s with heap:=h' }:=I.turned (t':=s.toks) (λb o hb e=>(sb.2 b hb).trans e) f0 f1 f3 f4 f5
  let(o,e,c,d):=id st'
  exact⟨u,rfl,wA (s:={ s with heap:=h' }) e c d (·) ⟨x,H,I1,ru,⟨rfl,λys hy=>by rw[I.tuple_inj hy hq];exact hx⟩,st',λb hb=>(hf b hb).1⟩⟩
 done:=by
  intro X hP hw hK hc i Z9 s σ H E I hf st hg
  subst hP hw hK
  let(xs,hq,hx):=hg
  let(Z7,rv,p,hz):=I.tuple hq
  let(f0,f1,f2,f3,f4,f5):=hf it ∅
  let hl:=rv.length
  exact wpAny_pyNext_tuple_end (I.ok.hd hc) st (show s.heap.IsTuple a Z7.toArray from p) (by simp;lia) λh' eb=>⟨rfl,I.turned (t':=s.toks) (λb o hb e=>eb b o hb e) f0 f1 f3 f4 f5⟩
 self:=λ_ _ _ _ _ st h=>wpAny_pyIter_tupleiter st h
def xg {P:jn}{w:jE}{K:ib}{tg:Expr}(it:jP) (lo:Int) (n:Nat):Turn P w K tg (NU lo n) [it] it (λi h=>IsRangeIter h it (lo+(i:Nat)*1) ((n:Int)-(i:Nat)) 1) where
 mem:=∅
 obj:=λi h st b hb=>by
  let e:b=it:=by simpa using hb
  subst e
  exact⟨_,st,λv z=>by
   let z':Data.fields _=Data.cell v:=z
   cases z'⟩
 keep:=λi h h' st k=>k it ∅ _ st
 item:=by
  intro X hP hw hK hc i Z9 s σ H E I hf st hg
  subst hP hw hK
  let(f0,f1,f2,f3,f4,f5):=hf it ∅
  let W:=Walks.range (prog:=X.prog) (w:=X.w) (I.ok.hd hc) it lo 1 n
  exact W.item i s _ _ hg st λv h' tk hv st' kk=>?_
  let(t,rfl):=hv
  let I1:Inv X Z9 σ H { s with heap:=h',toks:=tk }:=I.turned (λb o hb e=>kk b o (by simpa using hb) e) f0 f1 f3 f4 f5
  exact⟨_,rfl,wA (s:={ s with heap:=h',toks:=tk }) (n:="range_iterator") st' rfl rfl (·) ⟨.int (lo+i),H,I1,⟨t,?_⟩,⟨rfl,rfl⟩,st',λb hb=>(hf b hb).1⟩⟩
  rw[Int.mul_one]
 done:=by
  intro X hP hw hK hc i Z9 s σ H E I hf st hg
  subst hP hw hK
  let(f0,f1,f2,f3,f4,f5):=hf it ∅
  exact wpAny_pyNext_range_end (I.ok.hd hc) st (by have:n<=i:=hg;lia) λh' eb=>⟨rfl,I.turned (t':=s.toks) (λb o hb e=>eb b o hb e) f0 f1 f3 f4 f5⟩
 self:=λ_ _ _ _ _ st h=>wpAny_pyIter_rangeiter st h
section
variable {X:Cx}{tg:Expr}
def A8 {Z9:List (jP×Obj)}{σ:St}{H:Hp}{s:jw}{R:It->Hp->Prop}{E:jF->jw->Prop}{lo hi:Int}{t u v:Tok}{tk:Nat}(I:Inv X Z9 σ H s)(h1:-(2 ^ 62)<=lo)(h2:lo<2 ^ 62)(h3:-(2 ^ 62)<=hi)(h4:hi<2 ^ 62)
  (q:R (NU lo (hi-lo).toNat) H):wpAny (model X.prog X.w) X.A (pyIter (.ref s.heap.objs.size)) (PIE X Z9 σ tg R) E { s with heap:=s.heap.push { cls:=.type "range",data:=.fields #[.int lo t,.int hi u,.int 1 v] },toks:=tk }:=by
 exact wpAny_pyIter_range (IsRange.new ..) (small_one h1 h2 h3 h4) ?_
 let I1:Inv X Z9 σ H { s with heap:=s.heap.push { cls:=.type "range",data:=.fields #[.int lo t,.int hi u,.int 1 v] },toks:=tk }:=I.kept λb o e=>bx _ e
 refine⟨(s.heap.push { cls:=.type "range",data:=.fields #[.int lo t,.int hi u,.int 1 v] }).objs.size,[(s.heap.push { cls:=.type "range",data:=.fields #[.int lo t,.int hi u,.int 1 v] }).objs.size],_,_,H,rfl,
  I1.kept (t':=tk) λb o e=>bx _ e,xg _ lo (hi-lo).toNat,?_,λb hb=>?_,q⟩
 ·let e1:lo+((0:Nat):Int)*1=lo:=by simp
  let e2:(((hi-lo).toNat:Nat):Int)-((0:Nat):Int)=Builtin.Range.rangeSize lo hi 1:=by rw[rangeSize_one];split<;>lia
  show IsRangeIter _ _ (lo+((0:Nat):Int)*1) ((((hi-lo).toNat:Nat):Int)-((0:Nat):Int)) 1
  rw[e1,e2]
  exact cw _ rfl
 ·let e:b=(s.heap.push { cls:=.type "range",data:=.fields #[.int lo t,.int hi u,.int 1 v] }).objs.size:=by simpa using hb
  subst e
  exact I1.fpOk (iK _) (I1.hok.fresh (iK _))
abbrev Le (ta:TA):TI:=λσ H R=>ta σ H λvs H1=>∃ j:Int,vs=[.int j]/\-(2 ^ 62)<=j/\j<2 ^ 62/\R (NU 0 j.toNat) H1
def zM {a:Expr}{ta:TA}{p pos:Pos}(hg:Gl X "range")(hm:X.mg "range" = Φ)(ha:PA X [a] ta)(hs:starEach [a] X.env=[(Ξ,eval a X.env)]:=by rfl):PI X tg (.Call (.Name "range" p) [a] [] pos) (Le ta):=by
 intro Z9 s σ H R I h
 exact Call_ (lY I hg hm boot_range (aq (ko (ha pos Z9 s σ H _ I h) λus s1 ⟨vs,H1,I1,r1,q1⟩=>?_) hs rfl))
 let(j,e,q1,q2,q):=q1
 subst e
 cases r1 with
 | cons r rr =>
  cases rr
  let(t,rfl):=r
  exact call_range_1 (A8 I1 ⋯ ⋯ q1 q2 (by simpa using q))
abbrev N7 (wi:TI)(g:TG)(tb:TS):TS:=λD σ H=>wi σ H λJ H1=>∃ W:Nat->Nat->St->Hp->Prop,(∃ m,W 0 m σ H1)/\∀ i m σ H,W i m σ H ->
 (J.stop i H/\D.nx σ H) ∨ (J.go i H/\∃ N:St->Hp->Prop,(∀ σ' H',N σ' H'->∃ m',m'<m/\W (i+1) m' σ' H')/\∀ x H',J.yld i H x H'->g x σ H' λσ2 H2=>tb { D with nx:=N,ct:=N,bk:=D.nx } σ2 H2)
abbrev ph (fp:List jP)(h:jM):List (jP×Obj):=fp.filterMap λb=>(h.get? b).map λo=>(b,o)
def lh {fp:List jP}{h:jM}{b:jP}{o:Obj}(hb:b∈fp)(e:h.get? b=Ψ o):(b,o)∈ph fp h:=cP.mpr ⟨b,hb,by rw[e];rfl⟩
def zR {fp:List jP}{h:jM}{p:jP×Obj}(hp:p∈ph fp h):p.1∈fp/\h.get? p.1=Ψ p.2:=by
 let(b,hb,e):=cP.mp hp
 cases q:h.get? b with
 | none=>rw[q] at e;cases e
 | some o =>
  rw[q] at e
  let e':(b,o)=p:=fo e
  subst e'
  exact⟨hb,q⟩
def Inv.pinned {Z9:List (jP×Obj)}{σ:St}{H:Hp}{s:jw}{fp:List jP}(I:Inv X Z9 σ H s)(hf:∀ b∈fp,oZ X Z9 H b)(ho:∀ b∈fp,∃ o,s.heap.get? b=Ψ o/\∀ v,o.data≠.cell v):Inv X (Z9++ph fp s.heap) σ H s :=
 I.pins_of λp hp=>(fA.mp hp).elim (λz=>I.pin p (bH _ z)) λz=>by
  let(hb,e):=zR z
  let(f0,f1,f2,_):=hf p.1 hb
  let(o,e',d):=ho p.1 hb
  rw[e] at e';cases e'
  exact⟨e,f0,f1,f2,d⟩
def Inv.unpinned {Z9 pl:List (jP×Obj)}{σ:St}{H:Hp}{s:jw}(I:Inv X (Z9++pl) σ H s):Inv X Z9 σ H s:=I.pins_of λp hp=>I.pin p (bH _ (bU _ hp))
def G9 {Z6:Expr}{body:List jL}{wi:TI}{g:TG}{tb:TS}{pos:Pos}(hp:PassesOwn (model X.prog X.w) X.A X.env X.xe)(hc:X.calm=Ω)(hi:PI X tg Z6 wi)(hg:PG X tg g)(hb:PSs X body tb)
  (hs:∀ x,foldedSetIterable Z6 X.env x=pure x:=by intro _;rfl):PS X (.For tg Z6 body [] pos) (N7 wi g tb):=by
 intro Z9 s σ H D I h
 exact wpAny_For (ko (hi Z9 s σ H _ I h) λv s1 h1=>ko h1 λitv s2 h2=>?_) hs
 let(it,fp,tn,J,H2,e,I2,T,st2,f2,W,(m0,w0),turn):=h2
 subst e
 -- what stays Ω of the iterator's objects through the loop
 let stat:∀ {H':Hp},(∀ b∈fp,H' b=Φ)->∀ b∈fp,oZ X Z9 H' b:=λhn b hb=>⟨hn b hb,(f2 b hb).2⟩
 exact codeAny_forLoop_any (λn s'=>∃ i σ' H',Inv X Z9 σ' H' s'/\tn i s'.heap/\(∀ b∈fp,H' b=Φ)/\W i n σ' H') ?_ m0 ⟨0,σ,H2,I2,st2,λb hb=>(f2 b hb).1,w0⟩
 rintro n s3 ⟨i,σ3,H3,I3,st3,fr3,w3⟩
 rcases turn i n σ3 H3 w3 with⟨stop,qn⟩|⟨go,N,hN,step⟩
 ·exact eV hp (ko (T.done X rfl rfl rfl hc i Z9 s3 σ3 H3 X.xe I3 (stat fr3) st3 stop) λr s4 ⟨hr,I4⟩=>?_)
  subst hr
  exact eX ⟨σ3,H3,I4,qn⟩
 ·exact eV hp (ko (T.item X rfl rfl rfl hc i Z9 s3 σ3 H3 X.xe I3 (stat fr3) st3 go) λr s4 ⟨u,hr,h4⟩=>?_)
  subst hr
  exact eV hp (ko h4 λ_ s5 ⟨x,H5,I5,r5,y5,st5,fr5⟩=>?_)
  let I5':=I5.pinned (stat fr5) (T.obj _ _ st5)
  exact eV hp (ko (hg _ s5 σ3 H5 x u _ I5' r5 (step x H5 y5)) λ_ s6 ⟨σ6,H6,I6,q6⟩=>?_)
  exact eV hp (ko (hb _ s6 σ6 H6 _ I6 q6) λf s7 q7=>?_)
  let again:∀ {σ7:St}{H7:Hp},Inv X (Z9++ph fp s5.heap) σ7 H7 s7->N σ7 H7->∃ m,m<n/\∃ i σ' H',Inv X Z9 σ' H' s7/\tn i s7.heap/\(∀ b∈fp,H' b=Φ)/\W i m σ' H':=λ{σ7 H7} I7 n7=>by
   let(m',hm,w7):=hN σ7 H7 n7
   exact⟨m',hm,i+1,σ7,H7,I7.unpinned,T.keep _ _ _ st5 λb hb o e=>(I7.pin (b,o) (bH _ (bH _ (lh hb e)))).1,λb hb=>?_,w7⟩
   let(o,e,d):=T.obj _ _ st5 b hb
   exact (I7.pin (b,o) (bH _ (bH _ (lh hb e)))).2.1
  cases f with
  | next=>let(σ7,H7,I7,n7):=q7;exact again I7 n7
  | cont=>let(σ7,H7,I7,n7):=q7;exact again I7 n7
  | brk=>let(σ7,H7,I7,q7):=q7;exact⟨σ7,H7,I7.unpinned,q7⟩
  | ret v=>let(x7,σ7,H7,I7,r7,q7):=q7;exact⟨x7,σ7,H7,I7.unpinned,r7,q7⟩
end
noncomputable abbrev R2:=V->V->Hp->VK->Prop
abbrev mI (X:Cx)(f:jF->jF->Sem jF)(r:R2):Prop :=
 ∀ (Z9:List (jP×Obj))(s:jw)(σ:St)(H:Hp)(x y:V)(v u:jF)(Q:VK),Inv X Z9 σ H s->RelV x v->RelV y u->r x y H Q ->
  wpAny (model X.prog X.w) X.A (f v u) (EP X Z9 σ Q) X.xe s
abbrev Ra (X:Cx)(f:jF->Sem jF)(r:V->Hp->VK->Prop):Prop :=
 ∀ (Z9:List (jP×Obj))(s:jw)(σ:St)(H:Hp)(x:V)(v:jF)(Q:VK),Inv X Z9 σ H s->RelV x v->r x H Q ->
  wpAny (model X.prog X.w) X.A (f v) (EP X Z9 σ Q) X.xe s
abbrev kN (X:Cx)(f:jF)(r:List V->Hp->VK->Prop):Prop :=
 ∀ (Z9:List (jP×Obj))(s:jw)(σ:St)(H:Hp)(xs:List V)(us:List jF)(Q:VK),Inv X Z9 σ H s->Vals xs us->r xs H Q ->
  wpAny (model X.prog X.w) X.A (call f us) (EP X Z9 σ Q) X.xe s
abbrev Rb (X:Cx)(r:V->Hp->(Bool->Hp->Prop)->Prop):Prop :=
 ∀ (Z9:List (jP×Obj))(s:jw)(σ:St)(H:Hp)(x:V)(v:jF)(Q:Bool->Hp->Prop),Inv X Z9 σ H s->RelV x v->r x H Q ->
  wpAny (model X.prog X.w) X.A (truthy v) (TP X Z9 σ Q) X.xe s
abbrev F2 (r:R2)(ta tb:TE):TE:=λσ H Q=>ta σ H λx H1=>tb σ H1 λy H2=>r x y H2 Q
abbrev tUn (r:V->Hp->VK->Prop)(ta:TE):TE:=λσ H Q=>ta σ H λx H1=>r x H1 Q
inductive rI (C:Int->Int->Prop)(g:Int->Int->V)(x:V)(y:V)(H:Hp)(Q:VK):Prop
 | mk (i:_)(j:_)(_:x=.int i)(_:y=.int j)(_:C i j)(_:Q (g i j) H):rI C g x y H Q
inductive rI0 (g:Int->Int->V)(x:V)(y:V)(H:Hp)(Q:VK):Prop
 | mk (i:_)(j:_)(_:x=.int i)(_:y=.int j)(_:Q (g i j) H):rI0 g x y H Q
inductive rU (g:Int->V)(x:V)(H:Hp)(Q:VK):Prop
 | mk (i:_)(_:x=.int i)(_:Q (g i) H):rU g x H Q
section
variable {X:Cx}{a b:Expr}{ta tb:TE}{pos:Pos}
def Jb (ha:PE X a ta)(hb:PE X b tb){Z9:List (jP×Obj)}{s:jw}{σ:St}{H:Hp}{R:V->V->Hp->Prop}(I:Inv X Z9 σ H s)
  (h:ta σ H λx H1=>tb σ H1 λy H2=>R x y H2){Q:jF->jw->Prop}{f:jF->jF->Sem jF}
  (hf:∀ v u s2 x y H2,Inv X Z9 σ H2 s2->RelV x v->RelV y u->R x y H2->wpAny (model X.prog X.w) X.A (f v u) Q X.xe s2) :
  wpAny (model X.prog X.w) X.A (eval a X.env) (λv s₁=>wpAny (model X.prog X.w) X.A (eval b X.env) (λu s₂=>wpAny (model X.prog X.w) X.A (f v u) Q X.xe s₂) X.xe s₁) X.xe s:=by
 exact ko (ha Z9 s σ H _ I h) λv s1 q1=>?_;let(x,H1,I1,r1,q1):=q1
 exact ko (hb Z9 s1 σ H1 _ I1 q1) λu s2 q2=>?_;let(y,H2,I2,r2,q2):=q2
 exact hf v u s2 x y H2 I2 r1 r2 q2
def Gb {op:ji}{r:R2}(ho:mI X (binaryOp op) r)(ha:PE X a ta)(hb:PE X b tb):PE X (.BinOp a op b pos) (F2 r ta tb):=by
 intro Z9 s σ H Q I h
 exact wpAny_BinOp (Jb ha hb I h λv u s2 x y H2 I2 rx ry q=>ho Z9 s2 σ H2 x y v u Q I2 rx ry q)
def KN {op:UnaryOp}{r:V->Hp->VK->Prop}(ho:Ra X (unaryOp op) r)(ha:PE X a ta):PE X (.UnaryOp op a pos) (tUn r ta):=by
 intro Z9 s σ H Q I h
 exact UnaryOp_ (ko (ha Z9 s σ H _ I h) λv s1 q1=>by let(x,H1,I1,r1,q1):=q1;exact ho Z9 s1 σ H1 x v Q I1 r1 q1)
def MH {f:jF->jF->Sem jF}{C:Int->Int->Prop}{g:Int->Int->Int}
  (rule:∀ (i j:Int)(t u:Tok)(s:jw)(Q:jF->jw->Prop)(E:jF->jw->Prop),C i j->Q (.int (g i j) s.toks) { s with toks:=s.toks+1 }->wpAny (model X.prog X.w) X.A (f (.int i t) (.int j u)) Q E s) :
  mI X f (rI C λi j=>.int (g i j)):=by
 intro Z9 s σ H x y v u Q I rx ry h
 let(i,j,rfl,rfl,hc,q):=h
 let(t,rfl):=rx
 let(t',rfl):=ry
 exact rule i j t t' s _ _ hc ⟨.int (g i j),H,I.tok _,⟨_,rfl⟩,q⟩
def K0 {f:jF->jF->Sem jF}{g:Int->Int->Int}
  (rule:∀ (i j:Int)(t u:Tok)(s:jw)(Q:jF->jw->Prop)(E:jF->jw->Prop),Q (.int (g i j) s.toks) { s with toks:=s.toks+1 }->wpAny (model X.prog X.w) X.A (f (.int i t) (.int j u)) Q E s) :
  mI X f (rI0 λi j=>.int (g i j)):=by
 intro Z9 s σ H x y v u Q I rx ry h
 let(i,j,rfl,rfl,q):=h
 let(t,rfl):=rx
 let(t',rfl):=ry
 exact rule i j t t' s _ _ ⟨.int (g i j),H,I.tok _,⟨_,rfl⟩,q⟩
def Hv {f:jF->jF->Sem jF}{g:Int->Int->Bool}
  (rule:∀ (i j:Int)(t u:Tok)(s:jw)(Q:jF->jw->Prop)(E:jF->jw->Prop),Q (.bool (g i j)) s->wpAny (model X.prog X.w) X.A (f (.int i t) (.int j u)) Q E s) :
  mI X f (rI0 λi j=>.bl (g i j)):=by
 intro Z9 s σ H x y v u Q I rx ry h
 let(i,j,rfl,rfl,q):=h
 let(t,rfl):=rx
 let(t',rfl):=ry
 exact rule i j t t' s _ _ ⟨.bl (g i j),H,I,rfl,q⟩
abbrev Rn (i j:Int):Prop:=0<j/\j<1073741824
abbrev Rl (i j:Int):Prop:=0<=j/\j<=1000000/\i.natAbs<2 ^ 64
abbrev CMul (i j:Int):Prop:=(-(2 ^ 64)<i/\i<2 ^ 64) ∨ (-(2 ^ 64)<j/\j<2 ^ 64)
def CMul.ok {i j:Int}(h:CMul i j):IntMulOk i j:=by
 rcases h with⟨h1,h2⟩|⟨h1,h2⟩
 ·exact .of_left (gD h1 h2)
 ·exact .of_right (gD h1 h2)
def Hu:mI X (binaryOp .Add) (rI0 λi j=>.int (i+j)):=K0 λ_ _ _ _ _ _ _ q=>add_int q
def Hm:mI X (binaryOp .Sub) (rI0 λi j=>.int (i-j)):=K0 λ_ _ _ _ _ _ _ q=>sub_int q
def Hq:mI X (binaryOp .Mult) (rI CMul λi j=>.int (i*j)):=MH λ_ _ _ _ _ _ _ hc q=>mul_int q hc.ok
def Eh:mI X (binaryOp .FloorDiv) (rI Rn λi j=>.int (i / j)):=MH λi j _ _ _ _ _ hc q=>by
 let h1:(0:Int)<j:=hc.1
 let h2:j<1073741824:=hc.2
 exact floordiv_int ⋯ (by rw[Int.fdiv_eq_ediv_of_nonneg i ⋯];exact q) (.inl (PyProof.noPylong_small ⋯))
def Hr:mI X (binaryOp .Mod) (rI (λ_ j=>0<j) λi j=>.int (i % j)):=MH λi j _ _ _ _ _ hc q=>by
 let h1:(0:Int)<j:=hc
 exact mod_int' ⋯ (by rw[Int.fmod_eq_emod_of_nonneg i ⋯];exact q)
def Ho:mI X (binaryOp .Pow) (rI Rl λi j=>.int (i ^ j.toNat)):=MH λ_ _ _ _ _ _ _ hc q=>pow_int_small hc.1 hc.2.1 hc.2.2 q
def unI {f:jF->Sem jF}{g:Int->Int}
  (rule:∀ (i:Int)(t:Tok)(s:jw)(Q:jF->jw->Prop)(E:jF->jw->Prop),Q (.int (g i) s.toks) { s with toks:=s.toks+1 }->wpAny (model X.prog X.w) X.A (f (.int i t)) Q E s) :
  Ra X f (rU λi=>.int (g i)):=by
 intro Z9 s σ H x v Q I rx h
 let(i,rfl,q):=h
 let(t,rfl):=rx
 exact rule i t s _ _ ⟨.int (g i),H,I.tok _,⟨_,rfl⟩,q⟩
def GD:Ra X (unaryOp .USub) (rU λi=>.int (-i)):=unI λ_ _ _ _ _ q=>neg_int q
end
abbrev Kv:V->V->Bool
 | .non,.non=>Ω|.non,.int _=>Ω|.int _,.non=>Ω|.non,.bl _=>Ω|.bl _,.non=>Ω|.non,.str _=>Ω|.str _,.non=>Ω
 | .int _,.int _=>Ω|.bl _,.bl _=>Ω|.str _,.str _=>Ω|.byt _,.byt _=>Ω
 | .int _,.str _=>Ω|.str _,.int _=>Ω|.bl _,.str _=>Ω|.str _,.bl _=>Ω
 | _,_=>Ξ
abbrev rEq:R2:=λx y H Q=>Kv x y=Ω/\Q (.bl (Δ (x=y))) H
abbrev rNe:R2:=λx y H Q=>Kv x y=Ω/\Q (.bl (!Δ (x=y))) H
def y0 {i j:Int}:Δ (V.int i=V.int j)=(i == j):=by
 rw[fL]
 simp
def C4 {i j:Bool}:Δ (V.bl i=V.bl j)=(i == j):=by
 rw[fL]
 simp
def yZ {i j:Str}:Δ (V.str i=V.str j)=(i == j):=by
 rw[fL]
 simp
def za {i j:Array UInt8}:Δ (V.byt i=V.byt j)=(i.toList == j.toList):=by
 rw[fL]
 cases i
 cases j
 simp
section
variable {X:Cx}{a b:Expr}{ta tb:TE}{pos:Pos}
def kA {Z9:List (jP×Obj)}{σ:St}{H:Hp}{s:jw}{Q:VK}{k k':Bool}(I:Inv X Z9 σ H s)(q:Q (.bl k) H)(e:k=k'):EP X Z9 σ Q (.bool k') s:=by
 subst e
 exact⟨.bl k,H,I,rfl,q⟩
def KZ:mI X (compareOp .Eq) rEq:=by
 intro Z9 s σ H x y v u Q I rx ry h
 let(hs,q):=h
 cases x with
 | non =>
  cases rx
  cases y with
  | non=>cases ry;exact PySem.EqNone.eq_none_none (kA I q ∅)
  | bl j=>cases ry;exact PySem.EqNone.eq_none_bool (kA I q ∅)
  | int j=>let(t',rfl):=ry;exact PySem.EqNone.eq_none_int (kA I q ∅)
  | str j=>let(t',rfl):=ry;exact PySem.EqNone.eq_none_str (kA I q ∅)
  | _=>exact absurd (show Ξ=Ω from hs) cU
 | bl i =>
  cases rx
  cases y with
  | non=>cases ry;exact PySem.EqNone.eq_bool_none (kA I q ∅)
  | bl j=>cases ry;exact eq_bool (kA I q C4)
  | str j=>let(t',rfl):=ry;exact PySem.EqMixed.eq_bool_str (kA I q ∅)
  | _=>exact absurd (show Ξ=Ω from hs) cU
 | int i =>
  let(t,rfl):=rx
  cases y with
  | non=>cases ry;exact PySem.EqNone.eq_int_none (kA I q ∅)
  | int j=>let(t',rfl):=ry;exact eq_int (kA I q y0)
  | str j=>let(t',rfl):=ry;exact PySem.EqMixed.eq_int_str (kA I q ∅)
  | _=>exact absurd (show Ξ=Ω from hs) cU
 | str i =>
  let(t,rfl):=rx
  cases y with
  | non=>cases ry;exact PySem.EqNone.eq_str_none (kA I q ∅)
  | bl j=>cases ry;exact PySem.EqMixed.eq_str_bool (kA I q ∅)
  | int j=>let(t',rfl):=ry;exact PySem.EqMixed.eq_str_int (kA I q ∅)
  | str j=>let(t',rfl):=ry;exact eq_str (kA I q yZ)
  | _=>exact absurd (show Ξ=Ω from hs) cU
 | byt i =>
  let(t,rfl):=rx
  cases y with
  | byt j=>let(t',rfl):=ry;exact PySem.W.eq_bytes (kA I q za)
  | _=>exact absurd (show Ξ=Ω from hs) cU
 | _=>cases y<;>exact absurd (show Ξ=Ω from hs) cU
def KS:mI X (compareOp .NotEq) rNe:=by
 intro Z9 s σ H x y v u Q I rx ry h
 let(hs,q):=h
 cases x with
 | non =>
  cases rx
  cases y with
  | non=>cases ry;exact PySem.EqNone.ne_none_none (kA I q ∅)
  | bl j=>cases ry;exact PySem.EqNone.ne_none_bool (kA I q ∅)
  | int j=>let(t',rfl):=ry;exact PySem.EqNone.ne_none_int (kA I q ∅)
  | str j=>let(t',rfl):=ry;exact PySem.EqNone.ne_none_str (kA I q ∅)
  | _=>exact absurd (show Ξ=Ω from hs) cU
 | bl i =>
  cases rx
  cases y with
  | non=>cases ry;exact PySem.EqNone.ne_bool_none (kA I q ∅)
  | bl j=>cases ry;exact ne_bool (kA I q (congrArg not C4))
  | str j=>let(t',rfl):=ry;exact PySem.EqMixed.ne_bool_str (kA I q ∅)
  | _=>exact absurd (show Ξ=Ω from hs) cU
 | int i =>
  let(t,rfl):=rx
  cases y with
  | non=>cases ry;exact PySem.EqNone.ne_int_none (kA I q ∅)
  | int j=>let(t',rfl):=ry;exact ne_int (kA I q (congrArg not y0))
  | str j=>let(t',rfl):=ry;exact PySem.EqMixed.ne_int_str (kA I q ∅)
  | _=>exact absurd (show Ξ=Ω from hs) cU
 | str i =>
  let(t,rfl):=rx
  cases y with
  | non=>cases ry;exact PySem.EqNone.ne_str_none (kA I q ∅)
  | bl j=>cases ry;exact PySem.EqMixed.ne_str_bool (kA I q ∅)
  | int j=>let(t',rfl):=ry;exact PySem.EqMixed.ne_str_int (kA I q ∅)
  | str j=>let(t',rfl):=ry;exact ne_str (kA I q (congrArg not yZ))
  | _=>exact absurd (show Ξ=Ω from hs) cU
 | byt i =>
  let(t,rfl):=rx
  cases y with
  | byt j=>let(t',rfl):=ry;exact PySem.W.ne_bytes (kA I q (congrArg not za))
  | _=>exact absurd (show Ξ=Ω from hs) cU
 | _=>cases y<;>exact absurd (show Ξ=Ω from hs) cU
def KU:mI X (compareOp .Lt) (rI0 λi j=>.bl (Δ (i<j))):=Hv λ_ _ _ _ _ _ _ q=>lt_int q
def KW:mI X (compareOp .Gt) (rI0 λi j=>.bl (Δ (j<i))):=Hv λ_ _ _ _ _ _ _ q=>gt_int q
def KY:mI X (compareOp .GtE) (rI0 λi j=>.bl (Δ (j<=i))):=Hv λ_ _ _ _ _ _ _ q=>ge_int q
def yv {op:jK}{r:R2}(ho:mI X (compareOp op) r)(ha:PE X a ta)(hb:PE X b tb)(hm:behindInMarks op b=Ξ):PE X (.Compare a [op] [b] pos) (F2 r ta tb):=by
 intro Z9 s σ H Q I h
 exact wpAny_Compare1 (Jb ha hb I h λv u s2 x y H2 I2 rx ry q=>ho Z9 s2 σ H2 x y v u Q I2 rx ry q) hm
abbrev Kd (t:TE):TT:=λσ H Q=>t σ H λx H'=>∃ k,x=.bl k/\Q k H'
def DS {op:jK}{r:R2}(ho:mI X (compareOp op) r)(ha:PE X a ta)(hb:PE X b tb)(hm:behindInMarks op b=Ξ):PT X (.Compare a [op] [b] pos) (Kd (F2 r ta tb)):=by
 intro Z9 s σ H Q I h
 refine bA (ko (ha Z9 s σ H _ I h) λv s1 ⟨x,H1,I1,r1,q1⟩=>ko (hb Z9 s1 σ H1 _ I1 q1) λu s2 ⟨y,H2,I2,r2,q2⟩ =>
  ko (ho Z9 s2 σ H2 x y v u _ I2 r1 r2 q2) λc s3 ⟨z,H3,I3,r3,k,e,q3⟩=>?_) hm
 subst e
 cases r3
 exact cW ⟨H3,I3,q3⟩
abbrev Dn (K:ib)(x:V)(H:Hp)(k:Bool):Prop :=
 match x with
 | .non=>k=Ξ
 | .bl b=>k=b
 | .int i=>k=(i != 0)
 | .str y=>y.length<=sizeLine/\k=((y.length:Int) != 0)
 | .byt y=>y.size<=sizeLine/\k=((y.size:Int) != 0)
 | .ref p=>(∃ xs,SqL K H p xs/\k = !xs.isEmpty) ∨ (∃ xs,SqT K H p xs/\k = !xs.isEmpty) ∨ ∃ kvs,H p=Ψ (.dK kvs)/\k = !kvs.isEmpty
 | _=>False
def xJ {κ:Type}{kvs:List (κ×V)}{vs:List (κ×jF)}(r:KV kvs vs):(!vs.isEmpty) = !kvs.isEmpty:=by
 cases r<;>rfl
def rS {xs:List V}{Z7:List jF}(r:Vals xs Z7):(!Z7.toArray.isEmpty) = !xs.isEmpty:=by
 cases r<;>simp
def rO:(sizeLine:Nat)<2 ^ 63:=by rw[iE];decide
def xj:Rb X (λx H Q=>∃ k,Dn X.K x H k/\Q k H):=by
 intro Z9 s σ H x v Q I rx h
 let(k,e,q):=h
 let hl:=rO
 let hs:sizeLine=16777216:=iE
 cases x with
 | non =>
  cases rx
  let e':k=Ξ:=e
  subst e'
  exact truthy_none ⟨H,I,q⟩
 | bl b =>
  cases rx
  let e':k=b:=e
  subst e'
  exact cW ⟨H,I,q⟩
 | int i =>
  let(t,rfl):=rx
  let e':k=(i != 0):=e
  subst e'
  exact PySem.P.truthy_int ⟨H,I,q⟩
 | str y =>
  let(t,rfl):=rx
  obtain⟨hy,e'⟩:y.length<=sizeLine/\k=((y.length:Int) != 0):=e
  subst e'
  exact PySem.P.truthy_str ⋯ ⟨H,I.tok _,q⟩
 | byt y =>
  let(t,rfl):=rx
  obtain⟨hy,e'⟩:y.size<=sizeLine/\k=((y.size:Int) != 0):=e
  subst e'
  exact PySem.W.truthy_bytes ⋯ ⟨H,I.tok _,q⟩
 | ref p =>
  cases rx
  let e':(∃ xs,SqL X.K H p xs/\k = !xs.isEmpty) ∨ (∃ xs,SqT X.K H p xs/\k = !xs.isEmpty) ∨ ∃ kvs,H p=Ψ (.dK kvs)/\k = !kvs.isEmpty:=e
  rcases e' with⟨xs,hx,e'⟩|⟨xs,hx,e'⟩|⟨kvs,hx,e'⟩
  ·subst e'
   let(Z7,r,pl,hz):=I.list hx
   let hlen:=r.length
   exact wpAny_truthy_list pl.isList (by simp -iota only[dG];lia) ⟨H,I.tok _,by rw[rS r];exact q⟩
  ·subst e'
   let(Z7,r,pl,hz):=I.tuple hx
   let hlen:=r.length
   exact truthy_tuple pl (by simp -iota only[dG];lia) ⟨H,I.tok _,by rw[rS r];exact q⟩
  ·subst e'
   obtain⟨hz,hS,vs,r,m⟩:kvs.length<=sizeLine/\(p == sysModules)=Ξ/\∃ vs,KV kvs vs/\s.heap.DictOf (kH X.prog X.w) p vs:=I.hok p _ hx
   let hlen:kvs.length=vs.length:=gI r
   exact wpAny_truthy_dict hS m ⋯ ⟨H,I.tok _,by rw[xJ r];exact q⟩
 | _=>exact (show False from e).elim
def Be (ha:PE X a ta)(he:∀ nZ,isTrue a X.env nZ=(do let v <- nZ;standAt a.pos;holding [v] (truthy v))) :
  PT X a (λσ H Q=>ta σ H λx H'=>∃ k,Dn X.K x H' k/\Q k H'):=by
 intro Z9 s σ H Q I h
 exact isTrue_plain (ko (ha Z9 s σ H _ I h) λv s1 q1=>by let(x,H1,I1,r1,q1):=q1;exact xj Z9 s1 σ H1 x v Q I1 r1 q1) (he _)
def vals1 {x:V}{us:List jF}(r:Vals [x] us):∃ u,us=[u]/\RelV x u:=by
 cases r with
 | cons r1 r2=>cases r2;exact⟨_,rfl,r1⟩
def vals2 {x y:V}{us:List jF}(r:Vals [x,y] us):∃ u w',us=[u,w']/\RelV x u/\RelV y w':=by
 cases r with
 | cons r1 r2 =>
  cases r2 with
  | cons r3 r4=>cases r4;exact⟨_,_,rfl,r1,r3⟩
def De:kN X (.builtin "abs") (λxs H Q=>∃ i,xs=[.int i]/\Q (.int (if i<0 then -i else i)) H):=by
 intro Z9 s σ H xs us Q I r h
 let(i,rfl,q):=h
 let(u,rfl,t,rfl):=vals1 r
 exact call_abs_int λu tk=>⟨.int (if i<0 then -i else i),H,I.tok _,⟨_,rfl⟩,q⟩
def At (hc:X.calm=Ω):kN X (.builtin "max") (λxs H Q=>∃ i j,xs=[.int i,.int j]/\Q (.int (if j > i then j else i)) H):=by
 intro Z9 s σ H xs us Q I r h
 let(i,j,rfl,q):=h
 let(u,w',rfl,(t,rfl),(t',rfl)):=vals2 r
 exact max_two_ints (I.ok.hd hc) λh' tk k=>⟨_,H,I.kept k,?_,q⟩
 by_cases hj:j > i
 ·rw[if_pos hj,if_pos hj];exact⟨_,rfl⟩
 ·rw[if_neg hj,if_neg hj];exact⟨_,rfl⟩
def As (hc:X.calm=Ω):kN X (.builtin "min") (λxs H Q=>∃ i j,xs=[.int i,.int j]/\Q (.int (if j<i then j else i)) H):=by
 intro Z9 s σ H xs us Q I r h
 let(i,j,rfl,q):=h
 let(u,w',rfl,(t,rfl),(t',rfl)):=vals2 r
 exact min_two_ints (I.ok.hd hc) λh' tk k=>⟨_,H,I.kept k,?_,q⟩
 by_cases hj:j<i
 ·rw[if_pos hj,if_pos hj];exact⟨_,rfl⟩
 ·rw[if_neg hj,if_neg hj];exact⟨_,rfl⟩
def uc:kN X (.type "int") (λxs H Q=>(∃ i,xs=[.int i]/\Q (.int i) H) ∨ ∃ k,xs=[.bl k]/\Q (.int (if k then 1 else 0)) H):=by
 intro Z9 s σ H xs us Q I r h
 rcases h with⟨i,rfl,q⟩|⟨k,rfl,q⟩
 ·let(u,rfl,t,rfl):=vals1 r
  exact call_int_int ⟨.int i,H,I,⟨_,rfl⟩,q⟩
 ·let(u,rfl,r1):=vals1 r
  cases r1
  exact call_int_bool ⟨.int (if k then 1 else 0),H,I.tok _,⟨_,rfl⟩,q⟩
def vk:kN X (.type "str") (λxs H Q=>∃ i,xs=[.int i]/\i.natAbs.log2<1920/\Q (.str (toString i)) H):=by
 intro Z9 s σ H xs us Q I r h
 let(i,rfl,hz,q):=h
 let(u,rfl,t,rfl):=vals1 r
 exact PySem.P.str_of_int hz ⟨.str _,H,I.tok _,⟨_,rfl⟩,q⟩
end
structure ObjM (h:jM)(x dx C:jP)(mA:Str->Option jF):Prop where
 obj:h.get? x=Ψ (fi C dx)
 ns:h.Ns1 dx mA
 ne:dx≠x
def zW {h:jM}{dx:jP}{mA:Str->Option jF}(n:h.Ns1 dx mA):∃ od,h.get? dx=Ψ od/\∀ name,fW name od=Ψ (mA name):=by
 let(o,es,ep,ho,hd,hk,_,hm):=n
 exact⟨o,ho,λname=>?_⟩
 let e:=hm name
 unfold nsFind findBy at e
 rw[<- Array.find?_toList] at e
 unfold fW
 rw[hd]
 dsimp only
 split
 ·rename_i y q
  rw[q] at e
  exact congrArg Ψ e
 ·rename_i q
  rw[q] at e
  let a:es.toList.any (·.refKey)=Ξ:=by
   rw[List.any_eq_false]
   intro y hy
   let(z,t,hkey):=hk y (Array.mem_toList_iff.mp hy)
   simp[DictEntry.refKey,hkey]
  let a':¬ es.toList.any (·.refKey)=Ω:=by rw[a];exact cU
  rw[if_neg a']
  exact congrArg Ψ e
def ObjM.look {h:jM}{x dx C:jP}{mA:Str->Option jF}(I:ObjM h x dx C mA):∃ od,PySem.W.InstAt h x (fi C dx) C (Ψ od)/\∀ name,fW name od=Ψ (mA name) :=
 let ⟨od,ho,hl⟩:=zW I.ns
 ⟨od,⟨I.obj,rfl,rfl,ho⟩,hl⟩
section
variable {prog:jn}{w:jE}{A:jD}{E:jF->jw->Prop}{s:jw}{K:ib}{x dx C f:jP}{mA:Str->Option jF}{name:Str}{v:jF}
def EO {expr:Bool}{Q:jF->jw->Prop}(X:K.In s.heap)(I:ObjM s.heap x dx C mA)(hg:ef K C name=Ω)(hh:PySem.W.hasDictIn K C=Ω)
  (ha:fZ K (.ref C) name=Ψ Φ)(hv:mA name=Ψ v)(hv':PySem.W.handedIn v=Ω)(h:Q v { s with toks:=s.toks+1 }) :
  wpAny (model prog w) A (getAttr (.ref x) name expr) Q E s:=by
 let(od,J,hl):=I.look
 exact PySem.W.get_value X J (PySem.W.plainGet_of hg).1 (PySem.W.findObj_own hh ha rfl (by rw[hl,hv])) hv' h
def Cq {pl:Sem Bool}{Q:jF×List jF->jw->Prop}(X:K.In s.heap)(I:ObjM s.heap x dx C mA)(hg:ef K C name=Ω)
  (hf:fZ K (.ref C) name=Ψ (Ψ (.ref f)))(ht:PySem.W.isFn K (.ref f)=Ω)(hv:mA name=Φ)(h:Q (.ref f,[.ref x]) s) :
  wpAny (model prog w) A (getMethod (.ref x) name pl) Q E s:=by
 let(od,J,hl):=I.look
 exact PySem.W.method_fn X J (PySem.W.plainGet_of hg).1 (PySem.W.plainGet_of hg).2 hf (beq_iff_eq.mp ht) (by show (fW name od).map (·.isSome)=Ψ Ξ;rw[hl,hv];rfl) h
def DK {ns:List Str}{Q:Unit->jw->Prop}(X:K.In s.heap)(I:ObjM s.heap x dx C mA)
  (hs:fZ K (.ref C) "__setattr__" = Ψ (Ψ (.builtin "object.__setattr__")))(hp:PySem.W.plainOver K C=Ω)(ht:PySem.W.takerIn K C name=Ψ Φ)(hh:PySem.W.hasDictIn K C=Ω)
  (hw:hZ mA ns)(hsz:ns.length<=sizeLine)
  (h:∀ h',ObjM h' x dx C (λy=>if y=name then Ψ v else mA y)->iz dx s.heap h'->Q () { s with heap:=h',toks:=s.toks+2 }) :
  wpAny (model prog w) A (setAttr (.ref x) name v) Q E s:=by
 let(od,J,hl):=I.look
 exact PySem.W.set_plain X J hs (PySem.W.osa_open (s:={ s with toks:=s.toks+1 }) (r:=Φ) X J hp ht λb=>?_)
 let(cd,hc,hd'):=PySem.W.any_some hh
 let hx:s.heap.get? x=Ψ ⟨.ref C,Ψ dx,.plain,#[]⟩:=I.obj
 exact iR (iO (iR (iR (wpAny_loadPart hx (iR (PySem.W.Looks.here (s:={ s with toks:=s.toks+1 }) (PySem.W.looks_clsIn X hc) ?_))))))
 rw[hd']
 exact iO (a:=Ψ dx) (iR (iO (iR ?_)))
 exact wpAny_nsSet1 (s:={ s with toks:=s.toks+1 }) I.ns λh' hn2 hs2=>?_
 let(oD,esD,epD,hoD,hdD,hcD):=hn2.count (PySem.Within.cons name v hw)
 exact iR (wpAny_lookBehind hoD (by rw[hdD];exact pastItsLine_dict (ik hcD (by rw[eK];lia))) ?_)
 exact iO (h _ ⟨(hs2.2 _ (jp I.ne)).trans I.obj,hn2,I.ne⟩ hs2)
def BO {R:jx->jw->Prop}{vs:List jF}{kw:List (Str×jF)}(X:K.In s.heap)(hm:PySem.W.makesIn K C=Ω)
  (hi:fZ K (.ref C) "__init__" = Ψ (Ψ (.ref f)))(hf:PySem.W.typeIn K (.ref f)=Ψ (.type "function"))
  (h:codeAny (model prog w) (A.under (.builtin "type.__call__" ⟨.ref C :: vs,kw⟩)) (.call (.ref f) ⟨.ref (s.heap.objs.size+1) :: vs,kw⟩) (PySem.W.InitBack (s.heap.objs.size+1) R)
   { s with heap:=(s.heap.push PySem.W.emptyDict).push (fi C s.heap.objs.size) }) :
  codeAny (model prog w) A (.call (.ref C) ⟨vs,kw⟩) R s:=by
 let(hh,g,d,t,os):=s
 exact PySem.W.make_core (PySem.W.makes_of X hm) (PySem.W.looks_findIn X hi) (λself=>PySem.W.bind_fn X self hf) (.inl rfl) h
end
abbrev lS (f:Str)(v:V):List (Str×V)->List (Str×V)
 | []=>[(f,v)]
 | (g,x) :: r=>if g=f then (g,v) :: r else (g,x) :: lS f v r
def qE (f g:Str)(v:V):∀ fs:List (Str×V),(lS f v fs).lookup g=if g=f then Ψ v else fs.lookup g
 | []=>by
  show List.lookup g [(f,v)]=_
  by_cases h:g=f
  ·let hb:(g == f)=Ω:=beq_iff_eq.mpr h
   simp![List.lookup,hb,if_pos h]
  ·let hb:(g == f)=Ξ:=beq_eq_false_iff_ne.mpr h
   simp![List.lookup,hb,if_neg h]
 | (k,x) :: r=>by
  let ih:=qE f g v r
  rw[show lS f v ((k,x) :: r)=(if k=f then (k,v) :: r else (k,x) :: lS f v r) from rfl]
  by_cases hk:k=f
  ·rw[if_pos hk]
   by_cases h:g=k
   ·let hb:(g == k)=Ω:=beq_iff_eq.mpr h
    simp![List.lookup,hb,if_pos (h.trans hk)]
   ·let hb:(g == k)=Ξ:=beq_eq_false_iff_ne.mpr h
    simp![List.lookup,hb,if_neg (λe:g=f=>h (e.trans hk.symm))]
  ·rw[if_neg hk]
   by_cases h:g=k
   ·let hb:(g == k)=Ω:=beq_iff_eq.mpr h
    simp![List.lookup,hb,if_neg (λe:g=f=>hk (h.symm.trans e))]
   ·let hb:(g == k)=Ξ:=beq_eq_false_iff_ne.mpr h
    simp![List.lookup,hb]
    exact ih
def qm (f:Str)(v:V):∀ fs:List (Str×V),f∈(lS f v fs).map (·.1)/\∀ g,g∈fs.map (·.1)->g∈(lS f v fs).map (·.1)
 | []=>⟨by simp[lS],λg h=>by simp at h⟩
 | (k,x) :: r=>by
  let(i1,i2):=qm f v r
  rw[show lS f v ((k,x) :: r)=(if k=f then (k,v) :: r else (k,x) :: lS f v r) from rfl]
  by_cases hk:k=f
  ·rw[if_pos hk]
   subst hk
   exact⟨∅,λg h=>by simpa using h⟩
  ·rw[if_neg hk]
   exact⟨?_,λg h=>?_⟩
   ·rw[gN]
    exact bT _ i1
   ·rw[gN] at h ⊢
    rcases gM.mp h with e|e
    ·exact gM.mpr (.inl e)
    ·exact bT _ (i2 g e)
def qF (f:Str)(v:V):∀ fs:List (Str×V),(lS f v fs).length<=fs.length+1
 | []=>by simp[lS]
 | (k,x) :: r=>by
  let ih:=qF f v r
  rw[show lS f v ((k,x) :: r)=(if k=f then (k,v) :: r else (k,x) :: lS f v r) from rfl]
  by_cases hk:k=f
  ·rw[if_pos hk,eK,eK];lia
  ·rw[if_neg hk,eK,eK];lia
def RelO.some_of {v:V}{o:Option jF}(r:RelO (Ψ v) o):∃ u,o=Ψ u/\RelV v u:=by
 cases o with
 | none=>exact (show False from r).elim
 | some u=>exact⟨u,rfl,r⟩
def RelO.none_of {o:Option jF}(r:RelO Φ o):o=Φ:=by
 cases o with
 | none=>rfl
 | some u=>exact (show False from r).elim
def Ad {v:V}{u:jF}(r:RelV v u):PySem.W.handedIn u=Ω:=by
 cases v with
 | non=>cases (show u=Value.none from r);rfl
 | bl b=>cases (show u=Value.bool b from r);rfl
 | int i=>let(t,e):=(show ∃ t,u=Value.int i t from r);cases e;rfl
 | str x=>let(t,e):=(show ∃ t,u=Value.str x t from r);cases e;rfl
 | byt b=>let(t,e):=(show ∃ t,u=Value.bytes b t from r);cases e;rfl
 | flt b=>let(t,e):=(show ∃ t,u=Value.float b t from r);cases e;rfl
 | ref a=>cases (show u=Value.ref a from r);rfl
 | ty n=>cases (show u=Value.type n from r);rfl
section
variable {P:jn}{w:jE}{H:Hp}{h:jM}{a C dx:jP}{fs:List (Str×V)}
def qW (hok:HOk P w H h)(e:H a=Ψ (.ins C dx fs)):∃ mA,ObjM h a dx C mA/\(∀ f,RelO (fs.lookup f) (mA f))/\hZ mA (fs.map (·.1))/\fs.length<=1000/\H dx=Ψ (.own a):=by
 let(d,z,ne,ob,mA,n,r,q):=(show ObjOk P w H h a (.ins C dx fs) from hok a _ e)
 exact⟨mA,⟨ob,n,ne⟩,r,q,z,d⟩
end
structure Cls (K:ib)(C:jP):Prop where
 pg:ef K C Str.empty=Ω
 hd:PySem.W.hasDictIn K C=Ω
 po:PySem.W.plainOver K C=Ω
 sa:fZ K (.ref C) "__setattr__" = Ψ (Ψ (.builtin "object.__setattr__"))
def Cls.get {K:ib}{C:jP}(c:Cls K C)(f:Str):ef K C f=Ω:=c.pg
abbrev NoAttr (K:ib)(C:jP)(f:Str):Prop:=fZ K (.ref C) f=Ψ Φ
def NoAttr.taker {K:ib}{C:jP}{f:Str}(n:NoAttr K C f):PySem.W.takerIn K C f=Ψ Φ:=by
 unfold PySem.W.takerIn
 rw[show fZ K (.ref C) f=Ψ Φ from n]
 rfl
structure Meth (K:ib)(C:jP)(m:Str)(f:jP):Prop where
 at_:fZ K (.ref C) m=Ψ (Ψ (.ref f))
 fn:PySem.W.isFn K (.ref f)=Ω
 kp:fY K (.ref f)=Ω
section
variable {X:Cx}{Z9:List (jP×Obj)}{σ:St}{H:Hp}{s:jw}{a C dx:jP}{fs:List (Str×V)}{f:Str}{v:V}{A:jD}{E:jF->jw->Prop}
def rW {b:Bool}{Q:jF->jw->Prop}(I:Inv X Z9 σ H s)(e:H a=Ψ (.ins C dx fs))(c:Cls X.K C)(n:NoAttr X.K C f)(l:fs.lookup f=Ψ v)
  (h:∀ u s',Inv X Z9 σ H s'->RelV v u->Q u s'):wpAny (model X.prog X.w) A (getAttr (.ref a) f b) Q E s:=by
 let(mA,O,r,_,_,_):=qW I.hok e
 let(u,hu,ru):=RelO.some_of (v:=v) (o:=mA f) (by rw[<- l];exact r f)
 exact EO I.kIn O (c.get f) c.hd n hu (Ad ru) (h u _ (I.tok _) ru)
def pj {m:Str}{g:jP}{pl:Sem Bool}{Q:jF×List jF->jw->Prop}(I:Inv X Z9 σ H s)(e:H a=Ψ (.ins C dx fs))(c:Cls X.K C)(k:Meth X.K C m g)(l:fs.lookup m=Φ)
  (h:Q (.ref g,[.ref a]) s):wpAny (model X.prog X.w) A (getMethod (.ref a) m pl) Q E s:=by
 let(mA,O,r,_,_,_):=qW I.hok e
 let hn:mA m=Φ:=RelO.none_of (by rw[<- l];exact r m)
 exact Cq I.kIn O (c.get m) k.at_ k.fn hn h
def rm {y:V}{u:jF}{Q:Unit->jw->Prop}(I:Inv X Z9 σ H s)(e:H a=Ψ (.ins C dx fs))(c:Cls X.K C)(n:NoAttr X.K C f)(hl:fs.length<1000)(ry:RelV y u)
  (h:∀ s',Inv X Z9 σ (kh H a (.ins C dx (lS f y fs))) s'->Q () s'):wpAny (model X.prog X.w) A (setAttr (.ref a) f u) Q E s:=by
 let(mA,O,r,wi,_,ho):=qW I.hok e
 let hz:(fs.map (·.1)).length<=sizeLine:=by rw[fE,iE];lia
 exact DK I.kIn O c.sa c.po n.taker c.hd wi hz λh' O' sb=>h _ ?_
 let hd:∃ o,h'.get? dx=Ψ o:=let ⟨o,_,_,e',_⟩:=O'.ns;⟨o,e'⟩
 exact I.write (x:=a) (e:=dx) (by rw[e];exact True.intro) (.inr ho) (λb q hb z=>(sb.2 b hb).trans z) hd ?_
 exact⟨by rw[jT O.ne];exact ho,?_,O.ne,O'.obj,_,O'.ns,λg=>?_,λg hg=>?_⟩
 ·have:=qF f y fs;lia
 ·show RelO ((lS f y fs).lookup g) (if g=f then Ψ u else mA g)
  rw[qE]
  by_cases q:g=f
  ·rw[if_pos q,if_pos q];exact ry
  ·rw[if_neg q,if_neg q];exact r g
 ·by_cases q:g=f
  ·rw[q];exact (qm f y fs).1
  ·exact (qm f y fs).2 g (wi g λz=>hg ?_)
   show (if g=f then Ψ u else mA g)=Φ
   rw[if_neg q];exact z
def Inv.made (I:Inv X Z9 σ H s):Inv X Z9 σ (kh (kh H s.heap.objs.size (.own (s.heap.objs.size+1))) (s.heap.objs.size+1) (.ins C s.heap.objs.size []))
  { s with heap:=(s.heap.push PySem.W.emptyDict).push (fi C s.heap.objs.size) }:=by
 let e1:(s.heap.push PySem.W.emptyDict).get? s.heap.objs.size=Ψ PySem.W.emptyDict:=cw s.heap rfl
 let e2:((s.heap.push PySem.W.emptyDict).push (fi C s.heap.objs.size)).get? (s.heap.objs.size+1)=Ψ (fi C s.heap.objs.size):=by
  have:=cw (s.heap.push PySem.W.emptyDict) (o:=fi C s.heap.objs.size) rfl
  rwa [gn] at this
 let e3:(s.heap.push PySem.W.emptyDict).Ns s.heap.objs.size (λ_=>Φ):=⟨PySem.W.emptyDict,#[],_,e1,rfl,(λe he=>absurd he ∅),λ_=>rfl⟩
 let I1:=I.laid (a:=s.heap.objs.size) (o:=.own (s.heap.objs.size+1)) (h':=s.heap.push PySem.W.emptyDict) (t':=s.toks) (λb u q=>bx _ q) (iK _) ⟨_,e1⟩
 exact I1.laid (a:=s.heap.objs.size+1) (o:=.ins C s.heap.objs.size []) (t':=s.toks) (λb u q=>bx _ q) (ip (gn _ _)) ?_
 let ne:s.heap.objs.size≠s.heap.objs.size+1:=ii (eA _)
 refine⟨by rw[jT ne,jV],iI _,ne,e2,λ_=>Φ,(Heap.Ns1.of_empty e3).at λo q=>bx _ q,λ_=>True.intro,λy hy=>absurd rfl hy⟩
def FN {prog:jn}{w:jE}{env:Env}{e:Expr}{f:Str}{pos:Pos}{s:jw}{Q:jF->jw->Prop}(hb:attributeBase e f env (eval e env)=eval e env)
  (h:wpAny (model prog w) A (eval e env) (λo s₁=>wpAny (model prog w) A (getAttr o f Ω) Q E s₁) E s):wpAny (model prog w) A (eval (.Attribute e f pos) env) Q E s :=
 Attribute_any_ h (by rw[arm_eval_Attribute,hb])
end
abbrev Rj (X:Cx)(op:ji)(rd:V->V->Hp->VK->Prop):Prop :=
 ∀ (Z9:List (jP×Obj))(s:jw)(σ:St)(H:Hp)(x y:V)(u v:jF)(Q:VK),Inv X Z9 σ H s->RelV x u->RelV y v->rd x y H Q->wpAny (model X.prog X.w) X.A (inplaceOp op u v) (EP X Z9 σ Q) X.xe s
section
variable {X:Cx}{Z9:List (jP×Obj)}{σ:St}{H:Hp}{s:jw}{A:jD}{E:jF->jw->Prop}{Q:jF->jw->Prop}{c:jF}{b:Bool}
inductive TyOf (K:ib)(H:Hp):V->jF->Prop where
 | non:TyOf K H .non (.type "NoneType")
 | bl (x:Bool):TyOf K H (.bl x) (.type "bool")
 | int (i:Int):TyOf K H (.int i) (.type "int")
 | str (x:Str):TyOf K H (.str x) (.type "str")
 | flt (x:UInt64):TyOf K H (.flt x) (.type "float")
 | lst {a:jP}{xs:List V}(e:H a=Ψ (.lst xs)):TyOf K H (.ref a) (.type "list")
 | frz {a:jP}{o:Obj}{xs:List V}(e:H a=Ψ (.frz o (.lst xs))):TyOf K H (.ref a) (.type "list")
 | tup {a:jP}{xs:List V}(e:H a=Ψ (.tup xs)):TyOf K H (.ref a) (.type "tuple")
 | dK {a:jP}{kvs:List (lF×V)}(e:H a=Ψ (.dK kvs)):TyOf K H (.ref a) (.type "dict")
 | dT {a:jP}{kvs:List (List lF×V)}(e:H a=Ψ (.dT kvs)):TyOf K H (.ref a) (.type "dict")
 | ins {a C dx:jP}{fs:List (Str×V)}(e:H a=Ψ (.ins C dx fs))(cl:Cls K C)(ha:fZ K (.ref C) "__class__" = Ψ (Ψ (.builtin "object.__class__")))
   (hn:PySem.W.specialIn K (.builtin "object.__class__") "__get__" = Ψ (Ψ (.builtin "getset_descriptor.__get__")))(htk:PySem.W.takesIn K (.builtin "object.__class__")=Ψ Ω)
   (hm:PySem.W.mroIn K C (.type "object")=Ψ Ω):TyOf K H (.ref a) (.ref C)
def z9 {x:V}{u t:jF}(I:Inv X Z9 σ H s)(rx:RelV x u)(ty:TyOf X.K H x t)(e:fX X.K t c=Ψ b)(h:∀ tk,Q (.bool b) { s with toks:=tk }) :
  wpAny (model X.prog X.w) A (call (.builtin "isinstance") [u,c]) Q E s:=by
 cases ty with
 | non=>cases (show u=Value.none from rx);exact fh PySem.W.kitx_none I.kIn True.intro e (λz=>nomatch z) h
 | bl y=>cases (show u=Value.bool y from rx);exact fh PySem.W.kitx_bool I.kIn True.intro e (λz=>nomatch z) h
 | int i=>let(t,q):=(show ∃ t,u=Value.int i t from rx);cases q;exact fh PySem.W.kitx_int I.kIn True.intro e (λz=>nomatch z) h
 | str y=>let(t,q):=(show ∃ t,u=Value.str y t from rx);cases q;exact fh PySem.W.kitx_str I.kIn True.intro e (λz=>nomatch z) h
 | flt y=>let(t,q):=(show ∃ t,u=Value.float y t from rx);cases q;exact fh PySem.W.kitx_float I.kIn True.intro e (λz=>nomatch z) h
 | @lst a xs ea =>
  cases (show u=Value.ref a from rx)
  let(_,_,n,_,h1):=(show ObjOk X.prog X.w H s.heap a (.lst xs) from I.hok a _ ea)
  exact fh du I.kIn ⟨_,h1,rfl⟩ e (λz=>nomatch z) h
 | @frz a ob xs ea =>
  cases (show u=Value.ref a from rx)
  let(_,_,_,n,_,h1):=(show ObjOk X.prog X.w H s.heap a (.frz ob (.lst xs)) from I.hok a _ ea)
  exact fh du I.kIn ⟨_,h1,rfl⟩ e (λz=>nomatch z) h
 | @tup a xs ea =>
  cases (show u=Value.ref a from rx)
  let(_,_,_,p):=(show ObjOk X.prog X.w H s.heap a (.tup xs) from I.hok a _ ea)
  let(o,h1,h2,_):=p
  exact fh PySem.W.kitx_tuple I.kIn ⟨o,h1,h2⟩ e (λz=>nomatch z) h
 | @dK a kvs ea =>
  cases (show u=Value.ref a from rx)
  let(_,_,vs,_,p):=(show ObjOk X.prog X.w H s.heap a (.dK kvs) from I.hok a _ ea)
  let(o,es,ep,h1,h2,_):=p
  exact fh dv I.kIn ⟨o,h1,h2.1⟩ e (λz=>nomatch z) h
 | @dT a kvs ea =>
  cases (show u=Value.ref a from rx)
  let(_,_,xs,_,o,es,ep,h1,h2,_):=(show ObjOk X.prog X.w H s.heap a (.dT kvs) from I.hok a _ ea)
  exact fh dv I.kIn ⟨o,h1,h2.1⟩ e (λz=>nomatch z) h
 | @ins a C dx fs ea cl ha hn htk hm =>
  cases (show u=Value.ref a from rx)
  let(mA,O,_):=qW I.hok ea
  let(od,J,_):=O.look
  exact fh (PySem.W.kitx_own (cl.get _) cl.hd ha hn htk hm) I.kIn J e (λz=>nomatch z) h
end
structure Room (k:Nat)(A:jD):Prop where
 hd:A.handled=Φ
 dp:A.depth+3*k+5<recursionLimit
 un:A.units+16*k+200<cLine
 gd:A.guards=Ψ []
def Room.deeper {k:Nat}{A:jD}(r:Room (k+1) A)(env:Env):Room k (A.deeper env) :=
 ⟨r.hd,by have:=r.dp;show A.depth+1+3*k+5<_;lia,by have:=r.un;show A.units+3+16*k+200<_;lia,r.gd⟩
structure RoomS (k:Nat)(A:jD):Prop extends Room k A where
 dp2:A.depth+3*k+7<recursionLimit
 un2:A.units+16*k+210<cLine
def Room.deeperS {k:Nat}{A:jD}(r:Room (k+1) A)(env:Env):RoomS k (A.deeper env) :=
 ⟨r.deeper env,by have:=r.dp;show A.depth+1+3*k+7<_;lia,by have:=r.un;show A.units+3+16*k+210<_;lia⟩
def xE {A:jD}{C:jP}{us:List jF}{kw:List (Str×jF)}:(A.under (.builtin "type.__call__" ⟨.ref C :: us,kw⟩)).depth=A.depth+1:=by
 first|rfl|simp[Around.under,Code.weight,Code.isCreation,Code.isGuard,Code.isCaller,Code.frames,Code.isFrame,guardIds]
def xD {A:jD}{C:jP}{us:List jF}{kw:List (Str×jF)}:(A.under (.builtin "type.__call__" ⟨.ref C :: us,kw⟩)).units=A.units+1:=by
 first|rfl|simp[Around.under,Code.cUnits,Code.frames,Code.isFrame]
def wf {A:jD}{C:jP}{us:List jF}{kw:List (Str×jF)}:(A.under (.builtin "type.__call__" ⟨.ref C :: us,kw⟩)).guards=A.guards:=by
 cases h:A.guards<;>simp[Around.under,Code.guards,Code.isGuard,guardIds,pushGuards,h]
def RoomS.make {k:Nat}{A:jD}(r:RoomS k A)(C:jP)(us:List jF)(kw:List (Str×jF)):Room k (A.under (.builtin "type.__call__" ⟨.ref C :: us,kw⟩)) :=
 ⟨r.hd,by have:=r.dp2;rw[xE];lia,by have:=r.un2;rw[xD];lia,by rw[wf];exact r.gd⟩
def Room.depth {k:Nat}{A:jD}(r:Room k A):A.depth<recursionLimit:=by have:=r.dp;lia
def Room.units {k:Nat}{A:jD}(r:Room k A):A.units+64<cLine:=by have:=r.un;lia
abbrev Kj:TA:=λ_ H Q=>Q [] H
abbrev vq (ta:TE)(tr:TA):TA:=λσ H Q=>ta σ H λx H1=>tr σ H1 λxs H2=>Q (x :: xs) H2
section
variable {X:Cx}{e:Expr}{es:List Expr}{te:TE}{t:TA}{pos:Pos}
def kF:PA X [] Kj:=λ_ _ _ _ H Q I h=>dR ⟨[],H,I,.nil,h⟩
def ka (ha:PE X e te)(hr:PA X es t)(hs:starEach (e :: es) X.env=(Ξ,eval e X.env) :: starEach es X.env:=by rfl):PA X (e :: es) (vq te t):=by
 intro pos Z9 s σ H Q I h
 rw[hs]
 show wpAny _ _ (spliced ((Ξ,eval e X.env) :: backTo pos (starEach es X.env))) _ _ s
 exact cT (ko (ha Z9 s σ H _ I h) λu s1 ⟨x,H1,I1,r1,q1⟩=>?_)
 exact ko (hr pos Z9 s1 σ H1 _ I1 q1) λus s2 q2=>?_;let(xs,H2,I2,r2,q2):=q2;exact⟨x :: xs,H2,I2,.cons r1 r2,q2⟩
abbrev N0 (t:TA):TE:=λσ H Q=>t σ H λxs H1=>xs.length<=sizeLine/\∀ p,H1 p=Φ->Q (.ref p) (kh H1 p (.tup xs))
abbrev N4 (t:TA):TE:=λσ H Q=>t σ H λxs H1=>xs.length<=sizeLine/\∀ p,H1 p=Φ->Q (.ref p) (kh H1 p (.lst xs))
def Br {x1}(h:PA X es t):PE X (.Tuple es x1 pos) (N0 t):=by
 intro Z9 s σ H Q I hq
 exact wpAny_Tuple_spliced (ko (h pos Z9 s σ H _ I hq) λus s1 ⟨xs,H1,I1,r,z,q⟩=>⟨by rw[<- r.length];exact z,?_⟩)
 let hf:H1 s1.heap.objs.size=Φ:=I1.hok.fresh (iK _)
 exact⟨.ref s1.heap.objs.size,kh H1 s1.heap.objs.size (.tup xs),I1.laid (t':=s1.toks) (λb u e=>bx _ e) (iK _) ?_,rfl,q _ hf⟩
 exact⟨z,us,r,⟨_,cw _ rfl,rfl,_,rfl⟩⟩
def xx (h:PA X es t):PE X (.List es pos) (N4 t):=by
 intro Z9 s σ H Q I hq
 exact wpAny_List_spliced (ko (h pos Z9 s σ H _ I hq) λus s1 ⟨xs,H1,I1,r,z,q⟩=>⟨by rw[<- r.length];exact z,?_⟩)
 let hf:H1 s1.heap.objs.size=Φ:=I1.hok.fresh (iK _)
 exact⟨.ref s1.heap.objs.size,kh H1 s1.heap.objs.size (.lst xs),I1.laid (t':=s1.toks) (λb u e=>bx _ e) (iK _) ?_,rfl,q _ hf⟩
 exact⟨z,us,0,r,cw _ rfl⟩
end
noncomputable abbrev Sp:=List V->Hp->VK->XK->Prop
noncomputable abbrev Az:=List Env->Hp->jw->XK->jF->jw->Prop
structure Env0 (P:jn)(w:jE)(K:ib)(mg:Str->Option jF)(base:jM)(A:jD)(outer:List Env)(s:jw)(H:Hp):Prop where
 frames:A.frames=Ψ outer
 mod:Mod K mg base
 bs:∀ b o,base.get? b=Ψ o->s.heap.get? b=Ψ o/\H b=Φ
 bsz:base.objs.size<=s.heap.objs.size
 funs:s.heap.FunFrames base outer
 frf:∀ b∈mx outer,H b=Φ
 hok:HOk P w H s.heap
 bare:jv s.gens
inductive CE (outer:List Env)(P:jn)(w:jE)(H:Hp)(s:jw)(Q:VK)(u:jF)(s':jw):Prop
 | mk (v:_)(H':_)(_:s'.os=s.os)(_:jv s'.gens)(_:Un (mx outer) [] H H' s.heap s'.heap)(_:HOk P w H' s'.heap)(_:RelV v u)(_:Q v H'):CE outer P w H s Q u s'
abbrev CR (CX:Az)(outer:List Env)(P:jn)(w:jE)(H:Hp)(s:jw)(Q:VK)(E:XK)(r:jx)(s':jw):Prop :=
 match r with
 | .ok (.ret u)=>CE outer P w H s Q u s'
 | .ok _=>False
 | .error e=>CX outer H s E e s'
structure FnOk (P:jn)(w:jE)(K:ib)(mg:Str->Option jF)(base:jM)(CX:Az) (k:Nat)(f:jP)(fd:jm)(ps:List Str)(sp:Sp):Prop where
 len:∀ vs H Q E,sp vs H Q E->vs.length=ps.length
 run:∀ (A:jD)(outer:List Env)(s:jw)(H:Hp)(args:Args)(us:List jF)(vs:List V)(Q:VK)(E:XK),Room k A->Env0 P w K mg base A outer s H->ju s fd args (ps.zip us)->Vals vs us->sp vs H Q E ->
  codeAny (model P w) A (.call (.ref f) args) (CR CX outer P w H s Q E) s
def Env0.make {P:jn}{w:jE}{K:ib}{mg:Str->Option jF}{base:jM}{A:jD}{outer:List Env}{s:jw}{H:Hp}(e:Env0 P w K mg base A outer s H)(C:jP)(us:List jF)(kw:List (Str×jF)) :
  Env0 P w K mg base (A.under (.builtin "type.__call__" ⟨.ref C :: us,kw⟩)) outer s H:=⟨by first|exact e.frames|(simpa[Around.under,Code.envs,Code.isFrame,pushEnvs] using e.frames),e.mod,e.bs,e.bsz,e.funs,e.frf,e.hok,e.bare⟩
section
variable {X:Cx}{Z9:List (jP×Obj)}{σ:St}{H:Hp}{s s':jw}
def Inv.env0 (I:Inv X Z9 σ H s):Env0 X.prog X.w X.K X.mg X.base X.A X.stack s H :=
 ⟨I.ok.frames,I.ok.mod,I.bs,ik I.ok.bsz I.sz,I.stack,I.stkFree,I.hok,I.bare⟩
def Inv.after {Q:VK}{u:jF}(I:Inv X Z9 σ H s)(h:CE X.stack X.prog X.w H s Q u s'):EP X Z9 σ Q u s':=by
 let(v,H',os,bare,un,hok,r,q):=h
 let(hh,g,d,t,os'):=s'
 obtain rfl:os'=s.os:=os
 exact⟨v,H',I.call (h':=hh) (g':=g) (d':=d) (t':=t) (ch:=[]) un hok bare (λb z=>absurd z ∅),r,q⟩
end
abbrev Kn (sp:Sp)(dvs:List V)(E:XK)(t:TA):TE:=λσ H Q=>t σ H λvs H1=>sp (vs++dvs) H1 Q E
abbrev Binds (K:ib)(fd:jm)(ps:List Str)(ds:List jF):Prop :=
 ∀ (s:jw)(us:List jF),K.In s.heap->(us++ds).length=ps.length->ju s fd ⟨us,[]⟩ (ps.zip (us++ds))
def Binds.all {K:ib}{fd:jm}{ps:List Str}(h:∀ us:List jF,us.length=ps.length->bindArgs fd ⟨us,[]⟩=pure (ps.zip us)):Binds K fd ps []:=λs us _ hl=>by
 rw[fH] at hl ⊢
 exact .of_eq (h us hl)
abbrev pw (CX:Az)(X:Cx)(E:XK):Prop:=∀ (Z9:List (jP×Obj))(σ:St)(H:Hp)(s:jw)(e:jF)(s':jw),Inv X Z9 σ H s->CX X.stack H s E e s'->X.xe e s'
section
variable {X:Cx}{CX:Az}{k:Nat}{f C:jP}{fd:jm}{ps:List Str}{sp:Sp}{dvs:List V}{ds:List jF}{E:XK}{x:Str}{p pos:Pos}{e:Expr}{es:List Expr}{t:TA}
def uD {Z9:List (jP×Obj)}{σ:St}{H:Hp}{s:jw}{Q:VK}{us:List jF}{vs:List V}(F:FnOk X.prog X.w X.K X.mg X.base CX k f fd ps sp)(hr:Room k X.A)(hb:Binds X.K fd ps ds)(hd:Vals dvs ds)(hx:pw CX X E)
  (I:Inv X Z9 σ H s)(r:Vals vs us)(h:sp (vs++dvs) H Q E):wpAny (model X.prog X.w) X.A (call (.ref f) us) (EP X Z9 σ Q) X.xe s:=by
 let r2:Vals (vs++dvs) (us++ds):=r.append hd
 let hl:(us++ds).length=ps.length:=by rw[<- r2.length];exact F.len _ _ _ _ h
 exact wpAny_call (hG (F.run X.A X.stack s H ⟨us,[]⟩ (us++ds) (vs++dvs) Q E hr I.env0 (hb s us I.kIn hl) r2 h) λr s' hq=>?_)
 cases r with
 | error e=>exact hx Z9 σ H s e s' I hq
 | ok fl =>
  cases fl with
  | ret u=>exact I.after hq
  | next=>exact i9 hq
  | brk=>exact i9 hq
  | cont=>exact i9 hq
def D9 (F:FnOk X.prog X.w X.K X.mg X.base CX k f fd ps sp)(hr:Room k X.A)(hg:Gl X x)(hm:X.mg x=Ψ (.ref f))(hk:fY X.K (.ref f)=Ω)(hb:Binds X.K fd ps ds)(hd:Vals dvs ds)(hx:pw CX X E)
  (ha:PA X (e :: es) t)(hdb:(x == ("__debug__":Str))=Ξ:=by decide)(he:starEach (e :: es) X.env=(Ξ,eval e X.env) :: starEach es X.env:=by rfl)(hpl:(backTo pos (starEach es X.env)).any (·.1)=Ξ:=by rfl) :
  PE X (.Call (.Name x p) (e :: es) [] pos) (Kn sp dvs E t):=by
 intro Z9 s σ H Q I h
 exact cD (oR I hg hm ?_ hdb)
 exact PySem.W.callWith_K (h₀:=X.base) I.ok.mod.kin hk (ko (ha pos Z9 s σ H _ I h) λus s1 ⟨vs,H1,I1,r,q⟩=>⟨I1.kIn,?_⟩) he hpl
 exact uD F hr hb hd hx I1 r q
structure Mk (K:ib)(C f:jP):Prop where
 makes:PySem.W.makesIn K C=Ω
 init:fZ K (.ref C) "__init__" = Ψ (Ψ (.ref f))
 fn:PySem.W.isFn K (.ref f)=Ω
 kp:fY K (.ref C)=Ω
end
structure FnScope (N P:List Str)(sc:jG):Prop where
 kind:sc.kind=.function
 co:sc.isCoroutine=Ξ
 gen:sc.isGenerator=Ξ
 nd:N.Nodup
 pre:N.take P.length=P
 par:∀ x∈P,sc.names.lookup x=Ψ .local ∨ sc.names.lookup x=Ψ .cell
 nofree:∀ y∈sc.names,y.2≠.free
def ud {kindOf:Str->Option jj}{x:Str}:∀ {binds:List (Str×jF)}{m:Str->Option jF},(∀ v,(x,v) ∉ binds)->bindL kindOf binds m x=m x
 | [],_,_=>rfl
 | (n,v) :: r,m,h=>by
  unfold bindL
  rw[ud λw hw=>h w (bT _ hw)]
  split
  ·have:x≠n:=by rintro rfl;exact h v cQ
   simp[this]
  ·rfl
def uf {kindOf:Str->Option jj}{x:Str}:∀ {binds:List (Str×jF)}{m:Str->Option jF},(∀ v,(x,v) ∉ binds)->bindC kindOf binds m x=m x
 | [],_,_=>rfl
 | (n,v) :: r,m,h=>by
  unfold bindC
  rw[uf λw hw=>h w (bT _ hw)]
  split
  ·rfl
  ·have:x≠n:=by rintro rfl;exact h v cQ
   simp[this]
def ue {kindOf:Str->Option jj}{x:Str}{v:jF}:∀ {P:List Str}{vs:List jF}{i:Nat}{m:Str->Option jF},P.Nodup->P[i]?=Ψ x->vs[i]?=Ψ v->kindOf x=Ψ .local ->
  bindL kindOf (P.zip vs) m x=Ψ v
 | [],_,_,_,_,h,_,_=>by simp at h
 | _ :: _,[],_,_,_,_,h,_=>by simp at h
 | p :: P,w :: vs,0,m,nd,h1,h2,hk=>by
  simp at h1 h2;subst h1;subst h2
  show bindL kindOf ((p,w) :: P.zip vs) m p=_
  unfold bindL
  rw[ud λv hv=>(fv.mp nd).1 (fu hv).1,if_pos hk]
  simp
 | p :: P,w :: vs,i+1,m,nd,h1,h2,hk=>by
  show bindL kindOf ((p,w) :: P.zip vs) m x=_
  unfold bindL
  exact ue (i:=i) (fv.mp nd).2 (by simpa using h1) (by simpa using h2) hk
def ug {kindOf:Str->Option jj}{x:Str}{v:jF}:∀ {P:List Str}{vs:List jF}{i:Nat}{m:Str->Option jF},P.Nodup->P[i]?=Ψ x->vs[i]?=Ψ v->kindOf x≠Ψ .local ->
  bindC kindOf (P.zip vs) m x=Ψ v
 | [],_,_,_,_,h,_,_=>by simp at h
 | _ :: _,[],_,_,_,_,h,_=>by simp at h
 | p :: P,w :: vs,0,m,nd,h1,h2,hk=>by
  simp at h1 h2;subst h1;subst h2
  show bindC kindOf ((p,w) :: P.zip vs) m p=_
  unfold bindC
  rw[uf λv hv=>(fv.mp nd).1 (fu hv).1,if_neg hk]
  simp
 | p :: P,w :: vs,i+1,m,nd,h1,h2,hk=>by
  show bindC kindOf ((p,w) :: P.zip vs) m x=_
  unfold bindC
  exact ug (i:=i) (fv.mp nd).2 (by simpa using h1) (by simpa using h2) hk
abbrev start (N:List Str)(vs:List V):St:=vs.map Ψ++gf (N.length-vs.length) Φ
abbrev nX (CX:Az)(P:jn)(w:jE)(K:ib)(mg:Str->Option jF)(base:jM)(N:List Str)(qual:Str)(scope:jG)(f:jP)(cd:jF)(A:jD)(outer:List Env)(s:jw)(H:Hp)(E:XK):Cx where
 prog:=P
 w:=w
 K:=K
 mg:=mg
 base:=base
 A:=A.deeper (envOfC qual scope s.heap.objs.size f cd)
 N:=N
 s₀:=s
 H₀:=H
 env:=envOfC qual scope s.heap.objs.size f cd
 outer:=outer
 stack:=envOfC qual scope s.heap.objs.size f cd :: outer
 ex:=[]
 calm:=Ω
 fn:=λ_=>Ω
 pn:=[]
 xe:=λe s'=>wpAny (model P w) (A.deeper (envOfC qual scope s.heap.objs.size f cd)) (leaving (envOfC qual scope s.heap.objs.size f cd) e) (λ_ s''=>CX outer H s E e s'') (λe' s''=>CX outer H s E e' s'') s'
def wW {sc:jG}{n:Nat}{x:Str}(h:sc.names.lookup x=Ψ .cell):∃ c,(cellsFrom n sc.names []).lookup x=Ψ c:=by
 let q:=bo sc.names n [] (.inl h)
 exact aT.mp q
def Aa {CX:Az}{P:jn}{w:jE}{K:ib}{mg:Str->Option jF}{base:jM}{N ps:List Str}{qual:Str}{scope:jG}{f:jP}{cd:jF}{A:jD}{outer:List Env}{s s1:jw}{H:Hp}{E:XK}{us:List jF}{vs:List V}
  (S:FnScope N ps scope)(hd:A.handled=Φ)(e0:Env0 P w K mg base A outer s H)(hl:vs.length=ps.length)(r:Vals vs us)
  (x:InCallC s s.heap.objs.size (bindL (envOfC qual scope s.heap.objs.size f cd).kindOf (ps.zip us) λ_=>Φ) (cellsFrom (s.heap.objs.size+1) scope.names []) (bindC (envOfC qual scope s.heap.objs.size f cd).kindOf (ps.zip us) λ_=>Φ) s1) :
  Inv (nX CX P w K mg base N qual scope f cd A outer s H E) [] (start N vs) H s1:=by
 let hpl:ps.length<=N.length:=by have:=congrArg iL S.pre;rw[eI] at this;lia
 let(h1,tk,rfl,hk):=x.done
 let noA:∀ b:jP,b ∉ (nX CX P w K mg base N qual scope f cd A outer s H E).ex:=λb z=>absurd (show b∈([]:List jP) from z) ∅
 exact⟨⟨e0.mod,S.kind,rfl,rfl,iK _,λy z c h1 h2=>?_,λy hy=>?_,λy c _ h=>?_,λ_=>hd,Around.frames_deeper e0.frames,.inr ⟨rfl,rfl⟩,λb z=>absurd z (noA b),e0.bs,e0.bsz,λb _ _=>noA b,λb z=>absurd z (noA b),e0.funs,e0.frf⟩,
  rfl,e0.bare,Un.kept hk,⟨_,x.toInCall.ns,λi y v h1 h2 h3=>?_⟩,λy c h=>⟨_,x.cell y c h⟩,e0.hok.fresh (iK _),λy c h=>?_,λp hp=>absurd (show p∈([]:List (jP×Obj)) from hp) ∅,e0.hok.kept hk,?_⟩
 ·exact name_of_addr x.apart (cg h1) (cg h2)
 ·let hy:scope.names.lookup y=Ψ .cell ∨ scope.names.lookup y=Ψ .free:=hy
  rcases hy with hy|hy
  ·exact wW hy
  ·exact absurd rfl (S.nofree _ (cg hy))
 ·exact il (x.above y c (cg h))
 ·let hi:i<vs.length:=by
   unfold start at h2
   by_cases hi:i<vs.length
   ·exact hi
   ·rw[az (by simpa using hi)] at h2
    rw[bh] at h2
    split at h2<;>cases h2
  let ha:vs[i]?=Ψ v:=by
   unfold start at h2
   rw[aK (by simpa using hi),dJ] at h2
   cases e:vs[i]? with
   | none=>rw[e] at h2;cases h2
   | some a=>rw[e] at h2;cases h2;rfl
  let(u,hu,rv):=r.get ha
  let hp:ps[i]?=Ψ y:=by
   rw[<- S.pre,aU ⋯];exact h1
  let ndP:ps.Nodup:=by rw[<- S.pre];exact S.nd.sublist (List.take_sublist _ _)
  exact⟨u,rv,?_⟩
  rcases S.par y (bR hp) with k|k
  ·exact .inl ⟨k,ue ndP hp hu k⟩
  ·let(c,e):=wW (n:=s.heap.objs.size+1) k
   exact .inr ⟨.inl k,c,e,?_⟩
   let q:=x.cell y c e
   rw[ug ndP hp hu (by show scope.names.lookup y≠_;rw[k];decide)] at q
   exact q
 ·exact e0.hok.fresh (il (x.above y c (cg h)))
 ·unfold start
  show _=N.length
  rw[cR,fE,bI]
  lia
def Gp {CX:Az}{P:jn}{w:jE}{K:ib}{mg:Str->Option jF}{base:jM}{k:Nat}{f:jP}{name qual:Str}{params:Arguments}{body:List jL}{scope:jG}{dV kV doc pm cdv ct oc:jF}{an od:Option jP}
  {osl:Array (Option jF)}{N ps:List Str}{sp:Sp}(lk:K.lookup f=Ψ ⟨oc,od,.func (ia name qual params body scope dV kV doc pm an cdv ct),osl⟩)(hcd:gc K cdv qual=Ω)(S:FnScope N ps scope)
  (len:∀ vs H Q E,sp vs H Q E->vs.length=ps.length)
  (ZW:∀ (A:jD)(outer:List Env)(s:jw)(H:Hp)(vs:List V)(Q:VK)(E:XK),RoomS k (A.deeper (envOfC qual scope s.heap.objs.size f cdv))->sp vs H Q E ->
   ∃ t,PSs (nX CX P w K mg base N qual scope f cdv A outer s H E) body t/\t { nx:=λ_ H'=>Q .non H',rt:=Q } (start N vs) H) :
  FnOk P w K mg base CX (k+1) f (ia name qual params body scope dV kV doc pm an cdv ct) ps sp:=by
 exact⟨len,λA outer s H args us vs Q E hr e0 hb r hsp=>?_⟩
 let hl:=len _ _ _ _ hsp
 let KX:K.In s.heap:=e0.mod.kin.keeps λb o e=>(e0.bs b o e).1
 let lim:s.heap.NoLimit:=e0.mod.nolimit.keeps λb o e=>(e0.bs b o e).1
 let hkind:∀ y∈ps.zip us,scope.names.lookup y.1=Ψ .local ∨ (scope.names.lookup y.1=Ψ .cell/\((cellsFrom (s.heap.objs.size+1) scope.names []).lookup y.1).isSome=Ω):=λq1 hy=>by
  let(n,v):=q1
  rcases S.par n (fu hy).1 with q|q
  ·exact .inl q
  ·exact .inr ⟨q,bo _ _ _ (.inl q)⟩
 exact codeAny_call_function hr.depth (KX _ _ lk) rfl S.co S.gen rfl (PySem.W.codeRec_of KX hcd) (hb _ _ _ _ ?_)
 exact wpAny_newFunctionEnv_cells S.kind hkind λenv he s1 x=>?_
 subst he
 exact⟨lim.keeps x.toInCall.keep,codeAny_func ?_⟩
 let(t,ht,hq):=ZW A outer s H vs Q E (hr.deeperS _) hsp
 let I:Inv (nX CX P w K mg base N qual scope f cdv A outer s H E) [] (start N vs) H s1:=Aa S hr.hd e0 hl r x
 exact iP (ht [] s1 (start N vs) H _ I hq) (λfl s' hs=>?_) λe s' hs=>hs
 let fin:∀ {σ':St}{H':Hp}{v:V}{u:jF},Inv (nX CX P w K mg base N qual scope f cdv A outer s H E) [] σ' H' s'->RelV v u->Q v H'->CE outer P w H s Q u s' :=
  λ{σ' H' v u} J rv q=>⟨v,H',J.os,J.bare,J.base,J.hok,rv,q⟩
 cases fl with
 | ret u =>
  let(v,σ',H',J,rv,q):=hs
  exact fin J rv q
 | next =>
  let(σ',H',J,q):=hs
  exact fin (v:=V.non) (u:=Value.none) J rfl q
 | brk =>
  let(_,_,_,q):=hs
  exact i9 q
 | cont =>
  let(_,_,_,q):=hs
  exact i9 q
section
variable {X:Cx}{x:Str}{p pos:Pos}{e:Expr}{es:List Expr}{t:TA}{id T:String}{r:List V->Hp->VK->Prop}
abbrev N8 (r:List V->Hp->VK->Prop)(t:TA):TE:=λσ H Q=>t σ H λvs H1=>r vs H1 Q
def mE (hc:kN X (.builtin id) r)(hg:Gl X x)(hm:X.mg x=Φ)(hv:bootBuiltins x=Ψ (.builtin id))(ha:PA X (e :: es) t)(hn:x≠"__name__":=by decide)(hdb:(x == ("__debug__":Str))=Ξ:=by decide)
  (he:starEach (e :: es) X.env=(Ξ,eval e X.env) :: starEach es X.env:=by rfl)(hpl:(backTo pos (starEach es X.env)).any (·.1)=Ξ:=by rfl):PE X (.Call (.Name x p) (e :: es) [] pos) (N8 r t):=by
 intro Z9 s σ H Q I h
 exact cD (lY I hg hm hv ?_ hn hdb)
 exact PyProof.Rows.callWith_builtin1 (ko (ha pos Z9 s σ H _ I h) λus s1 q1=>by let(vs,H1,I1,r1,q1):=q1;exact hc Z9 s1 σ H1 vs us Q I1 r1 q1) he hpl
def qf (hc:kN X (.type T) r)(hg:Gl X x)(hm:X.mg x=Φ)(hv:bootBuiltins x=Ψ (.type T))(ha:PA X (e :: es) t)(hn:x≠"__name__":=by decide)(hdb:(x == ("__debug__":Str))=Ξ:=by decide)
  (he:starEach (e :: es) X.env=(Ξ,eval e X.env) :: starEach es X.env:=by rfl)(hpl:(backTo pos (starEach es X.env)).any (·.1)=Ξ:=by rfl):PE X (.Call (.Name x p) (e :: es) [] pos) (N8 r t):=by
 intro Z9 s σ H Q I h
 exact cD (lY I hg hm hv ?_ hn hdb)
 exact aq (ko (ha pos Z9 s σ H _ I h) λus s1 q1=>by let(vs,H1,I1,r1,q1):=q1;exact hc Z9 s1 σ H1 vs us Q I1 r1 q1) he hpl
end
end L2
namespace HT
open PySem PyProof.Rows
abbrev lexLt:List Int->List Int->Bool
 | [],[]=>Ξ
 | [],_ :: _=>Ω
 | _ :: _,[]=>Ξ
 | x :: xs,y :: ys=>if x=y then lexLt xs ys else Δ (x<y)
def xH (x y:Int)(xs ys:List Int):lexLt (x :: xs) (y :: ys)=if x=y then lexLt xs ys else Δ (x<y):=rfl
def sY:lexLt [] []=Ξ:=rfl
def rP (y:Int)(ys:List Int):lexLt [] (y :: ys)=Ω:=rfl
def rQ (x:Int)(xs:List Int):lexLt (x :: xs) []=Ξ:=rfl
def CY (A:jD)(s:jw) (a:Int)(t:Tok) (c:Int)(u:Tok):∃ e,iX A s (.int a t) (.int c u) e/\(e=Ω↔a=c) :=
 ⟨(a == c),SeqAt.EqAt.int_int a t c u,∅⟩
def A7 (A:jD)(s:jw) (a:Int)(t:Tok) (c:Int)(u:Tok)(prog:jn)(w:jE)(E:jF->jw->Prop)(Q:jF->jw->Prop)(h:Q (.bool (Δ (a<c))) s) :
  wpAny (model prog w) A (richCompare .Lt (.int a t) (.int c u)) Q E s :=
 (cj h:wpAny (model prog w) A (compareOp .Lt (.int a t) (.int c u)) Q E s)
section
open PySem.SeqAt
open PySem.AutoSeq1 (wpAny_loadPart')
open PySem.MeetsSeq PySem.MeetsSeq2 PySem.MeetsSeq3
def sQ (l b:jP)(items ZZ:Array jF) (n n2:Nat)(dd dd2:Option jP)(sl sl2:Array (Option jF))(ns ms:List Int)(hi:js items.toList ns)(hj:js ZZ.toList ms) :
  Meets (jt.«tuple.__lt__» ⟨[.ref l,.ref b],[]⟩)
   (λ_ R s=>s.heap.get? l=Ψ { cls:=.type "tuple",dict:=dd,data:=.seq items n,slots:=sl }/\s.heap.get? b=Ψ { cls:=.type "tuple",dict:=dd2,data:=.seq ZZ n2,slots:=sl2 } /\
    R (.ok (.ret (.bool (lexLt ns ms)))) s) :=
 .of_wp λprog w A R s h=>by
  let(hp,g,d,tk,os):=s;let(hl,hb,h):=h
  let f2:=AutoSeq1.sub_tuple_tuple
  let z1:items.size=ns.length:=by rw[<- hi.length];simp
  let z2:ZZ.size=ms.length:=by rw[<- hj.length];simp
  wp_walk using eW hl,eW hb,dW _ (λrest b s'=>b.1=Φ/\s'=⟨hp,g,d,tk,os⟩/\∃ (vs ws:List jF)(ns' ms':List Int),rest=vs.zip ws /\
   js vs ns'/\js ws ms'/\ns'.length+ZZ.size=ms'.length+items.size/\R (.ok (.ret (.bool (lexLt ns' ms')))) ⟨hp,g,d,tk,os⟩) _
  case turn =>
   rintro⟨y,x⟩ rest b s' ⟨hb',rfl,vs,ws,ns',ms',hz,hvi,hwi,hlen,hR⟩
   cases hvi with
   | nil=>rw[List.zip_nil_left] at hz;cases hz
   | cons a t hvi' =>
    cases hwi with
    | nil=>rw[cL] at hz;cases hz
    | cons c u hwi' =>
     rw[cM] at hz
     injection hz with hyx hrest
     injection hyx with hy hx
     subst hy hx
     rw[xH] at hR
     simp -iota only[eK] at hlen
     let(e,he,hiff):=CY A.in1 ⟨hp,g,d,tk,os⟩ a t c u
     exact iR (he prog w _ _ ?_)
     cases e with
     | true =>
      rw[if_pos (hiff.mp rfl)] at hR
      wp_walk
      exact⟨rfl,rfl,_,_,_,_,hrest,hvi',hwi',⋯,hR⟩
     | false =>
      rw[if_neg (λq=>absurd (hiff.mpr q) cU)] at hR
      let hri:=A7 A.in1 ⟨hp,g,d,tk,os⟩ a t c u prog w
      wp_walk using hri
      exact⟨_,rfl,by simpa using hR⟩
  case fin =>
   rintro⟨b1,b2⟩ s' ⟨hb',rfl,vs,ws,ns',ms',hz,hvi,hwi,hlen,hR⟩
   simp only at hb'
   subst hb'
   let hv:lexLt ns' ms'=Δ (items.size<ZZ.size):=by
    cases hvi with
    | nil =>
     cases hwi with
     | nil =>
      simp -iota only[fC] at hlen
      rw[sY]
      exact (decide_eq_false ⋯).symm
     | cons c u hw =>
      simp -iota only[fC,eK] at hlen
      rw[rP]
      exact (decide_eq_true ⋯).symm
    | cons a t hv =>
     cases hwi with
     | nil =>
      simp -iota only[fC,eK] at hlen
      rw[rQ]
      exact (decide_eq_false ⋯).symm
     | cons c u hw =>
      rw[cM] at hz
      cases hz
   rw[hv] at hR
   wp_walk
   exact⟨_,rfl,by simpa[Builtin.Tuple.tupleCompareSizes] using hR⟩
  case h =>
   exact⟨rfl,rfl,items.toList,ZZ.toList,ns,ms,rfl,hi,hj,⋯,h⟩
end
section
variable {prog:jn}{w:jE}{A:jD}{E:jF->jw->Prop}{s:jw}
def lt_tupInts {l b:jP}{items ZZ:Array jF}{ns ms:List Int}{Q:jF->jw->Prop}(hl:jJ s.heap l items)(hb:jJ s.heap b ZZ)(hi:js items.toList ns)(hj:js ZZ.toList ms)
  (hu:A.units<cLine)(h:Q (.bool (lexLt ns ms)) s):wpAny (model prog w) A (compareOp .Lt (.ref l) (.ref b)) Q E s:=by
 let((cls,dd,data,sl),ho,hc,n,hd):=id hl
 let((cls2,dd2,data2,sl2),ho2,hc2,n2,hd2):=id hb
 simp only at hc hd hc2 hd2
 subst hc hd hc2 hd2
 exact richCompare_meets_room (op:=.Lt) ⟨_,ho,rfl⟩ ⟨_,ho2,rfl⟩ PySem.F.slot_tuple_lt PySem.F.entry_tuple_lt (PySem.F.args_tuple_lt_2 _ _) (sQ l b items ZZ n n2 dd dd2 sl sl2 ns ms hi hj)
  ⟨ho,ho2,show Value.bool (lexLt ns ms)≠Value.notImplemented/\Q (.bool (lexLt ns ms)) s from ⟨(λx=>nomatch x),h⟩⟩ hu
def cat_tup {t b:jP}{vs ws:List jF}{Q:jF->jw->Prop}(ht:jJ s.heap t vs.toArray)(hb:jJ s.heap b ws.toArray)(hv:vs≠[])
  (h1:ws=[]->Q (.ref t) s)(h2:ws≠[]->Q (.ref s.heap.objs.size) { s with heap:=s.heap.push { cls:=.type "tuple",data:=.seq (vs++ws).toArray } })
  (hsz:vs.length+ws.length<=sizeLine):wpAny (model prog w) A (binaryOp .Add (.ref t) (.ref b)) Q E s:=by
 let((cls,dd,data,sl),ho,hc,n,hd):=id ht
 let((cls2,dd2,data2,sl2),ho2,hc2,n2,hd2):=id hb
 simp only at hc hd hc2 hd2
 subst hc hd hc2 hd2
 let e:vs.toArray++ws.toArray=(vs++ws).toArray:=∅
 by_cases hw:ws=[]
 ·exact gZ ⟨_,ho,rfl⟩ ⟨_,ho2,rfl⟩ dZ gB bp bd (aS _ _)
   (tuple_addW1 t b vs.toArray ws.toArray n n2 dd dd2 sl sl2 (by simpa using hv) (by simp[hw])) ⟨ho,ho2,h1 hw⟩
 ·refine gZ ⟨_,ho,rfl⟩ ⟨_,ho2,rfl⟩ dZ gB bp bd (aS _ _)
   (tuple_addW2 t b vs.toArray ws.toArray n n2 dd dd2 sl sl2 (by simpa using hv) (by simpa using hw) (by rw[dG,dG];exact hsz)) ⟨ho,ho2,?_⟩
  rw[e]
  exact h2 hw
abbrev sIx (n d:Nat):Option Int->Nat
 | none=>d
 | some v=>if v<0 then (v+(n:Int)).toNat else min v.toNat n
def GV (n d:Nat)(hd:d<=n)(o:Option Int):sIx n d o<=n:=by
 cases o with
 | none=>exact hd
 | some v =>
  show (if v<0 then (v+(n:Int)).toNat else min v.toNat n)<=n
  by_cases hv:v<0
  ·rw[if_pos hv];lia
  ·rw[if_neg hv];exact Nat.min_le_right _ _
def zf (v:Int) (n d:Nat):(if v<0 then max (v+(n:Int)) 0 else min v (n:Int))=((sIx n d (Ψ v):Nat):Int):=by
 show (if v<0 then max (v+(n:Int)) 0 else min v (n:Int))=(((if v<0 then (v+(n:Int)).toNat else min v.toNat n):Nat):Int)
 by_cases hv:v<0
 ·simp -iota only[if_pos hv];lia
 ·simp -iota only[if_neg hv];lia
def x8 (lo hi:Option Int) (n:Nat):aO lo hi 1 (n:Int)=(((sIx n 0 lo:Nat):Int),((sIx n n hi:Nat):Int)):=by
 let h1:¬ ((1:Int)<0):=⋯
 unfold aO
 simp -iota only[h1,if_false]
 exact Prod.ext ?_ ?_
 ·cases lo with
  | none=>rfl
  | some v=>exact zf v n 0
 ·cases hi with
  | none=>rfl
  | some v=>exact zf v n n
def xv (i j:Nat):aM (i:Int) (j:Int) 1=j-i:=by
 unfold aM
 let h1:(1:Int) > 0:=⋯
 simp -iota only[h1,if_true,Int.ediv_one]
 split<;>lia
def rk {v:jF}{o:Option Int}{Q:Option Int->jw->Prop}(p:jz v o)(h:Q o s):wpAny (model prog w) A (Builtin.Slice.slicePartIndex v) Q E s:=by
 cases p with
 | none=>exact fS h
 | int i t=>exact slicePart_int h
def sliceApplied_gen {sl:jP}{vl vu:jF}{lo hi:Option Int}{n:Nat}{Q:Int×Int×Nat->jw->Prop}(hs:s.heap.IsSliceOf sl vl vu .none)(pl:jz vl lo)(pu:jz vu hi)
  (h:Q (((sIx n 0 lo:Nat):Int),1,sIx n n hi-sIx n 0 lo) s):wpAny (model prog w) A (aF (.ref sl) (pure (n:Int))) Q E s:=by
 let(os,hos,hcs,hds):=id hs
 unfold aF aN
 exact iR (iR (iD hos hds (x:=vl) rfl (iR (iD hos hds (x:=vu) rfl (iR (iD hos hds (x:=.none) rfl (iO ?_)))))))
 exact iR (fS ?_)
 show wpAny _ _ (if ((1:Int) == 0)=Ω then _ else _) _ _ s
 rw[if_neg (·)]
 exact iR (rk pl (iR (rk pu (iR (iO ?_)))))
 show wpAny _ _ (match aO lo hi 1 (n:Int) with|(lo,hi)=>pure (lo,(1:Int),aM lo hi 1)) _ _ s
 rw[x8 lo hi n]
 show wpAny _ _ (pure (((sIx n 0 lo:Nat):Int),(1:Int),aM ((sIx n 0 lo:Nat):Int) ((sIx n n hi:Nat):Int) 1)) _ _ s
 rw[xv]
 exact iO h
def Bn (xs:Array jF) (i k:Nat):((i7 k).filterMap λ(m:Nat)=>xs[((i:Int)+(m:Int)*1).toNat]?).toArray=((xs.toList.drop i).take k).toArray:=by
 let e:(λ(m:Nat)=>xs[((i:Int)+(m:Int)*1).toNat]?)=λm=>xs[i+m]?:=by
  funext m
  have:((i:Int)+(m:Int)*1).toNat=i+m:=⋯
  rw[this]
 rw[e]
 have:=pick_run xs i k
 rw[List.filterMap_map] at this
 let e2:((λx=>xs[x]?) ∘ λx=>i+x)=λm=>xs[i+m]?:=rfl
 rw[e2] at this
 rw[this]
def getItem_tuple_cut {t sl:jP}{items:Array jF}{vl vu:jF}{lo hi:Option Int}{Q:jF->jw->Prop}(ht:jJ s.heap t items)(hs:s.heap.IsSliceOf sl vl vu .none)(pl:jz vl lo)(pu:jz vu hi)
  (hw:¬ (sIx items.size 0 lo=0/\sIx items.size items.size hi=items.size))
  (h:Q (.ref s.heap.objs.size) { s with heap:=s.heap.push { cls:=.type "tuple",data:=.seq ((items.toList.drop (sIx items.size 0 lo)).take (sIx items.size items.size hi-sIx items.size 0 lo)).toArray } })
  (hsz:items.size<=sizeLine):wpAny (model prog w) A (getItem (.ref t) (.ref sl)) Q E s:=by
 let htake:sizeOk (.seq ((items.toList.drop (sIx items.size 0 lo)).take (sIx items.size items.size hi-sIx items.size 0 lo)).toArray):=by
  show ((items.toList.drop (sIx items.size 0 lo)).take (sIx items.size items.size hi-sIx items.size 0 lo)).toArray.size<=sizeLine
  rw[dG,eI,eJ,cz]
  lia
 let hj:sIx items.size items.size hi<=items.size:=GV _ _ (iK _) hi
 let(os,hos,hcs,hds):=id hs
 let hTs:s.TypeIs (.ref sl) "slice":=⟨os,hos,hcs⟩
 unfold getItem
 try with_reducible exact gx ?_
 first|exact iR (iO ?_)|skip
 exact iR (cX ht.typeIs (·) ?_)
 refine iR (aZ (name:=hW "__getitem__") ht.typeIs ag
  (dY ag ht.typeIs cf ?_ (cG _ _)))
 show wpAny _ _ (aD (.ref t) >>= _) _ _ s
 exact iR (gA ht ?_)
 exact iR (gX hTs ?_)
 rw[if_pos (·)]
 exact iR (sliceApplied_gen hs pl pu ?_)
 let hno:¬ ((((sIx items.size 0 lo:Nat):Int) == 0 && (1:Int) == 1 && (sIx items.size items.size hi-sIx items.size 0 lo) == items.size)=Ω):=by
  intro q
  rw[eR,eR] at q
  let q1:((sIx items.size 0 lo:Nat):Int)=0:=eq_of_beq q.1.1
  let q2:sIx items.size items.size hi-sIx items.size 0 lo=items.size:=eq_of_beq q.2
  exact hw ⟨⋯,⋯⟩
 show wpAny _ _ (if (((sIx items.size 0 lo:Nat):Int) == 0 && (1:Int) == 1 && (sIx items.size items.size hi-sIx items.size 0 lo) == items.size)=Ω then _ else _) _ _ s
 rw[if_neg hno,Bn]
 first
  | exact iR (m:=aW _) (db (iO ⟨_,rfl,iO h⟩) htake)
  | exact iR (m:=aW _) (db (iR (iO (iO ⟨_,rfl,iO h⟩))) htake)
  | exact iR (iR (m:=aW _) (db (iO (iO ⟨_,rfl,iO h⟩)) htake))
  | exact iR (iR (m:=aW _) (db (iO ⟨_,rfl,iO h⟩) htake))
end
end HT
namespace L2
open PySem PySem.Spec PyProof.Rows
noncomputable abbrev TO:=St->Hp->(Option Int->Hp->Prop)->Prop
abbrev PO (X:Cx)(e:Option Expr)(t:TO):Prop :=
 ∀ (Z9:List (jP×Obj))(s:jw)(σ:St)(H:Hp)(Q:Option Int->Hp->Prop),Inv X Z9 σ H s->t σ H Q ->
  wpAny (model X.prog X.w) X.A (evalPart e X.env) (λu s'=>∃ o H',Inv X Z9 σ H' s'/\jz u o/\Q o H') X.xe s
abbrev DF:TO:=λ_ H Q=>Q Φ H
abbrev Kf (t:TE):TO:=λσ H Q=>t σ H λx H1=>∃ i,x=.int i/\Q (Ψ i) H1
def intsAre_of {ns:List Int}:∀ {us:List jF},Vals (ns.map V.int) us->js us ns:=by
 induction ns with
 | nil=>intro us r;rw[iu] at r;cases r;exact .nil
 | cons n ns ih =>
  intro us r
  rw[gN] at r
  cases r with
  | cons r1 r2 =>
   let(t,e):=r1
   subst e
   exact .cons n t (ih r2)
section
variable {X:Cx}{e:Expr}{te:TE}{lo hi:Option Expr}{tl th:TO}{pos p2:Pos}
def D0:PO X Φ DF:=by
 intro Z9 s σ H Q I h
 rw[gE]
 exact iO ⟨Φ,H,I,.none,h⟩
def DZ (h:PE X e te):PO X (Ψ e) (Kf te):=by
 intro Z9 s σ H Q I hw
 rw[evalPart_some]
 exact ko (h Z9 s σ H _ I hw) λu s1 q1=>?_;let(x,H1,I1,r1,q1):=q1
 let(i,rfl,q):=q1
 let(t,rfl):=r1
 exact⟨Ψ i,H1,I1,.int i t,q⟩
abbrev J4 (X:Cx)(r:V->Option Int->Option Int->Hp->VK->Prop):Prop :=
 ∀ (Z9:List (jP×Obj))(s:jw)(σ:St)(H:Hp)(x:V)(v vl vu:jF)(lo hi:Option Int)(sl:jP)(Q:VK),Inv X Z9 σ H s->RelV x v->s.heap.IsSliceOf sl vl vu .none->jz vl lo->jz vu hi->r x lo hi H Q ->
  ∃ T id,typeLookup (.type T) "__getitem__" = pure (Ψ (.builtin id))/\s.TypeIs v T/\wpAny (model X.prog X.w) X.A (getItem v (.ref sl)) (EP X Z9 σ Q) X.xe s
abbrev tSl (r:V->Option Int->Option Int->Hp->VK->Prop)(te:TE)(tl th:TO):TE:=λσ H Q=>te σ H λx H1=>tl σ H1 λl H2=>th σ H2 λu H3=>r x l u H3 Q
def vS {r:V->Option Int->Option Int->Hp->VK->Prop}(hr:J4 X r)(he:PE X e te)(hl:PO X lo tl)(hu:PO X hi th):PE X (.Subscript e (.Slice lo hi Φ p2) pos) (tSl r te tl th):=by
 intro Z9 s σ H Q I h
 exact iW (ko (he Z9 s σ H _ I h) λv s1 ⟨x,H1,I1,r1,q1⟩=>?_)
 exact wpAny_Slice (ko (hl Z9 s1 σ H1 _ I1 q1) λvl s2 ⟨l,H2,I2,pl,q2⟩=>ko (hu Z9 s2 σ H2 _ I2 q2) λvu s3 ⟨u,H3,I3,pu,q3⟩=>?_)
 rw[gE]
 exact iO ?_
 let I4:Inv X Z9 σ H3 { s3 with heap:=s3.heap.push { cls:=.type "slice",data:=.fields #[vl,vu,.none] } }:=I3.kept (t':=s3.toks) λb ob q=>bx _ q
 let(T,id,hT,ht,hg):=hr Z9 { s3 with heap:=s3.heap.push { cls:=.type "slice",data:=.fields #[vl,vu,.none] } } σ H3 x v vl vu l u s3.heap.objs.size Q I4 r1 (cS ..) pl pu q3
 show wpAny (model X.prog X.w) X.A (subscriptTail e (.Slice lo hi Φ p2) v (.ref s3.heap.objs.size)) (EP X Z9 σ Q) X.xe { s3 with heap:=s3.heap.push { cls:=.type "slice",data:=.fields #[vl,vu,.none] } }
 exact tail_any (ops:=[.ref s3.heap.objs.size,v]) ht hT hg (by with_unfolding_all rfl)
abbrev wS (xs:List V)(lo hi:Option Int):List V:=(xs.drop (HT.sIx xs.length 0 lo)).take (HT.sIx xs.length xs.length hi-HT.sIx xs.length 0 lo)
def qI (xs:List V)(lo hi:Option Int):(wS xs lo hi).length<=xs.length:=by
 unfold wS
 rw[eI,eJ]
 lia
inductive rSlT (K:ib)(x:V)(lo:Option Int)(hi:Option Int)(H:Hp)(Q:VK):Prop
 | mk (a:_)(xs:_)(_:x=.ref a)(_:SqT K H a xs)(_:¬ (HT.sIx xs.length 0 lo=0/\HT.sIx xs.length xs.length hi=xs.length))(_:∀ p,H p=Φ->Q (.ref p) (kh H p (.tup (wS xs lo hi)))):rSlT K x lo hi H Q
def GR:J4 X (rSlT X.K):=by
 intro Z9 s σ H x v vl vu lo hi sl Q I rx hs pl pu h
 let(a,xs,rfl,hx,hw,q):=h
 cases rx
 let(Z7,r,ht,hz):=I.tuple hx
 let hlen:Z7.toArray.size=xs.length:=by rw[dG];exact r.length.symm
 exact⟨"tuple",_,ag.lookup,ht.typeIs,?_⟩
 exact HT.getItem_tuple_cut ht hs pl pu (by rw[hlen];exact hw) ?_ (by rw[hlen];exact hz)
 rw[hlen]
 exact⟨.ref s.heap.objs.size,_,I.laid (t':=s.toks) (o:=.tup (wS xs lo hi)) (λb ob q=>bx _ q) (iK _) ?_,rfl,q _ (I.hok.fresh (iK _))⟩
 exact⟨ik (qI xs lo hi) hz,_,(r.drop (HT.sIx xs.length 0 lo)).take (HT.sIx xs.length xs.length hi-HT.sIx xs.length 0 lo),jd _ _⟩
inductive rLtT (K:ib)(x:V)(y:V)(H:Hp)(Q:VK):Prop
 | mk (a:_)(b:_)(ns:_)(ms:_)(_:x=.ref a)(_:y=.ref b)(_:SqT K H a (ns.map V.int))(_:SqT K H b (ms.map V.int))(_:Q (.bl (HT.lexLt ns ms)) H):rLtT K x y H Q
def Hs (hu:X.A.units<cLine):mI X (compareOp .Lt) (rLtT X.K):=by
 intro Z9 s σ H x y v u Q I rx ry h
 let(a,b,ns,ms,rfl,rfl,ha,hb,q):=h
 cases rx
 cases ry
 let(Z7,r1,p1,_):=I.tuple ha
 let(its2,r2,p2,_):=I.tuple hb
 let i1:js Z7.toArray.toList ns:=intsAre_of r1
 let i2:js its2.toArray.toList ms:=intsAre_of r2
 exact HT.lt_tupInts p1 p2 i1 i2 hu ⟨.bl (HT.lexLt ns ms),H,I,rfl,q⟩
inductive rCatT (K:ib)(x:V)(y:V)(H:Hp)(Q:VK):Prop
 | mk (a:_)(b:_)(xs:_)(ys:_)(_:x=.ref a)(_:y=.ref b)(_:SqT K H a xs)(_:SqT K H b ys)(_:xs≠[])(_:xs.length+ys.length<=sizeLine)(_:(ys=[]->Q (.ref a) H))(_:(ys≠[]->∀ p,H p=Φ->Q (.ref p) (kh H p (.tup (xs++ys))))):rCatT K x y H Q
def Vals.nil_iff {xs:List V}{us:List jF}(r:Vals xs us):us=[]↔xs=[]:=by
 cases r with
 | nil=>simp
 | cons _ _=>simp
def Ei:mI X (binaryOp .Add) (rCatT X.K):=by
 intro Z9 s σ H x y v u Q I rx ry h
 let(a,b,xs,ys,rfl,rfl,ha,hb,hx,hz,q1,q2):=h
 cases rx
 cases ry
 let(Z7,r1,p1,_):=I.tuple ha
 let(its2,r2,p2,_):=I.tuple hb
 exact HT.cat_tup p1 p2 (λz=>hx (r1.nil_iff.mp z)) (λz=>⟨.ref a,H,I,rfl,q1 (r2.nil_iff.mp z)⟩) (λz=>?_) (by rw[<- r1.length,<- r2.length];exact hz)
 exact⟨.ref s.heap.objs.size,_,I.laid (t':=s.toks) (o:=.tup (xs++ys)) (λb ob q=>bx _ q) (iK _) ?_,rfl,q2 (λw=>z (r2.nil_iff.mpr w)) _ (I.hok.fresh (iK _))⟩
 exact⟨by rw[cR];exact hz,_,r1.append r2,jd _ _⟩
end
abbrev ixN (n:Nat) (i:Int):Option Nat:=if 0<=i then (if i<n then Ψ i.toNat else Φ) else if -(n:Int)<=i then Ψ (i+n).toNat else Φ
abbrev atI {α:Type}(xs:List α) (i:Int):Option α:=(ixN xs.length i).bind λj=>xs[j]?
def yM {n:Nat}{i:Int}{j:Nat}(h:ixN n i=Ψ j):seqIndex? i n=Ψ j/\j<n/\-(n:Int)<=i/\i<n:=by
 unfold ixN at h
 by_cases h0:0<=i
 ·rw[if_pos h0] at h
  by_cases h1:i<n
  ·rw[if_pos h1] at h
   let e:i.toNat=j:=fo h
   exact⟨by rw[iF h0 h1,e],⋯,⋯,h1⟩
  ·rw[if_neg h1] at h;cases h
 ·rw[if_neg h0] at h
  by_cases h1:-(n:Int)<=i
  ·rw[if_pos h1] at h
   let e:(i+n).toNat=j:=fo h
   exact⟨by rw[gY ⋯ h1,e],⋯,h1,⋯⟩
  ·rw[if_neg h1] at h;cases h
def zh {α:Type}{xs:List α}{i:Int}{v:α}(h:atI xs i=Ψ v):∃ j,seqIndex? i xs.length=Ψ j/\xs[j]?=Ψ v/\j<xs.length/\-(xs.length:Int)<=i/\i<xs.length:=by
 unfold atI at h
 cases e:ixN xs.length i with
 | none=>rw[e] at h;cases h
 | some j =>
  rw[e] at h
  let(h1,h2,h3,h4):=yM e
  exact⟨j,h1,h,h2,h3,h4⟩
abbrev zk (b:Expr):Prop:=∀ o i,subscripted b Ξ o i=operate [o,i] (getItem o i)
abbrev NT (X:Cx)(r:R2):Prop :=
 ∀ (value slice:Expr)(Z9:List (jP×Obj))(s:jw)(σ:St)(H:Hp)(x y:V)(v u:jF)(Q:VK),Inv X Z9 σ H s->RelV x v->RelV y u->r x y H Q ->
  subscripted slice Ξ v u=operate [v,u] (getItem v u)->wpAny (model X.prog X.w) X.A (subscriptTail value slice v u) (EP X Z9 σ Q) X.xe s
abbrev J5 (X:Cx)(id:String)(r:V->List V->Hp->VK->Prop):Prop :=
 ∀ (Z9:List (jP×Obj))(s:jw)(σ:St)(H:Hp)(x:V)(xs:List V)(v:jF)(us:List jF)(Q:VK),Inv X Z9 σ H s->RelV x v->Vals xs us->r x xs H Q ->
  wpAny (model X.prog X.w) X.A (call (.builtin id) (v :: us)) (EP X Z9 σ Q) X.xe s
section
variable {X:Cx}{a b:Expr}{ta tb:TE}{pos:Pos}
def Gc {r:R2}(hr:NT X r)(ha:PE X a ta)(hb:PE X b tb)(hs:zk b):PE X (.Subscript a b pos) (F2 r ta tb):=by
 intro Z9 s σ H Q I h
 exact iW (Jb ha hb I h λv u s2 x y H2 I2 rx ry q=>hr a b Z9 s2 σ H2 x y v u Q I2 rx ry q (hs _ _))
inductive rIxL (K:ib)(x:V)(y:V)(H:Hp)(Q:VK):Prop
 | mk (p:_)(xs:_)(i:_)(v:_)(_:x=.ref p)(_:y=.int i)(_:SqL K H p xs)(_:atI xs i=Ψ v)(_:Q v H):rIxL K x y H Q
inductive rIxT (K:ib)(x:V)(y:V)(H:Hp)(Q:VK):Prop
 | mk (p:_)(xs:_)(i:_)(v:_)(_:x=.ref p)(_:y=.int i)(_:SqT K H p xs)(_:atI xs i=Ψ v)(_:Q v H):rIxT K x y H Q
def EB:NT X (rIxL X.K):=by
 intro value slice Z9 s σ H x y v u Q I rx ry h hs
 let(p,xs,i,z,rfl,rfl,hq,he,q):=h
 cases rx
 let(t,rfl):=ry
 let(Z7,r,pl,hz):=I.list hq
 let(j,h1,h2,h3,h4,h5):=zh he
 let(w,ew,rw'):=r.get h2
 let hl:=r.length
 let hn:=rO
 let fin:EP X Z9 σ Q w s:=⟨z,H,I,rw',q⟩
 by_cases h0:0<=i
 ·let hj:i.toNat=j:=by
   rw[iF h0 h5] at h1
   exact fo h1
  exact item_listR pl.isList h0 ⋯ (by rw[hj];simpa using ew) fin hs
 ·let hj:(i+(Z7.toArray.size:Int)).toNat=j:=by
   rw[gY ⋯ h4] at h1
   rw[dG,<- hl]
   exact fo h1
  exact bj (x:=w) pl.isList.typeIs dj.lookup
   (wpAny_getItem_list_neg (Q:=λr s'=>r=w/\EP X Z9 σ Q r s') pl.isList ⋯ (by rw[dG]<;>lia) ⋯ (by rw[hj];simpa using ew) ⟨rfl,fin⟩) hs
def HK:NT X (rIxT X.K):=by
 intro value slice Z9 s σ H x y v u Q I rx ry h hs
 let(p,xs,i,z,rfl,rfl,hq,he,q):=h
 cases rx
 let(t,rfl):=ry
 let(Z7,r,pl,hz):=I.tuple hq
 let(j,h1,h2,h3,h4,h5):=zh he
 let(w,ew,rw'):=r.get h2
 let hl:=r.length
 let hn:=rO
 let fin:EP X Z9 σ Q w s:=⟨z,H,I,rw',q⟩
 exact bj (x:=w) pl.typeIs slot_tuple_getitem.lookup
  (getItem_tuple (j:=j) (Q:=λr s'=>r=w/\EP X Z9 σ Q r s') pl ⋯ ⋯ (by rw[dG,<- hl];exact h1) (by simpa using ew) ⟨rfl,fin⟩) hs
def xC (Z7:List jF) (n j:Nat)(u:jF):iZ (·.setIfInBounds j u) { cls:=.type "list",data:=.seq Z7.toArray n } = { cls:=.type "list",data:=.seq (Z7.set j u).toArray n }:=by
 simp[iZ]
def Inv.lst {Z9:List (jP×Obj)}{σ:St}{H:Hp}{s:jw}{p:jP}{xs:List V}(I:Inv X Z9 σ H s)(h:H p=Ψ (.lst xs)) :
  ∃ (Z7:List jF) (n:Nat),Vals xs Z7/\s.heap.get? p=Ψ { cls:=.type "list",data:=.seq Z7.toArray n }/\xs.length<=sizeLine:=by
 let(z,Z7,n,r,e):=I.hok p _ h
 exact⟨Z7,n,r,e,z⟩
def Inv.lstUpd {Z9:List (jP×Obj)}{σ:St}{H:Hp}{s:jw}{p:jP}{xs ys:List V}{Z7 its':List jF}{n n':Nat}{f:Obj->Obj}(I:Inv X Z9 σ H s)(h:H p=Ψ (.lst xs))
  (ho:s.heap.get? p=Ψ { cls:=.type "list",data:=.seq Z7.toArray n })(hf:f { cls:=.type "list",data:=.seq Z7.toArray n } = { cls:=.type "list",data:=.seq its'.toArray n' })(r:Vals ys its')(hz:ys.length<=sizeLine) (t:Nat) :
  Inv X Z9 σ (kh H p (.lst ys)) { s with heap:=s.heap.update p f,toks:=t }:=by
 let e:(s.heap.update p f).get? p=Ψ { cls:=.type "list",data:=.seq its'.toArray n' }:=by
  rw[bK f ho (by rw[hf]<;>rfl),hf]
 exact I.write (x:=p) (e:=p) (by rw[h];trivial) (.inl rfl) (λb u hb q=>(bw _ _ (jp hb)).trans q) ⟨_,e⟩ ?_
 exact⟨hz,its',n',r,e⟩
inductive rSetL (o:V)(i:V)(v:V)(H:Hp)(Q:(Hp->Prop)):Prop
 | mk (p:_)(xs:_)(k:_)(j:_)(_:o=.ref p)(_:i=.int k)(_:H p=Ψ (.lst xs))(_:ixN xs.length k=Ψ j)(_:Q (kh H p (.lst (xs.set j v)))):rSetL o i v H Q
def A1:L9 X rSetL:=by
 intro Z9 s σ H o i v ov iv u Q I ro ri rv h
 let(p,xs,k,j,rfl,rfl,hp,hj,q):=h
 cases ro
 let(t,rfl):=ri
 let(Z7,n,r,ho,hz):=I.lst hp
 let(h1,h2,h3,h4):=yM hj
 let hl:=r.length
 let hn:=rO
 let I':Inv X Z9 σ (kh H p (.lst (xs.set j v))) { s with heap:=s.heap.update p (iZ (·.setIfInBounds j u)) } :=
  I.lstUpd hp ho (xC Z7 n j u) (r.set rv j) (by rw[fB];exact hz) s.toks
 by_cases h0:0<=k
 ·let hk:k.toNat=j:=by
   rw[iF h0 h4] at h1
   exact fo h1
  exact PySem.W.ki_setAt ho h0 ⋯ (by rw[dG,<- hl];exact h4) (by rw[hk];exact⟨_,I',q⟩)
 ·let hk:(k+(Z7.toArray.size:Int)).toNat=j:=by
   rw[gY ⋯ h3] at h1
   rw[dG,<- hl]
   exact fo h1
  exact PySem.W.ki_setBack ho ⋯ (by rw[dG,<- hl];exact h3) ⋯ (by rw[hk];exact⟨_,I',q⟩)
def uB (lo hi:Option Int) (n:Nat):(sliceBounds lo hi Φ n).1=((HT.sIx n 0 lo:Nat):Int)/\(sliceBounds lo hi Φ n).2.1=((HT.sIx n n hi:Nat):Int)/\(sliceBounds lo hi Φ n).2.2=1:=by
 exact⟨?_,?_,rfl⟩
 ·cases lo with
  | none=>simp[sliceBounds,HT.sIx]
  | some i =>
   simp![sliceBounds,HT.sIx,et,show (1:Int) > 0 by decide,if_true]
   by_cases h:i<0
   ·simp![h,if_true]<;>lia
   ·simp![h,if_false]<;>lia
 ·cases hi with
  | none=>simp[sliceBounds,HT.sIx]
  | some i =>
   simp![sliceBounds,HT.sIx,et,show (1:Int) > 0 by decide,if_true]
   by_cases h:i<0
   ·simp![h,if_true]<;>lia
   ·simp![h,if_false]<;>lia
def sU (Z7:List jF)(lo hi:Option Int):slicePick Z7.toArray lo hi Φ=((Z7.drop (HT.sIx Z7.length 0 lo)).take (HT.sIx Z7.length Z7.length hi-HT.sIx Z7.length 0 lo)).toArray:=by
 let(h1,h2,h3):=uB lo hi Z7.toArray.size
 unfold slicePick
 rw[h1,h2,h3]
 simp -iota only[sliceRange_one,pick_run,dG]<;>rfl
inductive rSlL (K:ib)(x:V)(lo:Option Int)(hi:Option Int)(H:Hp)(Q:VK):Prop
 | mk (a:_)(xs:_)(_:x=.ref a)(_:SqL K H a xs)(_:∀ p,H p=Φ->Q (.ref p) (kh H p (.lst (wS xs lo hi)))):rSlL K x lo hi H Q
def yi:J4 X (rSlL X.K):=by
 intro Z9 s σ H x v vl vu lo hi sl Q I rx hs pl pu h
 let(a,xs,rfl,hx,q):=h
 cases rx
 let(Z7,r,ht,hz):=I.list hx
 let hlen:=r.length
 exact⟨"list",_,dj.lookup,ht.isList.typeIs,?_⟩
 exact wpAny_getItem_list_slice ht.isList hs pl pu .none ∅ ?_ (by rw[dG]<;>lia)
 rw[sU,<- hlen]
 exact⟨.ref s.heap.objs.size,_,I.laid (t':=s.toks) (o:=.lst (wS xs lo hi)) (λb ob q=>bx _ q) (iK _) ?_,rfl,q _ (I.hok.fresh (iK _))⟩
 exact⟨ik (qI xs lo hi) hz,_,0,(r.drop (HT.sIx xs.length 0 lo)).take (HT.sIx xs.length xs.length hi-HT.sIx xs.length 0 lo),cw _ rfl⟩
def vn:kN X (.builtin "len") (λxs H Q=>∃ p ys,xs=[.ref p]/\(SqL X.K H p ys ∨ SqT X.K H p ys)/\Q (.int ys.length) H):=by
 intro Z9 s σ H xs us Q I r h
 let(p,ys,rfl,hq,q):=h
 let(u,rfl,rx):=vals1 r
 cases rx
 let hn:=rO
 rcases hq with hq|hq
 ·let(Z7,r',pl,hz):=I.list hq
  let hlen:=r'.length
  exact Calls.call_len_list pl.isList (by simp -iota only[dG]<;>lia) ⟨.int ys.length,H,I.tok _,⟨s.toks+1,by rw[dG,hlen]⟩,q⟩
 ·let(Z7,r',pl,hz):=I.tuple hq
  let hlen:=r'.length
  exact len_tuple pl (by simp -iota only[dG]<;>lia) ⟨.int ys.length,H,I.tok _,⟨s.toks+1,by rw[dG,hlen]⟩,q⟩
def vm:kN X (.type "list") (λxs H Q=>∃ p ys,xs=[.ref p]/\(SqL X.K H p ys ∨ SqT X.K H p ys)/\∀ l,H l=Φ->Q (.ref l) (kh H l (.lst ys))):=by
 intro Z9 s σ H xs us Q I r h
 let(p,ys,rfl,hq,q):=h
 let(u,rfl,rx):=vals1 r
 cases rx
 let fin:∀ (Z7:List jF),Vals ys Z7->ys.length<=sizeLine->∀ (h':jM) (c':Nat),(∀ b o',s.heap.get? b=Ψ o'->h'.get? b=Ψ o') ->
   h'.get? s.heap.objs.size=Ψ { cls:=.type "list",dict:=Φ,data:=.seq Z7.toArray c',slots:=#[] }->EP X Z9 σ Q (.ref s.heap.objs.size) { s with heap:=h' }:=λZ7 r' hz h' c' kp e =>
  ⟨.ref s.heap.objs.size,_,I.laid (t':=s.toks) kp (iK _) (show ObjOk X.prog X.w _ h' _ (.lst ys) from ⟨hz,Z7,c',r',e⟩),rfl,q _ (I.hok.fresh (iK _))⟩
 rcases hq with hq|hq
 ·let(Z7,r',pl,hz):=I.list hq
  let hlen:=r'.length
  let(o,ho,hc,n,hd):=pl.isList
  exact gF p (.inl rfl) ho hc hd (λh' c' kp e=>fin Z7 r' hz h' c' kp e) (by simp -iota only[dG]<;>lia)
 ·let(Z7,r',pl,hz):=I.tuple hq
  let hlen:=r'.length
  let(o,ho,hc,n,hd):=pl
  exact gF p (.inr rfl) ho hc hd (λh' c' kp e=>fin Z7 r' hz h' c' kp e) (by simp -iota only[dG]<;>lia)
def mP:kN X (.type "tuple") (λxs H Q=>∃ p ys,xs=[.ref p]/\((SqL X.K H p ys/\∀ l,H l=Φ->Q (.ref l) (kh H l (.tup ys))) ∨ (SqT X.K H p ys/\Q (.ref p) H))):=by
 intro Z9 s σ H xs us Q I r h
 let(p,ys,rfl,h):=h
 let(u,rfl,rx):=vals1 r
 cases rx
 rcases h with⟨hq,q⟩|⟨hq,q⟩
 ·let(Z7,r',pl,hz):=I.list hq
  let hlen:=r'.length
  exact call_tuple_list pl.isList (λh' kp=>?_) (by simp -iota only[dG]<;>lia)
  let I1:Inv X Z9 σ H { s with heap:=h' }:=I.kept (t':=s.toks) kp
  let I2:Inv X Z9 σ (kh H h'.objs.size (.tup ys)) { s with heap:=h'.push { cls:=.type "tuple",data:=.seq Z7.toArray } } :=
   I1.laid (t':=s.toks) (λb o e=>bx _ e) (iK _) (show ObjOk X.prog X.w _ _ _ (.tup ys) from ⟨hz,Z7,r',jd _ _⟩)
  exact⟨.ref h'.objs.size,_,I2,rfl,q _ (I1.hok.fresh (iK _))⟩
 ·let(Z7,r',pl,hz):=I.tuple hq
  exact call_tuple_same pl ⟨.ref p,H,I,rfl,q⟩
abbrev Mp (K:ib)(T:String)(x:V)(H:Hp):Prop:=match x with
 | .str _=>T = "str"
 | .int _=>T = "int"
 | .ref p=>(T = "list"/\∃ xs,SqL K H p xs) ∨ (T = "tuple"/\∃ o,K.lookup p=Ψ o/\o.cls=.type "tuple"/\o.dict=Φ) ∨
   (T = "dict"/\((∃ kvs,H p=Ψ (.dK kvs)) ∨ ∃ kvs,H p=Ψ (.dT kvs))) ∨ (T = "set"/\∃ S n,H p=Ψ (.set S n))
 | _=>False
def AF {Z9:List (jP×Obj)}{σ:St}{H:Hp}{s:jw}{T:String}{x:V}{v:jF}(I:Inv X Z9 σ H s)(r:RelV x v)(ty:Mp X.K T x H) :
  s.TypeIs v T/\∀ a,v=.ref a->∃ ob,s.heap.get? a=Ψ ob/\ob.dict=Φ:=by
 cases x with
 | str z =>
  let(t,rfl):=r
  cases (show T = "str" from ty)
  exact⟨typeIs_str s z t,λ_ e=>nomatch e⟩
 | int i =>
  let(t,rfl):=r
  cases (show T = "int" from ty)
  exact⟨iT s i t,λ_ e=>nomatch e⟩
 | ref p =>
  cases r
  rcases ty with⟨rfl,xs,hq⟩|⟨rfl,o,hk,hc,hd⟩|⟨rfl,hk⟩|⟨rfl,S,n,hk⟩
  ·let(Z7,_,pl,_):=I.list hq
   exact⟨pl.isList.typeIs,λa e=>?_⟩
   cases e
   let(o,n,e,c,hd,_):=pl
   exact⟨o,e,hd⟩
  ·exact⟨⟨o,I.kIn p o hk,hc⟩,λa e=>?_⟩
   cases e
   exact⟨o,I.kIn _ o hk,hd⟩
  ·let z:∃ o,s.heap.get? p=Ψ o/\o.ExactDict:=by
    rcases hk with⟨kvs,hk⟩|⟨kvs,hk⟩
    ·let(_,_,_,_,o,_,_,e,ex,_):=I.hok p _ hk
     exact⟨o,e,ex⟩
    ·let(_,_,_,_,o,_,_,e,ex,_):=I.hok p _ hk
     exact⟨o,e,ex⟩
   let(o,e,ex):=z
   exact⟨⟨o,e,ex.1⟩,λa e2=>?_⟩
   cases e2
   exact⟨o,e,ex.2.1⟩
  ·let(o,_,_,_,e,ex,_):=I.hok p _ hk
   exact⟨⟨o,e,ex.1⟩,λa e2=>?_⟩
   cases e2
   exact⟨o,e,ex.2.1⟩
 | _=>exact i9 ty
abbrev tBM (K:ib)(T:String)(r:V->List V->Hp->VK->Prop)(to:TE)(t:TA):TE:=λσ H Q=>to σ H λx H1=>Mp K T x H1/\t σ H1 λxs H2=>r x xs H2 Q
variable {o e:Expr}{es:List Expr}{to:TE}{t:TA}{name:Str}{apos Z1:Pos}{T id:String}{r:V->List V->Hp->VK->Prop}
def Bz (pa:PlainAttrs T)(slot:Slot T name id)(hty:typeOf (.builtin id)=pure (.type "method_descriptor"))(hm:J5 X id r)(ho:PE X o to)(ha:PA X (e :: es) t)
  (hbase:attributeBase o name X.env (eval o X.env)=eval o X.env:=by rfl)
  (hfew:((backTo Z1 (starEach (e :: es) X.env)).all (λx=>!x.1) && (backToKw Z1 (keywordEach [] X.env)).all (λx=>x.1.isSome)
   && Δ ((e :: es).length+([]:List Keyword).length+(if ([]:List Keyword).isEmpty then 0 else 1)<30))=Ω:=by rfl)
  (hline:(apos.endLine == Z1.line)=Ω:=by rfl)(hs:starEach (e :: es) X.env=(Ξ,eval e X.env) :: starEach es X.env:=by rfl)(hplain:(backTo Z1 (starEach es X.env)).any (·.1)=Ξ:=by rfl) :
  PE X (.Call (.Attribute o name apos) (e :: es) [] Z1) (tBM X.K T r to t):=by
 intro Z9 s σ H Q I h
 exact wpAny_Call_method_late hbase hfew hline rfl (ko (ho Z9 s σ H _ I h) λv s1 ⟨x,H1,I1,r1,ty,q1⟩=>?_)
 let(h1,h2):=AF I1 r1 ty
 exact⟨T,id,pa,slot,hty,h1,h2,?_⟩
 let hA:=ha Z1 Z9 s1 σ H1 _ I1 q1
 rw[hs] at hA ⊢
 exact Calls.callWith_builtin (by show (Ξ || (backTo Z1 (starEach es X.env)).any (·.1))=Ξ;rw[hplain]<;>rfl) (Calls.evalArgs_plain ?_)
 exact ko hA λus s2 q2=>?_;let(vs,H2,I2,r2,q2):=q2;exact hm Z9 s2 σ H2 x vs v us Q I2 r1 r2 q2
end
abbrev Rf (X:Cx)(id:String)(r:V->List V->Hp->VK->Prop):Prop :=
 ∀ (Z9:List (jP×Obj))(s:jw)(σ:St)(H:Hp)(x:V)(xs:List V)(v:jF)(us:List jF)(Q:VK),Inv X Z9 σ H s->RelV x v->Vals xs us->r x xs H Q ->
  wpAny (model X.prog X.w) X.A (call (.builtin id) (v :: us)) (EP X Z9 σ Q) X.xe s
def Vals.one:∀ {x:V}{us:List jF},Vals [x] us->∃ u,us=[u]/\RelV x u:=λh=>by
 let(u,r,rfl,h1,h2):=h.unc
 exact⟨u,by rw[h2.unn],h1⟩
def Vals.reverse {xs:List V}{us:List jF}(h:Vals xs us):Vals xs.reverse us.reverse:=by
 induction h with
 | nil=>exact .nil
 | cons r t ih=>rw[dH,dH];exact Vals.append ih (.cons r .nil)
def Vals.rep {xs:List V}{us:List jF}(h:Vals xs us):∀ k:Nat,Vals (gf k xs).flatten (gf k us).flatten
 | 0=>.nil
 | k+1=>by
  rw[cp,cp,dL,dL]
  exact Vals.append h (Vals.rep h k)
def foldl_rep (Z7:List jF):∀ (k:Nat)(Z8:List jF),
  i8 (λx1 x2=>x1++x2) Z8.toArray (gf k Z7.toArray)=(Z8++(gf k Z7).flatten).toArray
 | 0,Z8=>by simp
 | k+1,Z8=>by
  let e:Z8.toArray++Z7.toArray=(Z8++Z7).toArray:=∅
  let e2:(Z8++Z7)++(gf k Z7).flatten=Z8++(gf (k+1) Z7).flatten:=by
   rw[cp,dL,dM]
  rw[<- e2,<- foldl_rep Z7 k (Z8++Z7),<- e,cp,List.foldl_cons]
section
variable {X:Cx}{Z9:List (jP×Obj)}{σ:St}{H:Hp}{s:jw}{l:jP}{xs ys:List V}
def Inv.lset {Z7 its':List jF}{n:Nat}{f:Array jF->Array jF}{t':Nat}(I:Inv X Z9 σ H s)(hH:H l=Ψ (.lst xs))
  (e:s.heap.get? l=Ψ { cls:=.type "list",data:=.seq Z7.toArray n })(hf:f Z7.toArray=its'.toArray)(hv:Vals ys its')(hz:ys.length<=sizeLine) :
  Inv X Z9 σ (kh H l (.lst ys)) { s with heap:=s.heap.update l (iZ f),toks:=t' }:=by
 let q:=PySem.IsL.update e f
 rw[hf] at q
 exact I.write (x:=l) (e:=l) (by rw[hH];exact trivial) (.inl rfl) (λb' u hb hu=>(bw s.heap (iZ f) (jp hb)).trans hu) ⟨_,q⟩ ?_
 exact⟨hz,its',_,hv,q⟩
def Inv.lnew {Z7:List jF}{t':Nat}(I:Inv X Z9 σ H s)(hv:Vals ys Z7)(hz:ys.length<=sizeLine) :
  Inv X Z9 σ (kh H s.heap.objs.size (.lst ys)) { s with heap:=s.heap.push { cls:=.type "list",data:=.seq Z7.toArray },toks:=t' } :=
 I.laid (λ_ _ q=>bx _ q) (iK _) ⟨hz,Z7,0,hv,cw _ rfl⟩
def Inv.fresh (I:Inv X Z9 σ H s):H s.heap.objs.size=Φ:=I.hok.fresh (iK _)
def Inv.lstM (I:Inv X Z9 σ H s)(hH:H l=Ψ (.lst xs)):xs.length<=sizeLine/\∃ (Z7:List jF) (n:Nat),Vals xs Z7/\xs.length=Z7.length/\s.heap.get? l=Ψ { cls:=.type "list",data:=.seq Z7.toArray n }:=by
 let(z,Z7,n,r,e):=I.hok l _ hH
 exact⟨z,Z7,n,r,r.length,e⟩
def rF {n:Nat}(h:n<=sizeLine):aX n=Ξ:=by
 unfold aX
 exact decide_eq_false ⋯
end
section
variable {X:Cx}
inductive rAppend (x:V)(vs:List V)(H:Hp)(Q:VK):Prop
 | mk (l:_)(xs:_)(y:_)(_:x=.ref l)(_:vs=[y])(_:H l=Ψ (.lst xs))(_:xs.length<sizeLine)(_:Q .non (kh H l (.lst (xs++[y])))):rAppend x vs H Q
def oO:Rf X "list.append" rAppend:=by
 intro Z9 s σ H x vs v us Q I rx rv h
 let(l,xs,y,rfl,rfl,hH,hz,q):=h
 cases rx
 let(u,rfl,ru):=rv.one
 let(z,Z7,n,r,hl,e):=I.lstM hH
 exact iU F.slot_list_append ⟨_,e,rfl⟩ F.entry_list_append (F.args_list_append_2 _ _) (PySem.list_append l Z7.toArray n u (by rw[dG];lia)) ⟨e,?_⟩
 exact⟨.non,_,I.lset (its':=Z7++[u]) hH e ∅ (r.append (.cons ru .nil)) ?_,rfl,q⟩
 rw[cR,List.length_singleton]
 lia
inductive rExtend (x:V)(vs:List V)(H:Hp)(Q:VK):Prop
 | mk (l:_)(b:_)(xs:_)(zs:_)(_:x=.ref l)(_:vs=[.ref b])(_:H l=Ψ (.lst xs))(_:H b=Ψ (.lst zs))(_:xs.length+zs.length<=sizeLine)(_:Q .non (kh H l (.lst (xs++zs)))):rExtend x vs H Q
def zS:Rf X "list.extend" rExtend:=by
 intro Z9 s σ H x vs v us Q I rx rv h
 let(l,b,xs,zs,rfl,rfl,hH,hB,hz,q):=h
 cases rx
 let(u,rfl,ru):=rv.one
 cases ru
 let(z,Z7,n,r,hl,e):=I.lstM hH
 let(z2,its2,n2,r2,hl2,e2):=I.lstM hB
 let hsz:Z7.toArray.size+its2.toArray.size<=sizeLine:=by rw[dG,dG];lia
 let hlong:¬ (!Z7.toArray.isEmpty && aX (Z7.toArray.size+its2.toArray.size))=Ω:=by
  rw[rF hsz,gr]
  exact cU
 refine iU F.slot_list_extend ⟨_,e,rfl⟩ F.entry_list_extend (F.args_list_extend_2 _ _)
  (AutoSeq1.list_extend_list_list_0 l Z7.toArray n b its2.toArray n2 hlong (by rw[dG];lia) ⋯) ⟨e,e2,?_⟩
 exact⟨.non,_,I.lset (its':=Z7++its2) hH e ∅ (r.append r2) ?_,rfl,q⟩
 rw[cR]
 lia
inductive rCat (x:V)(y:V)(H:Hp)(Q:VK):Prop
 | mk (l:_)(b:_)(xs:_)(zs:_)(_:x=.ref l)(_:y=.ref b)(_:H l=Ψ (.lst xs))(_:H b=Ψ (.lst zs))(_:xs.length+zs.length<=sizeLine)(_:∀ p,H p=Φ->Q (.ref p) (kh H p (.lst (xs++zs)))):rCat x y H Q
def Ht:mI X (binaryOp .Add) rCat:=by
 intro Z9 s σ H x y v u Q I rx ry h
 let(l,b,xs,zs,rfl,rfl,hH,hB,hz,q):=h
 cases rx
 cases ry
 let(z,Z7,n,r,hl,e):=I.lstM hH
 let(z2,its2,n2,r2,hl2,e2):=I.lstM hB
 exact PySem.P.add_list e e2 ?_ (by rw[dG,dG];lia)
 let ea:Z7.toArray++its2.toArray=(Z7++its2).toArray:=∅
 rw[ea]
 exact⟨.ref _,_,I.lnew (t':=s.toks) (r.append r2) (by rw[cR];lia),rfl,q _ I.fresh⟩
inductive rRep (x:V)(y:V)(H:Hp)(Q:VK):Prop
 | mk (l:_)(k:_)(xs:_)(_:x=.ref l)(_:y=.int k)(_:H l=Ψ (.lst xs))(_:-(2 ^ 63)<=k)(_:k<2 ^ 63)(_:xs.length*k.toNat<=sizeLine)(_:∀ p,H p=Φ->Q (.ref p) (kh H p (.lst (gf k.toNat xs).flatten))):rRep x y H Q
def yJ {α:Type}(xs:List α) (k:Nat):(gf k xs).flatten.length=k*xs.length:=by
 induction k with
 | zero=>simp
 | succ k ih=>rw[cp,dL,cR,ih,Nat.succ_mul,Nat.add_comm]
def Hn:mI X (binaryOp .Mult) rRep:=by
 intro Z9 s σ H x y v u Q I rx ry h
 let(l,k,xs,rfl,rfl,hH,h1,h2,hz,q):=h
 cases rx
 let(t,rfl):=ry
 let(z,Z7,n,r,hl,e):=I.lstM hH
 let hlen:Z7.toArray.size*k.toNat<=sizeLine:=by rw[dG,<- hl];exact hz
 let hcap:¬ Z7.toArray.size*k.toNat > (2 ^ 63-1) / 8:=by
  have:(sizeLine:Nat)<=(2 ^ 63-1) / 8:=(·)
  lia
 let hfit:¬ (!aG k)=Ω:=by
  rw[fitsIndex_both h1 h2]
  exact cU
 let hlong:¬ aX (Z7.toArray.size*k.toNat)=Ω:=by
  rw[rF hlen]
  exact cU
 let hnew:i8 (λx1 x2=>x1++x2) #[] (gf (if Z7.toArray.isEmpty=Ω then 0 else k.toNat) Z7.toArray)=(gf k.toNat Z7).flatten.toArray:=by
  let f0:∀ m:Nat,i8 (λx1 x2=>x1++x2) #[] (gf m Z7.toArray)=(gf m Z7).flatten.toArray:=λm=>by
   have:=foldl_rep Z7 m []
   rw[fw] at this
   exact this
  rw[f0]
  cases Z7 with
  | nil=>simp
  | cons a r'=>rw[if_neg ∅]
 refine wpAny_binaryOp_repeat_ref (T:="list") (U:="int") (·) ⟨_,e,rfl⟩ (λs'=>iT s' k t) noFill_list_mul F.fills_int_mul fJ repeat_list F.slot_int_index.lookup
  (iU fJ (iT s k t) F.entry_int_rmul (F.args_int_rmul_2 _ _) (int___rmul___int_list k t l Z7.toArray n)
   ⟨e,rfl,⟨_,e,rfl⟩,iU F.slot_list_mul ⟨_,e,rfl⟩ F.entry_list_mul (F.args_list_mul_2 _ _) (AutoListH.list___mul___list_int_3 l Z7.toArray n k t hfit hcap hlong) ⟨e,?_⟩⟩)
 rw[hnew]
 exact⟨.ref _,_,I.lnew (t':=s.toks) (r.rep k.toNat) (by rw[yJ,Nat.mul_comm];exact hz),rfl,q _ I.fresh⟩
end
end L2
namespace Att
open PySem PySem.W PySem.Calls PyProof.Rows
def qP {P:Params}{h:jM}:∀ (ns:List Int)(vs:List jF),WellAll P h vs (ns.map WData.int)->js vs ns:=by
 intro ns
 induction ns with
 | nil =>
  intro vs w
  rw[iu] at w
  cases w
  exact .nil
 | cons n ns ih =>
  intro vs w
  rw[gN] at w
  cases w with
  | cons a b =>
   cases a
   exact .cons _ _ (ih _ b)
def zF {l:jo}{n:Nat}(hn:l.most=Ψ n){P:Params}{h:jM}{args:List WData}{vals:List jF}
  (ZY:l.row.toRowW.claim.pre args=Ω)(hwl:WellAll P h vals args) :
  ∃ a vs ns,vals=[Value.ref a]/\args=[WData.list (ns.map WData.int)]/\h.get? a=Ψ { cls:=.type "list",data:=.seq vs.toArray }/\js vs ns/\ns.length<=n:=by
 let hsh:WShape.hasAll [] args [.list .int]=Ω:=(pre_splitW ZY).1
 let hc:l.pre.holds [] { args:=args } = Ω:=(pre_splitW ZY).2
 let(d,r,rfl,h1,h2):=hasAllW_cons hsh
 obtain rfl:=hasAllW_nil h2
 let(xs,rfl,h3):=hasW_list h1
 let(ns,rfl):=items_int h3
 let hlen:ns.length<=n:=by
  unfold OpenLaw.pre at hc
  let h4:(WTm.not (.lt (.lit (.int (n:Int))) (.len (.arg 0)))).holds [] { args:=[.list (ns.map .int)] } = Ω:=by
   let h4:=(holds_andW hc).1
   rw[hn] at h4
   exact h4
  let h5:=condW_of h4 (w_not (w_lt w_lit (w_len_list (w_arg rfl))))
  rw[fE] at h5
  exact Nat.le_of_not_lt λq=>?_
  let q':(n:Int)<((ns.length:Nat):Int):=⋯
  first
   | (rw[decide_eq_true q'] at h5;exact absurd h5 (·))
   | (simp at h5;lia)
 cases hwl with
 | cons w1 w2 =>
  cases w2
  cases w1 with
  | list ho hall=>exact⟨_,_,ns,rfl,rfl,ho,qP ns _ hall,hlen⟩
def zL (l:jo)(args:List WData):l.row.toRowW.claim.post args (.bool Ω) args=Ω :=
 postW_of (r:=l.row.toRowW) (X:=(Ω == Ω))
  (show WShape.has [] (.bool Ω) .bool=Ω by first|rfl|decide|simp[WShape.has,WShape.arms,WShape.armsAll])
  (show (WTm.eq .res (.lit (.bool Ω))).value [] { args:=args,res:=Ψ (.bool Ω),after:=args } = Ψ (.bool (Ω == Ω)) from w_eq_bool (w_res rfl) w_lit) rfl
def attach_call {l:jo}{n:Nat}{q:jn}{loose:List Str}{XP:(Str->Option jF)->jM->Prop}{YP:jE->jM->Prop}{d:jC}
  (hn:l.most=Ψ n)(hdf:d.params.defaults=[])
  (call:∀ (w:jE)(s₀ s₁:jw)(mg mb:Str->Option jF)(fa:jP)(o:Obj)(pm cd doc:jF)(a:jP)(vs:List jF)(ns:List Int),
   Ground q loose [] XP w s₀ mg mb s₁.heap->YP w s₁.heap ->
   s₁.heap.get? fa=Ψ o->o.data=.func (docDef d.name d.params d.body d.scope pm cd doc)->s₁.heap.CodeRec cd d.name->mg d.name=Ψ (.ref fa) ->
   s₁.heap.get? a=Ψ { cls:=.type "list",data:=.seq vs.toArray }->js vs ns->ns.length<=n->s₁.gens = #[] ->
   codeAny (model l.prog w) callerA (.call (.ref fa) ⟨[.ref a],[]⟩) (λr s'=>r=.ok (.ret (.bool Ω))/\OldK s₁.heap s'.heap/\s'.os=s₁.os/\jv s'.gens) s₁) :
  WalkO q loose XP YP l.row.toRowW d [] (λf vs=>iY f vs):=by
 intro w s₀ s₁ mg mb G Y fa o pm cd doc dV kV ho hd hcd hD hmg hg args vals as ZY hlay hrd hwl hlo
 obtain rfl:dV=.none:=Dflts.none hD hdf
 obtain rfl:kV=.none:=Dflts.noKw hD
 let(a,vs,ns,rfl,rfl,hobj,hints,hlen):=zF hn ZY hwl
 exact enter_call (hG (call w s₀ s₁ mg mb fa o pm cd doc a vs ns G Y ho (fd_plain hd) hcd hmg hobj hints hlen hg) λr s' hq=>?_)
 let(rfl,h2,h3,h4):=hq
 exact⟨.inl ⟨.bool Ω,.bool Ω,[],rfl,λ_=>rfl,.bool Ω,zL l _,λ_=>⟨List.Pairwise.nil,λ_ hm=>(nomatch hm)⟩⟩,h2,h3,h4⟩
end Att
namespace L2
open PySem PySem.Spec PyProof.Rows
def zr:∀ {vs:List jF}{ns:List Int},js vs ns->Vals (ns.map V.int) vs:=λh=>by
 induction h with
 | nil=>exact .nil
 | cons n t _ ih=>exact .cons ⟨t,rfl⟩ ih
abbrev FY (H:Hp):Prop:=∀ b,H b=Φ ∨ ∃ o xs,H b=Ψ (.frz o (.lst xs))
def B4 {P:jn}{w:jE}{K:ib}{mg mb:Str->Option jF}{CX:Az}{k:Nat}{fa a:jP}{fd:jm}{x:Str}{sp:Sp}{s₁:jw}{vs:List jF}{ns:List Int}
  (KX:K.In s₁.heap)(hns:s₁.heap.Ns mainGlobals mg)(hb:s₁.heap.Ns builtinsNs mb)(hbb:∀ x:Str,x≠"__name__"->mb x=bootBuiltins x)(hlim:s₁.heap.NoLimit)(hg:s₁.gens = #[])
  (ha:s₁.heap.get? a=Ψ { cls:=.type "list",data:=.seq vs.toArray })(hi:js vs ns)(hl:ns.length<=sizeLine)(hr:Room k callerA)
  (F:∀ base:jM,K.In base->base.Ns mainGlobals mg->FnOk P w K mg base CX k fa fd [x] sp)(hbind:∀ (s:jw)(u:jF),ju s fd ⟨[u],[]⟩ [(x,u)])
  (hsp:∀ H:Hp,FY H->SqL K H a (ns.map V.int)->sp [.ref a] H (λv _=>v=.bl Ω) λ_ _ _=>False)
  (hCX:∀ H e s',CX [] H s₁ (λ_ _ _=>False) e s'->False) :
  codeAny (model P w) callerA (.call (.ref fa) ⟨[.ref a],[]⟩) (λr s'=>r=.ok (.ret (.bool Ω))/\OldK s₁.heap s'.heap/\s'.os=s₁.os/\jv s'.gens) s₁:=by
 let rv:=zr hi
 let lenV:=hi.length
 -- from an abstract heap in which nothing but the script may be tracked
 let core:∀ H:Hp,FY H->SqL K H a (ns.map V.int)->HOk P w H s₁.heap->(∀ b,H b≠Φ->b=a)->(H a≠Φ->K.lookup a=Φ) ->
   codeAny (model P w) callerA (.call (.ref fa) ⟨[.ref a],[]⟩) (λr s'=>r=.ok (.ret (.bool Ω))/\OldK s₁.heap s'.heap/\s'.os=s₁.os/\jv s'.gens) s₁:=by
  intro H hO hS hok hA hK
  let base_of:∀ {b:jP}{o:Obj},s₁.heap.get? b=Ψ o->H b=Φ->(uX s₁.heap H).get? b=Ψ o:=λe n=>Cp e n
  let noA:∀ {b:jP}{o:Obj}{es:Array jf}{ep:Nat},s₁.heap.get? b=Ψ o->o.data=.dict es ep->H b=Φ:=λ{b o es ep} e d=>by
   cases q:H b with
   | none=>rfl
   | some u =>
    let e':b=a:=hA b (by rw[q];simp)
    subst e'
    rw[ha] at e;cases e
    let d':Data.seq vs.toArray _=Data.dict es ep:=d
    cases d'
  let nsK:∀ {b:jP}{m:Str->Option jF},s₁.heap.Ns b m->(uX s₁.heap H).Ns b m:=λ{b m} q1=>by let(o,es,ep,e,d,r):=q1;exact⟨o,es,ep,base_of e (noA e d),d,r⟩
  let hKb:K.In (uX s₁.heap H):=λb o e=>base_of (KX b o e) (by
   cases q:H b with
   | none=>rfl
   | some u =>
    let e':b=a:=hA b (by rw[q];simp)
    subst e'
    rw[hK (by rw[q];simp)] at e;cases e)
  let hM:Mod K mg (uX s₁.heap H):=⟨hKb,nsK hns,⟨mb,nsK hb,hbb⟩,let ⟨mc,h1,h2⟩:=hlim;⟨mc,nsK h1,h2⟩⟩
  let e0:Env0 P w K mg (uX s₁.heap H) callerA [] s₁ H:=⟨rfl,hM,λb o e=>El e,ip (Ab _ _),trivial,λb hb=>absurd (show b∈([]:List jP) from hb) ∅,hok,.of_eq hg⟩
  exact hG ((F _ hKb (nsK hns)).run callerA [] s₁ H ⟨[.ref a],[]⟩ [.ref a] [.ref a] _ _ hr e0 (hbind s₁ (.ref a)) (.cons rfl .nil) (hsp H hO hS)) λr s' h=>?_
  cases r with
  | error e=>exact (hCX H e s' h).elim
  | ok fl =>
   cases fl with
   | next=>exact i9 h
   | brk=>exact i9 h
   | cont=>exact i9 h
   | ret u =>
    let(v,H',os,bare,un,hok',r',q):=h
    let q':v=.bl Ω:=q
    subst q'
    obtain rfl:u=Value.bool Ω:=r'
    exact⟨rfl,OldK.of_keep λb o e=>?_,os,bare⟩
    cases q:H b with
    | none=>exact un.keep b o e q (by intro z;exact absurd (show b∈([]:List jP) from z) ∅) ∅
    | some u =>
     rcases hO b with z|⟨ob,xs,z⟩
     ·rw[q] at z;cases z
     ·let z2:=un.frzs b ob _ z
      let(e1,_):=hok b _ z
      let(e2,_):=hok' b _ z2
      rw[e] at e1;cases e1
      exact e2
 cases hk:K.lookup a with
 | some o =>
  -- the script is one of the module's own objects
  let e:=KX a o hk
  rw[ha] at e
  cases e
  refine core (λ_=>Φ) (λ_=>.inl rfl) (.inr ⟨_,vs.toArray,_,hk,rfl,rfl,rfl,by rw[dG,lenV];exact hl,by simpa using rv⟩) (λb u z=>by let z':(Φ:Option HO)=Ψ u:=z;cases z') (λb z=>absurd rfl z) λz=>absurd rfl z
 | none =>
  exact core (λb=>if b=a then Ψ (.frz { cls:=.type "list",data:=.seq vs.toArray } (.lst (ns.map V.int))) else Φ) (λb=>?_) (.inl (.inr ⟨{ cls:=.type "list",data:=.seq vs.toArray },if_pos rfl⟩)) (λb u z=>?_) (λb z=>?_) λ_=>hk
  ·by_cases hb:b=a
   ·exact .inr ⟨_,_,if_pos hb⟩
   ·exact .inl (if_neg hb)
  ·by_cases hb:b=a
   ·let z':=(if_pos hb).symm.trans z
    cases z'
    subst hb
    exact⟨ha,by rw[fE];exact hl,vs,_,rv,ha⟩
   ·let z':=(if_neg hb).symm.trans z
    cases z'
  ·by_cases hb:b=a
   ·exact hb
   ·exact absurd (if_neg hb) z
noncomputable abbrev w9:Az:=λ_ _ _ _ _ _=>False
noncomputable abbrev E0:XK:=λ_ _ _=>False
def tI {X:Cx}:pw w9 X E0:=λ_ _ _ _ _ _ _ h=>h.elim
structure Fun (K:ib)(x qual:Str)(st:jL)(f:jP)(fd:jm):Prop where
 ex:∃ (oc:jF)(od:Option jP)(kV doc pm:jF)(an:Option jP)(cdv ct:jF)(osl:Array (Option jF)),
  fd=ia x qual (nM st) (ku st) (kr st) .none kV doc pm an cdv ct/\K.lookup f=Ψ ⟨oc,od,.func fd,osl⟩/\gc K cdv qual=Ω
 kp:fY K (.ref f)=Ω
section
variable {P:jn}{w:jE}{K:ib}{mg:Str->Option jF}{base:jM}
def Fun.ok {x qual:Str}{st:jL}{f:jP}{fd:jm}{N ps:List Str}{k:Nat}{sp:Sp}(F:Fun K x qual st f fd)(S:FnScope N ps (kr st))(len:∀ vs H Q E,sp vs H Q E->vs.length=ps.length)
  (ZW:∀ (cdv:jF)(A:jD)(outer:List Env)(s:jw)(H:Hp)(vs:List V)(Q:VK)(E:XK),RoomS k (A.deeper (envOfC qual (kr st) s.heap.objs.size f cdv))->sp vs H Q E ->
   ∃ t,PSs (nX w9 P w K mg base N qual (kr st) f cdv A outer s H E).nox (ku st) t/\t { nx:=λ_ H'=>Q .non H',rt:=Q } (start N vs) H):FnOk P w K mg base w9 (k+1) f fd ps sp:=by
 let(oc,od,kV,doc,pm,an,cdv,ct,osl,rfl,lk,hcd):=F.ex
 exact Gp lk hcd S len λA outer s H vs Q E hr hsp=>?_
 let(t,h,q):=ZW cdv A outer s H vs Q E hr hsp
 exact⟨t,h.nox,q⟩
def Fun.binds {x qual:Str}{st:jL}{f:jP}{fd:jm}{ps:List Str}(F:Fun K x qual st f fd)
  (h:∀ (kV doc pm:jF)(an:Option jP)(cdv ct:jF)(us:List jF),us.length=ps.length->bindArgs (ia x qual (nM st) (ku st) (kr st) .none kV doc pm an cdv ct) ⟨us,[]⟩=pure (ps.zip us)):Binds K fd ps []:=by
 let(oc,od,kV,doc,pm,an,cdv,ct,osl,rfl,lk,hcd):=F.ex
 exact .all (h kV doc pm an cdv ct)
def Cv {x qual:Str}{st:jL}{f:jP}{oc:jF}{od an:Option jP}{osl:Array (Option jF)}{kV doc pm cdv ct:jF}(l:K.lookup f=Ψ ⟨oc,od,.func (ia x qual (nM st) (ku st) (kr st) .none kV doc pm an cdv ct),osl⟩)
  (c:gc K cdv qual=Ω)(k:fY K (.ref f)=Ω):Fun K x qual st f (ia x qual (nM st) (ku st) (kr st) .none kV doc pm an cdv ct):=⟨⟨oc,od,kV,doc,pm,an,cdv,ct,osl,rfl,l,c⟩,k⟩
end
abbrev Same (H H':Hp):Prop:=∀ b o,H b=Ψ o->H' b=Ψ o
def Same.refl (H:Hp):Same H H:=λ_ _ h=>h
def Same.trans {H H1 H2:Hp}(a:Same H H1)(b:Same H1 H2):Same H H2:=λc o h=>b c o (a c o h)
section
variable {κ:Type}[DecidableEq κ]
abbrev qK (kvs:List (κ×V))(k:κ):Option V:=(kvs.find? λkv=>Δ (kv.1=k)).map (·.2)
abbrev oW (kvs:List (κ×V))(k:κ)(v:V):List (κ×V) :=
 if (kvs.any λkv=>Δ (kv.1=k))=Ω then kvs.map (λkv=>if kv.1=k then (kv.1,v) else kv) else kvs++[(k,v)]
def pA {p:κ×V}{r:List (κ×V)}{k:κ}(e:p.1=k):qK (p :: r) k=Ψ p.2:=by simp[qK,fG,e]
def pB {p:κ×V}{r:List (κ×V)}{k:κ}(e:¬ p.1=k):qK (p :: r) k=qK r k:=by simp[qK,fG,e]
def re (k:κ):∀ kvs:List (κ×V),(kvs.any λkv=>Δ (kv.1=k))=(qK kvs k).isSome
 | []=>rfl
 | p :: r=>by
  rw[gP]
  by_cases e:p.1=k
  ·simp![pA e,decide_eq_true e,Bool.true_or,cI]
  ·rw[pB e,decide_eq_false e,Bool.false_or];exact re k r
def or (kvs:List (κ×V))(k:κ)(v:V):(oW kvs k v).length<=kvs.length+1:=by
 unfold oW
 split
 ·rw[fE];lia
 ·rw[cR,eK,fC];lia
def RelO.isSome_eq {o:Option V}{u:Option jF}(r:RelO o u):o.isSome=u.isSome:=by
 cases o with
 | none=>cases u with
  | none=>rfl
  | some _=>exact (show False from r).elim
 | some _=>cases u with
  | none=>exact (show False from r).elim
  | some _=>rfl
def KV.val {kvs:List (κ×V)}{vs:List (κ×jF)}(r:KV kvs vs)(k:κ):RelO (qK kvs k) (valueAt vs k):=by
 unfold KV at r
 induction r with
 | nil=>exact True.intro
 | @cons p q ps qs h t ih =>
  let(h1,h2):=h
  by_cases e:p.1=k
  ·let e':q.1=k:=h1.symm.trans e
   let b:valueAt (q :: qs) k=Ψ q.2:=by simp[valueAt,fG,e']
   rw[pA e,b];exact h2
  ·let e':¬ q.1=k:=λz=>e (h1.trans z)
   let b:valueAt (q :: qs) k=valueAt qs k:=by simp[valueAt,fG,e']
   rw[pB e,b];exact ih
def KV.any {kvs:List (κ×V)}{vs:List (κ×jF)}(r:KV kvs vs)(k:κ):(kvs.any λkv=>Δ (kv.1=k))=vs.any λkv=>Δ (kv.1=k):=by
 unfold KV at r
 induction r with
 | nil=>rfl
 | cons h t ih=>rw[gP,gP,ih,h.1]
def KV.repl {kvs:List (κ×V)}{vs:List (κ×jF)}(r:KV kvs vs)(k:κ){y:V}{u:jF}(ry:RelV y u) :
  KV (kvs.map λkv=>if kv.1=k then (kv.1,y) else kv) (vs.map λkv=>if kv.1=k then (kv.1,u) else kv):=by
 unfold KV at r ⊢
 induction r with
 | nil=>exact .nil
 | @cons p q ps qs h t ih =>
  rw[gN,gN]
  exact .cons ?_ ih
  let(h1,h2):=h
  by_cases e:p.1=k
  ·rw[if_pos e,if_pos (h1.symm.trans e)];exact⟨h1,ry⟩
  ·rw[if_neg e,if_neg (λz=>e (h1.trans z))];exact⟨h1,h2⟩
def KV.put {kvs:List (κ×V)}{vs:List (κ×jF)}(r:KV kvs vs)(k:κ){y:V}{u:jF}(ry:RelV y u):KV (oW kvs k y) (stored vs k u):=by
 unfold oW stored
 rw[r.any k]
 by_cases e:(vs.any λkv=>Δ (kv.1=k))=Ω
 ·rw[if_pos e,if_pos e];exact r.repl k ry
 ·rw[if_neg e,if_neg e];exact Paired.snoc r ⟨rfl,ry⟩
def KV.length {kvs:List (κ×V)}{vs:List (κ×jF)}(r:KV kvs vs):kvs.length=vs.length:=gI r
end
def wn {P:jn}{w:jE}{k:lF}{u:jF}(r:RelV (kV k) u):(kH P w).is k u=Ω:=by
 rcases k with i|x|x
 ·let(t,e):=(show ∃ t,u=Value.int i t from r);subst e;exact wb P w i t
 ·cases (show u=Value.none from r);exact uQ P w
 ·let(t,e):=(show ∃ t,u=Value.str x t from r);subst e;exact wa P w x t
def tM {P:jn}{w:jE}:∀ {ks:List lF}{us:List jF},Vals (ks.map kV) us->ItemsAre (kH P w) ks us
 | [],_,r=>by rw[iu] at r;cases r;exact .nil
 | k :: ks,_,r=>by
  rw[gN] at r
  cases r with
  | cons h t=>exact .cons (wn h) (tM t)
noncomputable abbrev KT (H:Hp):List (List lF×V)->List (List lF×jP×jF)->Prop:=jy λp q=>p.1=q.1/\H q.2.1=Ψ (.tup (p.1.map kV))/\RelV p.2 q.2.2
def KT.val {H:Hp}{kvs:List (List lF×V)}{xs:List (List lF×jP×jF)}(r:KT H kvs xs)(k:List lF):RelO (qK kvs k) ((atKey xs k).map (·.2)):=by
 induction r with
 | nil=>exact True.intro
 | @cons p q ps qs h t ih =>
  let(h1,_,h2):=h
  by_cases e:p.1=k
  ·let e':q.1=k:=h1.symm.trans e
   let b:atKey (q :: qs) k=Ψ q.2:=by simp[atKey,fG,e']
   rw[pA e,b];exact h2
  ·let e':¬ q.1=k:=λz=>e (h1.trans z)
   let b:atKey (q :: qs) k=atKey qs k:=by simp[atKey,fG,e']
   rw[pB e,b];exact ih
def KT.repl {H:Hp}{kvs:List (List lF×V)}{xs:List (List lF×jP×jF)}(r:KT H kvs xs)(k:List lF){y:V}{u:jF}(ry:RelV y u) :
  KT H (kvs.map λkv=>if kv.1=k then (kv.1,y) else kv) (xs.map (putAt k u)):=by
 induction r with
 | nil=>exact .nil
 | @cons p q ps qs h t ih =>
  rw[gN,gN]
  exact .cons ?_ ih
  let(h1,h2,h3):=h
  unfold putAt
  by_cases e:p.1=k
  ·rw[if_pos e,if_pos (h1.symm.trans e)];exact⟨h1,h2,ry⟩
  ·rw[if_neg e,if_neg (λz=>e (h1.trans z))];exact⟨h1,h2,h3⟩
def KT.put {H:Hp}{kvs:List (List lF×V)}{xs:List (List lF×jP×jF)}(r:KT H kvs xs)(k:List lF){b:jP}{y:V}{u:jF}(hb:H b=Ψ (.tup (k.map kV)))(ry:RelV y u) :
  KT H (oW kvs k y) (storedH xs k b u):=by
 let e:(kvs.any λkv=>Δ (kv.1=k))=(atKey xs k).isSome:=by
  rw[re,(r.val k).isSome_eq,dA]
 unfold oW storedH
 rw[e]
 by_cases q:(atKey xs k).isSome=Ω
 ·rw[if_pos q,if_pos q];exact r.repl k ry
 ·rw[if_neg q,if_neg q];exact Paired.snoc r ⟨rfl,hb,ry⟩
def KT.keeps {H H':Hp}{kvs:List (List lF×V)}{xs:List (List lF×jP×jF)}(r:KT H kvs xs)(ht:∀ b ys,H b=Ψ (.tup ys)->H' b=Ψ (.tup ys)):KT H' kvs xs :=
 Paired.mapP r λ_ _ z=>⟨z.1,ht _ _ z.2.1,z.2.2⟩
section
variable {P:jn}{w:jE}{H:Hp}{h:jM}{a:jP}
def F5 {u:HO}(ok:HOk P w H h)(e:Rd H a u):ObjOk P w H h a u:=e.ok ok
def tS {kvs:List (lF×V)}(ok:HOk P w H h)(e:Rd H a (.dK kvs)):kvs.length<=sizeLine/\(a == sysModules)=Ξ/\∃ vs,KV kvs vs/\h.DictOf (kH P w) a vs :=
 show ObjOk P w H h a (.dK kvs) from F5 ok e
def Gv {kvs:List (lF×V)}(ok:HOk P w H h)(e:H a=Ψ (.dK kvs)):kvs.length<=sizeLine/\(a == sysModules)=Ξ/\∃ vs,KV kvs vs/\h.DictOf (kH P w) a vs:=tS ok (.inl e)
def uS {ks:List lF}(ok:HOk P w H h)(e:H a=Ψ (.tup (ks.map kV))):(tupleKind (kH P w)).is h ks a:=by
 let(_,Z7,r,o,h1,h2,n,h3):=(show ObjOk P w H h a (.tup (ks.map kV)) from ok a _ e)
 exact⟨o,Z7.toArray,n,h1,h2,h3,by simpa using tM r⟩
def yY {kvs:List (List lF×V)}(ok:HOk P w H h)(e:Rd H a (.dT kvs)):kvs.length<=sizeLine/\(a == sysModules)=Ξ /\
  ∃ xs,KT H kvs xs/\h.DictOfH (tupleKind (kH P w)) a xs:=by
 let(z,y,xs,r,o,es,ep,h1,h2,h3,h4,h5):=(show ObjOk P w H h a (.dT kvs) from F5 ok e)
 exact⟨z,y,xs,r,o,es,ep,h1,h2,h3,h4,λx hx=>?_,h5⟩
 let all:∀ {l:List (List lF×V)}{m:List (List lF×jP×jF)},KT H l m->∀ x∈m,(tupleKind (kH P w)).is h x.1 x.2.1:=by
  intro l m q
  induction q with
  | nil=>intro x hx;exact nomatch hx
  | @cons p q ps qs hq t ih =>
   intro x hx
   rcases gM.mp hx with e|hx
   ·subst e
    exact uS ok (by rw[<- hq.1];exact hq.2.1)
   ·exact ih x hx
 exact all r x hx
def LM {kvs:List (List lF×V)}(ok:HOk P w H h)(e:H a=Ψ (.dT kvs)):kvs.length<=sizeLine/\(a == sysModules)=Ξ /\
  ∃ xs,KT H kvs xs/\h.DictOfH (tupleKind (kH P w)) a xs:=yY ok (.inl e)
end
abbrev DGet (H:Hp)(a:jP)(y:V)(r:Option V):Prop :=
 (∃ kvs k,Rd H a (.dK kvs)/\y=kV k/\r=qK kvs k) ∨ ∃ kvs k b,Rd H a (.dT kvs)/\y=.ref b/\H b=Ψ (.tup (k.map kV))/\r=qK kvs k
abbrev DPut (H:Hp)(a:jP)(y v:V)(H':Hp):Prop :=
 (∃ kvs k,H a=Ψ (.dK kvs)/\y=kV k/\kvs.length<sizeLine/\H'=kh H a (.dK (oW kvs k v))) ∨
 ∃ kvs k b,H a=Ψ (.dT kvs)/\y=.ref b/\H b=Ψ (.tup (k.map kV))/\kvs.length<sizeLine/\H'=kh H a (.dT (oW kvs k v))
def DPut.k {H:Hp}{a:jP}{kvs:List (lF×V)}{k:lF}{v:V}(e:H a=Ψ (.dK kvs))(hl:kvs.length<sizeLine):DPut H a (kV k) v (kh H a (.dK (oW kvs k v))):=.inl ⟨kvs,k,e,rfl,hl,rfl⟩
section
variable {X:Cx}{Z9:List (jP×Obj)}{σ:St}{H:Hp}{s:jw}{a:jP}{y v:V}{u r:jF}{o:Option V}{A:jD}{E:jF->jw->Prop}
def Inv.big (I:Inv X Z9 σ H s):sysModules<s.heap.objs.size:=by
 let h:mainGlobals<s.heap.objs.size:=(I.mod.glob.keeps I.bk).lt
 exact Nat.lt_trans (·) h
def tT {Q:jF->jw->Prop}(hu:A.units+1<cLine)(I:Inv X Z9 σ H s)(g:DGet H a y (Ψ v))(ry:RelV y u)(h:∀ w' s',Inv X Z9 σ H s'->RelV v w'->Q w' s') :
  wpAny (model X.prog X.w) A (getItem (.ref a) u) Q E s:=by
 rcases g with⟨kvs,k,e,ey,l⟩|⟨kvs,k,b,e,ey,eb,l⟩
 ·subst ey
  let(z,hd,vs,rel,dd):=tS I.hok e
  let(w',hw,rw'):=RelO.some_of (v:=v) (o:=valueAt vs k) (by rw[l];exact rel.val k)
  exact wpAny_getItem_of (wn ry) dd.mapOf hw (h w' _ (I.tok _) rw')
 ·subst ey
  cases (show u=Value.ref b from ry)
  let(z,hd,xs,rel,dd):=yY I.hok e
  let(w',hw,rw'):=RelO.some_of (v:=v) (o:=(atKey xs k).map (·.2)) (by rw[l];exact rel.val k)
  let(p,hp,hp2):=bq.mp hw
  exact wpAny_getItem_heap (cE hu) (uS I.hok eb) dd hp ?_
  rw[hp2]
  exact h w' _ (I.tok _) rw'
def Fg {Q:jF->jw->Prop}(hu:A.units+1<cLine)(I:Inv X Z9 σ H s)(g:DGet H a y o)(ry:RelV y u)(h:∀ s',Inv X Z9 σ H s'->Q (.bool (!o.isSome)) s') :
  wpAny (model X.prog X.w) A (compareOp .NotIn u (.ref a)) Q E s:=by
 rcases g with⟨kvs,k,e,ey,l⟩|⟨kvs,k,b,e,ey,eb,l⟩
 ·subst ey
  let(z,hd,vs,rel,dd):=tS I.hok e
  exact wpAny_notIn_of (wn ry) hd dd.mapOf ?_
  rw[<- (rel.val k).isSome_eq,<- l]
  exact h _ (I.tok _)
 ·subst ey
  cases (show u=Value.ref b from ry)
  let(z,hd,xs,rel,dd):=yY I.hok e
  exact wpAny_notIn_heap (cE hu) (uS I.hok eb) hd dd ?_
  let q:=(rel.val k).isSome_eq
  rw[dA] at q
  rw[<- q,<- l]
  exact h _ (I.tok _)
def vf {h':jM}{t':Nat}{ob:HO}(I:Inv X Z9 σ H s)(mu:Mb (H a))(hs:iz a s.heap h')(he:∃ q,h'.get? a=Ψ q)(new:ObjOk X.prog X.w (kh H a ob) h' a ob) :
  Inv X Z9 σ (kh H a ob) { s with heap:=h',toks:=t' } :=
 I.write (x:=a) (e:=a) mu (.inl rfl) (λb q hb z=>(hs.2 b hb).trans z) he new
def xU {P:jn}{w:jE}{H':Hp}{h':jM}{kvs:List (lF×V)}{vs:List (lF×jF)}(z:kvs.length<=sizeLine)(hd:(a == sysModules)=Ξ)(rel:KV kvs vs)(dd:h'.DictOf (kH P w) a vs) :
  ObjOk P w H' h' a (.dK kvs):=⟨z,hd,vs,rel,dd⟩
def Aj {H':Hp}{Q:Unit->jw->Prop}(hu:A.units+1<cLine)(I:Inv X Z9 σ H s)(g:DPut H a y v H')(ry:RelV y u)(rv:RelV v r)(h:∀ s',Inv X Z9 σ H' s'->Q () s') :
  wpAny (model X.prog X.w) A (setItem (.ref a) u r) Q E s:=by
 rcases g with⟨kvs,k,e,ey,l,eH⟩|⟨kvs,k,b,e,ey,eb,l,eH⟩
 ·subst ey eH
  let(z,hd,vs,rel,dd):=Gv I.hok e
  let hz:vs.length<=sizeLine:=by rw[<- rel.length];exact z
  let hl:(oW kvs k v).length<=sizeLine:=by have:=or kvs k v;lia
  exact wpAny_setItem_pairs (hsz:=hz) (wn ry) dd λh' dd' hs=>h _ ?_
  let he:∃ q,h'.get? a=Ψ q:=let ⟨q,_,_,hq,_⟩:=dd';⟨q,hq⟩
  exact vf I (by rw[e];exact True.intro) hs he (xU hl hd (rel.put k rv) dd')
 ·subst ey eH
  cases (show u=Value.ref b from ry)
  let(z,hd,xs,rel,dd):=LM I.hok e
  let hz:xs.length<=sizeLine:=by rw[<- gI rel];exact z
  let hl:(oW kvs k v).length<=sizeLine:=by have:=or kvs k v;lia
  exact wpAny_setItem_heap (hsz:=hz) (cE hu) (uS I.hok eb) dd λh' dd' hs=>h _ ?_
  let(q,es,ep,hq,h2,h3,h4,_,h5):=dd'
  exact vf I (by rw[e];exact True.intro) hs ⟨q,hq⟩ ⟨hl,hd,_,(rel.put k eb rv).keeps λc ys ec=>?_,q,es,ep,hq,h2,h3,h4,h5⟩
  rw[jT (K7 ec e (λz=>nomatch z))]
  exact ec
end
abbrev JF (i:Expr):Prop:=∀ ov iv,subscripted i Ξ ov iv=operate [ov,iv] (getItem ov iv)
def yg {prog:jn}{w:jE}{A:jD}{E:jF->jw->Prop}{s:jw}{env:Env}{value slice:Expr}{pos:Pos}{T id:String}{Q:jF->jw->Prop}
  (hl:typeLookup (.type T) "__getitem__" = pure (Ψ (.builtin id)))(hs:JF slice)
  (h:wpAny (model prog w) A (eval value env) (λo s₁=>wpAny (model prog w) A (eval slice env) (λi s₂=>s₂.TypeIs o T/\wpAny (model prog w) A (getItem o i) Q E s₂) E s₁) E s) :
  wpAny (model prog w) A (eval (.Subscript value slice pos) env) Q E s:=by
 exact iW (iP h (λo s₁ h₁=>iP h₁ (λi s₂ h₂=>?_) λ_ _ x=>x) λ_ _ x=>x)
 let(hT,h₂):=h₂
 unfold subscriptTail
 exact iR ?_
 rw[getitemInPython_of_ne hT.not_modules]
 exact iR (eU hT hl ?_)
 let fin:wpAny (model prog w) A (subscripted slice Ξ o i) (λr s₃=>wpAny (model prog w) A (letTemporaryGo value o r >>= λ_=>pure r) Q E s₃) E s₂:=by
  rw[hs o i]
  exact wpAny_operating (iP h₂ (λr s₃ h₃=>iR (wpAny_letTemporaryGo (iO h₃))) λ_ _ x=>x)
 first
  | exact iO (iR fin)
  | exact iR (iO (iR fin))
  | exact iR fin
def qG {X:Cx}{Z9:List (jP×Obj)}{σ:St}{H:Hp}{s:jw}{a:jP}{y:V}{o:Option V}(I:Inv X Z9 σ H s)(g:DGet H a y o):s.TypeIs (.ref a) "dict":=by
 rcases g with⟨kvs,k,e,_,_⟩|⟨kvs,k,b,e,_,_,_⟩
 ·let(_,_,vs,_,dd):=tS I.hok e
  exact dd.typeIs
 ·let(_,_,xs,_,dd):=yY I.hok e
  exact dd.typeIs
abbrev Km (td ty:TE):TE:=λσ H Q=>td σ H λx H1=>ty σ H1 λy H2=>∃ a v,x=.ref a/\DGet H2 a y (Ψ v)/\Q v H2
section
variable {X:Cx}{o i:Expr}{pos:Pos}{td ty:TE}
def D8 (hu:X.A.units+1<cLine)(ho:PE X o td)(hi:PE X i ty)(hs:JF i):PE X (.Subscript o i pos) (Km td ty):=by
 intro Z9 s σ H Q I h
 exact yg PySem.F.slot_dict_getitem.lookup hs (ko (ho Z9 s σ H _ I h) λu s1 ⟨x,H1,I1,rx,q1⟩=>ko (hi Z9 s1 σ H1 _ I1 q1) λiv s2 ⟨y,H2,I2,ry,a,v,ex,g,q2⟩=>?_)
 subst ex
 obtain rfl:u=Value.ref a:=rx
 exact⟨qG I2 g,tT hu I2 g ry λw' s3 I3 rw'=>⟨v,H2,I3,rw',q2⟩⟩
end
def wM {P:jn}{w:jE}{H:Hp}(h:jM)(hb:sysModules<h.objs.size):ObjOk P w H (h.push { cls:=.type "dict",data:=.dict #[] }) h.objs.size (.dK []) :=
 ⟨iI _,beq_eq_false_iff_ne.mpr (jp (ii hb)),[],.nil,Heap.DictOf.new h⟩
abbrev GI:TE:=λ_ H Q=>∀ p,H p=Φ->Q (.ref p) (kh H p (.dK []))
section
variable {X:Cx}{pos:Pos}
def Bv:PE X (.Dict [] [] pos) GI:=λZ9 s σ H Q I h =>
 wpAny_Dict_empty ⟨.ref s.heap.objs.size,_,I.laid (a:=s.heap.objs.size) (o:=.dK []) (t':=s.toks) (λ_ _ q=>bx _ q) (iK _) (wM s.heap I.big),rfl,h _ (I.hok.fresh (iK _))⟩
end
section
variable {X:Cx}{Z9:List (jP×Obj)}{σ:St}{H:Hp}{s:jw}{a:jP}{kvs:List (lF×V)}{A:jD}{E:jF->jw->Prop}
def C6 {Q:jF->jw->Prop}(I:Inv X Z9 σ H s)(e:Rd H a (.dK kvs))(h:∀ p s',H p=Φ->Inv X Z9 σ (kh H p (.dK kvs)) s'->Q (.ref p) s'):wpAny (model X.prog X.w) A (call (.type "dict") [.ref a]) Q E s:=by
 let(z,hd,vs,rel,dd):=tS I.hok e
 exact kt_call_dict hd dd (by rw[<- rel.length];exact z) λh' dd' hs=>?_
 exact h _ _ (I.hok.fresh (iK _)) (I.laid (a:=s.heap.objs.size) (o:=.dK kvs) (t':=s.toks) (λb q hq=>?_) (iK _) (xU z (beq_eq_false_iff_ne.mpr (jp (ii I.big))) rel dd'))
 exact (hs.2 b (ii (iy hq))).trans (bx _ hq)
end
end L2
set_option maxHeartbeats 4000000
namespace L2
open PySem PySem.Spec PyProof.Rows
open AutoSeq1 (wpAny_loadPart')
def xB (l b:jP)(xs ys:Array jF) (n n2:Nat)(dd:Option jP)(sl:Array (Option jF))(h0:¬(!xs.isEmpty && aX (xs.size+ys.size))=Ω)(h1:xs.size<=sizeLine)(h2:xs.size+ys.size<=sizeLine+1) :
  Meets (jt.«list.extend» ⟨[.ref l,.ref b],[]⟩) (λ_ R s=>s.heap.get? l=Ψ { cls:=.type "list",dict:=Φ,data:=.seq xs n,slots:=#[] }/\s.heap.get? b=Ψ { cls:=.type "tuple",dict:=dd,data:=.seq ys n2,slots:=sl }/\R (.ok (.ret Value.none)) { s with heap:=s.heap.update l (iZ λx=>x++ys),toks:=s.toks }) :=
 .of_wp λprog w A R s h=>by
  let(hp,g,d,tk,os):=s;let(hl,hb,h):=h
  let f2:=AutoSeq1.sub_tuple_tuple;let f3:=AutoSeq1.sub_list_list;let f4:=AutoSeq1.sub_tuple_list;let f5:=AutoSeq1.sub_list_tuple
  let hz':(xs++ys).size<=sizeLine+1:=by rw[Array.size_append];exact h2
  wp_walk using (eT hl rfl (hz:=h1) (_hz':=hz')),eW hl,eW hb
  exact⟨_,rfl,h⟩
section
variable {X:Cx}
inductive rExtT (K:ib)(x:V)(vs:List V)(H:Hp)(Q:VK):Prop
 | mk (l:_)(b:_)(xs:_)(zs:_)(_:x=.ref l)(_:vs=[.ref b])(_:H l=Ψ (.lst xs))(_:SqT K H b zs)(_:xs.length+zs.length<=sizeLine)(_:Q .non (kh H l (.lst (xs++zs)))):rExtT K x vs H Q
def Ep:Rf X "list.extend" (rExtT X.K):=by
 intro Z9 s σ H x vs v us Q I rx rv h
 let(l,b,xs,zs,rfl,rfl,hH,hB,hz,q):=h
 cases rx
 let(u,rfl,ru):=rv.one
 cases ru
 let(z,Z7,n,r,hl,e):=I.lstM hH
 let(its2,r2,((oc,od,odt,os),e2,ec,n2,ed),z2):=I.tuple hB
 let hl2:=r2.length
 simp only at ec ed
 subst ec ed
 let hsz:Z7.toArray.size+its2.toArray.size<=sizeLine:=by rw[dG,dG];lia
 let hlong:¬ (!Z7.toArray.isEmpty && aX (Z7.toArray.size+its2.toArray.size))=Ω:=by
  rw[rF hsz,gr];exact cU
 exact iU F.slot_list_extend ⟨_,e,rfl⟩ F.entry_list_extend (F.args_list_extend_2 _ _) (xB l b Z7.toArray its2.toArray n n2 _ _ hlong (by rw[dG];lia) ⋯) ⟨e,e2,?_⟩
 exact⟨.non,_,I.lset (its':=Z7++its2) hH e ∅ (r.append r2) ?_,rfl,q⟩
 rw[cR];lia
def BD:mI X (binaryOp .Add) (λx y H Q=>∃ a b ys,x=.ref a/\y=.ref b/\SqT X.K H a []/\SqT X.K H b ys/\Q (.ref b) H):=by
 intro Z9 s σ H x y v u Q I rx ry h
 let(a,b,ys,rfl,rfl,ha,hb,q):=h
 cases rx;cases ry
 let(Z7,r1,((oc,od,odt,os),e1,ec,n,ed),_):=I.tuple ha
 let(its2,r2,((oc2,od2,odt2,os2),e2,ec2,n2,ed2),_):=I.tuple hb
 simp only at ec ed ec2 ed2
 subst ec ed ec2 ed2
 cases r1
 exact gZ ⟨_,e1,rfl⟩ ⟨_,e2,rfl⟩ dZ gB F.slot_tuple_add F.entry_tuple_add (F.args_tuple_add_2 _ _) (tuple_addW0 a b #[] its2.toArray n n2 od od2 os os2 rfl) ⟨e1,e2,.ref b,H,I,rfl,q⟩
def AV:J4 X (λx lo hi H Q=>∃ a xs,x=.ref a/\SqT X.K H a xs/\HT.sIx xs.length 0 lo=0/\HT.sIx xs.length xs.length hi=xs.length/\Q (.ref a) H):=by
 intro Z9 s σ H x v vl vu lo hi sl Q I rx hs pl pu h
 let(t,xs,rfl,hx,h1,h2,q):=h
 cases rx
 let(Z7,r,ht,hz):=I.tuple hx
 let hlen:Z7.toArray.size=xs.length:=by rw[dG];exact r.length.symm
 exact⟨"tuple",_,ag.lookup,ht.typeIs,?_⟩
 let(os,eo,co,do'):=id hs
 let ty:s.TypeIs (.ref sl) "slice":=⟨os,eo,co⟩
 rw[<- hlen] at h1 h2
 unfold getItem
 try with_reducible exact gx ?_
 first|exact iR (iO ?_)|skip
 exact iR (cX ht.typeIs (·) (iR (aZ (name:=hW "__getitem__") ht.typeIs ag (dY ag ht.typeIs cf ?_ (cG _ _)))))
 show wpAny _ _ (aD (.ref t) >>= _) _ _ s;exact iR (gA ht (iR (gX ty ?_)))
 rw[if_pos (·)];exact iR (HT.sliceApplied_gen hs pl pu ?_)
 show wpAny _ _ (if (((HT.sIx Z7.toArray.size 0 lo:Nat):Int) == 0 && (1:Int) == 1 && (HT.sIx Z7.toArray.size Z7.toArray.size hi-HT.sIx Z7.toArray.size 0 lo) == Z7.toArray.size)=Ω then _ else _) _ _ s
 rw[if_pos (by rw[h1,h2];simp)]
 exact iR (m:=aE (.ref t)) ?_
 unfold aE
 exact iR (gX ht.typeIs (iO ?_))
 rw[if_pos (·)]
 exact iR (iN (iO ⟨_,rfl,iO ⟨.ref t,H,I,rfl,q⟩⟩))
end
abbrev Kept (h0 h:jM) (N:Nat):Prop:=∀ b o,b<N->h0.get? b=Ψ o->h.get? b=Ψ o
end L2
namespace L2
open PySem PySem.Spec PyProof.Rows
abbrev nY (cells:List (Str×jP)):List (Str×jj)->List (Str×jP)->List (Str×jP)
 | [],Z8=>Z8
 | (n,k) :: r,Z8=>if (k == NameKind.free)=Ω then nY cells r ((n,(cells.lookup n).getD 0) :: Z8) else nY cells r Z8
def wU {env:Env}:∀ (names:List (Str×jj))(Z8:List (Str×jP)),(∀ p∈names,p.2=.free->∃ c,env.cells.lookup p.1=Ψ c) ->
  (forIn names Z8 λ(x:Str×jj)(cs:List (Str×jP))=>if (x.2 == NameKind.free)=Ω then cellOf env x.1 >>= λc=>pure (ForInStep.yield ((x.1,c) :: cs)) else pure (ForInStep.yield cs):Sem (List (Str×jP)))=pure (nY env.cells names Z8)
 | [],Z8,_=>rfl
 | (n,k) :: r,Z8,h=>by
  let ih:=wU (env:=env) r
  rw[fF]
  unfold nY
  by_cases hk:(k == NameKind.free)=Ω
  ·let(c,hc):=h (n,k) cQ (by simpa using hk)
   let hcell:cellOf env n=pure c:=by
    let hc':env.cells.lookup n=Ψ c:=hc
    unfold cellOf;rw[hc']
   let hc':env.cells.lookup n=Ψ c:=hc
   simp![hk,if_true,hcell,hc',er,pure_bind]
   exact ih _ λp hp=>h p (bT _ hp)
  ·simp![hk,if_false,pure_bind,cV]
   exact ih _ λp hp=>h p (bT _ hp)
def nN {scope:jG}{env:Env}(h:∀ p∈scope.names,p.2=.free->∃ c,env.cells.lookup p.1=Ψ c):closureFor scope env=pure (nY env.cells scope.names []):=by
 let q:=wU (env:=env) scope.names [] h
 unfold closureFor
 first
  | exact (by rw[q];rfl)
  | (simp![bind_pure];exact q)
def oE {cells:List (Str×jP)}{x:Str}{c:jP}:∀ (names:List (Str×jj))(Z8:List (Str×jP)),(∀ p∈names,p.2=.free->∃ c,cells.lookup p.1=Ψ c)->(∀ y d,Z8.lookup y=Ψ d->cells.lookup y=Ψ d) ->
  (nY cells names Z8).lookup x=Ψ c->cells.lookup x=Ψ c
 | [],Z8,_,ha,h=>ha x c h
 | (n,k) :: r,Z8,hn,ha,h=>by
  unfold nY at h
  split at h
  ·rename_i hk
   exact oE r _ (λp hp=>hn p (bT _ hp)) (λy d hy=>?_) h
   rw[eG] at hy
   let(c',hc'):=hn (n,k) cQ (by simpa using hk)
   let hc'':cells.lookup n=Ψ c':=hc'
   split at hy
   ·rename_i hyn
    let e:y=n:=by simpa using hyn
    subst e
    rw[hc''] at hy ⊢
    exact hy
   ·exact ha y d hy
  ·exact oE r _ (λp hp=>hn p (bT _ hp)) ha h
def sC {cells:List (Str×jP)}{x:Str}:∀ (names:List (Str×jj))(Z8:List (Str×jP)),((x,NameKind.free)∈names ∨ ∃ c,Z8.lookup x=Ψ c)->∃ c,(nY cells names Z8).lookup x=Ψ c
 | [],Z8,h=>by
  rcases h with h|h
  ·simp at h
  ·exact h
 | (n,k) :: r,Z8,h=>by
  unfold nY
  split
  ·exact sC r _ ?_
   by_cases hx:x=n
   ·subst hx
    exact .inr ⟨(cells.lookup x).getD 0,by rw[eG];simp⟩
   ·rcases h with h|⟨c,h⟩
    ·rcases gM.mp h with h|h
     ·cases h;exact absurd rfl hx
     ·exact .inl h
    ·exact .inr ⟨c,?_⟩
     rw[eG]
     have:(x == n)=Ξ:=by simpa using hx
     rw[this]
     exact h
  ·rename_i hk
   exact sC r _ ?_
   rcases h with h|h
   ·rcases gM.mp h with h|h
    ·cases h;simp at hk
    ·exact .inl h
   ·exact .inr h
def nC {env : Env} {x : Str} : ∀ {names : List (Str × jj)},
    ((names.map λ(n,k)=>if (k == NameKind.free && env.scope.kind == .function && env.kindOf n == Ψ .cell) then (n,NameKind.cell) else (n,k)).lookup x=Ψ .cell ∨
     (names.map λ(n,k)=>if (k == NameKind.free && env.scope.kind == .function && env.kindOf n == Ψ .cell) then (n,NameKind.cell) else (n,k)).lookup x=Ψ .free)->names.lookup x=Ψ .cell ∨ names.lookup x=Ψ .free
  | [],h=>by rcases h with h|h<;>simp at h
  | (n,k) :: r,h=>by
    let ih:=@nC env x r
    rw[gN] at h
    rw[eG]
    by_cases hk:(k == NameKind.free && env.scope.kind == .function && env.kindOf n == Ψ .cell)=Ω
    · simp![hk,if_true] at h
      cases hx:x == n with
      | true =>
        have : k = .free := by simp only [eR] at hk; simpa using hk.1.1
        exact .inr (by rw [this])
      | false =>
        simp only [eG, hx] at h
        exact ih h
    · simp![hk,if_false,cV] at h
      cases hx:x == n with
      | true=>simpa only[eG,hx] using h
      | false =>
        simp only [eG, hx] at h
        exact ih h
def kW:∀ (names:List (Str×jj)) (b:Nat)(Z8:List (Str×jP)),cellsFrom b names Z8=cellsFrom b names []++Z8
 | [],_,_=>rfl
 | (n,k) :: r,b,Z8=>by
  unfold cellsFrom
  split
  ·rw[kW r _ ((n,b) :: Z8),kW r _ [(n,b)],dM];rfl
  ·exact kW r b Z8
def nO:∀ (names:List (Str×jj)) (b:Nat){x:Str}{c:jP},(x,c)∈cellsFrom b names []->(x,NameKind.cell)∈names
 | [],_,_,_,h=>by simp[cellsFrom] at h
 | (n,k) :: r,b,x,c,h=>by
  unfold cellsFrom at h
  split at h
  ·rename_i hk
   rw[kW] at h
   rcases fA.mp h with h|h
   ·exact bT _ (nO r _ h)
   ·simp at h
    have:k=.cell:=by simpa using hk
    rw[h.1,this];exact cQ
  ·exact bT _ (nO r _ h)
def rN {x:Str}{c:jP}:∀ {l l':List (Str×jP)},(l++l').lookup x=Ψ c->l.lookup x=Ψ c ∨ (l.lookup x=Φ/\l'.lookup x=Ψ c)
 | [],_,h=>.inr ⟨rfl,h⟩
 | (n,d) :: r,l',h=>by
  rw[eM,eG] at h
  rw[eG]
  cases hx:x == n with
  | true=>rw[hx] at h;exact .inl h
  | false=>rw[hx] at h;exact rN h
def yI {x:Str}:∀ {l l':List (Str×jP)},((∃ c,l.lookup x=Ψ c) ∨ ∃ c,l'.lookup x=Ψ c)->∃ c,(l++l').lookup x=Ψ c
 | [],_,h=>by
  rcases h with⟨c,h⟩|h
  ·cases h
  ·exact h
 | (n,d) :: r,l',h=>by
  rw[eM,eG]
  cases hx:x == n with
  | true=>exact⟨d,rfl⟩
  | false =>
   exact yI ?_
   rcases h with⟨c,h⟩|h
   ·rw[eG,hx] at h;exact .inl ⟨c,h⟩
   ·exact .inr h
def pL {M:jH}{A:jD}{E:jF->jw->Prop}{s:jw}{scope:jG}{globals:jP}{cl:List (Str×jP)}{qual:Str}{env:Env}{Q:Env->jw->Prop}
  (hQ:∀ h4:jM,h4.Ns s.heap.objs.size (λ_=>Φ)->(∀ b o,s.heap.get? b=Ψ o->h4.get? b=Ψ o)->CellsOk h4 (s.heap.objs.size+1) (cellsFrom (s.heap.objs.size+1) scope.names []) ->
   Q (newEnv scope s.heap.objs.size globals (cellsFrom (s.heap.objs.size+1) scope.names cl) qual Φ .none (Ψ env) builtinsNs) { s with heap:=h4,toks:=s.toks+([]:List (Str×jF)).length }) :
  wpAny M A (newFunctionEnv scope globals cl [] qual Φ .none (Ψ env)) Q E s:=by
 simp![newFunctionEnv,cI,if_true]
 exact iR (wpAny_alloc ?_)
 exact iR (wpAny_layCells _ (λname kind cells=>by cases hkc:kind == NameKind.cell<;>simp[hkc]) _ _ _ _ ?_)
 let ok:=cellsFrom_ok scope.names (s.heap.push { cls:=.type "dict",data:=.dict #[] }) (s.heap.objs.size+1) [] ⟨λ_ _ hm=>(nomatch hm),List.Pairwise.nil⟩ (by rw[gn];exact iK _)
 rw[gn] at ok
 rw[show ({ s with heap:=s.heap.push { cls:=.type "dict",data:=.dict #[] } }:jw).heap.objs.size=s.heap.objs.size+1 from gn ..]
 simp![gi]
 exact iR (iO (iO (hQ _ ((Heap.Ns.new s.heap (.type "dict")).keeps (fc _ _)) (λb o e=>fc _ _ b o (bx _ e)) ok)))
abbrev EL (x:Str):Str:=hW "#"++x
abbrev pN (own:List Str)(x:Str):Str:=if own.contains x then EL x else x
abbrev lD (X:Cx)(scope:jG)(own:List Str)(fp:List jP)(C:jP)(s:jw)(H:Hp):Cx :=
 { X with N:=X.N.map (pN own)++own,s₀:=s,H₀:=H,env:=compEnvC scope (cellsFrom (C+1) scope.names (nY X.env.cells scope.names [])) C X.env,outer:=X.stack,stack:=X.stack,ex:=fp,fn:=λx=>scope.names.lookup x == Ψ .cell,pn:=[],xe:=λ_ _=>False }
structure CScope (X:Cx)(scope:jG)(own:List Str):Prop where
 kind:scope.kind=.function
 nocell:∀ p∈scope.names,p.2=.cell->scope.names.lookup p.1=Ψ .cell
 names:∀ p∈scope.names,p.2=.local->scope.names.lookup p.1=Ψ .local
 free:∀ p∈scope.names,p.2=.free->X.env.kindOf p.1=Ψ .cell ∨ X.env.kindOf p.1=Ψ .free
 apart:∀ x∈X.N,own.contains x=Ξ->scope.names.lookup x≠Ψ .local/\scope.names.lookup x≠Ψ .cell
 hid:∀ x∈X.N,own.contains x=Ω->scope.names.lookup (EL x)=Φ
section
variable {X:Cx}
def rL {names:List (Str×jj)}{x:Str}{k:jj}(h:names.lookup x=Ψ k):(x,k)∈names:=cg h
def o8 {env:Env}{x:Str}:∀ {names:List (Str×jj)},
  (names.map λ(n,k)=>if (k == NameKind.free && env.scope.kind == .function && env.kindOf n == Ψ .cell) then (n,NameKind.cell) else (n,k)).lookup x=Ψ .local->names.lookup x=Ψ .local
 | [],h=>by simp at h
 | (n,k) :: r,h=>by
  let ih:=@o8 env x r
  rw[gN] at h
  rw[eG]
  by_cases hk:(k == NameKind.free && env.scope.kind == .function && env.kindOf n == Ψ .cell)=Ω
  ·simp![hk,if_true] at h
   cases hx:x == n with
   | true=>simp[eG,hx] at h
   | false =>
    simp![eG,hx] at h
    exact ih h
  ·simp![hk,if_false,cV] at h
   cases hx:x == n with
   | true=>simpa[eG,hx] using h
   | false =>
    simp![eG,hx] at h
    exact ih h
def uG {env:Env}{scope:jG}{x:Str}(h:scope.names.lookup x=Φ):(relabel scope env).names.lookup x=Φ:=by
 unfold relabel
 simp only
 generalize scope.names=l at h
 induction l with
 | nil=>rfl
 | cons p r ih =>
  let(n,k):=p
  rw[eG] at h
  cases e:(x == n) with
  | true=>rw[e] at h;cases h
  | false =>
   rw[e] at h
   rw[gN]
   split
   ·rw[eG,e];exact ih h
   ·rw[eG,e];exact ih h
def ww {scope:jG}{own:List Str}{fp:List jP}{Z9:List (jP×Obj)}{σ:St}{H:Hp}{s:jw}{h4:jM}{t4:Nat}(I:Inv X Z9 σ H s)(SC:CScope X scope own)(hc:X.calm=Ω)
  (hf:∀ b∈fp,oZ X Z9 H b)(hfo:∀ b∈fp,∃ o,s.heap.get? b=Ψ o)
  (hns:h4.Ns s.heap.objs.size (λ_=>Φ))(hk:∀ b o,s.heap.get? b=Ψ o->h4.get? b=Ψ o)(ok:CellsOk h4 (s.heap.objs.size+1) (cellsFrom (s.heap.objs.size+1) scope.names [])) :
  Inv (lD X scope own fp s.heap.objs.size s H) [] (σ++gf own.length Φ) H { s with heap:=h4,toks:=t4 }:=by
 let fr:∀ p∈scope.names,p.2=.free->∃ c,X.env.cells.lookup p.1=Ψ c:=λp hp hq=>I.ok.has p.1 (SC.free p hp hq)
 let cl0:∀ {x:Str}{c:jP},(nY X.env.cells scope.names []).lookup x=Ψ c->X.env.cells.lookup x=Ψ c:=λh=>oE scope.names [] fr (λy d hy=>by simp at hy) h
 let cl:∀ {x:Str}{c:jP},(cellsFrom (s.heap.objs.size+1) scope.names (nY X.env.cells scope.names [])).lookup x=Ψ c->((x,c)∈cellsFrom (s.heap.objs.size+1) scope.names []/\s.heap.objs.size+1<=c) ∨ X.env.cells.lookup x=Ψ c:=λh=>by
  rw[kW] at h
  rcases rN h with z|z
  ·exact .inl ⟨cg z,(ok.empty _ _ (cg z)).2⟩
  ·exact .inr (cl0 z.2)
 let hasC:∀ {x:Str},(scope.names.lookup x=Ψ .cell ∨ scope.names.lookup x=Ψ .free)->∃ c,(cellsFrom (s.heap.objs.size+1) scope.names (nY X.env.cells scope.names [])).lookup x=Ψ c:=λ{x} h=>by
  rw[kW]
  exact yI ?_
  rcases h with h|h
  ·exact .inl (aT.mp (bo _ _ _ (.inl h)))
  ·exact .inr (sC scope.names [] (.inl (rL h)))
 let clt:∀ {x:Str}{c:jP},X.env.cells.lookup x=Ψ c->c<s.heap.objs.size:=λh=>by let(v,q):=I.cell _ _ h;exact q.lt
 exact⟨⟨I.ok.mod,SC.kind,I.ok.glob,I.ok.blt,iK _,λx y c h1 h2=>?_,λx hx=>?_,λx c hf' h=>?_,λ_=>I.ok.hd hc,I.ok.frames,.inl rfl,λb hb=>?_,
   λb o e=>I.bs b o e,ik I.ok.bsz I.sz,λb o e hb=>?_,λb hb hz=>?_,I.stack,I.stkFree⟩,
  rfl,I.bare,Un.kept hk,⟨_,hns,λi x v e1 e2 e3=>?_⟩,λx c h=>?_,I.fresh,λx c h=>(cl h).elim (λz=>I.hok.fresh ⋯) (I.freeC x c),λp hp=>absurd (show p∈([]:List (jP×Obj)) from hp) ∅,I.hok.kept hk,?_⟩
 ·rcases cl h1 with z1|z1<;>rcases cl h2 with z2|z2
  ·exact name_of_addr ok.apart z1.1 z2.1
  ·exact absurd (clt z2) (i0.mpr (dE z1.2))
  ·exact absurd (clt z1) (i0.mpr (dE z2.2))
  ·exact I.ok.inj x y c z1 z2
 ·let hx:(relabel scope X.env).names.lookup x=Ψ .cell ∨ (relabel scope X.env).names.lookup x=Ψ .free:=hx
  exact hasC (nC hx)
 ·let hf':(scope.names.lookup x == Ψ .cell)=Ω:=hf'
  let h:(cellsFrom (s.heap.objs.size+1) scope.names (nY X.env.cells scope.names [])).lookup x=Ψ c:=h
  let(c',hc'):=aT.mp (bo scope.names (s.heap.objs.size+1) [] (.inl (by simpa using hf')))
  rw[kW] at h
  rcases rN h with z|z
  ·have:=(ok.empty _ _ (cg z)).2
   show s.heap.objs.size<=c
   lia
  ·rw[hc'] at z;cases z.1
 ·let hb:b∈fp:=hb
  let(o,ho):=hfo b hb
  exact⟨ii (iy ho),λx c h=>(cl h).elim (λz e=>absurd (e ▸ iy ho:c<s.heap.objs.size) (i0.mpr (dE z.2))) ((hf b hb).2.2.2.2.1 x c)⟩
 ·let hb:b∈fp:=hb
  let e:X.base.get? b=Ψ o:=e
  rcases (hf b hb).2.2.2.1 with z|z
  ·exact I.ok.noex b o e z
  ·exact absurd (cK (iy e) (ik I.ok.bsz z)) (gK _)
 ·let hb:b∈fp:=hb
  let hz:b∈mx X.stack:=hz
  rcases gM.mp (I.stkSub b hz) with z|z
  ·exact (hf b hb).2.1 z
  ·exact (hf b hb).2.2.1 z
 ·let e1:(X.N.map (pN own)++own)[i]?=Ψ x:=e1
  let e3:J0 (relabel scope X.env) x:=e3
  let hi:i<σ.length:=by
   by_cases hi:i<σ.length
   ·exact hi
   ·rw[az ⋯,bh] at e2
    split at e2<;>cases e2
  rw[aK hi] at e2
  rw[aK (by rw[fE,<- I.len];exact hi),dJ] at e1
  let(y,e1,ey):=bq.mp e1
  let hny:own.contains y=Ξ:=by
   cases hy:own.contains y with
   | false=>rfl
   | true =>
    exfalso
    let hh:=SC.hid y (bR e1) hy
    let ex:x=EL y:=by rw[<- ey];unfold pN;rw[if_pos hy]
    rw[<- ex] at hh
    let e4:(relabel scope X.env).names.lookup x=Φ:=uG hh
    rcases e3 with z|z|z<;>(rw[e4] at z;cases z)
  let ex:x=y:=by rw[<- ey];unfold pN;rw[if_neg (by rw[hny];exact cU)]
  rw[<- ex] at e1 hny
  let hnl:(relabel scope X.env).names.lookup x≠Ψ .local:=λz=>(SC.apart x (bR e1) hny).1 (o8 z)
  let hv:(relabel scope X.env).names.lookup x=Ψ .cell ∨ (relabel scope X.env).names.lookup x=Ψ .free:=by
   rcases e3 with z|z|z
   ·exact absurd z hnl
   ·exact .inl z
   ·exact .inr z
  let hfr:scope.names.lookup x=Ψ .free:=(nC hv).resolve_left (SC.apart x (bR e1) hny).2
  let hm:=rL hfr
  let hkx:=SC.free (x,.free) hm rfl
  let(m,hn,hl):=I.loc
  let hkx':X.env.scope.names.lookup x=Ψ .cell ∨ X.env.scope.names.lookup x=Ψ .free:=hkx
  let(u,r,l):=hl i x v e1 e2 (hkx'.elim (λz=>.inr (.inl z)) λz=>.inr (.inr z))
  exact⟨u,r,.inr ⟨hv,?_⟩⟩
  let(c,hcl):=hasC (.inr hfr)
  exact⟨c,hcl,?_⟩
  rcases l with⟨z,_⟩|⟨z,c',hc',q⟩
  ·rcases hkx with y|y<;>(rw[z] at y;cases y)
  ·rcases cl hcl with y|y
   ·have:=SC.nocell _ (nO _ _ y.1) rfl
    rw[hfr] at this;cases this
   ·rw[hc'] at y;cases y
    let(o,ho,hd):=q
    exact⟨o,hk _ _ ho,hd⟩
 ·rcases cl h with z|z
  ·exact⟨_,(ok.empty _ _ z.1).1⟩
  let(v,o,ho,hd):=I.cell x c z
  exact⟨v,o,hk _ _ ho,hd⟩
 ·show (σ++gf own.length Φ).length=(X.N.map (pN own)++own).length
  rw[cR,cR,fE,bI,I.len]
end
abbrev uu (Z5:List Expr)(env:Env):Sem Bool :=
 forIn Z5 Ω λc r=>if r=Ω then do let ok <- isTrue c env (eval c env);pure (ForInStep.yield ok) else pure (ForInStep.yield r)
abbrev PTs (X:Cx)(Z5:List Expr)(t:TT):Prop :=
 ∀ (Z9:List (jP×Obj))(s:jw)(σ:St)(H:Hp)(Q:Bool->Hp->Prop),Inv X Z9 σ H s->t σ H Q->wpAny (model X.prog X.w) X.A (uu Z5 X.env) (TP X Z9 σ Q) X.xe s
def qy {M:jH}{A:jD}{E:jF->jw->Prop}{env:Env}{Q:Bool->jw->Prop}{s:jw}(h:Q Ξ s):∀ Z5:List Expr,
  wpAny M A (forIn Z5 Ξ λc r=>if r=Ω then do let ok <- isTrue c env (eval c env);pure (ForInStep.yield ok) else pure (ForInStep.yield r)) Q E s
 | []=>iO h
 | c :: r=>by
  rw[fF]
  simp![cV,if_false]
  exact iR (iO (qy h r))
section
variable {X:Cx}
abbrev Kc:TT:=λ_ H Q=>Q Ω H
def yq:PTs X [] Kc:=λ_ _ _ H _ I h=>iO ⟨H,I,h⟩
def Bd {c:Expr}{r:List Expr}{t u:TT}(h1:PT X c t)(h2:PTs X r u):PTs X (c :: r) (λσ H Q=>t σ H λb H1=>if b=Ω then u σ H1 Q else Q Ξ H1):=by
 intro Z9 s σ H Q I h
 unfold uu
 rw[fF]
 simp![if_true]
 exact iR (iR (ko (h1 Z9 s σ H _ I h) λb s1 ⟨H1,I1,q1⟩=>iO ?_))
 cases b with
 | true =>
  rw[if_pos rfl] at q1
  exact h2 Z9 s1 σ H1 Q I1 q1
 | false =>
  rw[if_neg cU] at q1
  exact qy ⟨H1,I1,q1⟩ r
end
section
variable {prog:jn}{w:jE}{A:jD}{R:jx->jw->Prop}{s:jw}
abbrev rg (Z2 Z6:Expr)(Z5:List Expr)(it:jF)(env:Env)(fin:Sem Fin)(c:jO):Sem Fin:=do
 standAt Z6.pos
 match <- pyNext it with
 | none=>pure (.done .next)
 | some v =>
  letOwnedTupleGo Z2 it v
  assign Z2 env v
  let mut ok:=Ω
  for c in Z5 do
   if ok then ok <- isTrue c env (eval c env)
  if ok then fin else again c
abbrev si (Z4:Expr)(Z8:jF)(env:Env)(c:jO):Sem Fin:=do
 (do let _ <- call (.builtin "list.append") [Z8,<- eval Z4 env])
 again c
def qp {ce:Expr}{dp:Nat}{Z2 Z6:Expr}{Z5:List Expr}{it Z8:jF}{env:Env}{fin:Sem Fin}(ht:compTurn ce dp it Z8 env=rg Z2 Z6 Z5 it env fin (.compLoop ce dp it Z8 env))(I:Nat->jw->Prop)
  (turn:∀ n s,I n s->wpAny (model prog w) A (pyNext it) (λr s1=>match r with
   | none=>R (.ok .next) s1
   | some v=>wpAny (model prog w) A (letOwnedTupleGo Z2 it v) (λ_ s2=>wpAny (model prog w) A (assign Z2 env v) (λ_ s3=>wpAny (model prog w) A (uu Z5 env) (λok s4 =>
     if ok=Ω then wpAny (model prog w) A fin (λf s6=>f=.again (.compLoop ce dp it Z8 env)/\∃ m,m<n/\I m s6) (λ_ _=>False) s4
     else ∃ m,m<n/\I m s4) (λ_ _=>False) s3) (λ_ _=>False) s2) (λ_ _=>False) s1) (λ_ _=>False) s)
  (n:Nat)(h:I n s)(hA:A.under (.compLoop ce dp it Z8 env)=A:=by rfl)(hd:(model prog w).den (.compLoop ce dp it Z8 env)=(compTurn ce dp it Z8 env).onRaise (λx=>do noteFrame x env;theTreesLotGoes x):=by rfl):codeAny (model prog w) A (.compLoop ce dp it Z8 env) R s:=by
 exact codeAny_loop rfl I (λn s hI=>?_) n h
 rw[hA,hd]
 exact wpAny_noted ?_
 rw[ht]
 unfold rg
 let no:∀ (e:jF)(s':jw),(λ(_:jF)(_:jw)=>False) e s'->notedBy (model prog w) A env (λe s'=>R (.error e) s') e s':=λ_ _ z=>z.elim
 exact iR (gu (iR (iP (turn n s hI) (λr s1 h1=>?_) no)))
 cases r with
 | none=>exact iO h1
 | some v =>
  exact iR (iP h1 (λ_ s2 h2=>iR (iP h2 (λ_ s3 h3=>iR (iP h3 (λok s4 h4=>?_) no)) no)) no)
  cases ok with
  | true =>
   rw[if_pos rfl] at h4
   simp![if_true]
   exact iP h4 (λf s6 q1=>by let(e6,h6):=q1;rw[e6];exact⟨rfl,h6⟩) no
  | false =>
   rw[if_neg cU] at h4
   simp![cV,if_false]
   first
    | exact iO ⟨rfl,h4⟩
    | exact iR (iO (iO ⟨rfl,h4⟩))
end
abbrev Wk (σ σ2:St):Prop:=σ2.length=σ.length/\∀ (j:Nat)(v:V),σ[j]?=Ψ (Ψ v)->σ2[j]?=Ψ (Ψ v)
structure CKind (X:Cx)(ce tg Z6:Expr)(Z5:List Expr)(scope:jG)(mk:Sem jF)(ob:Obj)(o0:jP->HO)(fin:jF->Env->jO->Sem Fin):Prop where
 tn:∀ it Z8 env,compTurn ce 0 it (.ref Z8) env=rg tg Z6 Z5 it env (fin (.ref Z8) env (.compLoop ce 0 it (.ref Z8) env)) (.compLoop ce 0 it (.ref Z8) env)
 un:∀ (A:jD) it Z8 env,A.under (.compLoop ce 0 it (.ref Z8) env)=A
 dn:∀ it Z8 env,(model X.prog X.w).den (.compLoop ce 0 it (.ref Z8) env)=(compTurn ce 0 it (.ref Z8) env).onRaise (λx=>do noteFrame x env;theTreesLotGoes x)
 us:∀ env use,evalThenUse ce env use=(do let _ <- comprehension ce scope env Z6.pos mk Ξ (eval Z6 env) (Ψ use))
 st:∀ {A R s it Z8 env},codeAny (model X.prog X.w) A (.compLoop ce 0 it Z8 env) R s->wpAny (model X.prog X.w) A (pyIter it) (λit' s'=>codeAny (model X.prog X.w) A (.compLoop ce 0 it' Z8 env) R s') (notedBy (model X.prog X.w) A env λx s'=>R (.error x) s') s->codeAny (model X.prog X.w) A (.compStart ce 0 it Z8 env) R s
 nw:∀ {A s}{Q E:jF->jw->Prop},Q (.ref s.heap.objs.size) { s with heap:=s.heap.push ob }->wpAny (model X.prog X.w) A mk Q E s
 ok:∀ {Z9 σ H s},Inv X Z9 σ H s->Inv X Z9 σ (kh H s.heap.objs.size (o0 s.heap.objs.size)) { s with heap:=s.heap.push ob,toks:=s.toks }
 ev:∀ env,eval ce env=comprehension ce scope env Z6.pos mk Ξ (eval Z6 env)
 cl:clausesOf ce=[⟨tg,Z6,Z5,0⟩]
abbrev Ma (Y:Cx)(fin:jF->Env->jO->Sem Fin)(em:jP->St->Hp->(Hp->Prop)->Prop):Prop:=∀ Z9 s σ H Z8 c K,Inv Y Z9 σ H s->em Z8 σ H K->wpAny (model Y.prog Y.w) Y.A (fin (.ref Z8) Y.env c) (λf s'=>f=.again c/\∃ H',Inv Y Z9 σ H' s'/\K H') Y.xe s
abbrev uv (wi:TI)(g:TG)(tt:TT)(em:jP->St->Hp->(Hp->Prop)->Prop)(o0:jP->HO) (own:Nat):TE:=λσ H Q=>wi σ H λJ H1=>∀ Z8,H1 Z8=Φ->∃ W:Nat->Nat->Hp->Prop,(∃ m,W 0 m (kh H1 Z8 (o0 Z8)))/\∀ i m H,W i m H ->
 (J.stop i H/\Q (.ref Z8) H) ∨ (J.go i H/\∀ x H',J.yld i H x H'->g x (σ++gf own Φ) H' λσ2 H2=>Wk (σ++gf own Φ) σ2/\tt σ2 H2 λb H3 =>
  if b=Ω then em Z8 σ2 H3 λH4=>∃ m',m'<m/\W (i+1) m' H4 else ∃ m',m'<m/\W (i+1) m' H3)
section
variable {X:Cx}{ce Z4 tg Z6:Expr}{Z5:List Expr}{scope:jG}{own:List Str}{pos:Pos}{wi:TI}{g:TG}{tt:TT}{te:TE}{mk:Sem jF}{ob:Obj}{o0:jP->HO}{fin:jF->Env->jO->Sem Fin}{em:jP->St->Hp->(Hp->Prop)->Prop}
def tW {Z9:List (jP×Obj)}{σ:St}{H2:Hp}{s2:jw}{Q:VK}{it:jP}{fp:List jP}{tn:Nat->jM->Prop}{J:It}{RR:jF->jP->jx->jw->Prop}
  (hc:X.calm=Ω)(SC:CScope X scope own)(CK:CKind X ce tg Z6 Z5 scope mk ob o0 fin)
  (Z3:∀ C s H,PG (lD X scope own fp C s H) tg g/\PTs (lD X scope own fp C s H) Z5 tt/\Ma (lD X scope own fp C s H) fin em)
  (I2:Inv X Z9 σ H2 s2)(T:Turn X.prog X.w X.K tg J fp it tn)(st2:tn 0 s2.heap)(f2:∀ b∈fp,oZ X Z9 H2 b)
  (h:∀ Z8,H2 Z8=Φ->∃ W:Nat->Nat->Hp->Prop,(∃ m,W 0 m (kh H2 Z8 (o0 Z8)))/\∀ i m H,W i m H ->
   (J.stop i H/\Q (.ref Z8) H) ∨ (J.go i H/\∀ x H',J.yld i H x H'->g x (σ++gf own.length Φ) H' λσ2 H2=>Wk (σ++gf own.length Φ) σ2/\tt σ2 H2 λb H3 =>
    if b=Ω then em Z8 σ2 H3 λH4=>∃ m',m'<m/\W (i+1) m' H4 else ∃ m',m'<m/\W (i+1) m' H3))
  (hRR:∀ Z8 C H' m s',Inv X Z9 σ H' s'->s'.heap.Ns C m->C≠X.env.locals->(∀ x c,X.env.cells.lookup x=Ψ c->c≠C)->s2.heap.objs.size<=C->H' C=Φ->Q (.ref Z8) H'->RR (.ref Z8) C (.ok .next) s'){E:jF->jw->Prop} :
  wpAny (model X.prog X.w) X.A mk (λZ8 s3=>wpAny (model X.prog X.w) X.A (newFunctionEnv scope X.env.globals (nY X.env.cells scope.names []) [] X.env.qual Φ .none (Ψ X.env)) (λcenv s4 =>
   codeAny (model X.prog X.w) X.A (.compStart ce 0 (.ref it) Z8 { cenv with scope:=relabel scope X.env }) (RR Z8 cenv.locals) s4) E s3) E s2:=by
 let hacc:=I2.fresh
 let I3:Inv X Z9 σ (kh H2 s2.heap.objs.size (o0 s2.heap.objs.size)) { s2 with heap:=s2.heap.push ob,toks:=s2.toks }:=CK.ok I2
 exact CK.nw ?_
 let(W,(m0,w0),turn):=h _ hacc
 generalize hs3:({ s2 with heap:=s2.heap.push ob,toks:=s2.toks }:jw)=s3 at I3
 let keep23:∀ b o,s2.heap.get? b=Ψ o->s3.heap.get? b=Ψ o:=λb o e=>by rw[<- hs3];exact bx _ e
 let hf3:∀ b∈fp,oZ X Z9 (kh H2 s2.heap.objs.size (o0 s2.heap.objs.size)) b:=λb hb=>by
  let(o,ho,_):=T.obj _ _ st2 b hb
  exact⟨by rw[jT (ii (iy ho))];exact (f2 b hb).1,(f2 b hb).2⟩
 let st3:tn 0 s3.heap:=T.keep _ _ _ st2 λb hb o e=>keep23 b o e
 exact pL λh4 hns' keep34 ok34=>?_
 let I4:=ww (t4:=s3.toks+([]:List (Str×jF)).length) I3 SC hc hf3 (λb hb=>by let(o,ho,_):=T.obj _ _ st3 b hb;exact⟨o,ho⟩) hns' keep34 ok34
 let st4:tn 0 h4:=T.keep _ _ _ st3 λb hb o e=>keep34 b o e
 let(hg,ht,he):=Z3 s3.heap.objs.size s3 (kh H2 s2.heap.objs.size (o0 s2.heap.objs.size))
 let e5:(lD X scope own fp s3.heap.objs.size s3 (kh H2 s2.heap.objs.size (o0 s2.heap.objs.size))).env=compEnvC scope (cellsFrom (s3.heap.objs.size+1) scope.names (nY X.env.cells scope.names [])) s3.heap.objs.size X.env:=rfl
 generalize hY:lD X scope own fp s3.heap.objs.size s3 (kh H2 s2.heap.objs.size (o0 s2.heap.objs.size))=Y at hg ht he I4 e5
 let fpY:∀ {H':Hp},(∀ b∈fp,H' b=Φ)->∀ b∈fp,oZ Y [] H' b:=λhn b hb=>by
  let(o,ho,_):=T.obj _ _ st3 b hb
  exact⟨hn b hb,?_,?_,?_,?_,?_⟩
  ·rw[<- hY];exact ii (iy ho)
  ·have:=I4.ok.exfs b (by rw[<- hY];exact hb)
   exact this
  ·exact .inl (by rw[<- hY];exact hb)
  ·exact λx c h=>(I4.ok.exf b (by rw[<- hY];exact hb)).2 x c h
  ·intro p hp;rw[<- hY] at hp;exact absurd (show p∈([]:List (jP×Obj)) from hp) ∅
 let hYp:Y.prog=X.prog/\Y.w=X.w/\Y.K=X.K/\Y.calm=Ω/\Y.A=X.A/\Y.xe=(λ_ _=>False)/\Y.s₀=s3/\Y.H₀=kh H2 s2.heap.objs.size (o0 s2.heap.objs.size)/\Y.outer=X.stack/\Y.ex=fp:=by rw[<- hY];exact⟨rfl,rfl,rfl,hc,rfl,rfl,rfl,rfl,rfl,rfl⟩
 let(y1,y2,y3,y4,y5,y6,y7,y8,y9,y10):=hYp
 let loop:∀ s5:jw,s5 = { s3 with heap:=h4,toks:=s3.toks+([]:List (Str×jF)).length } ->
   codeAny (model X.prog X.w) X.A (.compLoop ce 0 (.ref it) (.ref s2.heap.objs.size) Y.env) (RR (.ref s2.heap.objs.size) s3.heap.objs.size) s5:=by
  rintro s5 rfl
  exact qp (hA:=CK.un ..) (hd:=CK.dn ..) (CK.tn _ _ _) (λn s'=>∃ i H',Inv Y [] (σ++gf own.length Φ) H' s'/\tn i s'.heap/\(∀ b∈fp,H' b=Φ)/\W i n H') ?_ m0 ⟨0,_,I4,st4,λb hb=>(hf3 b hb).1,w0⟩
  rintro n s6 ⟨i,H6,I6,st6,fr6,w6⟩
  rcases turn i n H6 w6 with⟨stop,q⟩|⟨go,step⟩
  ·let d:=T.done Y y1 y2 y3 y4 i [] s6 _ H6 (λ_ _=>False) I6 (fpY fr6) st6 stop
   rw[y5] at d
   exact ko d λr s7 q1=>?_;let(hr,I7):=q1
   subst hr
   let(m,hn,_):=I7.loc
   let hL:Y.env.locals=s3.heap.objs.size:=by rw[e5];rfl
   rw[hL] at hn
   let b7:=I7.base
   rw[y7,y8,y10] at b7
   let b7':Un (mx X.stack) fp (kh H2 s2.heap.objs.size (o0 s2.heap.objs.size)) H6 s3.heap s7.heap:=by
    let z:Y.fs=mx X.stack:=by show mx Y.outer=_;rw[y9]
    rw[z] at b7
    exact b7
   let hok7:=I7.hok
   rw[y1,y2] at hok7
   let os7:=I7.os
   rw[y7] at os7
   let I8:Inv X Z9 σ H6 s7:=I3.call' os7 b7' hok7 I7.bare λb hb=>⟨(hf3 b hb).2.2.2.1,(hf3 b hb).2.1,(hf3 b hb).2.2.2.2.1,(hf3 b hb).2.2.2.2.2⟩
   let hfree:=I7.free
   rw[hL] at hfree
   exact hRR _ _ H6 m s7 I8 hn (ij I3.lt) (λx c h z=>?_) ?_ hfree q
   ·let(v,y):=I3.cell x c h
    exact absurd y.lt (by rw[z];exact gK _)
   ·rw[<- hs3,gn];exact iJ _
  ·let d:=T.item Y y1 y2 y3 y4 i [] s6 _ H6 (λ_ _=>False) I6 (fpY fr6) st6 go
   rw[y5] at d
   exact ko d λr s7 q2=>?_;let(u,hr,h7):=q2
   subst hr
   exact ko h7 λ_ s8 q3=>?_;let(x,H8,I8,r8,y8',st8,fr8):=q3
   let I8':=I8.pinned (fpY fr8) (T.obj _ _ st8)
   let pinK:∀ {σ':St}{H':Hp}{s':jw},Inv Y ([]++ph fp s8.heap) σ' H' s'->tn (i+1) s'.heap/\∀ b∈fp,H' b=Φ:=λ{σ' H' s'} I' =>
    ⟨T.keep _ _ _ st8 λb hb o e=>(I'.pin (b,o) (bH _ (bH _ (lh hb e)))).1,λb hb=>by
     let(o,e,_):=T.obj _ _ st8 b hb
     exact (I'.pin (b,o) (bH _ (bH _ (lh hb e)))).2.1⟩
   let dg:=hg _ s8 _ H8 x u _ I8' r8 (step x H8 y8')
   rw[y1,y2,y5,y6] at dg
   exact ko dg λ_ s9 q4=>?_;let(σ9,H9,I9,wk,q9):=q4
   let dt:=ht _ s9 σ9 H9 _ I9 q9
   rw[y1,y2,y5,y6] at dt
   exact ko dt λok s10 q5=>?_;let(H10,I10,q10):=q5
   cases ok with
   | true =>
    rw[if_pos rfl] at q10 ⊢
    let de:=he _ s10 σ9 H10 s2.heap.objs.size (.compLoop ce 0 (.ref it) (.ref s2.heap.objs.size) Y.env) _ I10 q10
    rw[y1,y2,y5,y6] at de
    exact ko de λf s12 ⟨e12,H12,I12,m',hm,w12⟩=>⟨e12,?_⟩
    let(t12,f12):=pinK I12
    exact⟨m',hm,i+1,_,(I12.unpinned).weak wk.1.symm wk.2,t12,f12,w12⟩
   | false =>
    rw[if_neg cU] at q10 ⊢
    let(m',hm,w10):=q10
    let(t10,f10):=pinK I10
    exact⟨m',hm,i+1,_,(I10.unpinned).weak wk.1.symm wk.2,t10,f10,w10⟩
 rw[e5] at loop
 exact CK.st (loop _ rfl) (T.self _ 0 _ _ _ st4 (loop _ rfl))
def vT (hc:X.calm=Ω)(SC:CScope X scope own)(CK:CKind X.nox ce tg Z6 Z5 scope mk ob o0 fin)(hi:PI X.nox tg Z6 wi)
  (Z3:∀ fp C s H,PG (lD X scope own fp C s H) tg g/\PTs (lD X scope own fp C s H) Z5 tt/\Ma (lD X scope own fp C s H) fin em)
  (hs:∀ x,foldedSetIterable Z6 X.env x=pure x:=by intro _;rfl) :
  PE X.nox ce (uv wi g tt em o0 own.length):=by
 intro Z9 s σ H Q I h
 let fr:∀ p∈scope.names,p.2=.free->∃ c,X.env.cells.lookup p.1=Ψ c:=λp hp hq=>I.ok.has p.1 (SC.free p hp hq)
 rw[CK.ev]
 exact aR (use:=Φ) CK.cl hs (nN fr) SC.kind SC.names (ko (hi Z9 s σ H _ I h) λv s1 h1=>ko h1 λitv s2 h2=>?_)
 let(it,fp,tn,J,H2,e,I2,T,st2,f2,h2):=h2
 subst e
 exact tW (X:=X.nox) (own:=own) (RR:=λZ8 C=>compPost (model X.prog X.w) X.A (λ_ _=>False) Φ (EP X.nox Z9 σ Q) Z8 C) hc ⟨SC.kind,SC.nocell,SC.names,SC.free,SC.apart,SC.hid⟩ CK (λC s H=>Z3 fp C s H) I2 T st2 f2 h2 ?_
 intro Z8 C H' m s' I' hn hL hcl hC hH q
 let(f0,f1,f2',f3,f4,f5):=I2.fpOk hC hH
 exact⟨m,hn,λh' hsb=>⟨.ref Z8,H',?_,rfl,q⟩⟩
 exact I'.turned (t':=s'.toks) (λb o hb e=>(hsb.2 b hb).trans e) f0 f1 f3 f4 f5
def qD {i:Nat}{x:Str}{px:Pos}{spos:Pos}(hc:X.calm=Ω)(SC:CScope X scope own)(CK:CKind X.nox ce tg Z6 Z5 scope mk ob o0 fin)(hN:X.N.Nodup)(hx:X.N[i]?=Ψ x)(hl:X.env.scope.names.lookup x=Ψ .local)(hi:PI X.nox tg Z6 wi)
  (Z3:∀ fp C s H,PG (lD X scope own fp C s H) tg g/\PTs (lD X scope own fp C s H) Z5 tt/\Ma (lD X scope own fp C s H) fin em)
  (hsw:swapsWith ce (Ψ (.Name x px)) spos.line X.env=pure Ω)
  (hs:∀ x,foldedSetIterable Z6 X.env x=pure x:=by intro _;rfl) :
  PS X.nox (.Assign [.Name x px] ce spos) (qM (uv wi g tt em o0 own.length) (mq i)):=by
 intro Z9 s σ H D I h
 let fr:∀ p∈scope.names,p.2=.free->∃ c,X.env.cells.lookup p.1=Ψ c:=λp hp hq=>I.ok.has p.1 (SC.free p hp hq)
 show wpAny (model X.prog X.w) X.A (exec _ X.env) _ _ s
 rw[exec_Assign_Name_used _ _ _ _ hsw]
 exact iR (gu (iR ?_))
 rw[CK.us]
 refine iR (iP (aR (use:=Ψ (assign (.Name x px) X.env)) (Q:=λ_ s'=>SP X.nox Z9 D .next s') CK.cl hs (nN fr) SC.kind SC.names
  (ko (hi Z9 s σ H _ I h) λv s1 h1=>ko h1 λitv s2 h2=>?_)) (λ_ s' hq=>iO (iO hq)) λ_ _ e=>e)
 let(it,fp,tn,J,H2,e,I2,T,st2,f2,h2):=h2
 subst e
 exact tW (X:=X.nox) (own:=own) (Q:=λv H1=>mq i v σ H1 D.nx) (RR:=λZ8 C=>compPost (model X.prog X.w) X.A (λ_ _=>False) (Ψ (assign (.Name x px) X.env)) (λ_ s'=>SP X.nox Z9 D .next s') Z8 C) hc ⟨SC.kind,SC.nocell,SC.names,SC.free,SC.apart,SC.hid⟩ CK (λC s H=>Z3 fp C s H) I2 T st2 f2 h2 ?_
 intro Z8 C H' m s' I' hn hL hcl hC hH q
 let(f0,f1,f2',f3,f4,f5):=I2.fpOk hC hH
 show wpAny (model X.prog X.w) X.A (assign (.Name x px) X.env (.ref Z8)) _ _ s'
 exact dh (pX (X:=X.nox) I' hN hx (.inl hl) (v:=.ref Z8) rfl (λs'' I'' hch=>?_) (.inr hl))
 let(a,hsa,ha):=hch
 let hCa:C≠a:=by
  rcases ha with z|z
  ·rw[z];exact hL
  ·exact λy=>hcl x a z y.symm
 exact⟨m,hn.sameBut hsa hCa,λh' hsb=>?_⟩
 exact⟨_,H',I''.turned (t':=s''.toks) (λb o hb e=>(hsb.2 b hb).trans e) f0 f1 f3 f4 f5,q⟩
abbrev Nx (te:TE):jP->St->Hp->(Hp->Prop)->Prop:=λZ8 σ H K=>te σ H λv H4=>∃ ys,H4 Z8=Ψ (.lst ys)/\ys.length<sizeLine/\K (kh H4 Z8 (.lst (ys++[v])))
abbrev AM (wi:TI)(g:TG)(tt:TT)(te:TE) (own:Nat):TE:=uv wi g tt (Nx te) (λ_=>.lst []) own
def zg:CKind X (.ListComp Z4 [⟨tg,Z6,Z5,0⟩] scope pos) tg Z6 Z5 scope (newList []) { cls:=.type "list",data:=.seq ([]:List jF).toArray } (λ_=>.lst []) (si Z4) :=
 ⟨λ_ _ _=>rfl,λ_ _ _ _=>rfl,λ_ _ _=>rfl,λ_ _=>rfl,codeAny_compStart_list,λq=>db q,λI=>I.lnew .nil (iI _),λ_=>by rw[eval_ListComp];rfl,rfl⟩
def vR {Y:Cx}(he:PE Y Z4 te):Ma Y (si Z4) (Nx te):=by
 intro Z9 s σ H Z8 c K I q
 unfold si
 exact iR (iR (ko (he _ s σ H _ I q) λy s11 ⟨v11,H11,I11,r11,ys,hys,hz,k⟩=>iR ?_))
 exact ko (oO (X:=Y) _ s11 σ H11 (.ref Z8) [v11] (.ref Z8) [y] (λ_ H'=>H'=kh H11 Z8 (.lst (ys++[v11]))) I11 rfl (.cons r11 .nil) ⟨_,ys,v11,rfl,rfl,hys,hz,rfl⟩) λ_ s12 q2=>?_;let(v12,H12,I12,r12,e12):=q2
 subst e12
 exact iO (iO ⟨rfl,_,I12,k⟩)
def uM (hc:X.calm=Ω)(SC:CScope X scope own)(hi:PI X.nox tg Z6 wi)
  (Z3:∀ fp C s H,PG (lD X scope own fp C s H) tg g/\PTs (lD X scope own fp C s H) Z5 tt/\PE (lD X scope own fp C s H) Z4 te)
  (hs:∀ x,foldedSetIterable Z6 X.env x=pure x:=by intro _;rfl) :
  PE X.nox (.ListComp Z4 [⟨tg,Z6,Z5,0⟩] scope pos) (AM wi g tt te own.length) :=
 vT hc SC zg hi (λfp C s H=>let ⟨a,b,c⟩:=Z3 fp C s H;⟨a,b,vR c⟩) hs
def xt {i:Nat}{x:Str}{px:Pos}{spos:Pos}(hc:X.calm=Ω)(SC:CScope X scope own)(hN:X.N.Nodup)(hx:X.N[i]?=Ψ x)(hl:X.env.scope.names.lookup x=Ψ .local)(hi:PI X.nox tg Z6 wi)
  (Z3:∀ fp C s H,PG (lD X scope own fp C s H) tg g/\PTs (lD X scope own fp C s H) Z5 tt/\PE (lD X scope own fp C s H) Z4 te)
  (hsw:swapsWith (.ListComp Z4 [⟨tg,Z6,Z5,0⟩] scope pos) (Ψ (.Name x px)) spos.line X.env=pure Ω)
  (hs:∀ x,foldedSetIterable Z6 X.env x=pure x:=by intro _;rfl) :
  PS X.nox (.Assign [.Name x px] (.ListComp Z4 [⟨tg,Z6,Z5,0⟩] scope pos) spos) (qM (AM wi g tt te own.length) (mq i)) :=
 qD hc SC zg hN hx hl hi (λfp C s H=>let ⟨a,b,c⟩:=Z3 fp C s H;⟨a,b,vR c⟩) hsw hs
end
section
variable {X:Cx}{Z9:List (jP×Obj)}{σ:St}{H:Hp}{s:jw}{h':jM}
def Inv.turnedNew {t':Nat}{ch:List jP}{p:jP}{o:HO}(I:Inv X Z9 σ H s)(hp:s.heap.objs.size<=p)(k:∀ b ob,b ∉ ch->s.heap.get? b=Ψ ob->h'.get? b=Ψ ob)(hf:∀ b∈ch,oZ X Z9 H b)
  (new:ObjOk X.prog X.w (kh H p o) h' p o):Inv X Z9 σ (kh H p o) { s with heap:=h',toks:=t' }:=by
 let hn:H p=Φ:=I.hok.fresh hp
 let nit:∀ b u,H b=Ψ u->b ∉ ch:=λb u e z=>by rw[(hf b z).1] at e;cases e
 let nep:∀ {b ob},s.heap.get? b=Ψ ob->b≠p:=λe=>ii (cK (iy e) hp)
 refine I.step (g':=s.gens) (d':=s.drawn) (ch:=ch) (λb hb=>⟨(hf b hb).2.2.2.1,(hf b hb).2.1,(hf b hb).2.2.2.2.1,(hf b hb).2.2.2.2.2⟩) (λb ob _ _ hc e _=>k b ob hc e) (λb ob _ _ hc e _=>⟨ob.slots,k b ob hc e⟩)
  (λb ob hc e n=>by rw[jT (nep e)];exact n) (λb ob hc e=>⟨ob,k b ob hc e⟩) (λb xs e=>by rw[jT (kK e hn)];exact e) (λb u xs e=>by rw[jT (kK e hn)];exact e)
  (λb ps e=>⟨#[],by rw[jT (kK e hn),e];simp⟩) (λm hm=>?_) (λb u e=>?_) I.bare
 ·let(ob,es,ep,ho,r):=hm
  exact⟨ob,es,ep,k _ ob (λz=>(hf _ z).2.1 rfl) ho,r⟩
 ·by_cases hb:b=p
  ·subst hb;rw[jV] at e;cases e;exact new
  ·rw[jT hb] at e
   exact (I.hok b u e).stay (λc v hc q=>k c v ?_ q) (λc q=>by rw[jT (kK q hn)];exact q) λc xs q=>by rw[jT (kK q hn)];exact q
   rcases hc with z|z
   ·rw[z];exact nit b u e
   ·exact nit c _ z
def Inv.turnedL {t':Nat}{ch:List jP}(I:Inv X Z9 σ H s)(k:∀ b ob,b ∉ ch->s.heap.get? b=Ψ ob->h'.get? b=Ψ ob)(hf:∀ b∈ch,oZ X Z9 H b):Inv X Z9 σ H { s with heap:=h',toks:=t' }:=by
 let nit:∀ b u,H b=Ψ u->b ∉ ch:=λb u e z=>by rw[(hf b z).1] at e;cases e
 refine I.step (g':=s.gens) (d':=s.drawn) (ch:=ch) (λb hb=>⟨(hf b hb).2.2.2.1,(hf b hb).2.1,(hf b hb).2.2.2.2.1,(hf b hb).2.2.2.2.2⟩) (λb ob _ _ hc e _=>k b ob hc e) (λb ob _ _ hc e _=>⟨ob.slots,k b ob hc e⟩)
  (λ_ _ _ _ n=>n) (λb ob hc e=>⟨ob,k b ob hc e⟩) (λ_ _ e=>e) (λ_ _ _ e=>e) (λb ps e=>⟨#[],by rw[e];simp⟩) (λm hm=>?_) (λb u e=>?_) I.bare
 ·let(ob,es,ep,ho,r):=hm
  exact⟨ob,es,ep,k _ ob (λz=>(hf _ z).2.1 rfl) ho,r⟩
 ·exact (I.hok b u e).stay (λc v hc q=>k c v ?_ q) (λ_ q=>q) λ_ _ q=>q
  rcases hc with z|z
  ·rw[z];exact nit b u e
  ·exact nit c _ z
end
abbrev SeqB (b:Bool)(h:jM)(l:jP)(xs:Array jF):Prop:=match b with|true=>h.IsList l xs|false=>h.IsTuple l xs
abbrev IterB (b:Bool)(h:jM)(it l:jP) (i:Nat):Prop:=match b with|true=>h.IsListIter it l i|false=>h.IsTupleIter it l i
abbrev qU (b:Bool):String:=match b with|true=>"list_iterator" | false=>"tuple_iterator"
section
variable {b:Bool}{h h':jM}{it l c:jP}{i:Nat}{xs:Array jF}
def SeqB.move (x:SeqB b h l xs)(e:iM c h h')(n:l≠c):SeqB b h' l xs:=by
 cases b
 ·exact Heap.IsTuple.extBut x e n
 ·exact Heap.IsList.extBut x e n
def SeqB.push {o:Obj}(x:SeqB b h l xs):SeqB b (h.push o) l xs:=by
 cases b
 ·exact Heap.IsTuple.push x o
 ·exact Heap.IsList.push x o
def SeqB.lt (x:SeqB b h l xs):l<h.objs.size:=by
 cases b<;>(let(_,e,_):=x;exact iy e)
def IterB.move (x:IterB b h it l i)(e:iM c h h')(n:it≠c):IterB b h' it l i:=by
 cases b
 ·exact Heap.IsTupleIter.extBut x e n
 ·exact Heap.IsListIter.extBut x e n
def IterB.to (x:IterB b h it l i)(k:∀ o,h.get? it=Ψ o->h'.get? it=Ψ o):IterB b h' it l i:=by
 cases b<;>(let(o,e,r):=x;exact⟨o,k o e,r⟩)
def IterB.obj (x:IterB b h it l i):∃ o,h.get? it=Ψ o/\∀ v,o.data≠.cell v:=by
 cases b<;>(let(o,e,_,d):=x;exact⟨o,e,λv z=>by rw[d] at z;cases z⟩)
def IterB.lt (x:IterB b h it l i):it<h.objs.size:=let ⟨_,e,_⟩:=x.obj;iy e
end
section
variable {P:jn}{w:jE}{A:jD}{E:jF->jw->Prop}{s:jw}{b:Bool}{it l:jP}{i:Nat}{xs:Array jF}{Q:jF->jw->Prop}
def yN (x:SeqB b s.heap l xs)(q:Q (.ref s.heap.objs.size) { s with heap:=s.heap.push { cls:=.type (qU b),data:=.fields #[.ref l,.int 0 0] } }):wpAny (model P w) A (pyIter (.ref l)) Q E s:=by
 cases b
 ·exact cC x q
 ·exact cY x q
def nextT {x:jF}(hi:s.heap.IsTupleIter it l i)(hl:s.heap.IsTuple l xs)(hx:xs[i]?=Ψ x)(q:∀ h',h'.IsTupleIter it l (i+1)->iz it s.heap h'->Q x { s with heap:=h' }):wpAny (model P w) A (aL (.ref it)) Q E s:=by
 let(oi,ei,ci,di):=id hi
 let(os,es,_,ns,ds):=hl
 unfold aL
 exact iR (aZ (name:=hW "__next__") hi.typeIs aB (dY aB hi.typeIs ar ?_ (am _)))
 show wpAny _ _ (field (.ref it) 0 >>= _) _ _ s;exact iR (iD ei di (x:=.ref l) rfl ?_)
 show wpAny _ _ (if (Value.ref l == Value.none)=Ω then _ else _) _ _ s;rw[if_neg (show ¬ ((Value.ref l == Value.none)=Ω) from cU)]
 show wpAny _ _ (field (.ref it) 1 >>= _) _ _ s;exact iR (iD ei di (x:=.int i 0) rfl ?_)
 show wpAny _ _ (seqItems? (.ref l) >>= _) _ _ s;exact iR (fO es ds ?_)
 simp![dN,hx]
 exact iR (fN ei di ∅ (iO ⟨x,rfl,iO (q _ ⟨_,bK _ ei (bF (cJ di _)),(dC ..).trans ci,?_⟩ (cy ..))⟩))
 rw[cJ di];simp[rawInt]
def Kt (hh:A.handled=Φ)(hi:s.heap.IsTupleIter it l i)(hl:s.heap.IsTuple l xs)(hx:xs[i]?=Φ)
  (q:∀ h' e,iM it s.heap h'->(∃ o,h'.get? e=Ψ o/\o.cls=.type "StopIteration")->E (.ref e) { s with heap:=h' }):wpAny (model P w) A (aL (.ref it)) Q E s:=by
 let(oi,ei,ci,di):=id hi
 let(os,es,_,ns,ds):=hl
 unfold aL
 exact iR (aZ (name:=hW "__next__") hi.typeIs aB (dY aB hi.typeIs ar ?_ (am _)))
 show wpAny _ _ (field (.ref it) 0 >>= _) _ _ s;exact iR (iD ei di (x:=.ref l) rfl ?_)
 show wpAny _ _ (if (Value.ref l == Value.none)=Ω then _ else _) _ _ s;rw[if_neg (show ¬ ((Value.ref l == Value.none)=Ω) from cU)]
 show wpAny _ _ (field (.ref it) 1 >>= _) _ _ s;exact iR (iD ei di (x:=.int i 0) rfl ?_)
 show wpAny _ _ (seqItems? (.ref l) >>= _) _ _ s;exact iR (fO es ds ?_)
 simp![dN,hx]
 exact iR (iN (iR (fN ei di ∅ ?_)));show wpAny _ _ (newExc (.type "StopIteration") [] >>= _) _ _ _
 exact iR ?_;simp![newExc,newTuple]
 exact iR (db ?_ (by size_fits));exact iR (m:=firstArgMember _ _) (iB (a:=Value.none) (by first|rfl|(simp![firstArgMember];rfl)) ?_)
 exact db ?_ (by size_fits);simp -iota only[raiseNew];exact iR (gy ?_)
 first|rw[show A.in1.handled=Φ from hh]|rw[hh]
 exact iR (iO (wpAny_throw (q _ _ (((cy ..).extBut.push _).push _) ⟨_,cw _ rfl,rfl⟩)))
def yA {x:jF}(hi:IterB b s.heap it l i)(hl:SeqB b s.heap l xs)(hx:xs[i]?=Ψ x)(q:∀ h',IterB b h' it l (i+1)->iz it s.heap h'->Q x { s with heap:=h' }):wpAny (model P w) A (aL (.ref it)) Q E s:=by
 cases b
 ·exact nextT hi hl hx q
 ·exact wpAny_nextOf_list_item hi hl hx q
def AS (hh:A.handled=Φ)(hi:IterB b s.heap it l i)(hl:SeqB b s.heap l xs)(hx:xs[i]?=Φ)
  (q:∀ h' e,iM it s.heap h'->(∃ o,h'.get? e=Ψ o/\o.cls=.type "StopIteration")->E (.ref e) { s with heap:=h' }):wpAny (model P w) A (aL (.ref it)) Q E s:=by
 cases b
 ·exact Kt hh hi hl hx q
 ·exact wpAny_nextOf_list_end hh hi hl hx q
end
section
variable {P:jn}{w:jE}{A:jD}{E:jF->jw->Prop}{s:jw}{p q:Bool}{z TI TO i1 i2 l1 l2:jP}{k1 k2:Nat}{xs ys:Array jF}{x y a b:jF}
def zn {Q:jF->jw->Prop}(D:jg z TI TO i1 i2 l1 l2)(zz:jI s.heap z TI TO .none)(zi:jA s.heap TI (.ref i1) (.ref i2))(zo:jA s.heap TO a b)
  (t1:IterB p s.heap i1 l1 k1)(t2:IterB q s.heap i2 l2 k2)(m1:SeqB p s.heap l1 xs)(m2:SeqB q s.heap l2 ys)(ex:xs[k1]?=Ψ x)(ey:ys[k2]?=Ψ y)
  (K:∀ h',jI h' z TI TO (rawInt s.heap.objs.size)->jA h' TO x y->IterB p h' i1 l1 (k1+1)->IterB q h' i2 l2 (k2+1)->jA h' s.heap.objs.size x y ->
   (∀ c o,c≠z->c≠TO->c≠i1->c≠i2->s.heap.get? c=Ψ o->h'.get? c=Ψ o)->Q (.ref s.heap.objs.size) { s with heap:=h' }) :
  wpAny (model P w) A (jt.«zip.__next__» ⟨[.ref z],[]⟩) (λfin s'=>∃ v,fin=.done (.ret v)/\Q v s') E s:=by
 show wpAny _ _ (field (.ref z) 2 >>= _) _ _ _;exact iR (iD zz rfl (x:=.bool Ξ) rfl ?_)
 show wpAny _ _ (field (.ref z) 3 >>= _) _ _ _;exact iR (iD zz rfl (x:=.ref TI) rfl (iR (fO zi rfl ?_)))
 show wpAny _ _ (ae (.ref z) >>= _) _ _ _;exact iR ?_;unfold ae
 exact iR (iD zz rfl (x:=.none) rfl (iO ?_));simp -iota only[if_true]
 exact iR (iN (iR (iD zz rfl (x:=.ref TO) rfl (iR (cA zz ∅ λg1 z1 b1=>?_)))))
 replace z1:jI g1 z TI TO .ellipsis:=z1
 exact iR ?_;simp -iota only[eD,ft,fF,gi]
 exact iR (iR (gv ?_));show wpAny _ _ (aL (.ref i1) >>= _) _ _ _
 exact iR (yA (t1.move b1.extBut D.i1z) (m1.move b1.extBut D.l1z) ex λg2 t12 b2=>iO ?_)
 let o2:jA g2 TO a b:=b2.extBut _ _ D.TOi1 (b1.extBut _ _ D.TOz zo)
 exact iR (fO o2 rfl (iR (bO o2 λg3 o3 b3=>?_)))
 replace o3:jA g3 TO x b:=o3
 exact iR (iC (iO (iR (iR (gv ?_)))));show wpAny _ _ (aL (.ref i2) >>= _) _ _ _
 exact iR (yA (((t2.move b1.extBut D.i2z).move b2.extBut D.i12.symm).move b3.extBut D.TOi2.symm) (((m2.move b1.extBut D.l2z).move b2.extBut D.l2i1).move b3.extBut D.l2TO) ey λg4 t24 b4=>iO ?_)
 let o4:jA g4 TO x b:=b4.extBut _ _ D.TOi2 o3
 exact iR (fO o4 rfl (iR (bO o4 λg5 o5 b5=>?_)))
 replace o5:jA g5 TO x y:=o5
 exact iR (iC (iO (iO (iR (fO o5 rfl (iR (fP ?_)))))))
 let sz:g5.objs.size=s.heap.objs.size:=by rw[b5.1,b4.1,b3.1,b2.1,b1.1]
 let z5:jI g5 z TI TO .ellipsis:=b5.extBut _ _ D.TOz.symm (b4.extBut _ _ D.i2z.symm (b3.extBut _ _ D.TOz.symm (b2.extBut _ _ D.i1z.symm z1)))
 let kk:∀ c o,c≠z->c≠TO->c≠i1->c≠i2->s.heap.get? c=Ψ o->g5.get? c=Ψ o:=λc o c1 c2 c3 c4 e=>b5.extBut _ _ c2 (b4.extBut _ _ c4 (b3.extBut _ _ c2 (b2.extBut _ _ c3 (b1.extBut _ _ c1 e))))
 let t15:IterB p g5 i1 l1 (k1+1):=((t12.move b3.extBut D.TOi1.symm).move b4.extBut D.i12).move b5.extBut D.TOi1.symm
 let t25:IterB q g5 i2 l2 (k2+1):=t24.move b5.extBut D.TOi2.symm
 let zlt:z<g5.objs.size:=iy z5
 show wpAny _ _ (ac (.ref z) (.ref g5.objs.size) >>= _) _ _ _;exact iR ?_;unfold ac
 let z6:jI (g5.push { cls:=.type "tuple",data:=.seq #[x,y] }) z TI TO .ellipsis:=bx _ z5
 exact iR (cA z6 ∅ λg7 z7 b7=>?_);replace z7:jI g7 z TI TO (rawInt g5.objs.size):=z7
 exact cA z7 ∅ λg8 z8 b8=>?_;replace z8:jI g8 z TI TO (rawInt g5.objs.size):=z8
 let up:∀ c o,c≠z->g5.get? c=Ψ o->g8.get? c=Ψ o:=λc o c1 e=>b8.extBut _ _ c1 (b7.extBut _ _ c1 (bx _ e))
 let tt:jA g8 g5.objs.size x y:=b8.extBut _ _ (ij zlt) (b7.extBut _ _ (ij zlt) (cw _ rfl))
 rw[sz] at z8 tt
 exact iO ⟨_,rfl,?_⟩;show Q (.ref g5.objs.size) _;rw[sz]
 exact K g8 z8 (up _ _ D.TOz o5) (t15.to λo e=>up _ o D.i1z e) (t25.to λo e=>up _ o D.i2z e) tt λc o c1 c2 c3 c4 e=>up c o c1 (kk c o c1 c2 c3 c4 e)
def AA {Q:Fin->jw->Prop}(hh:A.handled=Φ)(D:jg z TI TO i1 i2 l1 l2)(zz:jI s.heap z TI TO .none)(zi:jA s.heap TI (.ref i1) (.ref i2))(zo:jA s.heap TO a b)
  (t1:IterB p s.heap i1 l1 k1)(t2:IterB q s.heap i2 l2 k2)(m1:SeqB p s.heap l1 xs)(m2:SeqB q s.heap l2 ys)(en:xs[k1]?=Φ ∨ ys[k2]?=Φ)
  (K:∀ h' e,(∀ c o,c≠z->c≠TO->c≠i1->c≠i2->s.heap.get? c=Ψ o->h'.get? c=Ψ o)->(∃ o,h'.get? e=Ψ o/\o.cls=.type "StopIteration")->E (.ref e) { s with heap:=h' }) :
  wpAny (model P w) A (jt.«zip.__next__» ⟨[.ref z],[]⟩) Q E s:=by
 show wpAny _ _ (field (.ref z) 2 >>= _) _ _ _;exact iR (iD zz rfl (x:=.bool Ξ) rfl ?_)
 show wpAny _ _ (field (.ref z) 3 >>= _) _ _ _;exact iR (iD zz rfl (x:=.ref TI) rfl (iR (fO zi rfl ?_)))
 show wpAny _ _ (ae (.ref z) >>= _) _ _ _;exact iR ?_;unfold ae
 exact iR (iD zz rfl (x:=.none) rfl (iO ?_));simp -iota only[if_true]
 exact iR (iN (iR (iD zz rfl (x:=.ref TO) rfl (iR (cA zz ∅ λg1 z1 b1=>?_)))))
 replace z1:jI g1 z TI TO .ellipsis:=z1
 exact iR ?_;simp -iota only[eD,ft,fF,gi]
 exact iR (iR (gv ?_));show wpAny _ _ (aL (.ref i1) >>= _) _ _ _
 let fin:∀ {g:jM}{e:jP}{o:Obj},jI g z TI TO .ellipsis->g.get? e=Ψ o->o.cls=.type "StopIteration"->e≠z:=λh1 h2 h3 x=>by subst x;rw[h1] at h2;cases h2;simp at h3
 cases hx:xs[k1]? with
 | none =>
  exact iR (AS hh (t1.move b1.extBut D.i1z) (m1.move b1.extBut D.l1z) hx λg2 e b2 he=>?_)
  let(oe,e1,e2):=he
  let z2:jI g2 z TI TO .ellipsis:=b2 _ _ D.i1z.symm z1
  exact cA z2 ∅ λg3 _ b3=>K g3 e (λc o c1 _ c3 _ x=>b3.extBut _ _ c1 (b2 _ _ c3 (b1.extBut _ _ c1 x))) ⟨oe,b3.extBut _ _ (fin z2 e1 e2) e1,e2⟩
 | some x =>
  let hy:ys[k2]?=Φ:=by rcases en with h|h;rw[hx] at h;cases h;exact h
  exact iR (yA (t1.move b1.extBut D.i1z) (m1.move b1.extBut D.l1z) hx λg2 t12 b2=>iO ?_)
  let o2:jA g2 TO a b:=b2.extBut _ _ D.TOi1 (b1.extBut _ _ D.TOz zo)
  exact iR (fO o2 rfl (iR (bO o2 λg3 o3 b3=>iR (iC (iO (iR (iR (gv ?_))))))))
  show wpAny _ _ (aL (.ref i2) >>= _) _ _ _
  exact iR (AS hh (((t2.move b1.extBut D.i2z).move b2.extBut D.i12.symm).move b3.extBut D.TOi2.symm) (((m2.move b1.extBut D.l2z).move b2.extBut D.l2i1).move b3.extBut D.l2TO) hy λg4 e b4 he=>?_)
  let(oe,e1,e2):=he
  let z4:jI g4 z TI TO .ellipsis:=b4 _ _ D.i2z.symm (b3.extBut _ _ D.TOz.symm (b2.extBut _ _ D.i1z.symm z1))
  exact cA z4 ∅ λg5 _ b5=>K g5 e (λc o c1 c2 c3 c4 x=>b5.extBut _ _ c1 (b4 _ _ c4 (b3.extBut _ _ c2 (b2.extBut _ _ c3 (b1.extBut _ _ c1 x))))) ⟨oe,b5.extBut _ _ (fin z4 e1 e2) e1,e2⟩
def zm {Q:Option jF->jw->Prop}(D:jg z TI TO i1 i2 l1 l2)(zz:jI s.heap z TI TO .none)(zi:jA s.heap TI (.ref i1) (.ref i2))(zo:jA s.heap TO a b)
  (t1:IterB p s.heap i1 l1 k1)(t2:IterB q s.heap i2 l2 k2)(m1:SeqB p s.heap l1 xs)(m2:SeqB q s.heap l2 ys)(ex:xs[k1]?=Ψ x)(ey:ys[k2]?=Ψ y)
  (K:∀ h',jI h' z TI TO (rawInt s.heap.objs.size)->jA h' TO x y->IterB p h' i1 l1 (k1+1)->IterB q h' i2 l2 (k2+1)->jA h' s.heap.objs.size x y ->
   (∀ c o,c≠z->c≠TO->c≠i1->c≠i2->s.heap.get? c=Ψ o->h'.get? c=Ψ o)->Q (Ψ (.ref s.heap.objs.size)) { s with heap:=h' }):wpAny (model P w) A (pyNext (.ref z)) Q E s:=by
 let ty:s.TypeIs (.ref z) "zip":=⟨_,zz,rfl⟩
 unfold pyNext
 exact iR (gz (aZ (name:=hW "__next__") ty fI (dY fI ty eQ (zn D zz zi zo t1 t2 m1 m2 ex ey λh' a1 a2 a3 a4 a5 a6=>iO (K h' a1 a2 a3 a4 a5 a6)) (dQ _))))
def zl {Q:Option jF->jw->Prop}(hh:A.handled=Φ)(D:jg z TI TO i1 i2 l1 l2)(zz:jI s.heap z TI TO .none)(zi:jA s.heap TI (.ref i1) (.ref i2))(zo:jA s.heap TO a b)
  (t1:IterB p s.heap i1 l1 k1)(t2:IterB q s.heap i2 l2 k2)(m1:SeqB p s.heap l1 xs)(m2:SeqB q s.heap l2 ys)(en:xs[k1]?=Φ ∨ ys[k2]?=Φ)
  (K:∀ h',(∀ c o,c≠z->c≠TO->c≠i1->c≠i2->s.heap.get? c=Ψ o->h'.get? c=Ψ o)->Q Φ { s with heap:=h' }):wpAny (model P w) A (pyNext (.ref z)) Q E s:=by
 let ty:s.TypeIs (.ref z) "zip":=⟨_,zz,rfl⟩
 unfold pyNext
 exact iR (gz (aZ (name:=hW "__next__") ty fI (dY fI ty eQ (AA hh D zz zi zo t1 t2 m1 m2 en λh' e hk he=>?_) (dQ _))))
 let(o,e1,e2):=he
 exact iR (dU (T:="StopIteration") (b:=Ω) ⟨o,e1,e2⟩ fU (iO (K _ hk)))
end
noncomputable abbrev Dv (p:Bool)(h:jM)(l1:jP):jM:=h.push { cls:=.type (qU p),data:=.fields #[.ref l1,.int 0 0] }
noncomputable abbrev Mj (p q:Bool)(h:jM)(l1 l2:jP):jM:=(Dv p h l1).push { cls:=.type (qU q),data:=.fields #[.ref l2,.int 0 0] }
noncomputable abbrev Mi (p q:Bool)(h:jM)(l1 l2:jP):jM:=(Mj p q h l1 l2).push { cls:=.type "tuple",data:=.seq #[.ref h.objs.size,.ref (Dv p h l1).objs.size] }
noncomputable abbrev Mh (p q:Bool)(h:jM)(l1 l2:jP):jM:=(Mi p q h l1 l2).push { cls:=.type "tuple",data:=.seq #[.none,.none] }
noncomputable abbrev JG (p q:Bool)(h:jM)(l1 l2:jP):jM:=(Mh p q h l1 l2).push { cls:=.type "zip",data:=.fields #[.none,.bool Ξ,.bool Ξ,.ref (Mj p q h l1 l2).objs.size,.ref (Mi p q h l1 l2).objs.size] }
def xA (p q:Bool)(l1 l2:jP)(xs ys:Array jF) :
  Meets (jt.«zip.__new__» ⟨[.type "zip",.ref l1,.ref l2],[]⟩) (λ_ R s=>SeqB p s.heap l1 xs/\SeqB q s.heap l2 ys/\R (.ok (.ret (.ref (Mh p q s.heap l1 l2).objs.size))) { s with heap:=JG p q s.heap l1 l2 }) :=
 .of_wp λprog w A R s h=>by
  let(hp,g,d,tk,os):=s;let(m1,m2,h):=h
  let hsub:=sub_zip
  let M1:SeqB p (iH ⟨hp,g,d,tk,os⟩) l1 xs:=m1
  let M2:SeqB q (iH ⟨hp.push { cls:=.type (qU p),data:=.fields #[.ref l1,.int 0 0] },g,d,tk,os⟩) l2 ys:=SeqB.push m2
  wp_walk using yN M1,yN M2
  exact⟨_,rfl,h⟩
section
variable {P:jn}{w:jE}{A:jD}{E:jF->jw->Prop}{s:jw}
def Aq {p q:Bool}{l1 l2:jP}{xs ys:Array jF}{Q:jF->jw->Prop}(m1:SeqB p s.heap l1 xs)(m2:SeqB q s.heap l2 ys)
  (K:∀ h',jI h' (s.heap.objs.size+4) (s.heap.objs.size+2) (s.heap.objs.size+3) .none->jA h' (s.heap.objs.size+2) (.ref s.heap.objs.size) (.ref (s.heap.objs.size+1)) ->
   jA h' (s.heap.objs.size+3) .none .none->IterB p h' s.heap.objs.size l1 0->IterB q h' (s.heap.objs.size+1) l2 0->(∀ c o,s.heap.get? c=Ψ o->h'.get? c=Ψ o)->Q (.ref (s.heap.objs.size+4)) { s with heap:=h' }) :
  wpAny (model P w) A (call (.type "zip") [.ref l1,.ref l2]) Q E s:=by
 exact callType_new F.called_zip (·) (F.typeCall_zip_2 _ _) (F.newCall_zip_2 _ _) (λobj=>F.args_object_init_3 obj _ _) F.entry_zip_new (xA p q l1 l2 xs ys) ⟨m1,m2,?_⟩
 let z1:(Dv p s.heap l1).objs.size=s.heap.objs.size+1:=gn ..
 let z2:(Mj p q s.heap l1 l2).objs.size=s.heap.objs.size+2:=by rw[gn,z1]
 let z3:(Mi p q s.heap l1 l2).objs.size=s.heap.objs.size+3:=by rw[gn,z2]
 let z4:(Mh p q s.heap l1 l2).objs.size=s.heap.objs.size+4:=by rw[gn,z3]
 let f5:(JG p q s.heap l1 l2).get? (Mh p q s.heap l1 l2).objs.size=Ψ _:=cw _ rfl
 let f4:(JG p q s.heap l1 l2).get? (Mi p q s.heap l1 l2).objs.size=Ψ _:=bx _ (cw _ rfl)
 let f3:(JG p q s.heap l1 l2).get? (Mj p q s.heap l1 l2).objs.size=Ψ _:=bx _ (bx _ (cw _ rfl))
 let f2:(JG p q s.heap l1 l2).get? (Dv p s.heap l1).objs.size=Ψ _:=bx _ (bx _ (bx _ (cw _ rfl)))
 let f1:(JG p q s.heap l1 l2).get? s.heap.objs.size=Ψ _:=bx _ (bx _ (bx _ (bx _ (cw _ rfl))))
 show _/\_
 rw[z2,z3,z4] at f5;rw[z1,z2] at f3;rw[z3] at f4;rw[z1] at f2;rw[z4]
 exact⟨⟨_,f5,rfl⟩,K _ f5 f3 f4 ?_ ?_ λc o x=>bx _ (bx _ (bx _ (bx _ (bx _ x))))⟩
 ·cases p<;>exact⟨_,f1,rfl,rfl⟩
 ·cases q<;>exact⟨_,f2,rfl,rfl⟩
end
end L2
namespace L2
open PySem PySem.Spec PyProof.Rows
open AutoSeq1 (wpAny_loadPart')
section
variable {P:jn}{w:jE}{A:jD}{E:jF->jw->Prop}{s:jw}{p:Bool}{e it l:jP}{i:Nat}{xs:Array jF}{x old:jF}
def xS {Q:jF->jw->Prop}(ee:jB s.heap e it i old)(t1:IterB p s.heap it l i)(m1:SeqB p s.heap l xs)(ex:xs[i]?=Ψ x)(ne:e≠it)
  (K:∀ h',je h' e it ((i:Int)+1) x s.heap.objs.size->IterB p h' it l (i+1)->h'.get? s.heap.objs.size=Ψ { cls:=.type "tuple",data:=.seq #[.int i s.toks,x] } ->
   (∀ b o,b≠e->b≠it->s.heap.get? b=Ψ o->h'.get? b=Ψ o)->Q (.ref s.heap.objs.size) { s with heap:=h',toks:=s.toks+1 }) :
  wpAny (model P w) A (jt.«enumerate.__next__» ⟨[.ref e],[]⟩) (λfin s'=>∃ v,fin=.done (.ret v)/\Q v s') E s:=by
 let(hp,g,d,tk,os):=s
 show wpAny _ _ (field (.ref e) 2 >>= _) _ _ _;exact iR (iD ee rfl (x:=.ref it) rfl (iR (yA t1 m1 ex λg1 t11 b1=>?_)))
 replace b1:iz it hp g1:=b1
 let e1:jB g1 e it i old:=(b1.2 e ne).trans ee
 show wpAny _ _ (field (.ref e) 3 >>= _) _ _ ⟨g1,g,d,tk,os⟩;exact iR (iD e1 rfl (x:=rawInt i) rfl ?_)
 show wpAny _ _ (field (.ref e) 4 >>= _) _ _ ⟨g1,g,d,tk,os⟩;exact iR (iD e1 rfl (x:=.none) rfl ?_)
 show wpAny _ _ (mkInt i >>= _) _ _ ⟨g1,g,d,tk,os⟩;exact iR (wpAny_mkInt ?_)
 show wpAny _ _ (setField (.ref e) 3 (rawInt ((i:Int)+1)) >>= _) _ _ ⟨g1,g,d,tk+1,os⟩;exact iR (cA e1 ∅ λg2 e2 b2=>?_)
 replace b2:iz e g1 g2:=b2
 replace e2:jB g2 e it ((i:Int)+1) old:=e2
 show wpAny _ _ (setField (.ref e) 4 .none >>= _) _ _ ⟨g2,g,d,tk+1,os⟩;exact iR (cA e2 ∅ λg3 e3 b3=>?_)
 replace b3:iz e g2 g3:=b3
 replace e3:jB g3 e it ((i:Int)+1) old:=e3
 show wpAny _ _ (newTuple [.int i tk,x] >>= _) _ _ ⟨g3,g,d,tk+1,os⟩;exact iR (fP ?_)
 let e4:jB (g3.push { cls:=.type "tuple",data:=.seq #[.int i tk,x] }) e it ((i:Int)+1) old:=bx _ e3
 generalize hg4:g3.push { cls:=.type "tuple",data:=.seq #[.int i tk,x] } = g4 at e4
 let sz:g3.objs.size=hp.objs.size:=by rw[b3.1,b2.1,b1.1]
 let el:e<hp.objs.size:=iy ee
 let t4:g4.get? hp.objs.size=Ψ { cls:=.type "tuple",data:=.seq #[.int i tk,x] }:=by rw[<- hg4,<- sz];exact cw _ rfl
 let k4:∀ b o,b≠e->b≠it->hp.get? b=Ψ o->g4.get? b=Ψ o:=λb o c1 c2 h=>by rw[<- hg4];exact bx _ (b3.extBut b o c1 (b2.extBut b o c1 (b1.extBut b o c2 h)))
 let i4:IterB p g4 it l (i+1):=by
  rw[<- hg4];exact ((t11.move b2.extBut (jp ne)).move b3.extBut (jp ne)).to λo h=>bx _ h
 show wpAny _ _ (ae (.ref e) >>= _) _ _ ⟨g4,g,d,tk+1,os⟩
 rw[sz]
 clear hg4 e3 b3 e2 b2 e1 b1 t11 sz g3 g2 g1
 exact iR ?_;unfold ae
 exact iR (iD e4 rfl (x:=.none) rfl (iO ?_));simp![if_true]
 exact iR (iN (iR (iD e4 rfl (x:=old) rfl (iR (cA e4 ∅ λg5 e5 b5=>?_)))))
 replace b5:iz e g4 g5:=b5
 replace e5:jB g5 e it ((i:Int)+1) x:=e5
 show wpAny _ _ (ac (.ref e) (.ref hp.objs.size) >>= _) _ _ ⟨g5,g,d,tk+1,os⟩;exact iR ?_;unfold ac
 exact iR (cA e5 ∅ λg6 e6 b6=>?_)
 replace b6:iz e g5 g6:=b6
 replace e6:je g6 e it ((i:Int)+1) x hp.objs.size:=e6
 exact cA e6 ∅ λg7 e7 b7=>?_
 replace b7:iz e g6 g7:=b7
 replace e7:je g7 e it ((i:Int)+1) x hp.objs.size:=e7
 exact iR (iC (iO ⟨_,rfl,K g7 e7 (((i4.move b5.extBut (jp ne)).move b6.extBut (jp ne)).move b7.extBut (jp ne)) ?_ λb o c1 c2 h=>b7.extBut b o c1 (b6.extBut b o c1 (b5.extBut b o c1 (k4 b o c1 c2 h)))⟩))
 exact b7.extBut _ _ (ij el) (b6.extBut _ _ (ij el) (b5.extBut _ _ (ij el) t4))
def xR {Q:Option jF->jw->Prop}(ee:jB s.heap e it i old)(t1:IterB p s.heap it l i)(m1:SeqB p s.heap l xs)(ex:xs[i]?=Ψ x)(ne:e≠it)
  (K:∀ h',je h' e it ((i:Int)+1) x s.heap.objs.size->IterB p h' it l (i+1)->h'.get? s.heap.objs.size=Ψ { cls:=.type "tuple",data:=.seq #[.int i s.toks,x] } ->
   (∀ b o,b≠e->b≠it->s.heap.get? b=Ψ o->h'.get? b=Ψ o)->Q (Ψ (.ref s.heap.objs.size)) { s with heap:=h',toks:=s.toks+1 }):wpAny (model P w) A (pyNext (.ref e)) Q E s:=by
 let ty:s.TypeIs (.ref e) "enumerate":=⟨_,ee,rfl⟩
 unfold pyNext
 exact iR (gz (aZ (name:=hW "__next__") ty bL (dY bL ty bz (xS ee t1 m1 ex ne λh' a b c d=>iO (K h' a b c d)) (bi _))))
def xQ {Q:Option jF->jw->Prop}(hh:A.handled=Φ)(ee:jB s.heap e it i old)(t1:IterB p s.heap it l i)(m1:SeqB p s.heap l xs)(ex:xs[i]?=Φ)(K:∀ h',iM it s.heap h'->Q Φ { s with heap:=h' }):wpAny (model P w) A (pyNext (.ref e)) Q E s:=by
 let ty:s.TypeIs (.ref e) "enumerate":=⟨_,ee,rfl⟩
 unfold pyNext
 exact iR (gz (aZ (name:=hW "__next__") ty bL (dY bL ty bz ?_ (bi _))))
 show wpAny _ _ (field (.ref e) 2 >>= _) _ _ _;exact iR (iD ee rfl (x:=.ref it) rfl (iR (AS hh t1 m1 ex λh' v k hv=>?_)))
 let(o,e1,e2):=hv
 exact iR (dU (T:="StopIteration") (b:=Ω) ⟨o,e1,e2⟩ fU (iO (K _ k)))
end
def Dz {P:jn}{w:jE}{A:jD}{E:jF->jw->Prop}{s:jw}{Q:Bool->jw->Prop}(h:∀ c,Q c s)(c:Bool):wpAny (model P w) A (pure c) Q E s:=iO (h c)
def wc (p:Bool)(l:jP)(xs:Array jF) :
  Meets (jt.«enumerate.__new__» ⟨[.type "enumerate",.ref l],[]⟩) (λ_ R s=>SeqB p s.heap l xs /\
   R (.ok (.ret (.ref (Dv p s.heap l).objs.size))) { s with heap:=(Dv p s.heap l).push { cls:=.type "enumerate",data:=.fields #[.none,.bool Ξ,.ref s.heap.objs.size,rawInt 0,.none,.none] } }) :=
 .of_wp λprog w A R s h=>by
  let(hp,g,d,tk,os):=s;let(m1,h):=h
  let hsub:=sub_enumerate
  let M1:SeqB p (iH ⟨hp,g,d,tk,os⟩) l xs:=m1
  let hob:∃ o,hp.get? l=Ψ o:=by cases p<;>(let(o,e,_):=m1;exact⟨o,e⟩)
  let(ob,hl):=hob
  wp_walk using eW hl
  exact wpAny_stack_any λst=>Dz (λc=>?_) _
  cases c
  ·wp_walk using eW hl,yN M1
   exact⟨_,rfl,h⟩
  ·wp_walk using eW hl,yN M1
   exact⟨_,rfl,h⟩
section
variable {P:jn}{w:jE}{A:jD}{E:jF->jw->Prop}{s:jw}
def x4 {p:Bool}{l:jP}{xs:Array jF}{Q:jF->jw->Prop}(m1:SeqB p s.heap l xs)
  (K:∀ h',jB h' (s.heap.objs.size+1) s.heap.objs.size 0 .none->IterB p h' s.heap.objs.size l 0->(∀ b o,s.heap.get? b=Ψ o->h'.get? b=Ψ o)->Q (.ref (s.heap.objs.size+1)) { s with heap:=h' }) :
  wpAny (model P w) A (call (.type "enumerate") [.ref l]) Q E s:=by
 exact callType_new F.called_enumerate (·) (F.typeCall_enumerate_1 _) (F.newCall_enumerate_1 _) (λobj=>bX obj _) F.entry_enumerate_new (wc p l xs) ⟨m1,?_⟩
 let z1:(Dv p s.heap l).objs.size=s.heap.objs.size+1:=gn ..
 show _/\_
 rw[z1]
 let f2:jB ((Dv p s.heap l).push { cls:=.type "enumerate",data:=.fields #[.none,.bool Ξ,.ref s.heap.objs.size,rawInt 0,.none,.none] }) (s.heap.objs.size+1) s.heap.objs.size 0 .none:=by
  have:=cw (Dv p s.heap l) (o:={ cls:=.type "enumerate",data:=.fields #[.none,.bool Ξ,.ref s.heap.objs.size,rawInt 0,.none,.none] }) rfl
  rw[z1] at this;exact this
 exact⟨⟨_,f2,rfl⟩,K _ f2 ?_ λb o x=>bx _ (bx _ x)⟩
 cases p<;>exact⟨_,bx _ (cw _ rfl),rfl,rfl⟩
end
abbrev sM (b:Bool)(K:ib)(H:Hp)(a:jP)(xs:List V):Prop:=match b with|true=>SqL K H a xs|false=>SqT K H a xs
section
variable {X:Cx}{Z9:List (jP×Obj)}{σ:St}{H:Hp}{s:jw}{a:jP}{xs ys:List V}{b:Bool}
def Inv.seqB (I:Inv X Z9 σ H s)(h:sM b X.K H a xs):∃ Z7:List jF,Vals xs Z7/\SeqB b s.heap a Z7.toArray/\xs.length=Z7.length:=by
 cases b
 ·let(Z7,r,q,_):=I.tuple h
  exact⟨Z7,r,q,r.length⟩
 ·let(Z7,r,q,_):=I.list h
  exact⟨Z7,r,q.isList,r.length⟩
def Inv.seqB_inj (I:Inv X Z9 σ H s)(h:sM b X.K H a xs)(h':sM b X.K H a ys):xs=ys:=by
 cases b
 ·exact I.tuple_inj h h'
 ·exact I.list_inj h h'
end
abbrev NS (K:ib) (p q:Bool) (a b:jP):It :=
  ⟨λi H=>∃ xs ys x y,sM p K H a xs/\sM q K H b ys/\xs[i]?=Ψ x/\ys[i]?=Ψ y,
   λi H v H'=>∃ c,H c=Φ/\v=.ref c/\∀ xs ys x y,sM p K H a xs->sM q K H b ys->xs[i]?=Ψ x->ys[i]?=Ψ y->H'=kh H c (.tup [x,y]),
   λi H=>∃ xs ys,sM p K H a xs/\sM q K H b ys/\(xs.length<=i ∨ ys.length<=i)⟩
abbrev NV (K:ib) (p:Bool) (a:jP):It :=
  ⟨λi H=>∃ xs x,sM p K H a xs/\xs[i]?=Ψ x,
   λi H v H'=>∃ c,H c=Φ/\v=.ref c/\∀ xs x,sM p K H a xs->xs[i]?=Ψ x->H'=kh H c (.tup [.int i,x]),
   λi H=>∃ xs,sM p K H a xs/\xs.length<=i⟩
def DC {P:jn}{w:jE}{K:ib}{p q:Bool}{elts:List Expr}{k:Nat}{pos:Pos}{a b z TI TO i1 i2:jP}(D:jg z TI TO i1 i2 a b) :
  Turn P w K (.Tuple elts k pos) (NS K p q a b) [z,TO,i1,i2,TI] z (λi h=>jI h z TI TO .none/\jA h TI (.ref i1) (.ref i2)/\(∃ c d,jA h TO c d)/\IterB p h i1 a i/\IterB q h i2 b i) where
 mem:=∅
 obj:=λi h st c hc=>by
  let(zz,zi,(x,y,zo),t1,t2):=st
  simp![gM,eF,or_false] at hc
  rcases hc with rfl|rfl|rfl|rfl|rfl
  ·exact⟨_,zz,λv z=>by cases z⟩
  ·exact⟨_,zo,λv z=>by cases z⟩
  ·exact t1.obj
  ·exact t2.obj
  ·exact⟨_,zi,λv z=>by cases z⟩
 keep:=λi h h' st kk=>by
  let(zz,zi,(x,y,zo),t1,t2):=st
  exact⟨kk z ∅ _ zz,kk TI ∅ _ zi,⟨x,y,kk TO ∅ _ zo⟩,t1.to λo e=>kk i1 ∅ o e,t2.to λo e=>kk i2 ∅ o e⟩
 item:=by
  intro X hP hw hK hc i Z9 s σ H E I hf st hg
  subst hP hw hK
  let(xs,ys,x,y,q1,q2,hx,hy):=hg
  let(zz,zi,(u0,v0,zo),t1,t2):=st
  let(Z7,rv,m1,_):=I.seqB q1
  let(jts,rw',m2,_):=I.seqB q2
  let(u,hu,ru):=rv.get hx
  let(u',hu',ru'):=rw'.get hy
  exact zm D zz zi zo t1 t2 m1 m2 (x:=u) (y:=u') (by simpa using hu) (by simpa using hu') λh' a1 a2 a3 a4 a5 hk=>?_
  exact⟨_,rfl,wpAny_letOwnedTupleGo_zip a1 λh'' z'' hs''=>?_⟩
  let szn:z≠s.heap.objs.size:=ii (iy zz)
  let T'':jA h'' s.heap.objs.size u u':=hs''.extBut _ _ (jp szn) a5
  let I1:Inv X Z9 σ (kh H s.heap.objs.size (.tup [x,y])) { s with heap:=h'' }:=I.turnedNew (t':=s.toks) (ch:=[z,TO,i1,i2]) (iK _)
   (λc ob hc e=>by simp![gM,eF,or_false,not_or] at hc;exact hs''.extBut _ _ hc.1 (hk c ob hc.1 hc.2.1 hc.2.2.1 hc.2.2.2 e))
   (λc hc=>hf c (by simp![gM,eF,or_false] at hc ⊢;rcases hc with z|z|z|z<;>simp[z])) ⟨by show 2<=sizeLine;decide,[u,u'],.cons ru (.cons ru' .nil),⟨_,T'',rfl,_,rfl⟩⟩
  exact⟨.ref s.heap.objs.size,_,I1,rfl,⟨_,I.fresh,rfl,λxs' ys' x' y' r1 r2 hx' hy'=>?_⟩,⟨z'',hs''.extBut _ _ D.TIz (hk _ _ D.TIz D.TITO D.TIi1 D.TIi2 zi),⟨_,_,hs''.extBut _ _ D.TOz a2⟩,a3.move hs''.extBut D.i1z,a4.move hs''.extBut D.i2z⟩,λc hc=>?_⟩
  ·let e1:=I.seqB_inj r1 q1
   let e2:=I.seqB_inj r2 q2
   subst e1 e2
   rw[hx] at hx';rw[hy] at hy';cases hx';cases hy';rfl
  ·have:c≠s.heap.objs.size:=by
    let hlt:c<s.heap.objs.size:=by
     simp![gM,eF,or_false] at hc
     rcases hc with rfl|rfl|rfl|rfl|rfl
     ·exact iy zz
     ·exact iy zo
     ·exact t1.lt
     ·exact t2.lt
     ·exact iy zi
    exact ii hlt
   rw[jT this];exact (hf c hc).1
 done:=by
  intro X hP hw hK hc i Z9 s σ H E I hf st hg
  subst hP hw hK
  let(xs,ys,q1,q2,hx):=hg
  let(zz,zi,(u0,v0,zo),t1,t2):=st
  let(Z7,rv,m1,l1):=I.seqB q1
  let(jts,rw',m2,l2):=I.seqB q2
  exact zl (I.ok.hd hc) D zz zi zo t1 t2 m1 m2 (hx.elim (λz=>.inl (by simp;lia)) λz=>.inr (by simp;lia)) λh' hk=>⟨rfl,?_⟩
  exact I.turnedL (t':=s.toks) (ch:=[z,TO,i1,i2]) (λc ob hc e=>by simp![gM,eF,or_false,not_or] at hc;exact hk c ob hc.1 hc.2.1 hc.2.2.1 hc.2.2.2 e)
   (λc hc=>hf c (by simp![gM,eF,or_false] at hc ⊢;rcases hc with z|z|z|z<;>simp[z]))
 self:=λ_ _ _ _ _ st h=>dS st.1 h
def DE {P:jn}{w:jE}{K:ib}{p:Bool}{elts:List Expr}{k:Nat}{pos:Pos}{a e it:jP}(ne:e≠it) :
  Turn P w K (.Tuple elts k pos) (NV K p a) [e,it] e (λi h=>(∃ old,jB h e it i old)/\IterB p h it a i) where
 mem:=∅
 obj:=λi h st c hc=>by
  let((old,ee),t1):=st
  simp![gM,eF,or_false] at hc
  rcases hc with rfl|rfl
  ·exact⟨_,ee,λv z=>by cases z⟩
  ·exact t1.obj
 keep:=λi h h' st kk=>by
  let((old,ee),t1):=st
  exact⟨⟨old,kk e ∅ _ ee⟩,t1.to λo q=>kk it ∅ o q⟩
 item:=by
  intro X hP hw hK hc i Z9 s σ H E I hf st hg
  subst hP hw hK
  let(xs,x,q1,hx):=hg
  let((old,ee),t1):=st
  let(Z7,rv,m1,_):=I.seqB q1
  let(u,hu,ru):=rv.get hx
  exact xR ee t1 m1 (x:=u) (by simpa using hu) ne λh' a1 a2 a3 hk=>?_
  exact⟨_,rfl,wpAny_letOwnedTupleGo_enum a1 λh'' z'' hs''=>?_⟩
  let szn:e≠s.heap.objs.size:=ii (iy ee)
  let T'':=hs''.extBut _ _ (jp szn) a3
  let I1:Inv X Z9 σ (kh H s.heap.objs.size (.tup [.int i,x])) { s with heap:=h'',toks:=s.toks+1 }:=I.turnedNew (t':=s.toks+1) (ch:=[e,it]) (iK _)
   (λc ob hc q=>by simp![gM,eF,or_false,not_or] at hc;exact hs''.extBut _ _ hc.1 (hk c ob hc.1 hc.2 q))
   (λc hc=>hf c hc) ⟨by show 2<=sizeLine;decide,[.int i s.toks,u],.cons ⟨_,rfl⟩ (.cons ru .nil),⟨_,T'',rfl,_,rfl⟩⟩
  exact⟨.ref s.heap.objs.size,_,I1,rfl,⟨_,I.fresh,rfl,λxs' x' r1 hx'=>?_⟩,⟨⟨_,z''⟩,a2.move hs''.extBut (jp ne)⟩,λc hc=>?_⟩
  ·let e1:=I.seqB_inj r1 q1
   subst e1
   rw[hx] at hx';cases hx';rfl
  ·have:c≠s.heap.objs.size:=by
    let hlt:c<s.heap.objs.size:=by
     simp![gM,eF,or_false] at hc
     rcases hc with rfl|rfl
     ·exact iy ee
     ·exact t1.lt
    exact ii hlt
   rw[jT this];exact (hf c hc).1
 done:=by
  intro X hP hw hK hc i Z9 s σ H E I hf st hg
  subst hP hw hK
  let(xs,q1,hx):=hg
  let((old,ee),t1):=st
  let(Z7,rv,m1,l1):=I.seqB q1
  exact xQ (I.ok.hd hc) ee t1 m1 (by simp;lia) λh' hk=>⟨rfl,?_⟩
  exact I.turnedL (t':=s.toks) (ch:=[it]) (λc ob hc q=>hk c ob (by simpa using hc) q) (λc hc=>hf c (by simp at hc;simp[hc]))
 self:=λ_ _ _ _ _ st h=>cZ st.1.choose_spec h
section
variable {X:Cx}
abbrev iZ2 (K:ib)(ta:TA):TI:=λσ H R=>ta σ H λvs H1=>∃ p q a b,vs=[.ref a,.ref b]/\(∃ xs,sM p K H1 a xs)/\(∃ ys,sM q K H1 b ys)/\R (NS K p q a b) H1
def Ga {elts:List Expr}{k:Nat}{tp:Pos}{e1 e2:Expr}{ta:TA}{p pos:Pos}(hg:Gl X "zip")(hm:X.mg "zip" = Φ)(ha:PA X [e1,e2] ta)
  (hs:starEach [e1,e2] X.env=[(Ξ,eval e1 X.env),(Ξ,eval e2 X.env)])(hs2:starEach [e2] X.env=[(Ξ,eval e2 X.env)]):PI X (.Tuple elts k tp) (.Call (.Name "zip" p) [e1,e2] [] pos) (iZ2 X.K ta):=by
 intro Z9 s σ H R I h
 exact cD (lY I hg hm bE ?_ (·) (·))
 exact aq (ko (ha pos Z9 s σ H _ I h) λus s1 ⟨vs,H1,I1,r1,q1⟩=>?_) (by rw[hs,hs2]) (by rw[hs2];rfl)
 let(p,q,a,b,e,(xs,hq1),(ys,hq2),kk):=q1
 subst e
 let(u1,u2,rfl,ra,rb):=vals2 r1
 cases ra;cases rb
 let(Z7,rv,m1,_):=I1.seqB hq1
 let(jts,rw',m2,_):=I1.seqB hq2
 exact Aq m1 m2 λh' zz zi zo t1 t2 hk=>dS (f0:=.none) zz ?_
 let I2:Inv X Z9 σ H1 { s1 with heap:=h' }:=I1.kept (t':=s1.toks) λc o e=>hk c o e
 exact⟨_,_,_,NS X.K p q a b,H1,rfl,I2,DC (zipApart_new m1.lt m2.lt),⟨zz,zi,⟨_,_,zo⟩,t1,t2⟩,λc hc=>?_,kk⟩
 let hge:s1.heap.objs.size<=c:=by
  simp![gM,eF,or_false] at hc
  rcases hc with rfl|rfl|rfl|rfl|rfl<;>first|exact iK _|exact eB _ _
 exact I1.fpOk hge (I1.hok.fresh hge)
abbrev iEn (K:ib)(ta:TA):TI:=λσ H R=>ta σ H λvs H1=>∃ p a,vs=[.ref a]/\(∃ xs,sM p K H1 a xs)/\R (NV K p a) H1
def KM {elts:List Expr}{k:Nat}{tp:Pos}{e1:Expr}{ta:TA}{p pos:Pos}(hg:Gl X "enumerate")(hm:X.mg "enumerate" = Φ)(ha:PA X [e1] ta)(hs:starEach [e1] X.env=[(Ξ,eval e1 X.env)]) :
  PI X (.Tuple elts k tp) (.Call (.Name "enumerate" p) [e1] [] pos) (iEn X.K ta):=by
 intro Z9 s σ H R I h
 exact cD (lY I hg hm PyProof.Rows.boot_enumerate ?_ (·) (·))
 exact aq (ko (ha pos Z9 s σ H _ I h) λus s1 ⟨vs,H1,I1,r1,q1⟩=>?_) (by rw[hs];rfl) rfl
 let(p,a,e,(xs,hq1),kk):=q1
 subst e
 let(u1,rfl,ra):=vals1 r1
 cases ra
 let(Z7,rv,m1,_):=I1.seqB hq1
 exact x4 m1 λh' ee t1 hk=>cZ ee ?_
 let I2:Inv X Z9 σ H1 { s1 with heap:=h' }:=I1.kept (t':=s1.toks) λc o e=>hk c o e
 exact⟨_,_,_,NV X.K p a,H1,rfl,I2,DE (ij (eA _)),⟨⟨_,ee⟩,t1⟩,λc hc=>?_,kk⟩
 let hge:s1.heap.objs.size<=c:=by
  simp![gM,eF,or_false] at hc
  rcases hc with rfl|rfl<;>first|exact iK _|exact eB _ _
 exact I1.fpOk hge (I1.hok.fresh hge)
end
end L2
namespace L2
open PySem PySem.Spec PyProof.Rows
abbrev u9 (kx vx:Expr):jF->Env->jO->Sem Fin
 | .ref D,env,c=>do
  (do let kv <- eval kx env;let vv <- holding [kv] (eval vx env);standAt { kx.pos with endLine:=vx.pos.endLine,endCol:=vx.pos.endCol };holding [kv,vv] (dictSet D kv vv))
  again c
 | _,_,c=>again c
abbrev u8 (e iter2:Expr)(Z8:jF)(env:Env)(c:jO):Sem Fin:=do
 let x <- eval iter2 env
 standAt iter2.pos
 let x <- foldedSetIterable iter2 env x
 let _ <- runOwn (.compStart e 1 (<- holding [x] (pyIter x)) Z8 env) env
 again c
def DD (Z4:Expr)(g1:gS)(Z2 Z6:Expr)(Z5:List Expr)(scope:jG)(pos:Pos)(it Z8:jF)(env:Env) :
  compTurn (.ListComp Z4 [g1,⟨Z2,Z6,Z5,0⟩] scope pos) 1 it Z8 env=rg Z2 Z6 Z5 it env (si Z4 Z8 env (.compLoop (.ListComp Z4 [g1,⟨Z2,Z6,Z5,0⟩] scope pos) 1 it Z8 env)) (.compLoop (.ListComp Z4 [g1,⟨Z2,Z6,Z5,0⟩] scope pos) 1 it Z8 env):=rfl
def AG (Z4 Z2 Z6:Expr)(Z5:List Expr)(tg2 iter2:Expr)(ifs2:List Expr)(scope:jG)(pos:Pos)(it Z8:jF)(env:Env) :
  compTurn (.ListComp Z4 [⟨Z2,Z6,Z5,0⟩,⟨tg2,iter2,ifs2,0⟩] scope pos) 0 it Z8 env=rg Z2 Z6 Z5 it env (u8 (.ListComp Z4 [⟨Z2,Z6,Z5,0⟩,⟨tg2,iter2,ifs2,0⟩] scope pos) iter2 Z8 env (.compLoop (.ListComp Z4 [⟨Z2,Z6,Z5,0⟩,⟨tg2,iter2,ifs2,0⟩] scope pos) 0 it Z8 env)) (.compLoop (.ListComp Z4 [⟨Z2,Z6,Z5,0⟩,⟨tg2,iter2,ifs2,0⟩] scope pos) 0 it Z8 env):=rfl
section
variable {prog:jn}{w:jE}{A:jD}{R:jx->jw->Prop}{s:jw}
def AT {Z4:Expr}{g1:gS}{Z2 Z6:Expr}{Z5:List Expr}{scope:jG}{pos:Pos}{it Z8:jF}{env:Env}
  (h0:codeAny (model prog w) A (.compLoop (.ListComp Z4 [g1,⟨Z2,Z6,Z5,0⟩] scope pos) 1 it Z8 env) R s)
  (h:wpAny (model prog w) A (pyIter it) (λit' s'=>codeAny (model prog w) A (.compLoop (.ListComp Z4 [g1,⟨Z2,Z6,Z5,0⟩] scope pos) 1 it' Z8 env) R s')
   (notedBy (model prog w) A env λx s'=>R (.error x) s') s) :
  codeAny (model prog w) A (.compStart (.ListComp Z4 [g1,⟨Z2,Z6,Z5,0⟩] scope pos) 1 it Z8 env) R s:=by
 exact ff ?_
 show wpAny _ _ ((compStart (.ListComp Z4 [g1,⟨Z2,Z6,Z5,0⟩] scope pos) 1 it Z8 env).onRaise (λx=>do noteFrame x env;standAt theWindowsPlace)) _ _ s
 exact wpAny_notedAt ?_
 unfold compStart
 show wpAny _ _ (ask >>= _) _ _ s
 exact iR (wpAny_askSetting (wpAny_ite ?_))
 split
 ·first
   | exact iR (iO (iO (And.intro rfl h0)))
   | exact iO (And.intro rfl h0)
 ·first
   | exact iR (iN (iR (gu (iR (iP h (λit' s' h'=>iO (And.intro rfl h')) λ_ _ x=>x)))))
   | (exact iR (iN ?_);show wpAny _ _ (standAt Z6.pos >>= _) _ _ s;exact iR (gu (iR (iP h (λit' s' h'=>iO (And.intro rfl h')) λ_ _ x=>x))))
end
abbrev Kk (wi:TI)(g:TG)(tt:TT)(te:TE)(Z8:jP)(σ:St)(H:Hp)(R:St->Hp->Prop):Prop:=wi σ H λJ H1=>∃ W:Nat->Nat->St->Hp->Prop,(∃ m,W 0 m σ H1)/\∀ i m σ H,W i m σ H ->
 (J.stop i H/\R σ H) ∨ (J.go i H/\∀ x H',J.yld i H x H'->g x σ H' λσ2 H2=>tt σ2 H2 λb H3 =>
  if b=Ω then te σ2 H3 λv H4=>∃ ys,H4 Z8=Ψ (.lst ys)/\ys.length<sizeLine/\∃ m',m'<m/\W (i+1) m' σ2 (kh H4 Z8 (.lst (ys++[v]))) else ∃ m',m'<m/\W (i+1) m' σ2 H3)
def HP {Y:Cx}{Z4:Expr}{g1:gS}{tg Z6:Expr}{Z5:List Expr}{scope:jG}{pos:Pos}{wi:TI}{g:TG}{tt:TT}{te:TE}{Z8:jP}{c:jO}
  (hc:Y.calm=Ω)(hx:Y.xe=λ_ _=>False)(hi:PI Y tg Z6 wi)(hg:PG Y tg g)(ht:PTs Y Z5 tt)(he:PE Y Z4 te)(hs:∀ x,foldedSetIterable Z6 Y.env x=pure x)
  {Z9:List (jP×Obj)}{s:jw}{σ:St}{H:Hp}{R:St->Hp->Prop}(I:Inv Y Z9 σ H s)(h:Kk wi g tt te Z8 σ H R) :
  wpAny (model Y.prog Y.w) Y.A (u8 (.ListComp Z4 [g1,⟨tg,Z6,Z5,0⟩] scope pos) Z6 (.ref Z8) Y.env c) (λf s'=>f=.again c/\∃ σ' H',Inv Y Z9 σ' H' s'/\R σ' H') (λ_ _=>False) s:=by
 unfold u8
 let hi':=hi Z9 s σ H _ I h
 rw[hx] at hi'
 exact iR (ko hi' λv s1 h1=>iR (gu (iR (iB (hs v) ?_))))
 exact iR (gx (ko h1 λitv s2 h2=>iR (wpAny_runOwn ?_)))
 let(it,fp,tn,J,H2,e,I2,T,st2,f2,W,(m0,w0),turn):=h2
 subst e
 let stat:∀ {H':Hp},(∀ b∈fp,H' b=Φ)->∀ b∈fp,oZ Y Z9 H' b:=λhn b hb=>⟨hn b hb,(f2 b hb).2⟩
 let loop:codeAny (model Y.prog Y.w) Y.A (.compLoop (.ListComp Z4 [g1,⟨tg,Z6,Z5,0⟩] scope pos) 1 (.ref it) (.ref Z8) Y.env) (λr s'=>match r with
   | .ok f=>wpAny (model Y.prog Y.w) Y.A (again c) (λf s'=>f=.again c/\∃ σ' H',Inv Y Z9 σ' H' s'/\R σ' H') (λ_ _=>False) s'
   | .error e=>cameBackBy (model Y.prog Y.w) Y.A Y.env (λ_ _=>False) e s') s2:=by
  exact qp (DD ..) (λn s'=>∃ i σ' H',Inv Y Z9 σ' H' s'/\tn i s'.heap/\(∀ b∈fp,H' b=Φ)/\W i n σ' H') ?_ m0 ⟨0,σ,H2,I2,st2,λb hb=>(f2 b hb).1,w0⟩
  rintro n s3 ⟨i,σ3,H3,I3,st3,fr3,w3⟩
  rcases turn i n σ3 H3 w3 with⟨stop,qn⟩|⟨go,step⟩
  ·exact ko (T.done Y rfl rfl rfl hc i Z9 s3 σ3 H3 (λ_ _=>False) I3 (stat fr3) st3 stop) λr s4 q1=>?_;let(hr,I4):=q1
   subst hr
   exact iO ⟨rfl,σ3,H3,I4,qn⟩
  ·exact ko (T.item Y rfl rfl rfl hc i Z9 s3 σ3 H3 (λ_ _=>False) I3 (stat fr3) st3 go) λr s4 q2=>?_;let(u,hr,h4):=q2
   subst hr
   exact ko h4 λ_ s5 q3=>?_;let(x,H5,I5,r5,y5,st5,fr5):=q3
   let I5':=I5.pinned (stat fr5) (T.obj _ _ st5)
   let pinK:∀ {σ':St}{H':Hp}{s':jw},Inv Y (Z9++ph fp s5.heap) σ' H' s'->tn (i+1) s'.heap/\∀ b∈fp,H' b=Φ:=λ{σ' H' s'} I' =>
    ⟨T.keep _ _ _ st5 λb hb o e=>(I'.pin (b,o) (bH _ (bH _ (lh hb e)))).1,λb hb=>by
     let(o,e,_):=T.obj _ _ st5 b hb
     exact (I'.pin (b,o) (bH _ (bH _ (lh hb e)))).2.1⟩
   let dg:=hg _ s5 _ H5 x u _ I5' r5 (step x H5 y5)
   rw[hx] at dg
   exact ko dg λ_ s6 q4=>?_;let(σ6,H6,I6,q6):=q4
   let dt:=ht _ s6 σ6 H6 _ I6 q6
   rw[hx] at dt
   exact ko dt λok s7 q5=>?_;let(H7,I7,q7):=q5
   cases ok with
   | true =>
    rw[if_pos rfl] at q7 ⊢
    let de:=he _ s7 σ6 H7 _ I7 q7
    rw[hx] at de
    unfold si
    exact iR (iR (ko de λy s8 ⟨v8,H8,I8,r8,ys,hys,hz,m',hm,w8⟩=>?_))
    let da:=oO (X:=Y) _ s8 σ6 H8 (.ref Z8) [v8] (.ref Z8) [y] (λ_ H'=>H'=kh H8 Z8 (.lst (ys++[v8]))) I8 rfl (.cons r8 .nil) ⟨_,ys,v8,rfl,rfl,hys,hz,rfl⟩
    rw[hx] at da
    exact iR (ko da λ_ s9 ⟨v9,H9,I9,r9,e9⟩=>iO (iO ?_))
    subst e9
    let(t9,f9):=pinK I9
    exact⟨rfl,m',hm,i+1,_,_,I9.unpinned,t9,f9,w8⟩
   | false =>
    rw[if_neg cU] at q7 ⊢
    let(m',hm,w7):=q7
    let(t7,f7):=pinK I7
    exact⟨m',hm,i+1,_,_,I7.unpinned,t7,f7,w7⟩
 exact AT loop (T.self _ 0 _ _ _ st2 loop)
abbrev xm (wi:TI)(g:TG)(tt:TT)(wi2:TI)(g2:TG)(tt2:TT)(te:TE) (own:Nat):TE:=λσ H Q=>wi σ H λJ H1=>∀ Z8,H1 Z8=Φ->∃ W:Nat->Nat->Hp->Prop,(∃ m,W 0 m (kh H1 Z8 (.lst [])))/\∀ i m H,W i m H ->
 (J.stop i H/\Q (.ref Z8) H) ∨ (J.go i H/\∀ x H',J.yld i H x H'->g x (σ++gf own Φ) H' λσ2 H2=>Wk (σ++gf own Φ) σ2/\tt σ2 H2 λb H3 =>
  if b=Ω then Kk wi2 g2 tt2 te Z8 σ2 H3 λσ3 H4=>Wk (σ++gf own Φ) σ3/\∃ m',m'<m/\W (i+1) m' H4 else ∃ m',m'<m/\W (i+1) m' H3)
section
variable {X:Cx}{Z4 tg Z6 tg2 iter2:Expr}{Z5 ifs2:List Expr}{scope:jG}{own:List Str}{pos:Pos}{wi wi2:TI}{g g2:TG}{tt tt2:TT}{te:TE}
def tX {Z9:List (jP×Obj)}{σ:St}{H2:Hp}{s2:jw}{Q:VK}{it:jP}{fp:List jP}{tn:Nat->jM->Prop}{J:It}{RR:jF->jP->jx->jw->Prop}
  (hc:X.calm=Ω)(SC:CScope X scope own)
  (Z3:∀ C s H,PG (lD X scope own fp C s H) tg g/\PTs (lD X scope own fp C s H) Z5 tt/\(PI (lD X scope own fp C s H) tg2 iter2 wi2/\PG (lD X scope own fp C s H) tg2 g2/\PTs (lD X scope own fp C s H) ifs2 tt2/\PE (lD X scope own fp C s H) Z4 te/\∀ x,foldedSetIterable iter2 (lD X scope own fp C s H).env x=pure x))
  (I2:Inv X Z9 σ H2 s2)(T:Turn X.prog X.w X.K tg J fp it tn)(st2:tn 0 s2.heap)(f2:∀ b∈fp,oZ X Z9 H2 b)
  (h:∀ Z8,H2 Z8=Φ->∃ W:Nat->Nat->Hp->Prop,(∃ m,W 0 m (kh H2 Z8 (.lst [])))/\∀ i m H,W i m H ->
   (J.stop i H/\Q (.ref Z8) H) ∨ (J.go i H/\∀ x H',J.yld i H x H'->g x (σ++gf own.length Φ) H' λσ2 H2=>Wk (σ++gf own.length Φ) σ2/\tt σ2 H2 λb H3 =>
    if b=Ω then Kk wi2 g2 tt2 te Z8 σ2 H3 λσ3 H4=>Wk (σ++gf own.length Φ) σ3/\∃ m',m'<m/\W (i+1) m' H4 else ∃ m',m'<m/\W (i+1) m' H3))
  (hRR:∀ Z8 C H' m s',Inv X Z9 σ H' s'->s'.heap.Ns C m->C≠X.env.locals->(∀ x c,X.env.cells.lookup x=Ψ c->c≠C)->s2.heap.objs.size<=C->H' C=Φ->Q (.ref Z8) H'->RR (.ref Z8) C (.ok .next) s'){E:jF->jw->Prop} :
  wpAny (model X.prog X.w) X.A (newList []) (λZ8 s3=>wpAny (model X.prog X.w) X.A (newFunctionEnv scope X.env.globals (nY X.env.cells scope.names []) [] X.env.qual Φ .none (Ψ X.env)) (λcenv s4 =>
   codeAny (model X.prog X.w) X.A (.compStart (.ListComp Z4 [⟨tg,Z6,Z5,0⟩,⟨tg2,iter2,ifs2,0⟩] scope pos) 0 (.ref it) Z8 { cenv with scope:=relabel scope X.env }) (RR Z8 cenv.locals) s4) E s3) E s2:=by
 let hacc:=I2.fresh
 let I3:Inv X Z9 σ (kh H2 s2.heap.objs.size (.lst [])) { s2 with heap:=s2.heap.push { cls:=.type "list",data:=.seq ([]:List jF).toArray },toks:=s2.toks }:=I2.lnew .nil (iI _)
 exact db ?_
 let(W,(m0,w0),turn):=h _ hacc
 generalize hs3:({ s2 with heap:=s2.heap.push { cls:=.type "list",data:=.seq ([]:List jF).toArray },toks:=s2.toks }:jw)=s3 at I3
 let keep23:∀ b o,s2.heap.get? b=Ψ o->s3.heap.get? b=Ψ o:=λb o e=>by rw[<- hs3];exact bx _ e
 let hf3:∀ b∈fp,oZ X Z9 (kh H2 s2.heap.objs.size (.lst [])) b:=λb hb=>by
  let(o,ho,_):=T.obj _ _ st2 b hb
  exact⟨by rw[jT (ii (iy ho))];exact (f2 b hb).1,(f2 b hb).2⟩
 let st3:tn 0 s3.heap:=T.keep _ _ _ st2 λb hb o e=>keep23 b o e
 exact pL λh4 hns' keep34 ok34=>?_
 let I4:=ww (t4:=s3.toks+([]:List (Str×jF)).length) I3 SC hc hf3 (λb hb=>by let(o,ho,_):=T.obj _ _ st3 b hb;exact⟨o,ho⟩) hns' keep34 ok34
 let st4:tn 0 h4:=T.keep _ _ _ st3 λb hb o e=>keep34 b o e
 let(hg,ht,he):=Z3 s3.heap.objs.size s3 (kh H2 s2.heap.objs.size (.lst []))
 let e5:(lD X scope own fp s3.heap.objs.size s3 (kh H2 s2.heap.objs.size (.lst []))).env=compEnvC scope (cellsFrom (s3.heap.objs.size+1) scope.names (nY X.env.cells scope.names [])) s3.heap.objs.size X.env:=rfl
 generalize hY:lD X scope own fp s3.heap.objs.size s3 (kh H2 s2.heap.objs.size (.lst []))=Y at hg ht he I4 e5
 let fpY:∀ {H':Hp},(∀ b∈fp,H' b=Φ)->∀ b∈fp,oZ Y [] H' b:=λhn b hb=>by
  let(o,ho,_):=T.obj _ _ st3 b hb
  exact⟨hn b hb,?_,?_,?_,?_,?_⟩
  ·rw[<- hY];exact ii (iy ho)
  ·have:=I4.ok.exfs b (by rw[<- hY];exact hb)
   exact this
  ·exact .inl (by rw[<- hY];exact hb)
  ·exact λx c h=>(I4.ok.exf b (by rw[<- hY];exact hb)).2 x c h
  ·intro p hp;rw[<- hY] at hp;exact absurd (show p∈([]:List (jP×Obj)) from hp) ∅
 let hYp:Y.prog=X.prog/\Y.w=X.w/\Y.K=X.K/\Y.calm=Ω/\Y.A=X.A/\Y.xe=(λ_ _=>False)/\Y.s₀=s3/\Y.H₀=kh H2 s2.heap.objs.size (.lst [])/\Y.outer=X.stack/\Y.ex=fp:=by rw[<- hY];exact⟨rfl,rfl,rfl,hc,rfl,rfl,rfl,rfl,rfl,rfl⟩
 let(y1,y2,y3,y4,y5,y6,y7,y8,y9,y10):=hYp
 let loop:∀ s5:jw,s5 = { s3 with heap:=h4,toks:=s3.toks+([]:List (Str×jF)).length } ->
   codeAny (model X.prog X.w) X.A (.compLoop (.ListComp Z4 [⟨tg,Z6,Z5,0⟩,⟨tg2,iter2,ifs2,0⟩] scope pos) 0 (.ref it) (.ref s2.heap.objs.size) Y.env) (RR (.ref s2.heap.objs.size) s3.heap.objs.size) s5:=by
  rintro s5 rfl
  exact qp (AG ..) (λn s'=>∃ i H',Inv Y [] (σ++gf own.length Φ) H' s'/\tn i s'.heap/\(∀ b∈fp,H' b=Φ)/\W i n H') ?_ m0 ⟨0,_,I4,st4,λb hb=>(hf3 b hb).1,w0⟩
  rintro n s6 ⟨i,H6,I6,st6,fr6,w6⟩
  rcases turn i n H6 w6 with⟨stop,q⟩|⟨go,step⟩
  ·let d:=T.done Y y1 y2 y3 y4 i [] s6 _ H6 (λ_ _=>False) I6 (fpY fr6) st6 stop
   rw[y5] at d
   exact ko d λr s7 q1=>?_;let(hr,I7):=q1
   subst hr
   let(m,hn,_):=I7.loc
   let hL:Y.env.locals=s3.heap.objs.size:=by rw[e5];rfl
   rw[hL] at hn
   let b7:=I7.base
   rw[y7,y8,y10] at b7
   let b7':Un (mx X.stack) fp (kh H2 s2.heap.objs.size (.lst [])) H6 s3.heap s7.heap:=by
    let z:Y.fs=mx X.stack:=by show mx Y.outer=_;rw[y9]
    rw[z] at b7
    exact b7
   let hok7:=I7.hok
   rw[y1,y2] at hok7
   let os7:=I7.os
   rw[y7] at os7
   let I8:Inv X Z9 σ H6 s7:=I3.call' os7 b7' hok7 I7.bare λb hb=>⟨(hf3 b hb).2.2.2.1,(hf3 b hb).2.1,(hf3 b hb).2.2.2.2.1,(hf3 b hb).2.2.2.2.2⟩
   let hfree:=I7.free
   rw[hL] at hfree
   exact hRR _ _ H6 m s7 I8 hn (ij I3.lt) (λx c h z=>?_) ?_ hfree q
   ·let(v,y):=I3.cell x c h
    exact absurd y.lt (by rw[z];exact gK _)
   ·rw[<- hs3,gn];exact iJ _
  ·let d:=T.item Y y1 y2 y3 y4 i [] s6 _ H6 (λ_ _=>False) I6 (fpY fr6) st6 go
   rw[y5] at d
   exact ko d λr s7 q2=>?_;let(u,hr,h7):=q2
   subst hr
   exact ko h7 λ_ s8 q3=>?_;let(x,H8,I8,r8,y8',st8,fr8):=q3
   let I8':=I8.pinned (fpY fr8) (T.obj _ _ st8)
   let pinK:∀ {σ':St}{H':Hp}{s':jw},Inv Y ([]++ph fp s8.heap) σ' H' s'->tn (i+1) s'.heap/\∀ b∈fp,H' b=Φ:=λ{σ' H' s'} I' =>
    ⟨T.keep _ _ _ st8 λb hb o e=>(I'.pin (b,o) (bH _ (bH _ (lh hb e)))).1,λb hb=>by
     let(o,e,_):=T.obj _ _ st8 b hb
     exact (I'.pin (b,o) (bH _ (bH _ (lh hb e)))).2.1⟩
   let dg:=hg _ s8 _ H8 x u _ I8' r8 (step x H8 y8')
   rw[y1,y2,y5,y6] at dg
   exact ko dg λ_ s9 q4=>?_;let(σ9,H9,I9,wk,q9):=q4
   let dt:=ht _ s9 σ9 H9 _ I9 q9
   rw[y1,y2,y5,y6] at dt
   exact ko dt λok s10 q5=>?_;let(H10,I10,q10):=q5
   cases ok with
   | true =>
    rw[if_pos rfl] at q10 ⊢
    let(hi2,hg2,ht2,he2,hs2):=he
    let de:=HP (c:=.compLoop (.ListComp Z4 [⟨tg,Z6,Z5,0⟩,⟨tg2,iter2,ifs2,0⟩] scope pos) 0 (.ref it) (.ref s2.heap.objs.size) Y.env) (g1:=⟨tg,Z6,Z5,0⟩) (scope:=scope) (pos:=pos) y4 y6 hi2 hg2 ht2 he2 hs2 I10 q10
    rw[y1,y2,y5] at de
    exact ko de λ_ s12 ⟨e12,σ12,H12,I12,wk2,m',hm,w11⟩=>⟨e12,?_⟩
    let(t12,f12):=pinK I12
    exact⟨m',hm,i+1,_,(I12.unpinned).weak wk2.1.symm wk2.2,t12,f12,w11⟩
   | false =>
    rw[if_neg cU] at q10 ⊢
    let(m',hm,w10):=q10
    let(t10,f10):=pinK I10
    exact⟨m',hm,i+1,_,(I10.unpinned).weak wk.1.symm wk.2,t10,f10,w10⟩
 rw[e5] at loop
 exact codeAny_compStart_list (loop _ rfl) (T.self _ 0 _ _ _ st4 (loop _ rfl))
def By (hc:X.calm=Ω)(SC:CScope X scope own)(hi:PI X.nox tg Z6 wi)
  (Z3:∀ fp C s H,PG (lD X scope own fp C s H) tg g/\PTs (lD X scope own fp C s H) Z5 tt/\(PI (lD X scope own fp C s H) tg2 iter2 wi2/\PG (lD X scope own fp C s H) tg2 g2/\PTs (lD X scope own fp C s H) ifs2 tt2/\PE (lD X scope own fp C s H) Z4 te/\∀ x,foldedSetIterable iter2 (lD X scope own fp C s H).env x=pure x))
  (hs:∀ x,foldedSetIterable Z6 X.env x=pure x:=by intro _;rfl) :
  PE X.nox (.ListComp Z4 [⟨tg,Z6,Z5,0⟩,⟨tg2,iter2,ifs2,0⟩] scope pos) (xm wi g tt wi2 g2 tt2 te own.length):=by
 intro Z9 s σ H Q I h
 let fr:∀ p∈scope.names,p.2=.free->∃ c,X.env.cells.lookup p.1=Ψ c:=λp hp hq=>I.ok.has p.1 (SC.free p hp hq)
 rw[eval_ListComp]
 exact aR (use:=Φ) rfl hs (nN fr) SC.kind SC.names (ko (hi Z9 s σ H _ I h) λv s1 h1=>ko h1 λitv s2 h2=>?_)
 let(it,fp,tn,J,H2,e,I2,T,st2,f2,h2):=h2
 subst e
 exact tX (X:=X.nox) (own:=own) (RR:=λZ8 C=>compPost (model X.prog X.w) X.A (λ_ _=>False) Φ (EP X.nox Z9 σ Q) Z8 C) hc ⟨SC.kind,SC.nocell,SC.names,SC.free,SC.apart,SC.hid⟩ (λC s H=>Z3 fp C s H) I2 T st2 f2 h2 ?_
 intro Z8 C H' m s' I' hn hL hcl hC hH q
 let(f0,f1,f2',f3,f4,f5):=I2.fpOk hC hH
 exact⟨m,hn,λh' hsb=>⟨.ref Z8,H',?_,rfl,q⟩⟩
 exact I'.turned (t':=s'.toks) (λb o hb e=>(hsb.2 b hb).trans e) f0 f1 f3 f4 f5
def vN {i:Nat}{x:Str}{px:Pos}{spos:Pos}(hc:X.calm=Ω)(SC:CScope X scope own)(hN:X.N.Nodup)(hx:X.N[i]?=Ψ x)(hl:X.env.scope.names.lookup x=Ψ .local)(hi:PI X.nox tg Z6 wi)
  (Z3:∀ fp C s H,PG (lD X scope own fp C s H) tg g/\PTs (lD X scope own fp C s H) Z5 tt/\(PI (lD X scope own fp C s H) tg2 iter2 wi2/\PG (lD X scope own fp C s H) tg2 g2/\PTs (lD X scope own fp C s H) ifs2 tt2/\PE (lD X scope own fp C s H) Z4 te/\∀ x,foldedSetIterable iter2 (lD X scope own fp C s H).env x=pure x))
  (hsw:swapsWith (.ListComp Z4 [⟨tg,Z6,Z5,0⟩,⟨tg2,iter2,ifs2,0⟩] scope pos) (Ψ (.Name x px)) spos.line X.env=pure Ω)
  (hs:∀ x,foldedSetIterable Z6 X.env x=pure x:=by intro _;rfl) :
  PS X.nox (.Assign [.Name x px] (.ListComp Z4 [⟨tg,Z6,Z5,0⟩,⟨tg2,iter2,ifs2,0⟩] scope pos) spos) (qM (xm wi g tt wi2 g2 tt2 te own.length) (mq i)):=by
 intro Z9 s σ H D I h
 let fr:∀ p∈scope.names,p.2=.free->∃ c,X.env.cells.lookup p.1=Ψ c:=λp hp hq=>I.ok.has p.1 (SC.free p hp hq)
 show wpAny (model X.prog X.w) X.A (exec _ X.env) _ _ s
 rw[exec_Assign_Name_used _ _ _ _ hsw]
 exact iR (gu (iR ?_))
 show wpAny _ X.A (do let _ <- comprehension (.ListComp Z4 [⟨tg,Z6,Z5,0⟩,⟨tg2,iter2,ifs2,0⟩] scope pos) scope X.env _ (newList []) Ξ (eval Z6 X.env) (Ψ (assign (.Name x px) X.env))) _ _ s
 refine iR (iP (aR (use:=Ψ (assign (.Name x px) X.env)) (Q:=λ_ s'=>SP X.nox Z9 D .next s') rfl hs (nN fr) SC.kind SC.names
  (ko (hi Z9 s σ H _ I h) λv s1 h1=>ko h1 λitv s2 h2=>?_)) (λ_ s' hq=>iO (iO hq)) λ_ _ e=>e)
 let(it,fp,tn,J,H2,e,I2,T,st2,f2,h2):=h2
 subst e
 exact tX (X:=X.nox) (own:=own) (Q:=λv H1=>mq i v σ H1 D.nx) (RR:=λZ8 C=>compPost (model X.prog X.w) X.A (λ_ _=>False) (Ψ (assign (.Name x px) X.env)) (λ_ s'=>SP X.nox Z9 D .next s') Z8 C) hc ⟨SC.kind,SC.nocell,SC.names,SC.free,SC.apart,SC.hid⟩ (λC s H=>Z3 fp C s H) I2 T st2 f2 h2 ?_
 intro Z8 C H' m s' I' hn hL hcl hC hH q
 let(f0,f1,f2',f3,f4,f5):=I2.fpOk hC hH
 show wpAny (model X.prog X.w) X.A (assign (.Name x px) X.env (.ref Z8)) _ _ s'
 exact dh (pX (X:=X.nox) I' hN hx (.inl hl) (v:=.ref Z8) rfl (λs'' I'' hch=>?_) (.inr hl))
 let(a,hsa,ha):=hch
 let hCa:C≠a:=by
  rcases ha with z|z
  ·rw[z];exact hL
  ·exact λy=>hcl x a z y.symm
 exact⟨m,hn.sameBut hsa hCa,λh' hsb=>?_⟩
 exact⟨_,H',I''.turned (t':=s''.toks) (λb o hb e=>(hsb.2 b hb).trans e) f0 f1 f3 f4 f5,q⟩
end
end L2
namespace Kq
open PySem PySem.Spec PyProof.Rows L2
set_option genInjectivity true in
inductive D where
 | non|bl (b:Bool)|int (i:Int)|str (x:String)|tup (xs:List D)|lst (xs:List D)
mutual
noncomputable def D.eqv:D->D->Bool
 | .non,y=>match y with|.non=>Ω|_=>Ξ
 | .bl a,y=>match y with|.bl b=>a == b|.int j=>(if a then 1 else 0) == j|_=>Ξ
 | .int i,y=>match y with|.bl b=>i == (if b then 1 else 0)|.int b=>i == b|_=>Ξ
 | .str a,y=>match y with|.str b=>a == b|_=>Ξ
 | .tup a,y=>match y with|.tup b=>D.eqvs a b|_=>Ξ
 | .lst a,y=>match y with|.lst b=>D.eqvs a b|_=>Ξ
noncomputable def D.eqvs:List D->List D->Bool
 | [],y=>match y with|[]=>Ω|_ :: _=>Ξ
 | a :: r,y=>match y with|b :: q=>D.eqv a b && D.eqvs r q|[]=>Ξ
end
mutual
noncomputable def D.wt:D->Nat
 | .non=>0|.bl _=>0
 | .int i=>if -(2 ^ 40)<i/\i<2 ^ 40 then 41 else 151
 | .str x=>x.length
 | .tup xs=>D.wts xs
 | .lst xs=>D.wts xs
noncomputable def D.wts:List D->Nat
 | []=>0
 | a :: r=>D.wt a+1+D.wts r
end
mutual
noncomputable def D.fit:D->Bool
 | .int i=>Δ (-(2 ^ 150)<i/\i<2 ^ 150)
 | .tup xs=>D.fits xs
 | .lst xs=>D.fits xs
 | _=>Ω
noncomputable def D.fits:List D->Bool
 | []=>Ω
 | a :: r=>D.fit a && D.fits r
end
set_option genInjectivity true in
inductive FV where
 | non|bl (b:Bool)|int (i:Int)|str (x:String)|tup (xs:List FV)|lst (xs:List FV)
 | scr (ns:List Int)
 | shn (d:D)
 | dct (ks:List (List Int))(vs:List FV)
 | dci (ks:List Int)(vs:List FV)
 | dcz (o:Obj)(ks:List (List Int))(vs:List FV)
 | dcn (z:Option Obj)(ks:List (List (Option Int)))(vs:List FV)
 | adr (dx:jP)
 | dco (z:Option Obj)(ks:List (Option Int))(vs:List FV)
 | shf (C dx:jP)(ns:List (Str×Option jP))(vs:List FV)
 | obj (C dx:jP)(fs:List (Str×V))(gs:List (jP×List V))
abbrev big:Nat:=100000
inductive Mo where|imm|own|frz|ob|gst (i:Nat)(x:Str)
 deriving DecidableEq
abbrev Mo.w:Mo->Bool|.imm=>Ξ|.frz=>Ξ|_=>Ω
abbrev Mo.g:Mo->Bool|.gst _ _=>Ω|_=>Ξ
def Mo.w_imm {m:Mo}(h:m.w=Ω):m≠.imm:=λz=>by rw[z] at h;cases h
def Mo.w_frz {m:Mo}(h:m.w=Ω):m≠.frz:=λz=>by rw[z] at h;cases h
def Mo.w_own {m:Mo}(h:m=.own):m.w=Ω:=by rw[h];rfl
noncomputable abbrev Md:=List Mo
noncomputable abbrev jR:=List (Option FV)
abbrev jX:Md->Nat->Mo
 | [],_=>.imm
 | m :: _,0=>m
 | _ :: ms,n+1=>jX ms n
abbrev lk:jR->Nat->Option FV
 | [],_=>Φ
 | x :: _,0=>x
 | _ :: L,n+1=>lk L n
def nrf {α:Sort _}{a b:α}(h:a=b):a=b:=h
def kP:∀ (L:jR) (i:Nat)(v:FV),lk L i=Ψ v↔L[i]?=Ψ (Ψ v)
 | [],i,v=>by show (Φ:Option FV)=Ψ v↔(Φ:Option (Option FV))=Ψ (Ψ v);simp
 | x :: L,0,v=>by show x=Ψ v↔Ψ x=Ψ (Ψ v);simp
 | x :: L,i+1,v=>by rw[List.getElem?_cons_succ];exact kP L i v
abbrev wp {α:Type}(r:Option α)(Q:α->Prop):Prop:=match r with
 | some x=>Q x
 | none=>False
inductive Wpx {α:Type}(r:Option α)(Q:α->Prop):Prop
 | mk (x:α)(_:r=Ψ x)(_:Q x):Wpx r Q
def kq {α:Type}{r:Option α}{Q:α->Prop}(h:wp r Q):Wpx r Q:=by
 cases r with
 | none=>exact h.elim
 | some x=>exact⟨x,rfl,h⟩
mutual
noncomputable def nj:D->PyData
 | .non=>.none
 | .bl b=>.bool b
 | .int i=>.int i
 | .str x=>.str (hW x)
 | .tup xs=>.tuple (dPys xs)
 | .lst xs=>.list (dPys xs)
noncomputable def dPys:List D->List PyData
 | []=>[]
 | a :: r=>nj a :: dPys r
end
abbrev zb (ks:List (List Int)):List (List (Int ⊕ Option Str)):=ks.map λk=>k.map Sum.inl
abbrev Gn (ks:List Int):List (Int ⊕ Option Str):=ks.map Sum.inl
abbrev oK:Option Int->Int ⊕ Option Str
 | some i=>.inl i
 | none=>.inr Φ
abbrev Gg (ks:List (List (Option Int))):List (List (Int ⊕ Option Str)):=ks.map λk=>k.map oK
abbrev Go (u:HO):Option Obj->HO
 | none=>u
 | some o=>.frz o u
abbrev ScrAt (K:ib)(S:Hp)(a:jP)(ns:List Int):Prop:=(∃ o,S a=Ψ (.frz o (.lst (ns.map V.int)))) ∨ SqL K (λ_=>Φ) a (ns.map V.int)
abbrev oV:FV->Option (List FV)
 | .lst ps=>Ψ ps
 | .dco _ ks us=>if ks.length=us.length then Ψ us else Φ
 | _=>Φ
abbrev sT (v:FV):Nat:=match oV v with
 | some ps=>ps.length
 | none=>0
abbrev lI:FV->List V->GO
 | .dco z ks _,xs=>(match z with
  | none=>.dk ((ks.map oK).zip xs)
  | some o=>.fdk o ((ks.map oK).zip xs))
 | _,xs=>.lst xs
abbrev pR:List (Str×Option jP)->List FV->Option (List FV)
 | [],vs=>(match vs with
  | []=>Ψ []
  | _ :: _=>Φ)
 | n :: ns,vs=>match vs with
  | []=>Φ
  | v :: vs=>match n.2 with
   | none=>(pR ns vs).map (v :: ·)
   | some _=>(oV v).bind λps=>(pR ns vs).map (ps++·)
abbrev kD:List (Str×Option jP)->List FV->List V->List (Str×V)
 | [],_,_=>[]
 | n :: ns,vs,xs=>match vs with
  | []=>[]
  | v :: vs=>match n.2 with
   | none=>(n.1,xs.headD .non) :: kD ns vs (xs.drop 1)
   | some l=>(n.1,.ref l) :: kD ns vs (xs.drop (sT v))
abbrev kB:List (Str×Option jP)->List FV->List V->List (jP×GO)
 | [],_,_=>[]
 | n :: ns,vs,xs=>match vs with
  | []=>[]
  | v :: vs=>match n.2 with
   | none=>kB ns vs (xs.drop 1)
   | some l=>(l,lI v (xs.take (sT v))) :: kB ns vs (xs.drop (sT v))
mutual
noncomputable def RV (K:ib)(S:Hp):FV->V->Prop
 | .non,v=>v=.non
 | .bl b,v=>v=.bl b
 | .int i,v=>v=.int i
 | .str x,v=>v=.str (hW x)
 | .tup ps,v=>∃ a xs,v=.ref a/\S a=Ψ (.tup xs)/\RVs K S ps xs
 | .lst ps,v=>∃ a xs,v=.ref a/\S a=Ψ (.lst xs)/\RVs K S ps xs
 | .scr ns,v=>∃ a,v=.ref a/\ScrAt K S a ns
 | .shn d,v=>v=.str (nj d).shown
 | .dct ks vs,v=>∃ a xs,v=.ref a/\ks.length=vs.length/\S a=Ψ (.dT ((zb ks).zip xs))/\RVs K S vs xs
 | .dci ks vs,v=>∃ a xs,v=.ref a/\ks.length=vs.length/\S a=Ψ (.dK ((Gn ks).zip xs))/\RVs K S vs xs
 | .dcz o ks vs,v=>∃ a xs,v=.ref a/\ks.length=vs.length/\S a=Ψ (.frz o (.dT ((zb ks).zip xs)))/\RVs K S vs xs
 | .dcn z ks vs,v=>∃ a xs,v=.ref a/\ks.length=vs.length/\S a=Ψ (Go (.dT ((Gg ks).zip xs)) z)/\RVs K S vs xs
 | .obj C dx fs gs,v=>∃ a,v=.ref a/\S a=Ψ (.big C dx fs gs)
 | .adr dx,v=>v=.ref (dx+1)
 | .dco z ks vs,v=>∃ a xs,v=.ref a/\ks.length=vs.length/\S a=Ψ (Go (.dK ((ks.map oK).zip xs)) z)/\RVs K S vs xs
 | .shf C dx ns vs,v=>∃ a xs,v=.ref a/\S a=Ψ (.bag C dx (kD ns vs xs) (kB ns vs xs))
noncomputable def RVs (K:ib)(S:Hp):List FV->List V->Prop
 | [],vs=>vs=[]
 | p :: ps,vs=>∃ v r,vs=v :: r/\RV K S p v/\RVs K S ps r
end
mutual
theorem RV.mono {K:ib}{S S':Hp}(x:Same S S'):∀ {p:FV}{v:V},RV K S p v->RV K S' p v
 | .non,v,h=>h
 | .bl b,v,h=>h
 | .int i,v,h=>h
 | .str _,v,h=>h
 | .shn _,v,h=>h
 | .tup ps,v,q1=>by let(a,xs,e,h1,h2):=q1;exact⟨a,xs,e,x _ _ h1,RVs.mono x h2⟩
 | .lst ps,v,q2=>by let(a,xs,e,h1,h2):=q2;exact⟨a,xs,e,x _ _ h1,RVs.mono x h2⟩
 | .dct ks vs,v,q3=>by let(a,xs,e,h0,h1,h2):=q3;exact⟨a,xs,e,h0,x _ _ h1,RVs.mono x h2⟩
 | .dci ks vs,v,q4=>by let(a,xs,e,h0,h1,h2):=q4;exact⟨a,xs,e,h0,x _ _ h1,RVs.mono x h2⟩
 | .dcz o ks vs,v,q5=>by let(a,xs,e,h0,h1,h2):=q5;exact⟨a,xs,e,h0,x _ _ h1,RVs.mono x h2⟩
 | .dcn z ks vs,v,q6=>by let(a,xs,e,h0,h1,h2):=q6;exact⟨a,xs,e,h0,x _ _ h1,RVs.mono x h2⟩
 | .obj _ _ _ _,v,q7=>by let(a,e,h):=q7;exact⟨a,e,x _ _ h⟩
 | .adr _,v,h=>h
 | .shf C dx ns vs,v,q9=>by let(a,xs,e,h):=q9;exact⟨a,xs,e,x _ _ h⟩
 | .dco z ks vs,v,q9=>by let(a,xs,e,h0,h1,h2):=q9;exact⟨a,xs,e,h0,x _ _ h1,RVs.mono x h2⟩
 | .scr ns,v,q8=>by let(a,e,h):=q8;exact⟨a,e,h.elim (λq9=>by let(o,h):=q9;exact .inl ⟨o,x _ _ h⟩) .inr⟩
theorem RVs.mono {K:ib}{S S':Hp}(x:Same S S'):∀ {ps:List FV}{vs:List V},RVs K S ps vs->RVs K S' ps vs
 | [],vs,h=>h
 | p :: ps,vs,q1=>by let(v,r,e,h1,h2):=q1;exact⟨v,r,e,RV.mono x h1,RVs.mono x h2⟩
end
section
variable {K:ib}{S H:Hp}
def RVs.length:∀ {ps:List FV}{vs:List V},RVs K S ps vs->ps.length=vs.length
 | [],vs,h=>by cases (show vs=[] from h);rfl
 | p :: ps,vs,h=>by
  let(v,r,e,_,h2):=h
  subst e
  rw[eK,eK,RVs.length h2]
def RVs.get:∀ {ps:List FV}{vs:List V}{i:Nat}{p:FV},RVs K S ps vs->ps[i]?=Ψ p->∃ v,vs[i]?=Ψ v/\RV K S p v
 | [],vs,i,p,_,e=>by simp at e
 | q :: ps,vs,0,p,q1,e=>by
  let(v,r,e',h1,_):=q1
  subst e'
  simp at e;subst e
  exact⟨v,rfl,h1⟩
 | q :: ps,vs,i+1,p,q2,e=>by
  let(v,r,e',_,h2):=q2
  subst e'
  simpa using RVs.get (i:=i) (p:=p) h2 (by simpa using e)
def RVs.append:∀ {ps qs:List FV}{vs us:List V},RVs K S ps vs->RVs K S qs us->RVs K S (ps++qs) (vs++us)
 | [],qs,vs,us,h,g=>by cases (show vs=[] from h);exact g
 | p :: ps,qs,vs,us,q1,g=>by
  let(v,r,e,h1,h2):=q1
  subst e
  exact⟨v,r++us,rfl,h1,RVs.append h2 g⟩
def RVs.one {p:FV}{v:V}(h:RV K S p v):RVs K S [p] [v]:=⟨v,[],rfl,h,rfl⟩
def RVs.take:∀ {ps:List FV}{vs:List V} (n:Nat),RVs K S ps vs->RVs K S (ps.take n) (vs.take n)
 | [],vs,n,h=>by cases (show vs=[] from h);rw[gL,gL];rfl
 | p :: ps,vs,0,h=>rfl
 | p :: ps,vs,n+1,q1=>by
  let(v,r,e,h1,h2):=q1
  subst e
  exact⟨v,r.take n,rfl,h1,RVs.take n h2⟩
def RVs.drop:∀ {ps:List FV}{vs:List V} (n:Nat),RVs K S ps vs->RVs K S (ps.drop n) (vs.drop n)
 | [],vs,n,h=>by cases (show vs=[] from h);rw[gO,gO];rfl
 | p :: ps,vs,0,h=>h
 | p :: ps,vs,n+1,q1=>by
  let(v,r,e,h1,h2):=q1
  subst e
  exact RVs.drop n h2
def RVs.set:∀ {ps:List FV}{vs:List V} (n:Nat){p:FV}{v:V},RVs K S ps vs->RV K S p v->RVs K S (ps.set n p) (vs.set n v)
 | [],vs,n,p,v,h,_=>by cases (show vs=[] from h);rfl
 | q :: ps,vs,0,p,v,q1,g=>by
  let(v',r,e,h1,h2):=q1
  subst e
  exact⟨v,r,rfl,g,h2⟩
 | q :: ps,vs,n+1,p,v,q2,g=>by
  let(v',r,e,h1,h2):=q2
  subst e
  exact⟨v',r.set n v,rfl,h1,RVs.set n h2 g⟩
def RVs.rev:∀ {ps:List FV}{vs:List V},RVs K S ps vs->RVs K S ps.reverse vs.reverse
 | [],vs,h=>by cases (show vs=[] from h);exact h
 | p :: ps,vs,q1=>by
  let(v,r,e,h1,h2):=q1
  subst e
  rw[dH,dH]
  exact (RVs.rev h2).append (RVs.one h1)
def RVs.rep {ps:List FV}{vs:List V}(h:RVs K S ps vs):∀ k:Nat,RVs K S (gf k ps).flatten (gf k vs).flatten
 | 0=>rfl
 | k+1=>by
  rw[cp,cp,dL,dL]
  exact h.append (h.rep k)
def RVs.ns:∀ (ns:List Int),RVs K S (ns.map .int) (ns.map V.int)
 | []=>rfl
 | n :: ns=>⟨_,_,rfl,rfl,RVs.ns ns⟩
def RVs.one_of {p:FV}{us:List V}(h:RVs K S [p] us):∃ u,us=[u]/\RV K S p u:=by
 let(v,r,rfl,h1,h2):=h
 cases (show r=[] from h2)
 exact⟨v,rfl,h1⟩
def RVs.two_of {p q:FV}{us:List V}(h:RVs K S [p,q] us):∃ u v,us=[u,v]/\RV K S p u/\RV K S q v:=by
 let(v,r,rfl,h1,h2):=h
 let(u,rfl,h3):=h2.one_of
 exact⟨v,u,rfl,h1,h3⟩
abbrev zQ:FV->Option (List FV)
 | .lst ps=>Ψ ps
 | .dct ks vs=>if ks.length=vs.length then Ψ vs else Φ
 | .dci ks vs=>if ks.length=vs.length then Ψ vs else Φ
 | .dcz _ ks vs=>if ks.length=vs.length then Ψ vs else Φ
 | .dcn _ ks vs=>if ks.length=vs.length then Ψ vs else Φ
 | .dco _ ks vs=>if ks.length=vs.length then Ψ vs else Φ
 | .shf _ _ ns vs=>pR ns vs
 | .obj _ _ _ _=>Ψ []
 | _=>Φ
abbrev BB:FV->List V->HO
 | .dct ks _,xs=>.dT ((zb ks).zip xs)
 | .dci ks _,xs=>.dK ((Gn ks).zip xs)
 | .dcz o ks _,xs=>.frz o (.dT ((zb ks).zip xs))
 | .dcn z ks _,xs=>Go (.dT ((Gg ks).zip xs)) z
 | .dco z ks _,xs=>Go (.dK ((ks.map oK).zip xs)) z
 | .shf C dx ns vs,xs=>.bag C dx (kD ns vs xs) (kB ns vs xs)
 | .obj C dx fs gs,_=>.big C dx fs gs
 | _,xs=>.lst xs
inductive OwnAt (K:ib)(S H:Hp)(a:jP)(v:FV):Prop
 | mk (_:S a=Φ)(ps:_)(xs:_)(_:zQ v=Ψ ps)(_:H a=Ψ (BB v xs))(_:RVs K S ps xs):OwnAt K S H a v
abbrev RH (K:ib)(S H:Hp)(v:FV)(x:V):Prop:=RV K S v x ∨ ∃ a,x=.ref a/\OwnAt K S H a v
def RH.lst {ps:List FV}{x:V}(s:Same S H)(h:RH K S H (.lst ps) x):∃ a xs,x=.ref a/\H a=Ψ (.lst xs)/\RVs K S ps xs:=by
 rcases h with⟨a,xs,e,h1,h2⟩|⟨a,e,_,qs,xs,e2,h1,h2⟩
 ·exact⟨a,xs,e,s _ _ h1,h2⟩
 ·cases e2;exact⟨a,xs,e,h1,h2⟩
def RH.val {v:FV}{x:V}(h:RH K S H v x)(n:zQ v=Φ):RV K S v x:=by
 rcases h with h|⟨a,_,_,ps,xs,e,_⟩
 ·exact h
 ·rw[n] at e;cases e
def RH.tup {ps:List FV}{x:V}(s:Same S H)(h:RH K S H (.tup ps) x):∃ a xs,x=.ref a/\H a=Ψ (.tup xs)/\RVs K S ps xs:=by
 let(a,xs,e,h1,h2):=h.val rfl
 exact⟨a,xs,e,s _ _ h1,h2⟩
def ScrAt.sq {a:jP}{ns:List Int}(s:Same S H)(h:ScrAt K S a ns):SqL K H a (ns.map V.int):=by
 rcases h with⟨o,h⟩|h
 ·exact .inl (.inr ⟨o,s _ _ h⟩)
 ·rcases h with (h|⟨o,h⟩)|h
  ·cases h
  ·cases h
  ·exact .inr h
abbrev lN:FV->Option (List FV)
 | .lst xs=>Ψ xs
 | .scr ns=>Ψ (ns.map .int)
 | _=>Φ
abbrev lR:FV->Option (List FV)
 | .tup xs=>Ψ xs
 | v=>lN v
def RH.list {v:FV}{ps:List FV}{x:V}(s:Same S H)(h:RH K S H v x)(e:lN v=Ψ ps):∃ a xs,x=.ref a/\SqL K H a xs/\RVs K S ps xs:=by
 cases v with
 | lst qs =>
  cases e
  let(a,xs,rfl,h1,h2):=h.lst s
  exact⟨a,xs,rfl,SqL.of h1,h2⟩
 | scr ns =>
  cases e
  let(a,rfl,g):=h.val rfl
  exact⟨a,_,rfl,ScrAt.sq s g,RVs.ns ns⟩
 | _=>cases e
abbrev Lc:FV->Bool
 | .tup _=>Ξ
 | _=>Ω
def RH.seq {v:FV}{ps:List FV}{x:V}(s:Same S H)(h:RH K S H v x)(e:lR v=Ψ ps):∃ a xs,x=.ref a/\sM (Lc v) K H a xs/\RVs K S ps xs:=by
 cases v with
 | tup qs =>
  cases e
  let(a,xs,rfl,h1,h2):=h.tup s
  exact⟨a,xs,rfl,SqT.of h1,h2⟩
 | lst qs=>exact h.list s e
 | scr qs=>exact h.list s e
 | _=>cases e
end
abbrev ox:HO->Bool
 | .tup _=>Ω
 | _=>Ξ
def pI (v:FV)(xs:List V):ox (BB v xs)=Ξ:=by
 cases v with
 | dcn z ks vs=>cases z<;>rfl
 | dco z ks vs=>cases z<;>rfl
 | _=>rfl
structure Cn where
 H0:Hp
 S0:Hp
 P0:Option jP
 fz:List (Nat×jP)
 pr:List (jP×HO)
 P1:List (Nat×jP)
structure Iv (K:ib)(c:Cn)(md:Md)(L:jR)(σ:L2.St)(S H:Hp):Prop where
 len:L.length=σ.length
 imm:∀ i v,jX md i=.imm->L[i]?=Ψ (Ψ v)->∃ x,σ[i]?=Ψ (Ψ x)/\RV K S v x
 own:∀ i v,jX md i≠.imm->L[i]?=Ψ (Ψ v)->∃ a,σ[i]?=Ψ (Ψ (.ref a))/\OwnAt K S H a v/\(c.P0=Ψ a ∨ c.H0 a=Φ ∨ ∃ j,(j,a)∈c.P1)
 dis:∀ i j v w a,jX md i≠.imm->jX md j≠.imm->L[i]?=Ψ (Ψ v)->L[j]?=Ψ (Ψ w)->σ[i]?=Ψ (Ψ (.ref a))->σ[j]?=Ψ (Ψ (.ref a))->i=j
 sub:Same S H
 frame:∀ a o,c.H0 a=Ψ o->c.P0≠Ψ a->(∀ j,(j,a) ∉ c.P1)->H a=Ψ o
 s0:Same c.S0 S
 grow:∀ a o,S a=Ψ o->c.S0 a=Ψ o ∨ c.H0 a=Φ ∨ ox o=Ω
 lent:∀ a,c.P0=Ψ a->jX md 0≠.imm/\σ[0]?=Ψ (Ψ (.ref a))/\∃ v,L[0]?=Ψ (Ψ v)
 fzs:∀ p∈c.fz,jX md p.1=.frz/\σ[p.1]?=Ψ (Ψ (.ref p.2))/\∃ v,L[p.1]?=Ψ (Ψ v)
 fzm:∀ i v,jX md i=.frz->L[i]?=Ψ (Ψ v)->∃ a,(i,a)∈c.fz
 fzp:∀ p∈c.fz,∃ o,(p.2,o)∈c.pr
 prs:∀ p∈c.pr,H p.1=Ψ p.2/\S p.1=Φ/\∀ i v,(jX md i).w=Ω->L[i]?=Ψ (Ψ v)->σ[i]?≠Ψ (Ψ (.ref p.1))
 ntp:∀ p∈c.pr,ox p.2=Ξ
 lnt1:∀ q∈c.P1,(jX md q.1).g=Ω/\σ[q.1]?=Ψ (Ψ (.ref q.2))/\∃ v,L[q.1]?=Ψ (Ψ v)
 tie:∀ j i x C dx fs v,jX md j=.gst i x->jX md i=.ob->L[i]?=Ψ (Ψ (.obj C dx fs []))->L[j]?=Ψ (Ψ v)->∃ u,fs.lookup x=Ψ u/\σ[j]?=Ψ (Ψ u)
section
variable {K:ib}{c:Cn}{md:Md}{L:jR}{σ:L2.St}{S H S' H':Hp}
def Iv.h0 (I:Iv K c md L σ S H){p:jP}(h:H p=Φ):c.H0 p=Φ:=by
 cases e:c.H0 p with
 | none=>rfl
 | some o =>
  by_cases z:c.P0=Ψ p
  ·let(m,e1,v,e2):=I.lent p z
   let(a,e3,(_,_,_,_,e4,_),_):=I.own 0 v m e2
   rw[e1] at e3;cases e3
   rw[h] at e4;cases e4
  ·by_cases z1:∃ j,(j,p)∈c.P1
   ·let(j,hj):=z1
    let(g,e1,v,e2):=I.lnt1 _ hj
    let(a,e3,(_,_,_,_,e4,_),_):=I.own j v (λz=>by rw[z] at g;cases g) e2
    rw[e1] at e3;cases e3
    rw[h] at e4;cases e4
   ·rw[I.frame p o e z λj hj=>z1 ⟨j,hj⟩] at h;cases h
def Iv.sn (I:Iv K c md L σ S H){p:jP}(h:H p=Φ):S p=Φ:=by
 cases e:S p with
 | none=>rfl
 | some o=>rw[I.sub p o e] at h;cases h
def Iv.go3 (I:Iv K c md L σ S H)(s:Same S S')(sub:Same S' H')(g:∀ a o,S' a=Ψ o->S a=Ψ o ∨ H a=Φ ∨ ox o=Ω)(k:∀ a o,H a=Ψ o->H' a=Ψ o):Iv K c md L σ S' H' where
 len:=I.len
 imm:=λi v h e=>let ⟨x,e1,r⟩:=I.imm i v h e;⟨x,e1,r.mono s⟩
 own:=λi v h e=>by
  let(a,e1,(h1,ps,xs,e2,h2,h3),h4):=I.own i v h e
  exact⟨a,e1,⟨?_,ps,xs,e2,k _ _ h2,h3.mono s⟩,h4⟩
  cases q:S' a with
  | none=>rfl
  | some o =>
   rcases g a o q with z|z|z
   ·rw[h1] at z;cases z
   ·rw[h2] at z;cases z
   ·have:=sub a o q
    rw[k _ _ h2] at this
    rw[<- fo this,pI] at z;cases z
 dis:=I.dis
 sub:=sub
 frame:=λa o h n n1=>k _ _ (I.frame a o h n n1)
 s0:=I.s0.trans s
 grow:=λa o h=>(g a o h).elim (I.grow a o) λz=>z.elim (λz=>.inr (.inl (I.h0 z))) λz=>.inr (.inr z)
 lent:=I.lent
 fzs:=I.fzs
 fzm:=I.fzm
 fzp:=I.fzp
 prs:=λp hp=>by
  let(h1,h2,h3):=I.prs p hp
  exact⟨k _ _ h1,?_,h3⟩
  cases q:S' p.1 with
  | none=>rfl
  | some o =>
   rcases g _ o q with z|z|z
   ·rw[h2] at z;cases z
   ·rw[h1] at z;cases z
   ·have:=sub _ o q
    rw[k _ _ h1] at this
    rw[<- fo this,I.ntp p hp] at z;cases z
 ntp:=I.ntp
 lnt1:=I.lnt1
 tie:=I.tie
def Iv.go (I:Iv K c md L σ S H)(s:Same S S')(sub:Same S' H')(g:∀ a o,S' a=Ψ o->S a=Ψ o ∨ H a=Φ)(k:∀ a o,H a=Ψ o->H' a=Ψ o):Iv K c md L σ S' H':=I.go3 s sub (λa o e=>(g a o e).imp_right .inl) k
def kI {p:jP}{o:HO}(h:H p=Φ):Same H (kh H p o):=λa u e=>by rw[jT (kK e h)];exact e
def Iv.new (I:Iv K c md L σ S H){p:jP}(h:H p=Φ)(o:HO):Iv K c md L σ (kh S p o) (kh H p o) :=
 I.go (kI (I.sn h)) (λa u e=>by
  by_cases z:a=p
  ·subst z;rw[jV] at e ⊢;exact e
  ·rw[jT z] at e ⊢;exact I.sub a u e) (λa u e=>by
  by_cases z:a=p
  ·subst z;exact .inr h
  ·rw[jT z] at e;exact .inl e) (kI h)
def Iv.lay (I:Iv K c md L σ S H){p:jP}(h:H p=Φ)(o:HO):Iv K c md L σ S (kh H p o) :=
 I.go (Same.refl S) (I.sub.trans (kI h)) (λa u e=>.inl e) (kI h)
def Iv.back4 (I:Iv K c md L σ S H){i:Nat}{v w:FV}{a:jP}(m:(jX md i).w=Ω)(e:L[i]?=Ψ (Ψ v))(e1:σ[i]?=Ψ (Ψ (.ref a)))(s:Same S S')(sub:Same S' H')(g:∀ a o,S' a=Ψ o->S a=Ψ o ∨ H a=Φ ∨ ox o=Ω)
  (k:∀ b o,H b=Ψ o->b≠a->H' b=Ψ o)(new:OwnAt K S' H' a w)(ht:∀ j x C dx fs u,jX md j=.gst i x->jX md i=.ob->w=.obj C dx fs []->L[j]?=Ψ (Ψ u)->∃ u,fs.lookup x=Ψ u/\σ[j]?=Ψ (Ψ u)):Iv K c md (L.set i (Ψ w)) σ S' H':=by
 let mi:=Mo.w_imm m
 let hi:=(aI.mp e).1
 let(a',e1',(h1,qs,ys,_,h2,h3),h4):=I.own i v mi e
 rw[e1] at e1';cases e1'
 let look:∀ j u,(L.set i (Ψ w))[j]?=Ψ (Ψ u)->(j=i/\u=w) ∨ (j≠i/\L[j]?=Ψ (Ψ u)):=λj u z=>by
  by_cases q:j=i
  ·subst q;rw[bu hi] at z;cases z;exact .inl ⟨rfl,rfl⟩
  ·rw[bV (jp q)] at z;exact .inr ⟨q,z⟩
 let lookx:∀ j,(∃ u,L[j]?=Ψ (Ψ u))->∃ u,(L.set i (Ψ w))[j]?=Ψ (Ψ u):=λj h=>by
  let(u,z):=h
  by_cases q:j=i
  ·subst q;exact⟨_,bu hi⟩
  ·exact⟨u,by rw[bV (jp q)];exact z⟩
 let old:∀ j u,(L.set i (Ψ w))[j]?=Ψ (Ψ u)->∃ u,L[j]?=Ψ (Ψ u):=λj u z=>(look j u z).elim (λq=>⟨v,by rw[q.1];exact e⟩) λq=>⟨u,q.2⟩
 exact⟨by rw[fB];exact I.len,λj u hm z=>?_,λj u hm z=>?_,λj k u u2 b m1 m2 z1 z2=>?_,sub,λb o z n n1=>?_,I.s0.trans s,λb o z=>(g b o z).elim (I.grow b o) λz=>z.elim (λz=>.inr (.inl (I.h0 z))) λz=>.inr (.inr z),λb z=>?_,λp hp=>?_,λj u hm z=>?_,I.fzp,λp hp=>?_,I.ntp,λq hq=>?_,λj i' x C dx fs u h1 h2 h3 h4=>?_⟩
 ·rcases look j u z with⟨q,_⟩|⟨_,z⟩
  ·rw[q] at hm;exact absurd hm mi
  ·let(x,f1,f2):=I.imm j u hm z
   exact⟨x,f1,f2.mono s⟩
 ·rcases look j u z with⟨rfl,rfl⟩|⟨q,z⟩
  ·exact⟨a,e1,new,h4⟩
  ·let(b,f1,(g1,rs,zs,g2,g3,g4),g5):=I.own j u hm z
   let hb:b≠a:=λy=>by subst y;exact q (I.dis j i u v b hm mi z e f1 e1)
   exact⟨b,f1,⟨?_,rs,zs,g2,k b _ g3 hb,g4.mono s⟩,g5⟩
   cases q':S' b with
   | none=>rfl
   | some o =>
    rcases g b o q' with z|z|z
    ·rw[g1] at z;cases z
    ·rw[g3] at z;cases z
    ·have:=sub b o q'
     rw[k b _ g3 hb] at this
     rw[<- fo this,pI] at z;cases z
 ·let(w',z1):=old j u z1
  let(u',z2):=old k u2 z2
  exact I.dis j k w' u' b m1 m2 z1 z2
 ·exact k b o (I.frame b o z n n1) λy=>?_
  subst y
  rcases h4 with y|y|⟨j,y⟩
  ·exact n y
  ·rw[z] at y;cases y
  ·exact n1 j y
 ·let(g1,g2,g3):=I.lent b z
  exact⟨g1,g2,lookx 0 g3⟩
 ·let(g1,g2,g4):=I.fzs p hp
  exact⟨g1,g2,lookx _ g4⟩
 ·rcases look j u z with⟨q,_⟩|⟨_,z⟩
  ·rw[q] at hm;exact absurd hm (Mo.w_frz m)
  ·exact I.fzm j u hm z
 ·let(g1,g2,g3):=I.prs p hp
  let kp:=k _ _ g1 λy=>g3 i v m e (by rw[y];exact e1)
  exact⟨kp,?_,λj u hm z=>let ⟨u',z'⟩:=old j u z;g3 j u' hm z'⟩
  cases q':S' p.1 with
  | none=>rfl
  | some o =>
   rcases g _ o q' with z|z|z
   ·rw[g2] at z;cases z
   ·rw[g1] at z;cases z
   ·have:=sub _ o q'
    rw[kp] at this
    rw[<- fo this,I.ntp p hp] at z;cases z
 ·let(g1,g2,g3):=I.lnt1 q hq
  exact⟨g1,g2,lookx _ g3⟩
 ·let(u',h4'):=old j u h4
  rcases look i' _ h3 with⟨rfl,e9⟩|⟨_,h3⟩
  ·exact ht j x C dx fs u' h1 h2 e9.symm h4'
  ·exact I.tie j i' x C dx fs u' h1 h2 h3 h4'
def Iv.back3 (I:Iv K c md L σ S H){i:Nat}{v w:FV}{a:jP}(m:jX md i=.own)(e:L[i]?=Ψ (Ψ v))(e1:σ[i]?=Ψ (Ψ (.ref a)))(s:Same S S')(sub:Same S' H')(g:∀ a o,S' a=Ψ o->S a=Ψ o ∨ H a=Φ ∨ ox o=Ω)
  (k:∀ b o,H b=Ψ o->b≠a->H' b=Ψ o)(new:OwnAt K S' H' a w):Iv K c md (L.set i (Ψ w)) σ S' H':=I.back4 (Mo.w_own m) e e1 s sub g k new λ_ _ _ _ _ _ _ z=>by rw[m] at z;cases z
def Iv.back (I:Iv K c md L σ S H){i:Nat}{v w:FV}{a:jP}(m:jX md i=.own)(e:L[i]?=Ψ (Ψ v))(e1:σ[i]?=Ψ (Ψ (.ref a)))(s:Same S S')(sub:Same S' H')(g:∀ a o,S' a=Ψ o->S a=Ψ o ∨ H a=Φ)
  (k:∀ b o,H b=Ψ o->b≠a->H' b=Ψ o)(new:OwnAt K S' H' a w):Iv K c md (L.set i (Ψ w)) σ S' H':=I.back3 m e e1 s sub (λa o e=>(g a o e).imp_right .inl) k new
def Iv.write (I:Iv K c md L σ S H){i:Nat}{v:FV}{a:jP}{ps:List FV}{xs:List V}(m:jX md i=.own)(e:L[i]?=Ψ (Ψ v))(e1:σ[i]?=Ψ (Ψ (.ref a)))(r:RVs K S ps xs) :
  Iv K c md (L.set i (Ψ (.lst ps))) σ S (kh H a (.lst xs)):=by
 let(a',e1',(h1,_),_):=I.own i v (λz=>by rw[m] at z;cases z) e
 rw[e1] at e1';cases e1'
 exact I.back m e e1 (Same.refl S) (λb o z=>by rw[jT λy=>by subst y;rw[h1] at z;cases z];exact I.sub b o z) (λb o z=>.inl z) (λb o z n=>by rw[jT n];exact z) ⟨h1,ps,xs,rfl,jV,r⟩
def Iv.set (I:Iv K c md L σ S H){i:Nat}{v:FV}{x:V}(ni:∀ a,c.P0=Ψ a->i≠0)(nf:jX md i≠.frz)(h:(jX md i=.imm/\RV K S v x) ∨ (jX md i=.own/\∃ a,x=.ref a/\OwnAt K S H a v/\c.H0 a=Φ/\(∀ p∈c.pr,p.1≠a)/\∀ j w,j≠i->jX md j≠.imm->L[j]?=Ψ (Ψ w)->σ[j]?≠Ψ (Ψ (.ref a)))) :
  Iv K c md (L.set i (Ψ v)) (σ.set i (Ψ x)) S H:=by
 let look:∀ j w,(L.set i (Ψ v))[j]?=Ψ (Ψ w)->(j=i/\w=v/\(σ.set i (Ψ x))[j]?=Ψ (Ψ x)) ∨ (j≠i/\L[j]?=Ψ (Ψ w)/\(σ.set i (Ψ x))[j]?=σ[j]?):=λj w z=>by
  by_cases q:j=i
  ·subst q
   let hj:j<L.length:=by have:=(aI.mp z).1;rwa [fB] at this
   rw[bu hj] at z;cases z
   exact .inl ⟨rfl,rfl,by rw[bu (by rw[<- I.len];exact hj)]⟩
  ·rw[bV (jp q)] at z
   exact .inr ⟨q,z,bV (jp q)⟩
 let far:∀ j,j≠i->(L.set i (Ψ v))[j]?=L[j]?/\(σ.set i (Ψ x))[j]?=σ[j]?:=λj q=>⟨bV (jp q),bV (jp q)⟩
 exact⟨by rw[fB,fB];exact I.len,λj w hm z=>?_,λj w hm z=>?_,λj k w u b m1 m2 z1 z2 y1 y2=>?_,I.sub,I.frame,I.s0,I.grow,λb z=>?_,λp hp=>?_,λj w hm z=>?_,I.fzp,λp hp=>?_,I.ntp,λq hq=>?_,λj k y C dx fs u h1 h2 h3 h4=>?_⟩
 ·rcases look j w z with⟨rfl,rfl,y⟩|⟨q,z,y⟩
  ·rcases h with⟨_,r⟩|⟨hm',_⟩
   ·exact⟨x,y,r⟩
   ·rw[hm] at hm';cases hm'
  ·rw[y];exact I.imm j w hm z
 ·rcases look j w z with⟨rfl,rfl,y⟩|⟨q,z,y⟩
  ·rcases h with⟨hm',_⟩|⟨_,a,rfl,o,h0,_,_⟩
   ·exact absurd hm' hm
   ·exact⟨a,y,o,.inr (.inl h0)⟩
  ·rw[y];exact I.own j w hm z
 ·rcases look j w z1 with⟨p1,p2,p3⟩|⟨p1,p2,p3⟩
  ·rcases look k u z2 with⟨q1,q2,q3⟩|⟨q1,q2,q3⟩
   ·rw[p1,q1]
   ·rcases h with⟨hm',_⟩|⟨_,a,rfl,_,_,_,n⟩
    ·rw[p1] at m1;exact absurd hm' m1
    ·rw[p3] at y1;cases y1
     rw[q3] at y2
     exact absurd y2 (n k u q1 m2 q2)
  ·rw[p3] at y1
   rcases look k u z2 with⟨q1,q2,q3⟩|⟨q1,q2,q3⟩
   ·rcases h with⟨hm',_⟩|⟨_,a,rfl,_,_,_,n⟩
    ·rw[q1] at m2;exact absurd hm' m2
    ·rw[q3] at y2;cases y2
     exact absurd y1 (n j w p1 m1 p2)
   ·rw[q3] at y2
    exact I.dis j k w u b m1 m2 p2 q2 y1 y2
 ·let(g1,g2,g3):=I.lent b z
  let(f1,f2):=far 0 (jp (ni b z))
  rw[f1,f2];exact⟨g1,g2,g3⟩
 ·let(g1,g2,g4):=I.fzs p hp
  let(f1,f2):=far p.1 λy=>nf (by rw[<- y];exact g1)
  rw[f1,f2];exact⟨g1,g2,g4⟩
 ·rcases look j w z with⟨rfl,_,_⟩|⟨_,z,_⟩
  ·exact absurd hm nf
  ·exact I.fzm j w hm z
 ·let(g1,g2,g3):=I.prs p hp
  exact⟨g1,g2,λj w hm z=>?_⟩
  rcases look j w z with⟨q1,q2,q3⟩|⟨q1,q2,q3⟩
  ·rcases h with⟨hm',_⟩|⟨_,a,rfl,_,_,n,_⟩
   ·rw[q1,hm'] at hm;cases hm
   ·rw[q3];exact λy=>n p hp (by cases y;rfl)
  ·rw[q3];exact g3 j w hm q2
 ·let(g1,g2,g3):=I.lnt1 q hq
  let(f1,f2):=far q.1 λy=>by
   rw[y] at g1
   rcases h with⟨hm',_⟩|⟨hm',_⟩<;>rw[hm'] at g1<;>cases g1
  rw[f1,f2];exact⟨g1,g2,g3⟩
 ·let n1:j≠i:=λy=>by
   rw[y] at h1
   rcases h with⟨hm',_⟩|⟨hm',_⟩<;>rw[hm'] at h1<;>cases h1
  let n2:k≠i:=λy=>by
   rw[y] at h2
   rcases h with⟨hm',_⟩|⟨hm',_⟩<;>rw[hm'] at h2<;>cases h2
  rw[(far j n1).1] at h4
  rw[(far k n2).1] at h3
  rw[(far j n1).2]
  exact I.tie j k y C dx fs u h1 h2 h3 h4
end
end Kq
namespace Kq
abbrev ol {α β:Type}(f:α->Option β):List α->Option (List β)
 | []=>Ψ []
 | x :: xs=>(f x).bind λy=>(ol f xs).map (y :: ·)
abbrev fD:Nat->FV->Option D
 | 0,_=>Φ
 | n+1,v=>match v with
  | .non=>Ψ .non
  | .bl b=>Ψ (.bl b)
  | .int i=>Ψ (.int i)
  | .str x=>Ψ (.str x)
  | .tup xs=>(ol (fD n) xs).map .tup
  | .lst xs=>(ol (fD n) xs).map .lst
  | .scr _=>Φ
  | .shn _=>Φ
  | .dct _ _=>Φ
  | .dci _ _=>Φ
  | .dcz _ _ _=>Φ
  | .obj _ _ _ _=>Φ|.dcn _ _ _=>Φ|.adr _=>Φ|.dco _ _ _=>Φ|.shf _ _ _ _=>Φ
abbrev kU:Nat:=40
abbrev nq:FV->Option Bool
 | .non=>Ψ Ξ
 | .bl b=>Ψ b
 | .int i=>Ψ (i != 0)
 | .str _=>Φ
 | .tup xs=>Ψ (!xs.isEmpty)
 | .lst xs=>Ψ (!xs.isEmpty)
 | .scr xs=>Ψ (!xs.isEmpty)
 | .shn _=>Φ
 | .dct _ _=>Φ
 | .dci _ _=>Φ
 | .dcz _ _ _=>Φ
 | .obj _ _ _ _=>Φ|.dcn _ _ _=>Φ|.adr _=>Φ|.dco _ _ _=>Φ|.shf _ _ _ _=>Φ
abbrev mG:FV->Option Int|.int i=>Ψ i|_=>Φ
abbrev blF:FV->Option Bool|.bl b=>Ψ b|_=>Φ
abbrev qL:FV->Option (List FV)|.tup xs=>Ψ xs|_=>Φ
abbrev oo:FV->Option (List FV)|.lst xs=>Ψ xs|_=>Φ
abbrev small (i:Int):Bool:=Δ (-(2 ^ 64)<i/\i<2 ^ 64)
abbrev mJ (i:Int):Bool:=Δ (-(2 ^ 62)<=i/\i<2 ^ 62)
abbrev oJ (i:Int):Bool:=Δ (-(2 ^ 40)<=i/\i<=2 ^ 40)
abbrev eqD (a b:FV):Option Bool:=(fD kU a).bind λx=>(fD kU b).bind λy=>Ψ (D.eqv x y)
abbrev wJ (a b:FV):Option Bool:=match a,b with
 | .shn x,.shn y=>open Classical in if x=y then Ψ Ω else Φ
 | a,b=>eqD a b
abbrev mM:List FV->Option (List Int)
 | []=>Ψ []
 | .int i :: r=>(mM r).map (i :: ·)
 | _=>Φ
abbrev pq:List FV->Option (List Bool)
 | []=>Ψ []
 | .bl b :: r=>(pq r).map (b :: ·)
 | _=>Φ
abbrev lexLt:List Int->List Int->Bool
 | [],[]=>Ξ
 | [],_ :: _=>Ω
 | _ :: _,[]=>Ξ
 | a :: r,b :: q=>if a=b then lexLt r q else Δ (a<b)
abbrev mn (f:Int->Int->Option FV)(v w:FV):Option FV:=(mG v).bind λi=>(mG w).bind λj=>f i j
abbrev kC (v w:FV):Option FV:=match v with
 | .tup xs=>(qL w).bind λys=>if xs.length+ys.length<=big then Ψ (.tup (xs++ys)) else Φ
 | .lst xs=>(oo w).bind λys=>if xs.length+ys.length<=big then Ψ (.lst (xs++ys)) else Φ
 | v=>mn (λi j=>Ψ (.int (i+j))) v w
abbrev DH:FV->FV->Option FV:=mn λi j=>Ψ (.int (i-j))
abbrev pi (v w:FV):Option FV:=match v with
 | .lst xs=>(mG w).bind λk=>if -(2 ^ 63)<=k/\k<2 ^ 63/\xs.length*k.toNat<=big then Ψ (.lst (gf k.toNat xs).flatten) else Φ
 | v=>mn (λi j=>if (small i || small j)=Ω then Ψ (.int (i*j)) else Φ) v w
abbrev wI:FV->FV->Option FV:=mn λi j=>if 0<j/\j<1073741824 then Ψ (.int (i / j)) else Φ
abbrev rH:FV->FV->Option FV:=mn λi j=>if 0<j then Ψ (.int (i % j)) else Φ
abbrev DY:FV->FV->Option FV:=mn λi j=>if 0<=j/\j<=1000/\small i=Ω then Ψ (.int (i ^ j.toNat)) else Φ
abbrev nW (a b:FV):Option FV:=(wJ a b).map .bl
abbrev yD (a b:FV):Option FV:=(wJ a b).map λr=>.bl (!r)
abbrev Dt (v w:FV):Option FV:=match v with
 | .tup xs=>(qL w).bind λys=>(mM xs).bind λa=>(mM ys).bind λb=>Ψ (.bl (lexLt a b))
 | v=>mn (λi j=>Ψ (.bl (Δ (i<j)))) v w
abbrev HR:FV->FV->Option FV:=mn λi j=>Ψ (.bl (Δ (j<i)))
abbrev MP:FV->FV->Option FV:=mn λi j=>Ψ (.bl (Δ (j<=i)))
abbrev ixN (n:Nat) (i:Int):Option Nat:=if 0<=i then (if i<n then Ψ i.toNat else Φ) else if -(n:Int)<=i then Ψ (i+n).toNat else Φ
abbrev Dk (xs:List FV) (i:Int):Option FV:=(ixN xs.length i).bind λj=>xs[j]?
abbrev lH (v w:FV):Option FV:=(mG w).bind λj=>(lR v).bind λxs=>Dk xs j
abbrev tL:FV->FV->Option FV:=mn λi j=>Ψ (.int (if j<i then j else i))
abbrev yF:FV->FV->Option FV:=mn λi j=>Ψ (.int (if j > i then j else i))
abbrev lz:FV->Option FV|.non=>Ψ (.bl Ω)|_=>Ψ (.bl Ξ)
abbrev pK:FV->Option FV|.non=>Ψ (.bl Ξ)|_=>Ψ (.bl Ω)
abbrev Em (v:FV):Option FV:=(blF v).map λb=>.bl (!b)
abbrev HA (v:FV):Option FV:=(mG v).map λi=>.int (-i)
abbrev lC (v:FV):Option FV:=(lR v).map λxs=>.int xs.length
abbrev Dm (v:FV):Option FV:=(mG v).map λi=>.int (if i<0 then -i else i)
abbrev ut:FV->Option FV|.int i=>Ψ (.int i)|.bl b=>Ψ (.int (if b then 1 else 0))|_=>Φ
abbrev zA (xs:List FV):Option Int:=(mM xs).bind λns=>if ns.length<=big/\ns.all oJ=Ω then Ψ ns.sum else Φ
abbrev vy (v:FV):Option FV:=(lN v).bind λxs=>(zA xs).map .int
abbrev Dl (v:FV):Option FV:=(lN v).bind λxs=>(pq xs).map λbs=>.bl (bs.all id)
abbrev mC (v:FV):Option FV:=(lR v).map .tup
abbrev nH (v:FV):Option FV:=(lR v).map .lst
abbrev GS (v:FV):Option FV:=(fD kU v).bind λd=>if d.fit=Ω/\d.wt<=big then Ψ (.shn d) else Φ
abbrev AR (v:FV):Option FV:=match v with
 | .non=>Ψ (.str "None")
 | .bl b=>Ψ (.str (if b then "True" else "False"))
 | .str x=>Ψ (.str x)
 | .int i=>if -(2 ^ 150)<i/\i<2 ^ 150 then Ψ (.str (toString i)) else Φ
 | .tup xs=>GS (.tup xs)
 | .lst xs=>GS (.lst xs)
 | .scr _=>Φ|.shn _=>Φ|.dct _ _=>Φ|.dci _ _=>Φ|.dcz _ _ _=>Φ|.obj _ _ _ _=>Φ|.dcn _ _ _=>Φ|.adr _=>Φ|.dco _ _ _=>Φ|.shf _ _ _ _=>Φ
inductive Ty where|int|bool|str|list|tuple
 deriving DecidableEq
abbrev mY:FV->Ty->Option Bool
 | .non,_=>Ψ Ξ
 | .bl _,t=>Ψ (t == .int || t == .bool)
 | .int _,t=>Ψ (t == .int)
 | .str _,t=>Ψ (t == .str)
 | .tup _,t=>Ψ (t == .tuple)
 | .lst _,t=>Ψ (t == .list)
 | .scr _,_=>Φ
 | .shn _,t=>Ψ (t == .str)
 | .dct _ _,_=>Φ
 | .dci _ _,_=>Φ
 | .dcz _ _ _,_=>Φ
 | .obj _ _ _ _,_=>Φ
 | .dcn _ _ _,_=>Φ
 | .adr _,_=>Φ
 | .dco _ _ _,_=>Φ
 | .shf _ _ _ _,_=>Φ
abbrev mv (t:Ty)(v:FV):Option FV:=(mY v t).map .bl
abbrev wq (t u:Ty)(v:FV):Option FV:=(mY v t).bind λa=>(mY v u).map λb=>.bl (a || b)
abbrev sIx (n d:Nat):Option Int->Nat
 | none=>d
 | some v=>if v<0 then (v+n).toNat else min v.toNat n
abbrev lJ {α:Type}(xs:List α)(lo hi:Option Int):List α:=(xs.drop (sIx xs.length 0 lo)).take (sIx xs.length xs.length hi-sIx xs.length 0 lo)
abbrev rl (v:FV)(lo hi:Option Int):Option FV:=match v with
 | .tup xs=>Ψ (.tup (lJ xs lo hi))
 | .lst xs=>Ψ (.lst (lJ xs lo hi))
 | _=>Φ
noncomputable abbrev EW:=jR->(FV->jR->Prop)->Prop
noncomputable abbrev BW:=jR->(Bool->jR->Prop)->Prop
noncomputable abbrev AW:=jR->(List FV->jR->Prop)->Prop
noncomputable abbrev OW:=jR->(Option Int->jR->Prop)->Prop
abbrev jQ (i:Nat):EW:=λL Q=>wp (lk L i) λx=>Q x L
abbrev eC (v:FV):EW:=λL Q=>Q v L
abbrev kG (f:FV->Option FV)(a:EW):EW:=λL Q=>a L λx L1=>wp (f x) λz=>Q z L1
abbrev j0 (f:FV->FV->Option FV)(a b:EW):EW:=λL Q=>a L λx L1=>b L1 λy L2=>wp (f x y) λz=>Q z L2
abbrev mh (f:FV->FV->Option FV) (i:Nat)(b:EW):EW:=λL Q=>wp (lk L i) λ_=>b L λy L1=>wp (lk L1 i) λx=>wp (f x y) λz=>Q z L1
abbrev qQ (a b:EW):EW:=λL Q=>a L λx L1=>wp (nq x) λr=>if r=Ω then b L1 Q else Q x L1
abbrev PU (a b:EW):EW:=λL Q=>a L λx L1=>wp (nq x) λr=>if r=Ω then Q x L1 else b L1 Q
abbrev Fd (c:BW)(a b:EW):EW:=λL Q=>c L λr L1=>if r=Ω then a L1 Q else b L1 Q
abbrev ke (a:EW):BW:=λL Q=>a L λx L1=>wp (nq x) λb=>Q b L1
abbrev Dj (a b:BW):BW:=λL Q=>a L λr L1=>if r=Ω then b L1 Q else Q Ξ L1
abbrev Ax (a b:BW):BW:=λL Q=>a L λr L1=>if r=Ω then Q Ω L1 else b L1 Q
abbrev pv (a:BW):BW:=λL Q=>a L λr L1=>Q (!r) L1
abbrev lp:BW:=λL Q=>Q Ω L
abbrev jW:AW:=λL Q=>Q [] L
abbrev jS (a:EW)(r:AW):AW:=λL Q=>a L λx L1=>r L1 λxs L2=>Q (x :: xs) L2
abbrev nL (a:AW):EW:=λL Q=>a L λxs L1=>xs.length<=big/\Q (.tup xs) L1
abbrev m7 (a:AW):EW:=λL Q=>a L λxs L1=>xs.length<=big/\Q (.lst xs) L1
abbrev lM:OW:=λL Q=>Q Φ L
abbrev kX (a:EW):OW:=λL Q=>a L λx L1=>wp (mG x) λi=>Q (Ψ i) L1
abbrev sZ (a:EW)(l h:OW):EW:=λL Q=>a L λx L1=>l L1 λi L2=>h L2 λj L3=>wp (rl x i j) λz=>Q z L3
noncomputable abbrev CW:=Nat->List FV->(FV×FV->Prop)->Prop
abbrev kT (call:CW) (f:Nat)(a:AW):EW:=λL Q=>a L λxs L1=>call f xs λz=>Q z.1 L1
abbrev km (call:CW) (f i:Nat)(a:AW):EW:=λL Q=>wp (lk L i) λ_=>a L λxs L1=>wp (lk L1 i) λx=>call f (x :: xs) λz=>Q z.1 (L1.set i (Ψ z.2))
abbrev tf (v y:FV):Option FV:=(oo v).bind λxs=>if xs.length<big then Ψ (.lst (xs++[y])) else Φ
abbrev Oq:FV->Option (List FV)|.tup xs=>Ψ xs|.lst xs=>Ψ xs|_=>Φ
abbrev E7 (v y:FV):Option FV:=(oo v).bind λxs=>(Oq y).bind λys=>if xs.length+ys.length<=big then Ψ (.lst (xs++ys)) else Φ
abbrev oz (f:FV->FV->Option FV) (i:Nat)(a:EW):EW:=λL Q=>wp (lk L i) λv=>wp (oo v) λ_=>a L λy L1=>wp (lk L1 i) λx=>wp (f x y) λz=>Q .non (L1.set i (Ψ z))
abbrev uo (lo:Int):Nat->List FV
 | 0=>[]
 | n+1=>.int lo :: uo (lo+1) n
abbrev lT (xs ys:List FV):List FV:=xs.zipWith (λp q=>.tup [p,q]) ys
abbrev nJ (a:EW):AW:=λL Q=>a L λx L1=>wp (lR x) λxs=>Q xs L1
abbrev wy (a:EW):AW:=λL Q=>a L λx L1=>wp (mG x) λj=>mJ j=Ω/\Q (uo 0 j.toNat) L1
abbrev EJ (a b:EW):AW:=λL Q=>a L λx L1=>b L1 λy L2=>wp (lR x) λxs=>wp (lR y) λys=>Q (lT xs ys) L2
abbrev wz (a:EW):AW:=λL Q=>a L λx L1=>wp (lR x) λxs=>Q (lT (uo 0 xs.length) xs) L1
inductive Tg where|nm (i:Nat)|tp (is:List Nat)|tn (i:Nat)(is:List Nat)
abbrev KQ:List FV->Option (FV×FV)|[a,b]=>Ψ (a,b)|_=>Φ
abbrev qB:jR->List Nat->List FV->Option jR
 | L,[],[]=>Ψ L
 | L,i :: is,v :: vs=>qB (L.set i (Ψ v)) is vs
 | _,_,_=>Φ
abbrev gW (tg:Tg)(v:FV)(L:jR)(Q:jR->Prop):Prop:=match tg with
 | .nm i=>Q (L.set i (Ψ v))
 | .tp is=>wp (qL v) λxs=>wp (qB L is xs) Q
 | .tn i is=>wp (qL v) λxs=>wp (KQ xs) λp=>wp (qL p.2) λys=>wp (qB (L.set i (Ψ p.1)) is ys) Q
abbrev m8 (n m:Nat)(tg:Tg)(t:BW)(e:EW):List FV->List FV->jR->(List FV->jR->Prop)->Prop
 | [],Z8,L,Q=>Q Z8 L
 | x :: xs,Z8,L,Q=>gW tg x (L++gf m Φ) λL1=>t L1 λb L2=>if b=Ω then e L2 λv L3=>m8 n m tg t e xs (Z8++[v]) (L3.take n) Q else m8 n m tg t e xs Z8 (L2.take n) Q
abbrev lU (n m:Nat)(it:AW)(tg:Tg)(t:BW)(e:EW):EW:=λL Q=>it L λxs L1=>L1.length=n/\xs.length<=big/\m8 n m tg t e xs [] L1 λys L2=>Q (.lst ys) L2
inductive FFl where|next|ret (v:FV)|brk|cont
noncomputable abbrev SW:=jR->(FFl->jR->Prop)->Prop
abbrev L0 (k:jR->Prop)(Q:FFl->jR->Prop):FFl->jR->Prop
 | .next,L=>k L
 | .ret v,L=>Q (.ret v) L
 | .brk,L=>Q .brk L
 | .cont,L=>Q .cont L
abbrev lB:SW:=λL Q=>Q .next L
abbrev jY (s r:SW):SW:=λL Q=>s L (L0 (λL1=>r L1 Q) Q)
abbrev kg (e:EW)(tg:Tg):SW:=λL Q=>e L λx L1=>gW tg x L1 λL2=>Q .next L2
abbrev GU (v j x:FV):Option FV:=(oo v).bind λxs=>(mG j).bind λn=>(ixN xs.length n).map λp=>.lst (xs.set p x)
abbrev vD (k:Nat)(i e:EW):SW:=λL Q=>wp (lk L k) λ_=>e L λx L1=>i L1 λj L2=>wp (lk L2 k) λy=>wp (GU y j x) λz=>Q .next (L2.set k (Ψ z))
abbrev zG (f:FV->FV->Option FV) (i:Nat)(e:EW):SW:=λL Q=>wp (lk L i) λa=>e L λx L1=>wp (f a x) λz=>Q .next (L1.set i (Ψ z))
abbrev kf (e:EW):SW:=λL Q=>e L λx L1=>Q (.ret x) L1
abbrev pf (e:EW):SW:=λL Q=>e L λ_ L1=>Q .next L1
abbrev my (c:BW)(a b:SW):SW:=λL Q=>c L λr L1=>if r=Ω then a L1 Q else b L1 Q
abbrev qx (k:jR->Prop)(Q:FFl->jR->Prop):FFl->jR->Prop
 | .next,L=>k L
 | .cont,L=>k L
 | .brk,L=>Q .next L
 | .ret v,L=>Q (.ret v) L
abbrev u4 (tg:Tg)(b:SW):List FV->jR->(FFl->jR->Prop)->Prop
 | [],L,Q=>Q .next L
 | x :: xs,L,Q=>gW tg x L λL1=>b L1 (qx (λL2=>u4 tg b xs L2 Q) Q)
abbrev pd (it:AW)(tg:Tg)(b:SW):SW:=λL Q=>it L λxs L1=>u4 tg b xs L1 Q
abbrev zq (c:BW)(b:SW):Nat->jR->(FFl->jR->Prop)->Prop
 | 0,_,_=>False
 | n+1,L,Q=>c L λr L1=>if r=Ω then b L1 (qx (λL2=>zq c b n L2 Q) Q) else Q .next L1
abbrev vC (c:BW)(b:SW):SW:=λL Q=>∃ n,zq c b n L Q
structure FD where
 np:Nat
 ns:Nat
 body:CW->SW
 io:Bool
 fr:Bool
abbrev qw (io fr:Bool)(Q:FV×FV->Prop):FFl->jR->Prop
 | .ret v,L=>match io with
  | true=>wp (lk L 0) λx=>Q (v,x)
  | false=>Q (v,.non)
 | .next,L=>match fr with
  | true=>False
  | false=>match io with
   | true=>wp (lk L 0) λx=>Q (.non,x)
   | false=>Q (.non,.non)
 | _,_=>False
abbrev callW (tb:List FD):Nat->CW
 | 0,_,_,_=>False
 | d+1,f,args,Q=>match tb[f]? with
  | none=>False
  | some fd=>args.length=fd.np/\fd.body (callW tb d) (args.map Ψ++gf (fd.ns-fd.np) Φ) (qw fd.io fd.fr Q)
end Kq
namespace Kq
open PySem PySem.Spec PyProof.Rows L2
def uO {x y:String}(h:hW x=hW y):x=y:=by
 rw[bn,bn] at h
 let h2:x.toList.map ja=y.toList.map ja:=by
  injection h with h
  simpa using congrArg iA h
 let inj:∀ (a b:List Char),a.map ja=b.map ja->a=b:=by
  intro a
  induction a with
  | nil=>intro b hb;cases b<;>simp_all
  | cons c a ih =>
   intro b hb
   cases b with
   | nil=>simp at hb
   | cons d b =>
    simp![gN,List.cons.injEq] at hb
    rw[ih b hb.2,Char.toNat_inj.mp hb.1]
 exact String.toList_inj.mp (inj _ _ h2)
def GP (a b:String):(hW a == hW b)=(a == b):=by
 rw[fL]
 simp![beq_iff_eq]
 exact⟨uO,λh=>by rw[h]⟩
def xn (x:String):ic (hW x)=Ω:=by
 rw[bn]
 unfold ic
 simp![List.all_toArray,List.all_map,eO,Function.comp_apply,decide_eq_true_eq]
 intro c _
 let h:c.val.toNat<0xd800 ∨ (0xdfff<c.val.toNat/\c.val.toNat<0x110000):=c.valid
 show c.val.toNat<1114112
 lia
mutual
theorem qH:∀ d:D,(nj d).canLay0=Ω
 | .non=>rfl
 | .bl _=>rfl
 | .int _=>rfl
 | .str x=>xn x
 | .tup xs=>d_lays xs
 | .lst xs=>d_lays xs
theorem d_lays:∀ xs:List D,dz (dPys xs)=Ω
 | []=>rfl
 | x :: xs=>by simp![dPys,dz,qH x,d_lays xs,gV]
end
mutual
theorem wP:∀ a b:D,PyData.eqv (nj a) (nj b)=D.eqv a b
 | .non,b=>by cases b<;>rfl
 | .bl _,b=>by cases b<;>rfl
 | .int _,b=>by cases b<;>rfl
 | .str x,b=>by cases b<;>first|rfl|exact GP ..
 | .tup xs,b=>by cases b<;>first|rfl|exact d_eqvs ..
 | .lst xs,b=>by cases b<;>first|rfl|exact d_eqvs ..
theorem d_eqvs:∀ a b:List D,PyData.eqvAll (dPys a) (dPys b)=D.eqvs a b
 | [],b=>by cases b<;>rfl
 | x :: xs,b=>by cases b<;>first|rfl|(show (_ && _)=(_ && _);rw[wP,d_eqvs])
end
mutual
theorem wO:∀ d:D,(nj d).hasDict=Ξ
 | .non=>rfl
 | .bl _=>rfl
 | .int _=>rfl
 | .str x=>rfl
 | .tup xs=>d_nodicts xs
 | .lst xs=>d_nodicts xs
theorem d_nodicts:∀ xs:List D,dw (dPys xs)=Ξ
 | []=>rfl
 | x :: xs=>by simp![dPys,dw,wO x,d_nodicts xs,Bool.or_self]
end
def log2_lt {i:Int}{k:Nat}(hk:0<k)(h:-(2 ^ k:Int)<i/\i<2 ^ k):i.natAbs.log2<k:=by
 by_cases h0:i.natAbs=0
 ·rw[h0];simpa using hk
 ·rw[Nat.log2_lt h0]
  let e:((2 ^ k:Nat):Int)=(2:Int) ^ k:=by rw[Int.natCast_pow];rfl
  lia
mutual
theorem C5:∀ d:D,d.fit=Ω->(nj d).showable=Ω/\(nj d).intsShort 160=Ω/\(nj d).weight<=d.wt
 | .non,_=>⟨rfl,rfl,iK _⟩
 | .bl _,_=>⟨rfl,rfl,iK _⟩
 | .int i,h=>by
  let h:-(2 ^ 150:Int)<i/\i<2 ^ 150:=of_decide_eq_true h
  let l1:=log2_lt (k:=150) (·) h
  exact⟨?_,?_,?_⟩
  ·simp![nj,PyData.showable,decide_eq_true_eq];lia
  ·simp![nj,PyData.intsShort,decide_eq_true_eq]
   let e:=int_text_length_le (k:=150) (·) l1
   show (hW (toString i)).length<=160
   rw[bD];lia
  ·simp![nj,gH,D.wt]
   split
   ·lia
   ·split
    ·rename_i hs
     let l2:=log2_lt (k:=40) (·) hs
     lia
    ·lia
 | .str x,_=>by
  exact⟨rfl,rfl,?_⟩
  simp![nj,gH,D.wt]
  have:(hW x).length=x.length:=bD x
  exact ip this
 | .tup xs,h=>by
  let(h1,h2,h3):=d_fits xs h
  exact⟨h1,h2,h3⟩
 | .lst xs,h=>by
  let(h1,h2,h3):=d_fits xs h
  exact⟨h1,h2,h3⟩
theorem d_fits:∀ xs:List D,D.fits xs=Ω->cH (dPys xs)=Ω/\ck 160 (dPys xs)=Ω/\eg (dPys xs)<=D.wts xs
 | [],_=>⟨rfl,rfl,iK _⟩
 | x :: xs,h=>by
  let h:x.fit=Ω/\D.fits xs=Ω:=bY.mp h
  let(a1,a2,a3):=C5 x h.1
  let(b1,b2,b3):=d_fits xs h.2
  exact⟨?_,?_,?_⟩
  ·simp![dPys,cH,a1,b1,gV]
  ·simp![dPys,ck,a2,b2,gV]
  ·simp![dPys,eg,D.wts];lia
end
def Ff {d:D}(h:d.fit=Ω)(hw:d.wt<=big):(nj d).shown.length<=sizeLine:=by
 let(_,h2,h3):=C5 d h
 have:=PyData.shown_le 160 (·) (nj d) (PyData.leavesShort_of_canLay0 160 _ (qH d) h2)
 unfold big at hw
 let e:sizeLine=16777216:=rfl
 lia
inductive Bnd {α β:Type}(o:Option α)(f:α->Option β)(z:β):Prop
 | mk (a:α)(_:o=Ψ a)(_:f a=Ψ z):Bnd o f z
def lV {α β:Type}{o:Option α}{f:α->Option β}{z:β}(h:o.bind f=Ψ z):Bnd o f z:=let ⟨a,h1,h2⟩:=Option.bind_eq_some_iff.mp h;⟨a,h1,h2⟩
inductive Mpd {α β:Type}(o:Option α)(f:α->β)(z:β):Prop
 | mk (a:α)(_:o=Ψ a)(_:f a=z):Mpd o f z
def oX {α β:Type}{o:Option α}{f:α->β}{z:β}(h:o.map f=Ψ z):Mpd o f z:=let ⟨a,h1,h2⟩:=bq.mp h;⟨a,h1,h2⟩
def ou {α:Type}{c:Prop} [Decidable c] {a b:α}(h:(if c then Ψ a else Φ)=Ψ b):c/\a=b:=by
 by_cases z:c
 ·rw[if_pos z] at h;exact⟨z,fo h⟩
 ·rw[if_neg z] at h;cases h
def oy:∀ {n:Nat}{p:FV}{d:D},fD n p=Ψ d->(nj d).depth<=n
 | 0,p,d,h=>by cases h
 | n+1,p,d,h=>by
  let ds:∀ {ps:List FV}{ds:List D},ol (fD n) ps=Ψ ds->fj (dPys ds)<=n:=by
   intro ps
   induction ps with
   | nil=>intro ds h;cases h;simp[dPys,fj]
   | cons q ps ih =>
    intro ds h
    let(y,e1,h):=lV h
    let(zs,e2,rfl):=oX h
    simp![dPys,fj]
    exact Nat.max_le.mpr ⟨oy e1,ih e2⟩
  cases p with
  | tup ps=>let(zs,e,rfl):=oX (show (ol (fD n) ps).map D.tup=Ψ d from h);simp![nj,ie];have:=ds e;lia
  | lst ps=>let(zs,e,rfl):=oX (show (ol (fD n) ps).map D.lst=Ψ d from h);simp![nj,ie];have:=ds e;lia
  | non=>cases h;simp[nj,ie]
  | bl _=>cases h;simp[nj,ie]
  | int _=>cases h;simp[nj,ie]
  | str _=>cases h;simp[nj,ie]
  | scr _=>cases h
  | shn _=>cases h
  | dct _ _=>cases h
  | dci _ _=>cases h
  | dcz _ _ _=>cases h
  | obj _ _ _ _=>cases h
  | dcn _ _ _=>cases h
  | adr _=>cases h
  | dco _ _ _=>cases h
  | shf _ _ _ _=>cases h
section
variable {X:Cx}{Z9:List (jP×Obj)}{σ:L2.St}{S H:Hp}{s:jw}
abbrev JE (X:Cx)(S:Hp)(s:jw) (n:Nat):Prop:=∀ (p:FV)(v:V)(u:jF)(d:D),RV X.K S p v->RelV v u->fD n p=Ψ d->∃ as,Reads s.heap u (nj d) as
def qe {n:Nat}(R:JE X S s n):∀ {ps:List FV}{vs:List V}{us:List jF}{ds:List D},RVs X.K S ps vs->Vals vs us->ol (fD n) ps=Ψ ds->∃ as,ReadsAll s.heap us (dPys ds) as
 | [],vs,us,ds,r,q,h=>by
  cases (show vs=[] from r)
  cases q
  cases h
  exact⟨[],.nil⟩
 | p :: ps,vs,us,ds,r,rq,h=>by
  let(v1,vr,rfl,r1,r2):=r
  cases rq with
  | cons q1 q2 =>
   let(y,e1,h):=lV h
   let(zs,e2,rfl):=oX h
   let(as,ra):=R _ _ _ _ r1 q1 e1
   let(bs,rb):=qe R r2 q2 e2
   exact⟨as++bs,.cons ra rb⟩
def tE {n:Nat}(I:Inv X Z9 σ H s)(R:JE X S s n){a:jP}{xs:List V}{ps:List FV}{d:D}(h1:H a=Ψ (.lst xs))(h2:RVs X.K S ps xs)(h:(ol (fD n) ps).map D.lst=Ψ d):∃ as,Reads s.heap (.ref a) (nj d) as:=by
 let(zs,e,rfl):=oX h
 let(Z7,rr,(o,k,e1,e2,e2',e3),_):=I.list (SqL.of h1)
 let(as,ra):=qe R h2 rr e
 exact⟨a :: as,.list e1 e2 e3 (by simpa using ra)⟩
def rD (I:Inv X Z9 σ H s)(hs:Same S H):∀ n,JE X S s n
 | 0,p,v,u,d,_,_,h=>by cases h
 | n+1,p,v,u,d,rp,rv,h=>by
  let R:=rD I hs n
  cases p with
  | tup ps =>
   let(a,xs,rfl,h1,h2):=rp
   cases (show u=Value.ref a from rv)
   let(zs,e,rfl):=oX (show (ol (fD n) ps).map D.tup=Ψ d from h)
   let(Z7,rr,(o,e1,e2,k,e3),_):=I.tuple (SqT.of (hs _ _ h1))
   let(as,ra):=qe R h2 rr e
   exact⟨as,.tuple e1 e2 e3 (by simpa using ra)⟩
  | lst ps =>
   let(a,xs,rfl,h1,h2):=rp
   cases (show u=Value.ref a from rv)
   exact tE I R (hs _ _ h1) h2 h
  | non=>cases h;cases (show v=_ from rp);cases (show u=_ from rv);exact⟨_,.none⟩
  | bl _=>cases h;cases (show v=_ from rp);cases (show u=_ from rv);exact⟨_,.bool _⟩
  | int _=>cases h;cases (show v=_ from rp);let(t,rfl):=rv;exact⟨_,.int _ _⟩
  | str _=>cases h;cases (show v=_ from rp);let(t,rfl):=rv;exact⟨_,.str _ _⟩
  | scr _=>cases h
  | shn _=>cases h
  | dct _ _=>cases h
  | dci _ _=>cases h
  | dcz _ _ _=>cases h
  | obj _ _ _ _=>cases h
  | dcn _ _ _=>cases h
  | adr _=>cases h
  | dco _ _ _=>cases h
  | shf _ _ _ _=>cases h
def mD (I:Inv X Z9 σ H s)(hs:Same S H){n:Nat}{p:FV}{v:V}{u:jF}{d:D}(rp:RH X.K S H p v)(rv:RelV v u)(h:fD n p=Ψ d):∃ as,Reads s.heap u (nj d) as:=by
 rcases rp with rp|⟨a,rfl,_,ps,xs,e,h1,h2⟩
 ·exact rD I hs n p v u d rp rv h
 ·cases (show u=Value.ref a from rv)
  cases n with
  | zero=>cases h
  | succ n =>
   cases p with
   | lst qs=>cases e;exact tE I (rD I hs n) h1 h2 h
   | dct _ _=>cases h
   | dci _ _=>cases h
   | dcz _ _ _=>cases h
   | obj _ _ _ _=>cases h
   | dcn _ _ _=>cases h
   | adr _=>cases h
   | dco _ _ _=>cases h
   | shf _ _ _ _=>cases h
   | _=>cases e
end
def kM:big<=sizeLine:=(·)
def kS {v:FV}{i:Int}(h:mG v=Ψ i):v=.int i:=by cases v<;>cases h;rfl
def Ja {v:FV}{i:Bool}(h:blF v=Ψ i):v=.bl i:=by cases v<;>cases h;rfl
def nk {v:FV}{i:List FV}(h:qL v=Ψ i):v=.tup i:=by cases v<;>cases h;rfl
def mK {v:FV}{i:List FV}(h:oo v=Ψ i):v=.lst i:=by cases v<;>cases h;rfl
structure NewOr (K:ib)(S H:Hp)(Q:VK)(z:FV):Prop where
 old:∀ x,(∀ ps,z≠.lst ps)->RV K S z x->Q x H
 tup:∀ ps xs p,z=.tup ps->RVs K S ps xs->H p=Φ->Q (.ref p) (kh H p (.tup xs))
 lst:∀ ps xs p,z=.lst ps->RVs K S ps xs->H p=Φ->Q (.ref p) (kh H p (.lst xs))
section
variable {X:Cx}{K:ib}{S H:Hp}{Q:VK}
def NewOr.bl {b:Bool}(k:NewOr K S H Q (.bl b)):Q (.bl b) H:=k.old _ (λ_ z=>nomatch z) rfl
def NewOr.int {b:Int}(k:NewOr K S H Q (.int b)):Q (.int b) H:=k.old _ (λ_ z=>nomatch z) rfl
def NewOr.str {b:String}(k:NewOr K S H Q (.str b)):Q (.str (hW b)) H:=k.old _ (λ_ z=>nomatch z) rfl
def RH.int {i:Int}{x:V}(h:RH K S H (.int i) x):x=.int i:=h.val rfl
def RH.bl {i:Bool}{x:V}(h:RH K S H (.bl i) x):x=.bl i:=h.val rfl
inductive Rq (K:ib)(f:FV->FV->Option FV)(x:V)(y:V)(H:Hp)(Q:VK):Prop
 | mk (S:_)(v:_)(w:_)(z:_)(_:Same S H)(_:RH K S H v x)(_:RH K S H w y)(_:f v w=Ψ z)(_:NewOr K S H Q z):Rq K f x y H Q
def pG {g:jF->jF->Sem jF}{f:Int->Int->Option FV}{r:R2}(o:mI X g r)(h:∀ i j z H Q,f i j=Ψ z->(∀ x,(∀ S,RV X.K S z x)->Q x H)->r (.int i) (.int j) H Q)(n:∀ i j z,f i j=Ψ z->∀ ps,z≠.lst ps):mI X g (Rq X.K (mn f)):=by
 intro Z9 s σ H x y u1 u2 Q I rx ry ⟨S,v,w,z,hs,hv,hw,e,k⟩
 let(i,e1,e):=lV e
 let(j,e2,e):=lV e
 cases kS e1;cases kS e2
 obtain rfl:=hv.int
 obtain rfl:=hw.int
 exact o Z9 s σ H _ _ u1 u2 Q I rx ry (h i j z H Q e λx hx=>k.old x (n i j z e) (hx S))
def KC:mI X (binaryOp .Sub) (Rq X.K DH):=pG Hm (λi j z H Q e k=>⟨i,j,rfl,rfl,k _ λS=>by cases e;rfl⟩) λi j z e ps=>by cases e;exact λz=>nomatch z
def G0:mI X (binaryOp .FloorDiv) (Rq X.K wI):=pG Eh (λi j z H Q e k=>⟨i,j,rfl,rfl,(ou e).1,k _ λS=>by cases (ou e).2;rfl⟩) λi j z e ps=>by cases (ou e).2;exact λz=>nomatch z
def KF:mI X (binaryOp .Mod) (Rq X.K rH):=pG Hr (λi j z H Q e k=>⟨i,j,rfl,rfl,(ou e).1,k _ λS=>by cases (ou e).2;rfl⟩) λi j z e ps=>by cases (ou e).2;exact λz=>nomatch z
def KE:mI X (binaryOp .Pow) (Rq X.K DY):=pG Ho (λi j z H Q e k=>⟨i,j,rfl,rfl,by
 let(h1,h2,h3):=(ou e).1
 have:-(2 ^ 64)<i/\i<2 ^ 64:=by simpa[small] using h3
 exact⟨h1,⋯,⋯⟩,k _ λS=>by cases (ou e).2;rfl⟩) λi j z e ps=>by cases (ou e).2;exact λz=>nomatch z
def Om:mI X (compareOp .Gt) (Rq X.K HR):=pG KW (λi j z H Q e k=>⟨i,j,rfl,rfl,k _ λS=>by cases e;rfl⟩) λi j z e ps=>by cases e;exact λz=>nomatch z
def On:mI X (compareOp .GtE) (Rq X.K MP):=pG KY (λi j z H Q e k=>⟨i,j,rfl,rfl,k _ λS=>by cases e;rfl⟩) λi j z e ps=>by cases e;exact λz=>nomatch z
def G3:mI X (binaryOp .Add) (Rq X.K (mn λi j=>Ψ (.int (i+j)))):=pG Hu (λi j z H Q e k=>⟨i,j,rfl,rfl,k _ λS=>by cases e;rfl⟩) λi j z e ps=>by cases e;exact λz=>nomatch z
def GZ:mI X (binaryOp .Mult) (Rq X.K (mn λi j=>if (small i || small j)=Ω then Ψ (.int (i*j)) else Φ)):=pG Hq (λi j z H Q e k=>⟨i,j,rfl,rfl,by
 have:=(ou e).1
 simp![small,fK,decide_eq_true_eq] at this
 exact this,k _ λS=>by cases (ou e).2;rfl⟩) λi j z e ps=>by cases (ou e).2;exact λz=>nomatch z
def KG:mI X (compareOp .Lt) (Rq X.K (mn λi j=>Ψ (.bl (Δ (i<j))))):=pG KU (λi j z H Q e k=>⟨i,j,rfl,rfl,k _ λS=>by cases e;rfl⟩) λi j z e ps=>by cases e;exact λz=>nomatch z
def G2 {xs ys:List FV}{x y:V}{z:FV}{Z9:List (jP×Obj)}{σ:L2.St}{s:jw}{u1 u2:jF}(I:Inv X Z9 σ H s)(rx:RelV x u1)(ry:RelV y u2)(hs:Same S H)(hv:RH X.K S H (.tup xs) x)(hw:RH X.K S H (.tup ys) y)
  (e:(if xs.length+ys.length<=big then Ψ (FV.tup (xs++ys)) else Φ)=Ψ z)(k:NewOr X.K S H Q z):wpAny (model X.prog X.w) X.A (binaryOp .Add u1 u2) (EP X Z9 σ Q) X.xe s:=by
 let(hc,rfl):=ou e
 let rv:=hv.val rfl
 let rw':=hw.val rfl
 let(a,as,rfl,ha,ra):=hv.tup hs
 let(b,bs,rfl,hb,rb):=hw.tup hs
 let l1:=ra.length
 let l2:=rb.length
 let hl:=kM
 by_cases h0:as=[]
 ·subst h0
  let z2:xs=[]:=aj (by simpa using l1)
  subst z2
  exact BD Z9 s σ H _ _ u1 u2 Q I rx ry ⟨a,b,bs,rfl,rfl,SqT.of ha,SqT.of hb,k.old _ (λ_ z=>nomatch z) rw'⟩
 exact Ei Z9 s σ H _ _ u1 u2 Q I rx ry ⟨a,b,as,bs,rfl,rfl,SqT.of ha,SqT.of hb,h0,⋯,λz=>?_,λ_ p hp=>k.tup _ _ p rfl (ra.append rb) hp⟩
 subst z
 let z2:ys=[]:=aj (by simpa using l2)
 subst z2
 exact k.old _ (λ_ z=>nomatch z) (by rw[fH];exact rv)
def KI:mI X (binaryOp .Add) (Rq X.K kC):=by
 intro Z9 s σ H x y u1 u2 Q I rx ry ⟨S,v,w,z,hs,hv,hw,e,k⟩
 cases v with
 | tup xs =>
  let(ys,e1,e):=lV e
  cases nk e1
  exact G2 I rx ry hs hv hw e k
 | lst xs =>
  let(ys,e1,e):=lV e
  cases mK e1
  let(hc,rfl):=ou e
  let(a,as,rfl,ha,ra):=hv.lst hs
  let(b,bs,rfl,hb,rb):=hw.lst hs
  let l1:=ra.length
  let l2:=rb.length
  let hl:=kM
  exact Ht Z9 s σ H _ _ u1 u2 Q I rx ry ⟨a,b,as,bs,rfl,rfl,ha,hb,⋯,λp hp=>k.lst _ _ p rfl (ra.append rb) hp⟩
 | _=>exact G3 Z9 s σ H x y u1 u2 Q I rx ry ⟨S,_,w,z,hs,hv,hw,e,k⟩
def F6:mI X (binaryOp .Mult) (Rq X.K pi):=by
 intro Z9 s σ H x y u1 u2 Q I rx ry ⟨S,v,w,z,hs,hv,hw,e,k⟩
 cases v with
 | lst xs =>
  let(j,e1,e):=lV e
  cases kS e1
  let(hc,rfl):=ou e
  let(a,as,rfl,ha,ra):=hv.lst hs
  obtain rfl:=hw.int
  let l1:=ra.length
  let hl:=kM
  exact Hn Z9 s σ H _ _ u1 u2 Q I rx ry ⟨a,j,as,rfl,rfl,ha,hc.1,hc.2.1,by rw[<- l1];lia,λp hp=>k.lst _ _ p rfl (ra.rep _) hp⟩
 | _=>exact GZ Z9 s σ H x y u1 u2 Q I rx ry ⟨S,_,w,z,hs,hv,hw,e,k⟩
def mZ:∀ {ps:List FV}{xs:List V}{ns:List Int},RVs K S ps xs->mM ps=Ψ ns->xs=ns.map V.int
 | [],xs,ns,r,e=>by cases (show xs=[] from r);cases e;rfl
 | p :: ps,xs,ns,r,e=>by
  let(v,q,rfl,h1,h2):=r
  cases p with
  | int i =>
   let(ms,z,rfl):=oX (show (mM ps).map (i :: ·)=Ψ ns from e)
   rw[mZ h2 z,gN,show v=.int i from h1]
  | _=>cases e
def sK:∀ {ps:List FV}{xs:List V}{ns:List Bool},RVs K S ps xs->pq ps=Ψ ns->xs=ns.map V.bl
 | [],xs,ns,r,e=>by cases (show xs=[] from r);cases e;rfl
 | p :: ps,xs,ns,r,e=>by
  let(v,q,rfl,h1,h2):=r
  cases p with
  | bl i =>
   let(ms,z,rfl):=oX (show (pq ps).map (i :: ·)=Ψ ns from e)
   rw[sK h2 z,gN,show v=.bl i from h1]
  | _=>cases e
def BS:∀ a b:List Int,Kq.lexLt a b=HT.lexLt a b
 | [],[]=>rfl
 | [],_ :: _=>rfl
 | _ :: _,[]=>rfl
 | a :: r,b :: q=>by
  show (if a=b then Kq.lexLt r q else Δ (a<b))=_
  rw[BS r q];rfl
def Ol (hu:X.A.units+64<cLine):mI X (compareOp .Lt) (Rq X.K Dt):=by
 intro Z9 s σ H x y u1 u2 Q I rx ry ⟨S,v,w,z,hs,hv,hw,e,k⟩
 cases v with
 | tup xs =>
  let(ys,e1,e):=lV e
  cases nk e1
  let(ns,e2,e):=lV e
  let(ms,e3,e):=lV e
  cases e
  let(a,as,rfl,ha,ra):=hv.tup hs
  let(b,bs,rfl,hb,rb):=hw.tup hs
  cases mZ ra e2;cases mZ rb e3
  exact Hs ⋯ Z9 s σ H _ _ u1 u2 Q I rx ry ⟨a,b,ns,ms,rfl,rfl,SqT.of ha,SqT.of hb,by rw[<- BS];exact k.bl⟩
 | _=>exact KG Z9 s σ H x y u1 u2 Q I rx ry ⟨S,_,w,z,hs,hv,hw,e,k⟩
def IR {p q:FV}{b:Bool}(e:wJ p q=Ψ b):(∃ d,p=.shn d/\q=.shn d/\b=Ω) ∨ ∃ x y,fD kU p=Ψ x/\fD kU q=Ψ y/\b=D.eqv x y:=by
 let gen:eqD p q=Ψ b->∃ x y,fD kU p=Ψ x/\fD kU q=Ψ y/\b=D.eqv x y:=λe=>by
  let(x,e1,e):=lV e
  let(y,e2,e):=lV e
  cases e
  exact⟨x,y,e1,e2,rfl⟩
 unfold wJ at e
 split at e
 ·let(rfl,rfl):=@ou _ _ (Classical.propDecidable _) _ _ e
  exact .inl ⟨_,rfl,rfl,rfl⟩
 ·exact .inr (gen e)
def F7 (hu:X.A.units+64<cLine)(neg:Bool):mI X (compareOp (if neg then .NotEq else .Eq)) (Rq X.K λp q=>(wJ p q).map λr=>.bl (neg != r)):=by
 intro Z9 s σ H x y v u Q I rx ry ⟨S,p,q,z,hs,rp,rq,e,k⟩
 let(b,e',rfl):=oX (show (wJ p q).map (λr=>FV.bl (neg != r))=Ψ z from e)
 let fin:=k.bl
 rcases IR e' with⟨d,rfl,rfl,rfl⟩|⟨dx,dy,e1,e2,rfl⟩
 ·obtain rfl:x=.str (nj d).shown:=rp.val rfl
  obtain rfl:y=.str (nj d).shown:=rq.val rfl
  cases neg with
  | false=>exact KZ Z9 s σ H _ _ v u Q I rx ry ⟨rfl,by simpa using fin⟩
  | true=>exact KS Z9 s σ H _ _ v u Q I rx ry ⟨rfl,by simpa using fin⟩
 ·let(as,ra):=mD I hs rp rx e1
  let(bs,rb):=mD I hs rq ry e2
  let hd:X.A.units+min (nj dx).depth (nj dy).depth<cLine:=by
   let h1:=oy e1
   unfold kU at h1
   lia
  cases neg with
  | false=>exact PySem.SeqAt.compareEq_reads ra rb (qH dx) (qH dy) hd ⟨.bl _,H,I,rfl,by rw[wP];simpa using fin⟩
  | true=>exact PySem.SeqAt.compareNe_reads ra rb (qH dx) (qH dy) hd ⟨.bl _,H,I,rfl,by rw[wP];simpa using fin⟩
def G1 (hu:X.A.units+64<cLine):mI X (compareOp .Eq) (Rq X.K nW):=λZ9 s σ H x y v u Q I rx ry q1=>by let(S,p,q,z,hs,rp,rq,e,k):=q1;exact F7 hu Ξ Z9 s σ H x y v u Q I rx ry ⟨S,p,q,z,hs,rp,rq,by
 let(b,e1,rfl):=oX e
 show (wJ p q).map _=_
 rw[e1];cases b<;>rfl,k⟩
def Oj (hu:X.A.units+64<cLine):mI X (compareOp .NotEq) (Rq X.K yD):=λZ9 s σ H x y v u Q I rx ry q1=>by let(S,p,q,z,hs,rp,rq,e,k):=q1;exact F7 hu Ω Z9 s σ H x y v u Q I rx ry ⟨S,p,q,z,hs,rp,rq,by
 let(b,e1,rfl):=oX e
 show (wJ p q).map _=_
 rw[e1];cases b<;>rfl,k⟩
def FP {ps:List FV}{xs:List V}{i:Int}{p:FV}(r:RVs K S ps xs)(e:Dk ps i=Ψ p):∃ v,L2.atI xs i=Ψ v/\RV K S p v:=by
 let(j,e1,e2):=lV e
 let(v,h1,h2):=r.get e2
 exact⟨v,?_,h2⟩
 show (L2.ixN xs.length i).bind (λj=>xs[j]?)=Ψ v
 rw[<- r.length,show L2.ixN ps.length i=Ψ j from e1]
 exact h1
inductive Ri (K:ib)(x:V)(y:V)(H:Hp)(Q:VK):Prop
 | mk (S:_)(v:_)(w:_)(z:_)(_:Same S H)(_:RH K S H v x)(_:RH K S H w y)(_:lH v w=Ψ z)(_:∀ u,RV K S z u->Q u H):Ri K x y H Q
def KH:NT X (Ri X.K):=by
 intro value slice Z9 s σ H x y v u Q I rx ry ⟨S,p,q,z,hs,rp,rq,e,k⟩ hsl
 let(j,e1,e3):=lV e
 let(ps,e2,e4):=lV e3
 cases kS e1
 obtain rfl:=rq.int
 let(a,xs,rfl,hq,r):=rp.seq hs e2
 let(w,h1,h2):=FP r e4
 cases hb:Lc p with
 | true=>rw[hb] at hq;exact EB value slice Z9 s σ H _ _ v u Q I rx ry ⟨a,xs,j,w,rfl,rfl,hq,h1,k w h2⟩ hsl
 | false=>rw[hb] at hq;exact HK value slice Z9 s σ H _ _ v u Q I rx ry ⟨a,xs,j,w,rfl,rfl,hq,h1,k w h2⟩ hsl
def uC (n d:Nat)(o:Option Int):Kq.sIx n d o=HT.sIx n d o:=by
 cases o with
 | none=>rfl
 | some v=>simp![Kq.sIx,HT.sIx];try (split<;>split<;>lia)
def vi {ps:List FV}{xs:List V}{lo hi:Option Int}(r:RVs K S ps xs):RVs K S (lJ ps lo hi) (wS xs lo hi):=by
 unfold lJ wS
 rw[uC,uC,r.length]
 exact (r.drop _).take _
inductive Rsl (K:ib)(x:V)(lo:Option Int)(hi:Option Int)(H:Hp)(Q:VK):Prop
 | mk (S:_)(v:_)(z:_)(_:Same S H)(_:RH K S H v x)(_:rl v lo hi=Ψ z)(_:NewOr K S H Q z):Rsl K x lo hi H Q
def Oi:J4 X (Rsl X.K):=by
 intro Z9 s σ H x v vl vu lo hi sl Q I rx hsl pl pu ⟨S,p,z,hs,rp,e,k⟩
 cases p with
 | tup ps =>
  cases e
  let rv:=rp.val rfl
  let(a,xs,rfl,ha,ra):=rp.tup hs
  by_cases hc:HT.sIx xs.length 0 lo=0/\HT.sIx xs.length xs.length hi=xs.length
  ·exact AV Z9 s σ H _ v vl vu lo hi sl Q I rx hsl pl pu ⟨a,xs,rfl,SqT.of ha,hc.1,hc.2,k.old _ (λ_ z=>nomatch z) ?_⟩
   let e:lJ ps lo hi=ps:=by
    unfold lJ
    rw[uC,uC,ra.length,hc.1,hc.2,gj,Nat.sub_zero,br (ip ra.length)]
   rw[e];exact rv
  ·exact GR Z9 s σ H _ v vl vu lo hi sl Q I rx hsl pl pu ⟨a,xs,rfl,SqT.of ha,hc,λp hp=>k.tup _ _ p rfl (vi ra) hp⟩
 | lst ps =>
  cases e
  let(a,xs,rfl,ha,ra):=rp.lst hs
  exact yi Z9 s σ H _ v vl vu lo hi sl Q I rx hsl pl pu ⟨a,xs,rfl,SqL.of ha,λp hp=>k.lst _ _ p rfl (vi ra) hp⟩
 | _=>cases e
end
section
variable {X:Cx}{K:ib}{S H:Hp}{Q:VK}
inductive Rc (K:ib)(f:FV->Option FV)(xs:List V)(H:Hp)(Q:VK):Prop
 | mk (S:_)(v:_)(x:_)(z:_)(_:xs=[x])(_:Same S H)(_:RH K S H v x)(_:f v=Ψ z)(_:NewOr K S H Q z):Rc K f xs H Q
inductive Rc2 (K:ib)(f:FV->FV->Option FV)(xs:List V)(H:Hp)(Q:VK):Prop
 | mk (S:_)(v:_)(w:_)(x:_)(y:_)(z:_)(_:xs=[x,y])(_:Same S H)(_:RH K S H v x)(_:RH K S H w y)(_:f v w=Ψ z)(_:NewOr K S H Q z):Rc2 K f xs H Q
def F4 {b:Bool}{a:jP}{xs:List V}(h:sM b K H a xs):SqL K H a xs ∨ SqT K H a xs:=by cases b;exact .inr h;exact .inl h
def LU:kN X (.builtin "len") (Rc X.K lC):=by
 rintro Z9 s σ H xs us Q I r ⟨S,v,x,z,rfl,hs,rv,e,k⟩
 let(ps,e1,rfl):=oX e
 let(a,ys,rfl,hq,ry):=rv.seq hs e1
 exact vn Z9 s σ H _ us Q I r ⟨a,ys,rfl,F4 hq,?_⟩
 rw[<- ry.length]
 exact k.int
def LX:kN X (.builtin "abs") (Rc X.K Dm):=by
 rintro Z9 s σ H xs us Q I r ⟨S,v,x,z,rfl,hs,rv,e,k⟩
 let(i,e1,rfl):=oX e
 cases kS e1
 obtain rfl:=rv.int
 exact De Z9 s σ H _ us Q I r ⟨i,rfl,k.int⟩
def LV:kN X (.type "int") (Rc X.K ut):=by
 rintro Z9 s σ H xs us Q I r ⟨S,v,x,z,rfl,hs,rv,e,k⟩
 cases v with
 | int i =>
  cases e
  obtain rfl:=rv.int
  exact uc Z9 s σ H _ us Q I r (.inl ⟨i,rfl,k.int⟩)
 | bl b =>
  cases e
  obtain rfl:=rv.bl
  exact uc Z9 s σ H _ us Q I r (.inr ⟨b,rfl,k.int⟩)
 | _=>cases e
def Fq:kN X (.type "tuple") (Rc X.K mC):=by
 rintro Z9 s σ H xs us Q I r ⟨S,v,x,z,rfl,hs,rv,e,k⟩
 let(ps,e1,rfl):=oX e
 let(a,ys,rfl,hq,ry):=rv.seq hs e1
 cases v with
 | tup qs=>cases e1;exact mP Z9 s σ H _ us Q I r ⟨a,ys,rfl,.inr ⟨hq,k.old _ (λ_ z=>nomatch z) (rv.val rfl)⟩⟩
 | lst qs=>exact mP Z9 s σ H _ us Q I r ⟨a,ys,rfl,.inl ⟨hq,λl hl=>k.tup _ _ l rfl ry hl⟩⟩
 | scr qs=>exact mP Z9 s σ H _ us Q I r ⟨a,ys,rfl,.inl ⟨hq,λl hl=>k.tup _ _ l rfl ry hl⟩⟩
 | _=>cases e1
def Dg:kN X (.type "list") (Rc X.K nH):=by
 rintro Z9 s σ H xs us Q I r ⟨S,v,x,z,rfl,hs,rv,e,k⟩
 let(ps,e1,rfl):=oX e
 let(a,ys,rfl,hq,ry):=rv.seq hs e1
 exact vm Z9 s σ H _ us Q I r ⟨a,ys,rfl,F4 hq,λl hl=>k.lst _ _ l rfl ry hl⟩
def IW (hc:X.calm=Ω):kN X (.builtin "min") (Rc2 X.K tL):=by
 rintro Z9 s σ H xs us Q I r ⟨S,v,w,x,y,z,rfl,hs,rv,rw',e,k⟩
 let(i,e1,e2):=lV e
 let(j,e3,e4):=lV e2
 cases kS e1;cases kS e3;cases e4
 obtain rfl:=rv.int
 obtain rfl:=rw'.int
 exact As hc Z9 s σ H _ us Q I r ⟨i,j,rfl,k.int⟩
def IY (hc:X.calm=Ω):kN X (.builtin "max") (Rc2 X.K yF):=by
 rintro Z9 s σ H xs us Q I r ⟨S,v,w,x,y,z,rfl,hs,rv,rw',e,k⟩
 let(i,e1,e2):=lV e
 let(j,e3,e4):=lV e2
 cases kS e1;cases kS e3;cases e4
 obtain rfl:=rv.int
 obtain rfl:=rw'.int
 exact At hc Z9 s σ H _ us Q I r ⟨i,j,rfl,k.int⟩
def Vals.mapInt {ns:List Int}:∀ {us:List jF},Vals (ns.map V.int) us->∀ i:Nat,i<ns.length->∃ t,us[i]?=Ψ (.int (ns.getD i 0) t):=λ{us} r i hi=>by
 let(u,e,t,rfl):=r.get (i:=i) (x:=.int (ns.getD i 0)) (by simp[hi])
 exact⟨t,e⟩
def og (ns:List Int):∀ j,j<=ns.length->preSum (λi=>ns.getD i 0) j=(ns.take j).sum
 | 0,_=>by simp[preSum]
 | j+1,h=>by
  let hj:j<ns.length:=h
  show preSum _ j+ns.getD j 0=_
  rw[og ns j ⋯,af hj,List.sum_append]
  simp[jc,hj]
def AQ (B:Int)(hB:0<=B):∀ ns:List Int,(∀ n∈ns,-B<=n/\n<=B)->-(B*ns.length)<=ns.sum/\ns.sum<=B*ns.length
 | [],_=>by simp
 | n :: r,h=>by
  let ih:=AQ B hB r λm hm=>h m (bT _ hm)
  let hn:=h n cQ
  rw[List.sum_cons,eK]
  let e:B*((r.length+1:Nat):Int)=B*(r.length:Int)+B:=by rw[Int.natCast_add,Int.mul_add];simp
  rw[e]
  lia
def xZ (hc:X.calm=Ω):kN X (.builtin "sum") (λxs H Q=>∃ (a:jP)(ns:List Int),xs=[.ref a]/\SqL X.K H a (ns.map V.int)/\ns.length<=big/\(∀ n∈ns,-(2 ^ 40)<=n/\n<=2 ^ 40)/\Q (.int ns.sum) H):=by
 intro Z9 s σ H xs us Q I r h
 let(a,ns,rfl,hq,hz,hb,q):=h
 let(u,rfl,rx):=vals1 r
 cases rx
 let(Z7,r',pl,hz'):=I.list hq
 let hlen:ns.length=Z7.length:=by have:=r'.length;simpa using this
 let alt:a<s.heap.objs.size:=by let(_,e,_):=pl.isList;exact iy e
 let hh:X.A.in1.handled=Φ:=I.ok.hd hc
 exact call_sum_walk (cY pl.isList ?_)
 exact⟨s.heap.objs.size,_,_,_,_,_,λi=>ns.getD i 0,rfl,iV hh s.heap.objs.size a (ii alt) Z7.toArray,⟨⟨_,cw _ rfl,rfl,rfl⟩,pl.isList.at λo e=>bx _ e⟩,?_,?_,?_,?_⟩
 ·intro b hb'
  simp at hb'
  rcases hb' with rfl|rfl
  ·show _<(s.heap.push _).objs.size;rw[gn];exact eA _
  ·show _<(s.heap.push _).objs.size;rw[gn];exact dD alt
 ·intro i v hv
  let hv:Z7.toArray[i]?=Ψ v:=hv
  let hi:i<ns.length:=by rw[hlen];simpa using (aH.mp hv).1
  let(t,e):=Vals.mapInt r' i hi
  exact⟨t,?_⟩
  let e':Z7.toArray[i]?=Ψ (.int (ns.getD i 0) t):=by simpa using e
  rw[hv] at e'
  exact fo e'
 ·intro j hj
  let hj':j<ns.length:=by rw[hlen];simpa using hj
  let hm:ns.getD j 0∈ns:=by simp[jc,hj']
  exact⟨?_,?_⟩
  ·have:=hb _ hm
   show -(2 ^ 63)<=ns.getD j 0/\ns.getD j 0<2 ^ 63
   lia
  ·rw[og ns (j+1) hj']
   let b2:=AQ 1099511627776 (·) (ns.take (j+1)) λn hn=>by have:=hb n (bQ hn);lia
   let l2:(ns.take (j+1)).length<=100000:=by rw[eI];unfold big at hz;lia
   unfold InLong;lia
 ·intro h' tk t' hk
  let e:preSum (λi=>ns.getD i 0) Z7.toArray.size=ns.sum:=by
   rw[dG,<- hlen,og ns _ (iK _),eE]
  rw[e]
  exact⟨.int ns.sum,H,?_,⟨t',rfl⟩,q⟩
  exact I.kept (t':=tk) λb o e=>hk b o (by simp;exact ii (iy e)) (bx _ e)
def AH {prog:jn}{w:jE}{A:jD}{Z7:List jF}{bs:List Bool}(r:Vals (bs.map V.bl) Z7):TruthOf prog w A (λi v=>Z7.toArray[i]?=Ψ v) (λi=>bs.getD i Ξ):=by
 intro i v s Q E hv hq
 let hlen:bs.length=Z7.length:=by have:=r.length;simpa using this
 let hi:i<bs.length:=by rw[hlen];simpa using (aH.mp hv).1
 let(u,e,ru):=r.get (i:=i) (x:=.bl (bs.getD i Ξ)) (by simp[hi])
 let e':Z7.toArray[i]?=Ψ u:=by simpa using e
 rw[hv] at e'
 cases e'
 cases ru
 exact iO hq
def zK (bs:List Bool):(i7 bs.length).all (λi=>bs.getD i Ξ)=bs.all id:=by
 rw[fL]
 simp![eO,gh,id]
 constructor
 ·intro h b hb
  let(i,hi,e):=bS.mp hb
  have:=h i hi
  simpa[jc,hi,e] using this
 ·intro h i hi
  have:=h bs[i] (eL hi)
  simpa[jc,hi] using this
def x5 (hc:X.calm=Ω):kN X (.builtin "all") (λxs H Q=>∃ (a:jP)(bs:List Bool),xs=[.ref a]/\SqL X.K H a (bs.map V.bl)/\Q (.bl (bs.all id)) H):=by
 intro Z9 s σ H xs us Q I r h
 let(a,bs,rfl,hq,q):=h
 let(u,rfl,rx):=vals1 r
 cases rx
 let(Z7,r',pl,hz'):=I.list hq
 let hlen:bs.length=Z7.length:=by have:=r'.length;simpa using this
 let alt:a<s.heap.objs.size:=by let(_,e,_):=pl.isList;exact iy e
 let hh:X.A.in1.handled=Φ:=I.ok.hd hc
 exact call_all_walk (cY pl.isList ?_)
 exact⟨s.heap.objs.size,_,_,_,_,_,λi=>bs.getD i Ξ,rfl,iV hh s.heap.objs.size a (ii alt) Z7.toArray,⟨⟨_,cw _ rfl,rfl,rfl⟩,pl.isList.at λo e=>bx _ e⟩,AH r',?_⟩
 intro h' tk hk
 rw[dG,<- hlen,zK]
 exact⟨.bl _,H,I.kept (t':=tk) λb o e=>hk b o (by simp;exact ii (iy e)) (bx _ e),rfl,q⟩
def LR (hc:X.calm=Ω):kN X (.builtin "sum") (Rc X.K vy):=by
 rintro Z9 s σ H xs us Q I r ⟨S,v,x,z,rfl,hs,rv,e,k⟩
 let(ps,e1,e2):=lV e
 let(n,e3,rfl):=oX e2
 let(ns,e4,e5):=lV e3
 let(hb,rfl):=ou e5
 let(a,ys,rfl,hq,ry):=rv.list hs e1
 cases mZ ry e4
 exact xZ hc Z9 s σ H _ us Q I r ⟨a,ns,rfl,hq,hb.1,λn hn=>?_,k.int⟩
 have:=eO.mp hb.2 n hn
 simpa[oJ] using this
def LW (hc:X.calm=Ω):kN X (.builtin "all") (Rc X.K Dl):=by
 rintro Z9 s σ H xs us Q I r ⟨S,v,x,z,rfl,hs,rv,e,k⟩
 let(ps,e1,e2):=lV e
 let(bs,e3,rfl):=oX e2
 let(a,ys,rfl,hq,ry):=rv.list hs e1
 cases sK ry e3
 exact x5 hc Z9 s σ H _ us Q I r ⟨a,bs,rfl,hq,k.bl⟩
def vz (hu:X.A.units+64<cLine)(hg:X.A.guards=Ψ []){Z9:List (jP×Obj)}{s:jw}{σ:L2.St}{v z:FV}{a:jP}(I:Inv X Z9 σ H s)(hs:Same S H)(rv:RH X.K S H v (.ref a))(e:GS v=Ψ z)(k:NewOr X.K S H Q z):wpAny (model X.prog X.w) X.A (iY (.type "str") [.ref a]) (EP X Z9 σ Q) X.xe s:=by
 let(d,e1,e2):=lV e
 let(hf,rfl):=ou e2
 let(as,ra):=mD I hs rv (show RelV (.ref a) (.ref a) from rfl) e1
 let hdp:=oy e1
 unfold kU at hdp
 exact str_of_reads (h₀:=s.heap) ra (C5 d hf.1).1 (λz=>by rw[wO] at z;cases z) hg ⋯ (λ_ _ h=>h) (λh' u' tk hk=>?_) (Ff hf.1 hf.2)
 exact⟨.str (nj d).shown,H,I.kept (t':=tk) hk,⟨u',rfl⟩,k.old _ (λ_ z=>nomatch z) rfl⟩
def LS (hu:X.A.units+64<cLine)(hg:X.A.guards=Ψ []):kN X (.type "str") (Rc X.K AR):=by
 rintro Z9 s σ H xs us Q I r ⟨S,v,x,z,rfl,hs,rv,e,k⟩
 let(u,rfl,ru):=vals1 r
 cases v with
 | int i =>
  let(hc,rfl):=ou e
  obtain rfl:=rv.int
  exact vk Z9 s σ H _ _ Q I r ⟨i,rfl,by have:=log2_lt (k:=150) (·) hc;lia,k.str⟩
 | non =>
  cases e
  cases (show x=.non from rv.val rfl);cases (show u=_ from ru)
  exact PySem.P.str_of_none ⟨.str _,H,I.tok _,⟨_,rfl⟩,k.str⟩
 | bl b =>
  cases e
  obtain rfl:=rv.bl
  cases (show u=_ from ru)
  exact PySem.P.str_of_bool ⟨.str (hW (if b then "True" else "False")),H,I.tok _,⟨_,by cases b<;>rfl⟩,k.str⟩
 | str x =>
  cases e
  cases (show _=V.str _ from rv.val rfl);let(t,rfl):=ru
  exact PySem.P.str_of_str ⟨.str _,H,I,⟨_,rfl⟩,k.str⟩
 | tup xs =>
  let(a,ys,rfl,_):=rv.tup hs
  cases (show u=_ from ru)
  exact vz hu hg I hs rv e k
 | lst xs =>
  let(a,ys,rfl,_):=rv.lst hs
  cases (show u=_ from ru)
  exact vz hu hg I hs rv e k
 | _=>cases e
end
structure CC where
 N:List Str
 sc:List (Str×jj)
 fns:List Str
 md:Md
 top:Bool
 oc:List (Str×jj)
 ms:List (Str×jP×Str)
 fl:List (jP×Str)
abbrev CC.vis (C:CC)(x:Str):Bool:=match C.sc.lookup x with
 | some .local=>Ω
 | some .cell=>Ω
 | some .free=>Ω
 | _=>Ξ
abbrev CC.gl (C:CC)(x:Str):Bool:=Δ (C.sc.lookup x=Ψ .globalImplicit)
abbrev CC.loc (C:CC)(x:Str):Bool:=match C.sc.lookup x with
 | some .local=>Ω
 | some .cell=>C.top || C.oc.lookup x == Ψ .cell
 | _=>Ξ
abbrev CC.nm (C:CC) (i:Nat)(x:Str):Bool:=Δ (C.N[i]?=Ψ x) && C.vis x && !(x == ("__debug__":Str)) && !(x == ("__classdict__":Str))
inductive MtOk (P:jn)(w:jE)(K:ib)(mg:Str->Option jF)(base:jM) (n:Nat)(s:Sp)(c:Str)(Ca:jP)(m:Str):Prop
 | mk (fa:_)(fd:_)(ps:_)(_:mg c=Ψ (.ref Ca))(_:Cls K Ca)(_:(m=("__init__":Str)->Mk K Ca fa))(_:(m≠("__init__":Str)->Meth K Ca m fa))(_:Binds K fd ps [])(_:FnOk P w K mg base w9 n fa fd ps s):MtOk P w K mg base n s c Ca m
structure Good (X:Cx)(C:CC) (n:Nat)(sp:ib->Nat->Sp):Prop where
 N:X.N=C.N
 sc:X.env.scope.names=C.sc
 kind:X.env.scope.kind=.function
 nd:C.N.Nodup
 calm:X.calm=Ω
 fn:∀ x,(C.top || C.oc.lookup x == Ψ .cell)=Ω->X.fn x=Ω
 room:RoomS n X.A
 fns:∀ (f:Nat)(x:Str),C.fns[f]?=Ψ x->∃ fa fd ps,X.mg x=Ψ (.ref fa)/\fY X.K (.ref fa)=Ω/\Binds X.K fd ps []/\FnOk X.prog X.w X.K X.mg X.base w9 n fa fd ps (sp X.K f)
 blt:∀ b∈bltNames,X.mg (hW b)=Φ
 mts:∀ (k:Nat)(c:Str)(Ca:jP)(m:Str),C.ms[k]?=Ψ (c,Ca,m)->MtOk X.prog X.w X.K X.mg X.base n (sp X.K (C.fns.length+k)) c Ca m
 fls:∀ p∈C.fl,Cls X.K p.1/\NoAttr X.K p.1 p.2
def b2 {a b:Bool}(h:(a && b)=Ω):a=Ω/\b=Ω:=by simpa using h
def nb {a:Bool}(h:(!a)=Ω):a=Ξ:=by simpa using h
def de {p:Prop} [Decidable p] (h:decide p=Ω):p:=by simpa using h
inductive lv (K:ib)(md:Md)(e:EW)(σ:L2.St)(H:Hp)(Q:VK):Prop
 | mk (c:_)(L:_)(S:_)(Q0:_)(_:Iv K c md L σ S H)(_:e L Q0)(_:∀ v L',Q0 v L'->∀ x S' H',RV K S' v x->Iv K c md L' σ S' H'->Same S S'->Q x H'):lv K md e σ H Q
inductive lr (K:ib)(md:Md)(e:EW)(σ:L2.St)(H:Hp)(Q:VK):Prop
 | mk (c:_)(L:_)(S:_)(Q0:_)(_:Iv K c md L σ S H)(_:e L Q0)(_:∀ v L',Q0 v L'->∀ x S' H',RH K S' H' v x->Iv K c md L' σ S' H'->Same S S'->Q x H'):lr K md e σ H Q
abbrev nR (c:Cn)(md:Md)(L:jR)(σ:L2.St)(a:jP):Prop:=c.H0 a=Φ/\(∀ p∈c.pr,p.1≠a)/\∀ j w,jX md j≠.imm->L[j]?=Ψ (Ψ w)->σ[j]?≠Ψ (Ψ (.ref a))
inductive lf (K:ib)(md:Md)(e:EW)(σ:L2.St)(H:Hp)(Q:VK):Prop
 | mk (c:_)(L:_)(S:_)(Q0:_)(_:Iv K c md L σ S H)(_:e L Q0)(_:∀ v L',Q0 v L'->∀ a S' H',OwnAt K S' H' a v->nR c md L' σ a->Iv K c md L' σ S' H'->Same S S'->Q (.ref a) H'):lf K md e σ H Q
inductive lb (K:ib)(md:Md)(e:BW)(σ:L2.St)(H:Hp)(Q:Bool->Hp->Prop):Prop
 | mk (c:_)(L:_)(S:_)(Q0:_)(_:Iv K c md L σ S H)(_:e L Q0)(_:∀ v L',Q0 v L'->∀ S' H',Iv K c md L' σ S' H'->Same S S'->Q v H'):lb K md e σ H Q
inductive la (K:ib)(md:Md)(e:AW)(σ:L2.St)(H:Hp)(Q:List V->Hp->Prop):Prop
 | mk (c:_)(L:_)(S:_)(Q0:_)(_:Iv K c md L σ S H)(_:e L Q0)(_:∀ v L',Q0 v L'->∀ x S' H',RVs K S' v x->Iv K c md L' σ S' H'->Same S S'->Q x H'):la K md e σ H Q
inductive lo (K:ib)(md:Md)(e:OW)(σ:L2.St)(H:Hp)(Q:Option Int->Hp->Prop):Prop
 | mk (c:_)(L:_)(S:_)(Q0:_)(_:Iv K c md L σ S H)(_:e L Q0)(_:∀ v L',Q0 v L'->∀ S' H',Iv K c md L' σ S' H'->Same S S'->Q v H'):lo K md e σ H Q
abbrev FE (X:Cx)(C:CC)(x:Expr)(e:EW):Prop:=PE X.nox x (lv X.K C.md e)
abbrev FR (X:Cx)(C:CC)(x:Expr)(e:EW):Prop:=PE X.nox x (lr X.K C.md e)
abbrev FF (X:Cx)(C:CC)(x:Expr)(e:EW):Prop:=PE X.nox x (lf X.K C.md e)
abbrev FB (X:Cx)(C:CC)(x:Expr)(e:BW):Prop:=PT X.nox x (lb X.K C.md e)
abbrev FW (X:Cx)(C:CC)(x:Expr)(e:BW):Prop:=PW X.nox x (lb X.K C.md e)
abbrev FA (X:Cx)(C:CC)(x:List Expr)(e:AW):Prop:=PA X.nox x (la X.K C.md e)
abbrev FO (X:Cx)(C:CC)(x:Option Expr)(e:OW):Prop:=L2.PO X.nox x (lo X.K C.md e)
section
variable {X:Cx}
def PE.imp {e:Expr}{t u:TE}(h:PE X e t)(f:∀ σ H Q,u σ H Q->t σ H Q):PE X e u:=λZ9 s σ H Q I hu=>h Z9 s σ H Q I (f σ H Q hu)
def PT.imp {e:Expr}{t u:TT}(h:PT X e t)(f:∀ σ H Q,u σ H Q->t σ H Q):PT X e u:=λZ9 s σ H Q I hu=>h Z9 s σ H Q I (f σ H Q hu)
def PW.imp {e:Expr}{t u:TT}(h:PW X e t)(f:∀ σ H Q,u σ H Q->t σ H Q):PW X e u:=λw Z9 s σ H Q I hu=>h w Z9 s σ H Q I (f σ H Q hu)
def PA.imp {e:List Expr}{t u:TA}(h:PA X e t)(f:∀ σ H Q,u σ H Q->t σ H Q):PA X e u:=λp Z9 s σ H Q I hu=>h p Z9 s σ H Q I (f σ H Q hu)
def PO.imp {e:Option Expr}{t u:TO}(h:L2.PO X e t)(f:∀ σ H Q,u σ H Q->t σ H Q):L2.PO X e u:=λZ9 s σ H Q I hu=>h Z9 s σ H Q I (f σ H Q hu)
end
section
variable {X:Cx}{C:CC}{n:Nat}{sp:ib->Nat->Sp}
def Good.vis (G:Good X C n sp){x:Str}(h:C.vis x=Ω):J0 X.env.scope x:=by
 unfold CC.vis at h
 unfold J0
 rw[G.sc]
 split at h
 ·rename_i e;exact .inl e
 ·rename_i e;exact .inr (.inl e)
 ·rename_i e;exact .inr (.inr e)
 ·cases h
def Good.gl (G:Good X C n sp){x:Str}(h:C.gl x=Ω):Gl X x:=by
 show X.env.scope.names.lookup x=_
 rw[G.sc];exact de h
def Good.loc (G:Good X C n sp){x:Str}(h:C.loc x=Ω):L2.Loc X.env.scope x/\(X.fn x=Ω ∨ X.env.scope.names.lookup x=Ψ .local):=by
 unfold CC.loc at h
 unfold L2.Loc
 rw[G.sc]
 split at h
 ·rename_i e;exact⟨.inl e,.inr e⟩
 ·rename_i e;exact⟨.inr e,.inl (G.fn x h)⟩
 ·cases h
variable {K:ib}{c:Cn}{md:Md}{L:jR}{σ:L2.St}{S H:Hp}
def Iv.rd (I:Iv K c md L σ S H){i:Nat}{v:FV}(e:lk L i=Ψ v):∃ x,σ[i]?=Ψ (Ψ x)/\RH K S H v x:=by
 rw[kP] at e
 by_cases m:jX md i=.imm
 ·let(x,h1,h2):=I.imm i v m e
  exact⟨x,h1,.inl h2⟩
 ·let(a,h1,h2,_):=I.own i v m e
  exact⟨_,h1,.inr ⟨a,rfl,h2⟩⟩
def o9 {Q:VK}{z:FV}(I:Iv K c md L σ S H)(k:∀ x S' H',RV K S' z x->Iv K c md L σ S' H'->Same S S'->Q x H'):NewOr K S H Q z where
 old:=λx _ r=>k x S H r I (Same.refl S)
 tup:=λps xs p e r hp=>k _ _ _ (by rw[e];exact⟨p,xs,rfl,jV,r.mono (kI (I.sn hp))⟩) (I.new hp _) (kI (I.sn hp))
 lst:=λps xs p e r hp=>k _ _ _ (by rw[e];exact⟨p,xs,rfl,jV,r.mono (kI (I.sn hp))⟩) (I.new hp _) (kI (I.sn hp))
def Iv.fresh (I:Iv K c md L σ S H){p:jP}(h:H p=Φ):nR c md L σ p:=by
 exact⟨I.h0 h,λq hq z=>?_,λj w m e z=>?_⟩
 ·rw[<- z,(I.prs q hq).1] at h;cases h
 ·let(a,e1,(_,_,_,_,e2,_),_):=I.own j w m e
  rw[z] at e1;cases e1
  rw[h] at e2;cases e2
def yC {Q:VK}{z:FV}(I:Iv K c md L σ S H)(hz:∃ ps,z=.lst ps)(k:∀ a S' H',OwnAt K S' H' a z->nR c md L σ a->Iv K c md L σ S' H'->Same S S'->Q (.ref a) H'):NewOr K S H Q z where
 old:=λx n _=>let ⟨ps,e⟩:=hz;absurd e (n ps)
 tup:=λps xs p e r hp=>by let(qs,e2):=hz;rw[e2] at e;cases e
 lst:=λps xs p e r hp=>by subst e;exact k p S _ ⟨I.sn hp,ps,xs,rfl,jV,r⟩ (I.fresh hp) (I.lay hp _) (Same.refl S)
def u5 (G:Good X C n sp){i:Nat}{x:Str}{pos:Pos}(h:C.nm i x=Ω)(m:jX C.md i=.imm):FE X C (.Name x pos) (jQ i):=by
 let h:=b2 h;let h1:=b2 h.1;let h2:=b2 h1.1
 exact PE.imp (uL (by show X.N[i]?=_;rw[G.N];exact de h2.1) (G.vis h2.2) (nb h1.2) (nb h.2)) λσ H Q ⟨c,L,S,Q0,I,h,k⟩=>?_
 let(v,e,q):=kq h
 let(x,e1,r):=I.imm i v m ((kP _ _ _).mp e)
 exact⟨x,e1,k v L q x S H r I (Same.refl S)⟩
def OL (G:Good X C n sp){i:Nat}{x:Str}{pos:Pos}(h:C.nm i x=Ω):FR X C (.Name x pos) (jQ i):=by
 let h:=b2 h;let h1:=b2 h.1;let h2:=b2 h1.1
 exact PE.imp (uL (by show X.N[i]?=_;rw[G.N];exact de h2.1) (G.vis h2.2) (nb h1.2) (nb h.2)) λσ H Q ⟨c,L,S,Q0,I,h,k⟩=>?_
 let(v,e,q):=kq h
 let(x,e1,r):=I.rd e
 exact⟨x,e1,k v L q x S H r I (Same.refl S)⟩
def rY {x:Expr}{e:EW}(h:FE X C x e):FR X C x e:=PE.imp h λσ H Q q1=>by let(c,L,S,Q0,I,h,k):=q1;exact⟨c,L,S,Q0,I,h,λv L' q x S' H' r=>k v L' q x S' H' (.inl r)⟩
def E5 {x:Expr}{v:FV}{u:V}(h:PE X.nox x (tC u))(r:∀ S,RV X.K S v u):FE X C x (eC v):=PE.imp h λσ H Q q1=>by let(c,L,S,Q0,I,h,k):=q1;exact k v L h u S H (r S) I (Same.refl S)
def Ih {i j pos}:FE X C (.Constant (.int i) j pos) (eC (.int i)):=E5 Hh λ_=>rfl
def Gq {i j pos}:FE X C (.Constant (.bool i) j pos) (eC (.bl i)):=E5 KO λ_=>rfl
def O2 {j pos}:FE X C (.Constant .none j pos) (eC .non):=E5 Hg λ_=>rfl
def u6 {i:String} {j pos}:FE X C (.Constant (.str (hW i)) j pos) (eC (.str i)):=E5 Bs λ_=>rfl
section
variable {f:FV->FV->Option FV}{a b:Expr}{ea eb:EW}{pos:Pos}{i:Nat}{x:Str}
def ki (G:Good X C n sp)(h:C.nm i x=Ω):PE X.nox (.Name x pos) (tVar i):=by
 let h:=b2 h;let h1:=b2 h.1;let h2:=b2 h1.1
 exact uL (by show X.N[i]?=_;rw[G.N];exact de h2.1) (G.vis h2.2) (nb h1.2) (nb h.2)
def MO {r:R2}{σ:L2.St}{H:Hp}{Q:VK}(hh:∃ (c:Cn)(L:jR)(S:Hp)(Q0:FV->FV->jR->Prop),Iv K c md L σ S H/\ea L (λx L1=>eb L1 λy L2=>Q0 x y L2)/\∀ v w L' S' H' x y,Q0 v w L'->RV K S' v x->RH K S' H' w y->Iv K c md L' σ S' H'->Same S S'->r x y H' Q):F2 r (lv K md ea) (lr K md eb) σ H Q:=by
 let(c,L,S,Q0,I,h,k):=hh
 exact⟨c,L,S,_,I,h,λv L1 hv x S1 H1 r1 I1 s1=>⟨c,L1,S1,_,I1,hv,λw L2 hw y S2 H2 r2 I2 s2=>k v w L2 S2 H2 x y hw (r1.mono s2) r2 I2 (s1.trans s2)⟩⟩
def Li {r:R2}{σ:L2.St}{H:Hp}{Q:VK}(hh:∃ (c:Cn)(L:jR)(S:Hp)(Q0:FV->FV->jR->Prop),Iv K c md L σ S H/\(wp (lk L i) λ_=>eb L λy L1=>wp (lk L1 i) λx=>Q0 x y L1)/\∀ v w L' S' H' x y,Q0 v w L'->RH K S' H' v x->RH K S' H' w y->Iv K c md L' σ S' H'->Same S S'->r x y H' Q):F2 r (tVar i) (lr K md eb) σ H Q:=by
 let(c,L,S,Q0,I,h,k):=hh
 let(_,e,h):=kq h
 let(x,e1,_):=I.rd e
 exact⟨x,e1,c,L,S,_,I,h,λw L2 hw y S2 H2 r2 I2 s2=>?_⟩
 let(v,e2,q):=kq hw
 let(x',e3,r1):=I2.rd e2
 rw[e1] at e3;cases e3
 exact k v w L2 S2 H2 x y q r1 r2 I2 s2
def KB {Q0:FV->jR->Prop}{Q:VK}{v w:FV}{x y:V}(I:Iv K c md L σ S H)(rv:RH K S H v x)(rw':RH K S H w y)(h:wp (f v w) λz=>Q0 z L)(k:∀ z,Q0 z L->∀ x S' H',RV K S' z x->Iv K c md L σ S' H'->Same S S'->Q x H'):Rq K f x y H Q:=by
 let(z,e,q):=kq h
 exact⟨S,v,w,z,I.sub,rv,rw',e,o9 I (k z q)⟩
def KR (h:PE X.nox a (F2 (Rq X.K f) (lv X.K C.md ea) (lr X.K C.md eb))):FE X C a (j0 f ea eb):=PE.imp h λσ H Q ⟨c,L,S,Q0,I,h,k⟩ =>
 MO ⟨c,L,S,λx y L2=>wp (f x y) λz=>Q0 z L2,I,h,λv w L' S' H' x y q r1 r2 I' s'=>KB I' (.inl r1) r2 q λz qz x S2 H2 r I2 s2=>k z L' qz x S2 H2 r I2 (s'.trans s2)⟩
def Op (h:PE X.nox a (F2 (Rq X.K f) (tVar i) (lr X.K C.md eb))):FE X C a (mh f i eb):=PE.imp h λσ H Q ⟨c,L,S,Q0,I,h,k⟩ =>
 Li ⟨c,L,S,λx y L2=>wp (f x y) λz=>Q0 z L2,I,h,λv w L' S' H' x y q r1 r2 I' s'=>KB I' r1 r2 q λz qz x S2 H2 r I2 s2=>k z L' qz x S2 H2 r I2 (s'.trans s2)⟩
variable {op:ji}
def sh (ho:mI X.nox (binaryOp op) (Rq X.K f))(ha:FE X C a ea)(hb:FR X C b eb):FE X C (.BinOp a op b pos) (j0 f ea eb):=KR (Gb ho ha hb)
def Pe (ha:FE X C a ea)(hb:FR X C b eb):FE X C (.BinOp a .Add b pos) (j0 kC ea eb):=sh KI ha hb
def OX (ha:FE X C a ea)(hb:FR X C b eb):FE X C (.BinOp a .Sub b pos) (j0 DH ea eb):=sh KC ha hb
def O4 (ha:FE X C a ea)(hb:FR X C b eb):FE X C (.BinOp a .Mult b pos) (j0 pi ea eb):=sh F6 ha hb
def Nr (ha:FE X C a ea)(hb:FR X C b eb):FE X C (.BinOp a .FloorDiv b pos) (j0 wI ea eb):=sh G0 ha hb
def O5 (ha:FE X C a ea)(hb:FR X C b eb):FE X C (.BinOp a .Mod b pos) (j0 rH ea eb):=sh KF ha hb
def OZ (ha:FE X C a ea)(hb:FR X C b eb):FE X C (.BinOp a .Pow b pos) (j0 DY ea eb):=sh KE ha hb
abbrev oQ (f:FV->FV->Option FV)(v w:FV):Option FV:=(f v w).bind λz=>(oo z).map λxs=>.lst xs
def Lq (ho:mI X.nox (binaryOp op) (Rq X.K f))(ha:FE X C a ea)(hb:FR X C b eb):FF X C (.BinOp a op b pos) (j0 (oQ f) ea eb):=PE.imp (Gb ho ha hb) λσ H Q ⟨c,L,S,Q0,I,h,k⟩ =>
 MO ⟨c,L,S,λx y L2=>wp (oQ f x y) λz=>Q0 z L2,I,h,λv w L' S' H' x y q r1 r2 I' s'=>by
  let(z,e,q):=kq q
  let(z',e1,e2):=lV e
  let(xs,e3,rfl):=oX e2
  cases mK e3
  exact⟨S',v,w,_,I'.sub,.inl r1,r2,e1,yC I' ⟨xs,rfl⟩ λa S2 H2 o fr I2 s2=>k _ L' q a S2 H2 o fr I2 (s'.trans s2)⟩⟩
def OS (ha:FE X C a ea)(hb:FR X C b eb):FF X C (.BinOp a .Mult b pos) (j0 (oQ pi) ea eb):=Lq F6 ha hb
variable {cop:jK}
def CQ (ho:mI X.nox (compareOp cop) (Rq X.K f))(ha:FE X C a ea)(hb:FR X C b eb)(hm:behindInMarks cop b=Ξ):FE X C (.Compare a [cop] [b] pos) (j0 f ea eb):=KR (yv ho ha hb hm)
def E4 (ho:mI X.nox (compareOp cop) (Rq X.K f))(G:Good X C n sp){p:Pos}(h:C.nm i x=Ω)(hb:FR X C b eb)(hm:behindInMarks cop b=Ξ):FE X C (.Compare (.Name x p) [cop] [b] pos) (mh f i eb):=Op (yv ho (ki G h) hb hm)
abbrev sL (f:FV->FV->Option FV):Prop:=∀ v w z,f v w=Ψ z->∃ b,z=.bl b
def GH {Q0:Bool->jR->Prop}{Q:Bool->Hp->Prop}{v w:FV}{x y:V}(tb:sL f)(I:Iv K c md L σ S H)(rv:RH K S H v x)(rw':RH K S H w y)(h:wp (f v w) λz=>wp (nq z) λb=>Q0 b L)(k:∀ z,Q0 z L->Q z H):Rq K f x y H (λx H'=>∃ k,x=.bl k/\Q k H'):=by
 let(z,e,q):=kq h
 let(b,rfl):=tb v w z e
 exact⟨S,v,w,_,I.sub,rv,rw',e,⟨λx _ r=>⟨b,r,k b q⟩,λ_ _ _ e=>(nomatch e),λ_ _ _ e=>(nomatch e)⟩⟩
def u7 (tb:sL f)(ho:mI X.nox (compareOp cop) (Rq X.K f))(ha:FE X C a ea)(hb:FR X C b eb)(hm:behindInMarks cop b=Ξ):FB X C (.Compare a [cop] [b] pos) (ke (j0 f ea eb)):=PT.imp (DS ho ha hb hm) λσ H Q ⟨c,L,S,Q0,I,h,k⟩ =>
 MO ⟨c,L,S,λx y L2=>wp (f x y) λz=>wp (nq z) λb=>Q0 b L2,I,h,λv w L' S' H' x y q r1 r2 I' s'=>GH tb I' (.inl r1) r2 q λz qz=>k z L' qz S' H' I' s'⟩
end
end
abbrev j9:Expr->Bool|.Starred ..=>Ω|_=>Ξ
abbrev mL:Expr->Bool|.Slice ..=>Ω|_=>Ξ
abbrev Bm:Expr->Bool
 | .UnaryOp .Not _ _=>Ξ
 | .BoolOp ..=>Ξ
 | .IfExp ..=>Ξ
 | .Compare ..=>Ξ
 | _=>Ω
section
variable {X:Cx}{C:CC}{n:Nat}{sp:ib->Nat->Sp}{a b x y:Expr}{ea eb:EW}{pos:Pos}
def jU {xs:List Expr}{env:Env}(h:j9 x=Ξ):starEach (x :: xs) env=(Ξ,eval x env) :: starEach xs env:=by
 cases x<;>first|rfl|(cases h;done)
def pH (h:mL y=Ξ):zk y:=by
 intro o i
 cases y<;>first|rfl|(cases h;done)
def uK {env:Env}(h:Bm x=Ω):∀ nZ,isTrue x env nZ=(do let v <- nZ;standAt x.pos;holding [v] (PySem.truthy v)):=by
 intro nZ
 cases x<;>first|rfl|(cases h;done)|(rename_i op x pos;cases op<;>first|rfl|(cases h;done))
def fe_eq (G:Good X C n sp)(ha:FE X C a ea)(hb:FR X C b eb):FE X C (.Compare a [.Eq] [b] pos) (j0 nW ea eb):=CQ (G1 G.room.units) ha hb (l9 _ (·) (·))
def fe_ge (ha:FE X C a ea)(hb:FR X C b eb):FE X C (.Compare a [.GtE] [b] pos) (j0 MP ea eb):=CQ On ha hb (l9 _ (·) (·))
def AJ {f:FV->FV->Option Bool}{g:Bool->FV}(h:∀ b,∃ c,g b=.bl c):sL λv w=>(f v w).map g:=λv w z e=>by
 let(b,_,rfl):=oX e
 exact h b
def AK {f:Int->Int->Bool}:sL (mn λi j=>Ψ (.bl (f i j))):=λv w z e=>by
 let(i,_,e):=lV e
 let(j,_,e):=lV e
 cases e;exact⟨_,rfl⟩
def Kb:sL Dt:=λv w z e=>by
 cases v with
 | tup xs =>
  let(_,_,e):=lV e
  let(_,_,e):=lV e
  let(_,_,e):=lV e
  cases e;exact⟨_,rfl⟩
 | _=>exact AK _ w z e
def fb_eq (G:Good X C n sp)(ha:FE X C a ea)(hb:FR X C b eb):FB X C (.Compare a [.Eq] [b] pos) (ke (j0 nW ea eb)):=u7 (AJ λb=>⟨b,rfl⟩) (G1 G.room.units) ha hb (l9 _ (·) (·))
def LB (G:Good X C n sp)(ha:FE X C a ea)(hb:FR X C b eb):FB X C (.Compare a [.NotEq] [b] pos) (ke (j0 yD ea eb)):=u7 (AJ λb=>⟨!b,rfl⟩) (Oj G.room.units) ha hb (l9 _ (·) (·))
def fb_lt (G:Good X C n sp)(ha:FE X C a ea)(hb:FR X C b eb):FB X C (.Compare a [.Lt] [b] pos) (ke (j0 Dt ea eb)):=u7 Kb (Ol G.room.units) ha hb (l9 _ (·) (·))
def fb_gt (ha:FE X C a ea)(hb:FR X C b eb):FB X C (.Compare a [.Gt] [b] pos) (ke (j0 HR ea eb)):=u7 AK Om ha hb (l9 _ (·) (·))
variable {i:Nat}{nx:Str}{p:Pos}
def Pa (G:Good X C n sp)(h:C.nm i nx=Ω)(hb:FR X C b eb):FE X C (.Compare (.Name nx p) [.Eq] [b] pos) (mh nW i eb):=E4 (G1 G.room.units) G h hb (l9 _ (·) (·))
end
section
variable {X:Cx}{C:CC}{n:Nat}{sp:ib->Nat->Sp}{a b d x:Expr}{ea eb:EW}{ba bb:BW}{pos p:Pos}
variable {K:ib}{S H:Hp}
def BG {v:FV}{x:V}(r1:RH K S H v x):lz v=Ψ (.bl (Δ (x=V.non)))/\pK v=Ψ (.bl (!Δ (x=V.non))):=by
 rcases r1 with r1|⟨a,rfl,_,ps,xs,e9,_⟩
 ·cases v<;>first|(cases (show x=_ from r1);exact⟨rfl,rfl⟩;done)|(let(a,_,rfl,_):=r1;exact⟨rfl,rfl⟩;done)|(let(a,rfl,_):=r1;exact⟨rfl,rfl⟩;done)
 ·cases v<;>first|(cases e9;done)|exact⟨rfl,rfl⟩
def CT {j pos'}(ha:FR X C a ea):FB X C (.Compare a [.Is] [.Constant .none j pos'] pos) (ke (kG lz ea)):=PT.imp (xr (Hj ha)) λσ H Q q1=>by let(c,L,S,Q0,I,h,k):=q1;exact
 ⟨c,L,S,_,I,h,λv L1 hv x S1 H1 r1 I1 s1=>by
  let(z,e3,q):=kq hv
  rw[(BG r1).1] at e3;cases e3
  exact⟨_,rfl,k _ L1 q S1 H1 I1 s1⟩⟩
def Nv {j pos'}(ha:FR X C a ea):FB X C (.Compare a [.IsNot] [.Constant .none j pos'] pos) (ke (kG pK ea)):=PT.imp (xr (Eb ha)) λσ H Q q1=>by let(c,L,S,Q0,I,h,k):=q1;exact
 ⟨c,L,S,_,I,h,λv L1 hv x S1 H1 r1 I1 s1=>by
  let(z,e3,q):=kq hv
  rw[(BG r1).2] at e3;cases e3
  exact⟨_,rfl,k _ L1 q S1 H1 I1 s1⟩⟩
def O1 (ha:FE X C a ea):FE X C (.UnaryOp .Not a pos) (kG Em ea):=PE.imp (Hf ha) λσ H Q q1=>by let(c,L,S,Q0,I,h,k):=q1;exact
 ⟨c,L,S,_,I,h,λv L1 hv x S1 H1 r1 I1 s1=>by
  let(z,e,q):=kq hv
  let(b,e1,rfl):=oX e
  cases Ja e1
  exact⟨b,r1,k _ L1 q _ S1 H1 rfl I1 s1⟩⟩
def O3 (ha:FE X C a ea):FE X C (.UnaryOp .USub a pos) (kG HA ea):=PE.imp (KN GD ha) λσ H Q q1=>by let(c,L,S,Q0,I,h,k):=q1;exact
 ⟨c,L,S,_,I,h,λv L1 hv x S1 H1 r1 I1 s1=>by
  let(z,e,q):=kq hv
  let(b,e1,rfl):=oX e
  cases kS e1
  exact⟨b,r1,k _ L1 q _ S1 H1 rfl I1 s1⟩⟩
def ur {v:FV}{u:V}{t:Bool}(s:Same S H)(r:RH K S H v u)(e:nq v=Ψ t):Dn K u H t:=by
 let em:∀ {ps:List FV}{xs:List V},RVs K S ps xs->(!ps.isEmpty) = !xs.isEmpty:=λ{ps xs} h=>by cases ps<;>cases xs<;>first|rfl|(have:=h.length;simp at this)
 cases v with
 | non=>cases (show u=V.non from r.val rfl);cases e;exact rfl
 | bl c=>cases r.bl;cases e;exact rfl
 | int c=>cases r.int;cases e;exact rfl
 | str c=>cases e
 | shn c=>cases e
 | dct _ _=>cases e
 | dci _ _=>cases e
 | dcz _ _ _=>cases e
 | obj _ _ _ _=>cases e
 | dcn _ _ _=>cases e
 | adr _=>cases e
 | dco _ _ _=>cases e
 | shf _ _ _ _=>cases e
 | tup ps =>
  let(a,xs,rfl,h1,h2):=r.tup s
  cases e
  exact .inr (.inl ⟨xs,SqT.of h1,em h2⟩)
 | lst l =>
  let(a,xs,rfl,h1,h2):=r.lst s
  cases e
  exact .inl ⟨xs,SqL.of h1,em h2⟩
 | scr ns =>
  cases e
  let(a,xs,rfl,h1,h2):=r.list s (show lN (.scr ns)=_ from rfl)
  exact .inl ⟨_,h1,?_⟩
  rw[<- em h2];cases ns<;>rfl
def Ea {rest:List Expr}{ta tb:TE}(ha:PE X a ta)(hb:PE X (.BoolOp .And (b :: rest) pos) tb) :
  PE X (.BoolOp .And (a :: b :: rest) pos) (λσ H Q=>ta σ H λx H1=>∃ c,Dn X.K x H1 c/\(if c=Ω then tb σ H1 Q else Q x H1)):=by
 intro Z9 s σ H Q I h
 exact BoolOp_and (ko (ha Z9 s σ H _ I h) λv s1 ⟨x,H1,I1,r1,c,tv,q1⟩=>?_)
 exact ko (xj Z9 s1 σ H1 x v (λc' H'=>c'=c/\H'=H1) I1 r1 ⟨c,tv,rfl,rfl⟩) λb s2 q2=>?_;let(H2,I2,e1,e2):=q2
 subst e1 e2
 cases b with
 | true=>exact hb Z9 s2 σ H2 Q I2 (by simpa using q1)
 | false=>exact⟨x,H2,I2,r1,by simpa using q1⟩
def Hd {rest:List Expr}{ta tb:TE}(ha:PE X a ta)(hb:PE X (.BoolOp .Or (b :: rest) pos) tb) :
  PE X (.BoolOp .Or (a :: b :: rest) pos) (λσ H Q=>ta σ H λx H1=>∃ c,Dn X.K x H1 c/\(if c=Ω then Q x H1 else tb σ H1 Q)):=by
 intro Z9 s σ H Q I h
 exact BoolOp_or (ko (ha Z9 s σ H _ I h) λv s1 ⟨x,H1,I1,r1,c,tv,q1⟩=>?_)
 exact ko (xj Z9 s1 σ H1 x v (λc' H'=>c'=c/\H'=H1) I1 r1 ⟨c,tv,rfl,rfl⟩) λb s2 q2=>?_;let(H2,I2,e1,e2):=q2
 subst e1 e2
 cases b with
 | false=>exact hb Z9 s2 σ H2 Q I2 (by simpa using q1)
 | true=>exact⟨x,H2,I2,r1,by simpa using q1⟩
def O0 {op:BoolOp}(ha:FE X C a ea):FE X C (.BoolOp op [a] pos) ea:=He ha
def Pc {rest:List Expr}(ha:FE X C a ea)(hb:FE X C (.BoolOp .And (b :: rest) pos) eb):FE X C (.BoolOp .And (a :: b :: rest) pos) (qQ ea eb):=PE.imp (Ea ha hb) λσ H Q q1=>by let(c,L,S,Q0,I,h,k):=q1;exact
 ⟨c,L,S,_,I,h,λv L1 hv x S1 H1 r1 I1 s1=>by
  let(t,e,q):=kq hv
  exact⟨t,ur I1.sub (.inl r1) e,?_⟩
  cases t with
  | true=>exact⟨c,L1,S1,Q0,I1,q,λv L' q x S' H' r I' s'=>k v L' q x S' H' r I' (s1.trans s')⟩
  | false=>exact k v L1 q x S1 H1 r1 I1 s1⟩
def fe_or {rest:List Expr}(ha:FE X C a ea)(hb:FE X C (.BoolOp .Or (b :: rest) pos) eb):FE X C (.BoolOp .Or (a :: b :: rest) pos) (PU ea eb):=PE.imp (Hd ha hb) λσ H Q q1=>by let(c,L,S,Q0,I,h,k):=q1;exact
 ⟨c,L,S,_,I,h,λv L1 hv x S1 H1 r1 I1 s1=>by
  let(t,e,q):=kq hv
  exact⟨t,ur I1.sub (.inl r1) e,?_⟩
  cases t with
  | false=>exact⟨c,L1,S1,Q0,I1,q,λv L' q x S' H' r I' s'=>k v L' q x S' H' r I' (s1.trans s')⟩
  | true=>exact k v L1 q x S1 H1 r1 I1 s1⟩
def fe_if (hc:FB X C d ba)(ha:FE X C a ea)(hb:FE X C b eb):FE X C (.IfExp d a b pos) (Fd ba ea eb):=PE.imp (Bu hc ha hb) λσ H Q q1=>by let(c,L,S,Q0,I,h,k):=q1;exact
 ⟨c,L,S,_,I,h,λt L1 hv S1 H1 I1 s1=>by
  cases t with
  | true=>exact⟨c,L1,S1,Q0,I1,hv,λv L' q x S' H' r I' s'=>k v L' q x S' H' r I' (s1.trans s')⟩
  | false=>exact⟨c,L1,S1,Q0,I1,hv,λv L' q x S' H' r I' s'=>k v L' q x S' H' r I' (s1.trans s')⟩⟩
def IP (hp:Bm a=Ω)(ha:FR X C a ea):FB X C a (ke ea):=PT.imp (Be ha (uK hp)) λσ H Q q1=>by let(c,L,S,Q0,I,h,k):=q1;exact
 ⟨c,L,S,_,I,h,λv L1 hv x S1 H1 r1 I1 s1=>by
  let(t,e,q):=kq hv
  exact⟨t,ur I1.sub r1 e,k t L1 q S1 H1 I1 s1⟩⟩
def IQ (ha:FB X C a ba):FB X C (.UnaryOp .Not a pos) (pv ba):=PT.imp (G6 ha) λσ H Q q1=>by let(c,L,S,Q0,I,h,k):=q1;exact⟨c,L,S,_,I,h,λt L1 hv S1 H1 I1 s1=>k _ L1 hv S1 H1 I1 s1⟩
def MQ (ha:FB X C a ba):FW X C (.BoolOp .And [a] pos) ba:=DR ha
def HV (ha:FB X C a ba):FW X C (.BoolOp .Or [a] pos) ba:=G4 ha
def OH {rest:List Expr}(ha:FB X C a ba)(hb:FW X C (.BoolOp .And (b :: rest) pos) bb):FW X C (.BoolOp .And (a :: b :: rest) pos) (Dj ba bb):=PW.imp (G5 ha hb) λσ H Q q1=>by let(c,L,S,Q0,I,h,k):=q1;exact
 ⟨c,L,S,_,I,h,λt L1 hv S1 H1 I1 s1=>by
  cases t with
  | true=>exact⟨c,L1,S1,Q0,I1,hv,λv L' q S' H' I' s'=>k v L' q S' H' I' (s1.trans s')⟩
  | false=>exact k _ L1 hv S1 H1 I1 s1⟩
def Ll {rest:List Expr}(ha:FB X C a ba)(hb:FW X C (.BoolOp .Or (b :: rest) pos) bb):FW X C (.BoolOp .Or (a :: b :: rest) pos) (Ax ba bb):=PW.imp (KJ ha hb) λσ H Q q1=>by let(c,L,S,Q0,I,h,k):=q1;exact
 ⟨c,L,S,_,I,h,λt L1 hv S1 H1 I1 s1=>by
  cases t with
  | false=>exact⟨c,L1,S1,Q0,I1,hv,λv L' q S' H' I' s'=>k v L' q S' H' I' (s1.trans s')⟩
  | true=>exact k _ L1 hv S1 H1 I1 s1⟩
def Pt (h:FW X C a ba):FB X C a ba:=PW.pt h
def CU:FA X C [] jW:=PA.imp kF λσ H Q q1=>by let(c,L,S,Q0,I,h,k):=q1;exact k [] L h [] S H rfl I (Same.refl S)
def oS {xs:List Expr}{as:AW}(hs:j9 a=Ξ)(ha:FE X C a ea)(hr:FA X C xs as):FA X C (a :: xs) (jS ea as):=PA.imp (ka ha hr (jU hs)) λσ H Q q1=>by let(c,L,S,Q0,I,h,k):=q1;exact
 ⟨c,L,S,_,I,h,λv L1 hv x S1 H1 r1 I1 s1=>⟨c,L1,S1,_,I1,hv,λvs L2 hvs us S2 H2 r2 I2 s2=>k _ L2 hvs _ S2 H2 ⟨x,us,rfl,r1.mono s2,r2⟩ I2 (s1.trans s2)⟩⟩
def OU {xs:List Expr}{as:AW}{m:Nat}(h:FA X C xs as):FE X C (.Tuple xs m pos) (nL as):=PE.imp (Br h) λσ H Q q1=>by let(c,L,S,Q0,I,h,k):=q1;exact
 ⟨c,L,S,_,I,h,λvs L1 hv us S1 H1 r1 I1 s1=>⟨by have:=kM;rw[<- r1.length];exact ik hv.1 this,λp hp=>(o9 I1 λx S' H' r I' s'=>k _ L1 hv.2 x S' H' r I' (s1.trans s')).tup _ _ p rfl r1 hp⟩⟩
def CP {xs:List Expr}{as:AW}(h:FA X C xs as):FE X C (.List xs pos) (m7 as):=PE.imp (xx h) λσ H Q q1=>by let(c,L,S,Q0,I,h,k):=q1;exact
 ⟨c,L,S,_,I,h,λvs L1 hv us S1 H1 r1 I1 s1=>⟨by have:=kM;rw[<- r1.length];exact ik hv.1 this,λp hp=>(o9 I1 λx S' H' r I' s'=>k _ L1 hv.2 x S' H' r I' (s1.trans s')).lst _ _ p rfl r1 hp⟩⟩
def OT {xs:List Expr}{as:AW}(h:FA X C xs as):FF X C (.List xs pos) (m7 as):=PE.imp (xx h) λσ H Q q1=>by let(c,L,S,Q0,I,h,k):=q1;exact
 ⟨c,L,S,_,I,h,λvs L1 hv us S1 H1 r1 I1 s1=>⟨by have:=kM;rw[<- r1.length];exact ik hv.1 this,λp hp=>(yC I1 ⟨vs,rfl⟩ λa S' H' o fr I' s'=>k _ L1 hv.2 a S' H' o fr I' (s1.trans s')).lst _ _ p rfl r1 hp⟩⟩
def Lx (hs:mL b=Ξ)(ha:FE X C a ea)(hb:FR X C b eb):FE X C (.Subscript a b pos) (j0 lH ea eb):=PE.imp (Gc KH ha hb (pH hs)) λσ H Q ⟨c,L,S,Q0,I,h,k⟩ =>
 MO ⟨c,L,S,λx y L2=>wp (lH x y) λz=>Q0 z L2,I,h,λv w L' S' H' x y q r1 r2 I' s'=>by
  let(z,e,q):=kq q
  exact⟨S',v,w,z,I'.sub,.inl r1,r2,e,λu r=>k z L' q u S' H' r I' s'⟩⟩
def O7 (G:Good X C n sp){i:Nat}{nx:Str}(hs:mL b=Ξ)(h:C.nm i nx=Ω)(hb:FR X C b eb):FE X C (.Subscript (.Name nx p) b pos) (mh lH i eb):=PE.imp (Gc KH (ki G h) hb (pH hs)) λσ H Q ⟨c,L,S,Q0,I,h,k⟩ =>
 Li ⟨c,L,S,λx y L2=>wp (lH x y) λz=>Q0 z L2,I,h,λv w L' S' H' x y q r1 r2 I' s'=>by
  let(z,e,q):=kq q
  exact⟨S',v,w,z,I'.sub,r1,r2,e,λu r=>k z L' q u S' H' r I' s'⟩⟩
def M6:FO X C Φ lM:=PO.imp D0 λσ H Q q1=>by let(c,L,S,Q0,I,h,k):=q1;exact k Φ L h S H I (Same.refl S)
def M5 (h:FE X C a ea):FO X C (Ψ a) (kX ea):=PO.imp (DZ h) λσ H Q q1=>by let(c,L,S,Q0,I,h,k):=q1;exact
 ⟨c,L,S,_,I,h,λv L1 hv x S1 H1 r1 I1 s1=>by
  let(i,e,q):=kq hv
  cases kS e
  exact⟨i,r1,k _ L1 q S1 H1 I1 s1⟩⟩
variable {xl xh:Option Expr}{wl wh:OW}{p2:Pos}
def fe_sl (ha:FE X C a ea)(hl:FO X C xl wl)(hh:FO X C xh wh):FE X C (.Subscript a (.Slice xl xh Φ p2) pos) (sZ ea wl wh):=PE.imp (vS Oi ha hl hh) λσ H Q q1=>by let(c,L,S,Q0,I,h,k):=q1;exact
 ⟨c,L,S,_,I,h,λv L1 hv x S1 H1 r1 I1 s1=>⟨c,L1,S1,_,I1,hv,λo1 L2 h1 S2 H2 I2 s2=>⟨c,L2,S2,_,I2,h1,λo2 L3 h2 S3 H3 I3 s3=>by
  let(z,e,q):=kq h2
  exact⟨S3,v,z,I3.sub,.inl (r1.mono (s2.trans s3)),e,o9 I3 λx S' H' r I' s'=>k z L3 q x S' H' r I' (s1.trans (s2.trans (s3.trans s')))⟩⟩⟩⟩
end
section
variable {X:Cx}{C:CC}{n:Nat}{sp:ib->Nat->Sp}{a b:Expr}{ea eb:EW}{pos p:Pos}
variable {K:ib}{md:Md}{σ:L2.St}{S H:Hp}{i:Nat}{nx:Str}
variable {p2:Pos}
def Gw {f:FV->Option FV}{Q:VK}(hh:lv K md (kG f ea) σ H Q):N8 (Rc K f) (vq (lr K md ea) Kj) σ H Q:=by
 let(c,L,S,Q0,I,h,k):=hh
 exact⟨c,L,S,_,I,h,λv L1 hv x S1 H1 r1 I1 s1=>?_⟩
 let(z,e,q):=kq hv
 exact⟨S1,v,x,z,rfl,I1.sub,r1,e,o9 I1 λx S' H' r I' s'=>k z L1 q x S' H' r I' (s1.trans s')⟩
def yW {id nm:String}{f:FV->Option FV}(hc:kN X.nox (.builtin id) (Rc X.K f))(G:Good X C n sp)(hb:nm∈bltNames)(hv:bootBuiltins (hW nm)=Ψ (.builtin id))(h1:hW nm≠"__name__")(h2:(hW nm == ("__debug__":Str))=Ξ)(hg:C.gl (hW nm)=Ω)(hs:j9 a=Ξ)(ha:FR X C a ea) :
  FE X C (.Call (.Name (hW nm) p) [a] [] pos) (kG f ea):=PE.imp (mE hc (G.gl hg) (G.blt nm hb) hv (ka ha kF (jU hs)) h1 h2 (jU hs) rfl) λσ H Q h=>Gw h
def yV {T nm:String}{f:FV->Option FV}(hc:kN X.nox (.type T) (Rc X.K f))(G:Good X C n sp)(hb:nm∈bltNames)(hv:bootBuiltins (hW nm)=Ψ (.type T))(h1:hW nm≠"__name__")(h2:(hW nm == ("__debug__":Str))=Ξ)(hg:C.gl (hW nm)=Ω)(hs:j9 a=Ξ)(ha:FR X C a ea) :
  FE X C (.Call (.Name (hW nm) p) [a] [] pos) (kG f ea):=PE.imp (qf hc (G.gl hg) (G.blt nm hb) hv (ka ha kF (jU hs)) h1 h2 (jU hs) rfl) λσ H Q h=>Gw h
def O6 (G:Good X C n sp)(hg:C.gl (hW "len")=Ω)(hs:j9 a=Ξ)(ha:FR X C a ea):FE X C (.Call (.Name (hW "len") p) [a] [] pos) (kG lC ea):=yW LU G (·) (by nofun) (by nofun) (by nofun) hg hs ha
def Pf (G:Good X C n sp)(hg:C.gl (hW "abs")=Ω)(hs:j9 a=Ξ)(ha:FR X C a ea):FE X C (.Call (.Name (hW "abs") p) [a] [] pos) (kG Dm ea):=yW LX G (·) (by nofun) (by nofun) (by nofun) hg hs ha
def OV (G:Good X C n sp)(hg:C.gl (hW "sum")=Ω)(hs:j9 a=Ξ)(ha:FR X C a ea):FE X C (.Call (.Name (hW "sum") p) [a] [] pos) (kG vy ea):=yW (LR G.calm) G (·) (by nofun) (by nofun) (by nofun) hg hs ha
def Pd (G:Good X C n sp)(hg:C.gl (hW "all")=Ω)(hs:j9 a=Ξ)(ha:FR X C a ea):FE X C (.Call (.Name (hW "all") p) [a] [] pos) (kG Dl ea):=yW (LW G.calm) G (·) (by nofun) (by nofun) (by nofun) hg hs ha
def Lv (G:Good X C n sp)(hg:C.gl (hW "int")=Ω)(hs:j9 a=Ξ)(ha:FR X C a ea):FE X C (.Call (.Name (hW "int") p) [a] [] pos) (kG ut ea):=yV LV G (·) (by nofun) (by nofun) (by nofun) hg hs ha
def Ls (G:Good X C n sp)(hg:C.gl (hW "tuple")=Ω)(hs:j9 a=Ξ)(ha:FR X C a ea):FE X C (.Call (.Name (hW "tuple") p) [a] [] pos) (kG mC ea):=yV Fq G (·) (by nofun) (by nofun) (by nofun) hg hs ha
def Np (G:Good X C n sp)(hg:C.gl (hW "list")=Ω)(hs:j9 a=Ξ)(ha:FR X C a ea):FE X C (.Call (.Name (hW "list") p) [a] [] pos) (kG nH ea):=yV Dg G (·) (by nofun) (by nofun) (by nofun) hg hs ha
def Lu (G:Good X C n sp)(hg:C.gl (hW "str")=Ω)(hs:j9 a=Ξ)(ha:FR X C a ea):FE X C (.Call (.Name (hW "str") p) [a] [] pos) (kG AR ea):=yV (LS G.room.units G.room.gd) G (·) (by nofun) (by nofun) (by nofun) hg hs ha
def Nf (G:Good X C n sp)(hg:C.gl (hW "list")=Ω)(hs:j9 a=Ξ)(ha:FR X C a ea):FF X C (.Call (.Name (hW "list") p) [a] [] pos) (kG nH ea) :=
 PE.imp (qf Dg (G.gl hg) (G.blt "list" (·)) (by nofun) (ka ha kF (jU hs)) (by nofun) (by nofun) (jU hs) rfl) λσ H Q q1=>by let(c,L,S,Q0,I,h,k):=q1;exact
 ⟨c,L,S,_,I,h,λv L1 hv x S1 H1 r1 I1 s1=>by
  let(z,e,q):=kq hv
  let(ps,e1,rfl):=oX e
  exact⟨S1,v,x,_,rfl,I1.sub,r1,e,yC I1 ⟨ps,rfl⟩ λa S' H' o fr I' s'=>k _ L1 q a S' H' o fr I' (s1.trans s')⟩⟩
def Gr {id nm:String}{f:FV->FV->Option FV}(hc:kN X.nox (.builtin id) (Rc2 X.K f))(G:Good X C n sp)(hb:nm∈bltNames)(hv:bootBuiltins (hW nm)=Ψ (.builtin id))(h1:hW nm≠"__name__")(h2:(hW nm == ("__debug__":Str))=Ξ)(hg:C.gl (hW nm)=Ω)(hs:j9 a=Ξ)(hs2:j9 b=Ξ)(ha:FE X C a ea)(hb':FR X C b eb) :
  FE X C (.Call (.Name (hW nm) p) [a,b] [] pos) (j0 f ea eb):=PE.imp (mE hc (G.gl hg) (G.blt nm hb) hv (ka ha (ka hb' kF (jU hs2)) (jU hs)) h1 h2 (jU hs) (by rw[jU hs2];rfl)) λσ H Q q1=>by let(c,L,S,Q0,I,h,k):=q1;exact
 ⟨c,L,S,_,I,h,λv L1 hv x S1 H1 r1 I1 s1=>⟨c,L1,S1,_,I1,hv,λw L2 hw y S2 H2 r2 I2 s2=>by
  let(z,e,q):=kq hw
  exact⟨S2,v,w,x,y,z,rfl,I2.sub,.inl (r1.mono s2),r2,e,o9 I2 λx S' H' r I' s'=>k z L2 q x S' H' r I' (s1.trans (s2.trans s'))⟩⟩⟩
def Nm (G:Good X C n sp)(hg:C.gl (hW "min")=Ω)(hs:j9 a=Ξ)(hs2:j9 b=Ξ)(ha:FE X C a ea)(hb':FR X C b eb):FE X C (.Call (.Name (hW "min") p) [a,b] [] pos) (j0 tL ea eb):=Gr (IW G.calm) G (·) (by nofun) (by nofun) (by nofun) hg hs hs2 ha hb'
def No (G:Good X C n sp)(hg:C.gl (hW "max")=Ω)(hs:j9 a=Ξ)(hs2:j9 b=Ξ)(ha:FE X C a ea)(hb':FR X C b eb):FE X C (.Call (.Name (hW "max") p) [a,b] [] pos) (j0 yF ea eb):=Gr (IY G.calm) G (·) (by nofun) (by nofun) (by nofun) hg hs hs2 ha hb'
abbrev lX:Ty->String|.int=>"int" | .bool=>"bool" | .str=>"str" | .list=>"list" | .tuple=>"tuple"
def rf {v:FV}{u:V}{t:Ty}{r:Bool}(s:Same S H)(rv:RH K S H v u)(e:mY v t=Ψ r):∃ T,TyOf K H u (.type T)/\fX K (.type T) (.type (lX t))=Ψ r:=by
 cases v with
 | non=>cases (show u=V.non from rv.val rfl);exact⟨_,.non,by cases e;cases t<;>rfl⟩
 | bl c=>cases rv.bl;exact⟨_,.bl _,by cases e;cases t<;>rfl⟩
 | int c=>cases rv.int;exact⟨_,.int _,by cases e;cases t<;>rfl⟩
 | str c=>cases (show u=V.str _ from rv.val rfl);exact⟨_,.str _,by cases e;cases t<;>rfl⟩
 | tup ps =>
  let(a,xs,rfl,h1,h2):=rv.tup s
  exact⟨_,.tup h1,by cases e;cases t<;>rfl⟩
 | lst l =>
  let(a,xs,rfl,h1,h2):=rv.lst s
  exact⟨_,.lst h1,by cases e;cases t<;>rfl⟩
 | scr ns=>cases e
 | dct _ _=>cases e
 | dci _ _=>cases e
 | dcz _ _ _=>cases e
 | obj _ _ _ _=>cases e
 | dcn _ _ _=>cases e
 | adr _=>cases e
 | dco _ _ _=>cases e
 | shf _ _ _ _=>cases e
 | shn d=>cases (show u=V.str _ from rv.val rfl);exact⟨_,.str _,by cases e;cases t<;>rfl⟩
def O8 {t:Ty}{tn:Str}(G:Good X C n sp)(hg:C.gl (hW "isinstance")=Ω)(ht:tn=hW (lX t))(hg2:C.gl tn=Ω)(hs:j9 a=Ξ)(ha:FR X C a ea) :
  FE X C (.Call (.Name (hW "isinstance") p) [a,.Name tn p2] [] pos) (kG (mv t) ea):=by
 subst ht
 let cc:kN X.nox (.builtin "isinstance") (λxs H Q=>∃ v c b T,xs=[v,.ty c]/\TyOf X.K H v (.type T)/\fX X.K (.type T) (.type c)=Ψ b/\Q (.bl b) H):=by
  rintro Z9 s σ H xs us Q I r ⟨v,c,b,T,rfl,h1,h2,q⟩
  let(u,u',rfl,ru,ru'):=vals2 r
  obtain rfl:u'=.type c:=ru'
  exact z9 I ru h1 h2 λtk=>⟨.bl b,H,I.tok _,rfl,q⟩
 let tt:PE X.nox (.Name (hW (lX t)) p2) (tC (.ty (lX t))):=by
  cases t<;>exact uN (G.gl hg2) (G.blt _ (·)) (by nofun) rfl (by nofun) (by nofun)
 exact PE.imp (mE cc (G.gl hg) (G.blt "isinstance" (·)) (by nofun) (ka ha (ka tt kF rfl) (jU hs)) (by nofun) (by nofun) (jU hs) rfl) λσ H Q q1=>?_;let(c,L,S,Q0,I,h,k):=q1;refine
  ⟨c,L,S,_,I,h,λv L1 hv x S1 H1 r1 I1 s1=>?_⟩
 let(z,e,q):=kq hv
 let(r,e1,rfl):=oX e
 let(T,t1,t2):=rf I1.sub r1 e1
 exact⟨x,_,_,T,rfl,t1,t2,k _ L1 q _ S1 H1 rfl I1 s1⟩
abbrev oG (apos Z1:Pos):Bool:=apos.endLine == Z1.line
def Pb (G:Good X C n sp){apos Z1:Pos}(h:C.nm i nx=Ω)(m:jX C.md i=.own)(hl:oG apos Z1=Ω)(hs:j9 a=Ξ)(ha:FE X C a ea):FE X C (.Call (.Attribute (.Name nx p) (hW "append") apos) [a] [] Z1) (oz tf i ea):=by
 exact PE.imp (Bz bc PySem.F.slot_list_append PySem.F.type_list_append oO (ki G h) (ka ha kF (jU hs)) rfl (by rw[jU hs];rfl) hl (jU hs) rfl) λσ H Q ⟨c,L,S,Q0,I,h,k⟩=>?_
 let(v,e,h):=kq h
 let(v9,e9,h):=kq h
 cases mK e9
 let e':=(kP _ _ _).mp e
 let mi:jX C.md i≠.imm:=λz=>by rw[m] at z;cases z
 let(l,e1,(_,ps,xs,e8,h1,_),_):=I.own i _ mi e'
 exact⟨_,e1,.inl ⟨rfl,xs,SqL.of h1⟩,c,L,S,_,I,h,λw L1 hw y S1 H1 r1 I1 s1=>?_⟩
 let(v1,e2,hw):=kq hw
 let(z,e3,q):=kq hw
 let e2':=(kP _ _ _).mp e2
 let(qs,e4,e5):=lV e3
 cases mK e4
 let(hb,rfl):=ou e5
 let(l',f1,(f2,rs,zs,f3,f4,f5),_):=I1.own i _ mi e2'
 rw[e1] at f1;cases f1
 cases f3
 have:=kM
 exact⟨l,zs,y,rfl,rfl,f4,by rw[<- f5.length];lia,k _ _ q .non S1 _ rfl (I1.write m e2' e1 (f5.append (RVs.one r1))) s1⟩
def O9 (G:Good X C n sp){apos Z1:Pos}(h:C.nm i nx=Ω)(m:jX C.md i=.own)(hl:oG apos Z1=Ω)(hs:j9 a=Ξ)(ha:FR X C a ea):FE X C (.Call (.Attribute (.Name nx p) (hW "extend") apos) [a] [] Z1) (oz E7 i ea):=by
 let mt:J5 X.nox "list.extend" (λx xs H Q=>rExtend x xs H Q ∨ rExtT X.K x xs H Q):=λZ9 s σ H x xs v us Q I rx rv h=>h.elim (zS Z9 s σ H x xs v us Q I rx rv) (Ep Z9 s σ H x xs v us Q I rx rv)
 exact PE.imp (Bz bc PySem.F.slot_list_extend PySem.F.type_list_extend mt (ki G h) (ka ha kF (jU hs)) rfl (by rw[jU hs];rfl) hl (jU hs) rfl) λσ H Q ⟨c,L,S,Q0,I,h,k⟩=>?_
 let(v,e,h):=kq h
 let(v9,e9,h):=kq h
 cases mK e9
 let e':=(kP _ _ _).mp e
 let mi:jX C.md i≠.imm:=λz=>by rw[m] at z;cases z
 let(l,e1,(_,ps,xs,e8,h1,_),_):=I.own i _ mi e'
 exact⟨_,e1,.inl ⟨rfl,xs,SqL.of h1⟩,c,L,S,_,I,h,λw L1 hw y S1 H1 r1 I1 s1=>?_⟩
 let(v1,e2,hw):=kq hw
 let(z,e3,q):=kq hw
 let e2':=(kP _ _ _).mp e2
 let(qs,e4,e5):=lV e3
 let(ys,e6,e7):=lV e5
 cases mK e4
 let(hb,rfl):=ou e7
 let(l',f1,(f2,rs,zs,f3,f4,f5),_):=I1.own i _ mi e2'
 rw[e1] at f1;cases f1
 cases f3
 let hbl:=kM
 let l5:=f5.length
 let fin:∀ us,RVs X.K S1 ys us->Q .non (kh H1 l (.lst (zs++us))):=λus ru=>k _ _ q .non S1 _ rfl (I1.write m e2' e1 (f5.append ru)) s1
 cases w with
 | tup ws =>
  cases e6
  let(b,us,rfl,g1,g2):=r1.tup I1.sub
  let l6:=g2.length
  exact .inr ⟨l,b,zs,us,rfl,rfl,f4,SqT.of g1,⋯,fin us g2⟩
 | lst ws =>
  cases e6
  let(b,us,rfl,g1,g2):=r1.lst I1.sub
  let l6:=g2.length
  exact .inl ⟨l,b,zs,us,rfl,rfl,f4,g1,⋯,fin us g2⟩
 | _=>cases e6
end
abbrev ArgsOk (K:ib)(S H:Hp)(args:List FV)(vs:List V):Bool->Prop
 | false=>RVs K S args vs
 | true=>∃ v r a us,args=v :: r/\vs=.ref a :: us/\OwnAt K S H a v/\RVs K S r us
abbrev zj (K:ib)(S' H' H:Hp)(v:FV)(x:V):Bool->Prop
 | false=>RV K S' v x
 | true=>∃ a,x=.ref a/\OwnAt K S' H' a v/\H a=Φ
abbrev ql (vs:List V):Bool->Option jP
 | false=>Φ
 | true=>match vs with
  | .ref a :: _=>Ψ a
  | _=>Φ
structure Kept (K:ib)(S H S' H':Hp)(P:Option jP)(w:FV):Prop where
 same:Same S S'
 sub:Same S' H'
 grow:∀ a o,S' a=Ψ o->S a=Ψ o ∨ H a=Φ ∨ ox o=Ω
 keep:∀ a o,H a=Ψ o->P≠Ψ a->H' a=Ψ o
 back:∀ a,P=Ψ a->OwnAt K S' H' a w
abbrev tq (K:ib)(call:CW)(io fr:Bool) (f:Nat):Sp:=λvs H Q E=>∃ S args Q0,Same S H/\ArgsOk K S H args vs io/\call f args Q0/\∀ z,Q0 z->∀ x S' H',Kept K S H S' H' (ql vs io) z.2->zj K S' H' H z.1 x fr->Q x H'
section
variable {X:Cx}{C:CC}{n:Nat}{sp:ib->Nat->Sp}{a:Expr}{ea:EW}{pos p:Pos}{call:CW}
variable {K:ib}{c:Cn}{md:Md}{L:jR}{σ:L2.St}{S H S' H':Hp}{i f:Nat}{nx:Str}{xs:List Expr}{as:AW}
abbrev kE (xs:List Expr):Bool:=xs.all λx=>!j9 x
def mU:∀ {xs:List Expr}{env:Env},kE xs=Ω->(backTo pos (starEach xs env)).any (·.1)=Ξ
 | [],_,_=>rfl
 | x :: xs,env,h=>by
  let h:=b2 (show (!j9 x && kE xs)=Ω from h)
  rw[jU (nb h.1)]
  show (Ξ || (backTo pos (starEach xs env)).any (·.1))=Ξ
  rw[mU h.2];rfl
def Kept.iv (I:Iv K c md L σ S H){w:FV}(k:Kept K S H S' H' Φ w):Iv K c md L σ S' H':=I.go3 k.same k.sub k.grow λa o e=>k.keep a o e ∅
def qZ (G:Good X C n sp){t:TA}(hf:C.fns[f]?=Ψ nx)(hg:C.gl nx=Ω)(hd:(nx == ("__debug__":Str))=Ξ)(hs:kE (a :: xs)=Ω)(ha:PA X.nox (a :: xs) t):PE X.nox (.Call (.Name nx p) (a :: xs) [] pos) (λσ H Q=>t σ H λvs H1=>sp X.K f vs H1 Q E0):=by
 let(fa,fd,ps,h1,h2,h3,h4):=G.fns f nx hf
 let h:=b2 (show (!j9 a && kE xs)=Ω from hs)
 exact PE.imp (D9 (X:=X.nox) h4 G.room.toRoom (G.gl hg) h1 h2 h3 .nil tI ha hd (jU (nb h.1)) (mU h.2)) λσ H Q q=>?_
 show t σ H λvs H1=>sp X.K f (vs++[]) H1 Q E0
 let e:(λvs H1=>sp X.K f (vs++[]) H1 Q E0)=λvs H1=>sp X.K f vs H1 Q E0:=by funext vs H1;rw[fH]
 rw[e];exact q
def Nu (G:Good X C n sp)(e:sp X.K f=tq X.K call Ξ Ξ f)(hf:C.fns[f]?=Ψ nx)(hg:C.gl nx=Ω)(hd:(nx == ("__debug__":Str))=Ξ)(hs:kE (a :: xs)=Ω)(ha:FA X C (a :: xs) as):FE X C (.Call (.Name nx p) (a :: xs) [] pos) (kT call f as) :=
 PE.imp (qZ G hf hg hd hs ha) λσ H Q q1=>by let(c,L,S,Q0,I,h,k):=q1;exact⟨c,L,S,_,I,h,λvs L1 hv us S1 H1 r1 I1 s1=>by
  rw[e]
  exact⟨S1,vs,_,I1.sub,r1,hv,λz q x S' H' kp r=>k _ L1 q x S' H' r (kp.iv I1) (s1.trans kp.same)⟩⟩
def Ng (G:Good X C n sp)(e:sp X.K f=tq X.K call Ξ Ω f)(hf:C.fns[f]?=Ψ nx)(hg:C.gl nx=Ω)(hd:(nx == ("__debug__":Str))=Ξ)(hs:kE (a :: xs)=Ω)(ha:FA X C (a :: xs) as):FF X C (.Call (.Name nx p) (a :: xs) [] pos) (kT call f as) :=
 PE.imp (qZ G hf hg hd hs ha) λσ H Q q1=>by let(c,L,S,Q0,I,h,k):=q1;exact⟨c,L,S,_,I,h,λvs L1 hv us S1 H1 r1 I1 s1=>by
  rw[e]
  exact⟨S1,vs,_,I1.sub,r1,hv,λz q x S' H' kp r=>?_⟩
  let(a,rfl,o,hn):=r
  exact k _ L1 q a S' H' o (I1.fresh hn) (kp.iv I1) (s1.trans kp.same)⟩
def yB {v:FV}{q:jP}(I:Iv K c md L σ S H)(o:OwnAt K S H q v)(fr:nR c md L σ q):∃ u,H q=Ψ u/\Iv K c md L σ (kh S q u) H/\RV K (kh S q u) v (.ref q):=by
 let(h1,ps,us,e0,h2,h3):=o
 let s:=kI (o:=BB v us) h1
 exact⟨_,h2,⟨I.len,λi v h e=>let ⟨x,e1,r⟩:=I.imm i v h e;⟨x,e1,r.mono s⟩,λi v h e=>?_,I.dis,λa u e=>?_,I.frame,I.s0.trans s,λa u e=>?_,I.lent,I.fzs,I.fzm,I.fzp,λp hp=>let ⟨g1,g2,g3⟩:=I.prs p hp;⟨g1,by rw[jT (fr.2.1 p hp)];exact g2,g3⟩,I.ntp,I.lnt1,I.tie⟩,?_⟩
 ·let(b,e1,(g1,rs,zs,g2,g3,g4),g5):=I.own i v h e
  let hb:b≠q:=λz=>by subst z;exact fr.2.2 i v h e e1
  exact⟨b,e1,⟨by rw[jT hb];exact g1,rs,zs,g2,g3,g4.mono s⟩,g5⟩
 ·by_cases z:a=q
  ·subst z;rw[jV] at e;cases e;exact h2
  ·rw[jT z] at e;exact I.sub a u e
 ·by_cases z:a=q
  ·subst z;exact .inr (.inl fr.1)
  ·rw[jT z] at e;exact I.grow a u e
 ·cases v with
  | lst qs=>cases e0;exact⟨q,us,rfl,jV,h3.mono s⟩
  | dct ks vs=>let(hl,rfl):=ou e0;exact⟨q,us,rfl,hl,jV,h3.mono s⟩
  | dci ks vs=>let(hl,rfl):=ou e0;exact⟨q,us,rfl,hl,jV,h3.mono s⟩
  | dcz o ks vs=>let(hl,rfl):=ou e0;exact⟨q,us,rfl,hl,jV,h3.mono s⟩
  | obj C dx fs gs=>cases e0;exact⟨q,rfl,jV⟩
  | dcn z ks vs=>let(hl,rfl):=ou e0;exact⟨q,us,rfl,hl,jV,h3.mono s⟩
  | dco z ks vs=>let(hl,rfl):=ou e0;exact⟨q,us,rfl,hl,jV,h3.mono s⟩
  | shf C dx ns vs=>exact⟨q,us,rfl,jV⟩
  | _=>cases e0
def m6 (h:FF X C a ea):FE X C a ea:=PE.imp h λσ H Q q1=>by let(c,L,S,Q0,I,h,k):=q1;exact⟨c,L,S,Q0,I,h,λv L' q a S' H' o fr I' s'=>by
 let(u,hu,I2,r):=yB I' o fr
 exact k v L' q _ _ H' r I2 (s'.trans (kI o.1))⟩
def yw (G:Good X C n sp){t:TA}(h:C.nm i nx=Ω)(hr:PA X.nox xs t):PA X.nox (.Name nx p :: xs) (vq (tVar i) t):=ka (ki G h) hr rfl
def wX {Q:VK}{fr:Bool}{Q1:FV->jR->Prop}(I:Iv K c md L σ S H)(m:jX md i=.own)(h:km call f i as L Q1)
  (k:∀ v L' x H1 S' H',Q1 v L'->zj K S' H' H1 v x fr->Iv K c md L' σ S' H'->Same S S'->(∀ a,H1 a=Φ->nR c md L' σ a)->Q x H'):vq (tVar i) (la K md as) σ H λvs H1=>tq K call Ω fr f vs H1 Q E0:=by
 let(v0,e,h):=kq h
 let mi:jX md i≠.imm:=λz=>by rw[m] at z;cases z
 let(l,e1,_):=I.own i v0 mi ((kP _ _ _).mp e)
 exact⟨_,e1,c,L,S,_,I,h,λvs L1 hv us S1 H1 r1 I1 s1=>?_⟩
 let(v1,e2,q):=kq hv
 let e2:=(kP _ _ _).mp e2
 let(l',f1,o,_):=I1.own i v1 mi e2
 rw[e1] at f1;cases f1
 exact⟨S1,v1 :: vs,_,I1.sub,⟨v1,vs,l,us,rfl,rfl,o,r1⟩,q,λz q x S' H' kp r=>?_⟩
 let I2:=I1.back3 m e2 e1 kp.same kp.sub kp.grow (λb o e n=>kp.keep b o e λz=>n (by cases z;rfl)) (kp.back l rfl)
 exact k _ _ x H1 S' H' q r I2 (s1.trans kp.same) λa ha=>⟨I1.h0 ha,(I1.fresh ha).2.1,λj w mj ej z=>?_⟩
 let(_,_,g2):=I1.fresh ha
 by_cases hj:j=i
 ·subst hj;exact g2 j v1 mj e2 z
 ·rw[bV (jp hj)] at ej;exact g2 j w mj ej z
def Lz (G:Good X C n sp){np:Str}{pp:Pos}(e:sp X.K f=tq X.K call Ω Ξ f)(hf:C.fns[f]?=Ψ np)(hg:C.gl np=Ω)(hd:(np == ("__debug__":Str))=Ξ)(h:C.nm i nx=Ω)(m:jX C.md i=.own)(hs:kE xs=Ω)(ha:FA X C xs as):FE X C (.Call (.Name np pp) (.Name nx p :: xs) [] pos) (km call f i as) :=
 PE.imp (qZ G hf hg hd (show (Ω && kE xs)=Ω by rw[hs];rfl) (yw G h ha)) λσ H Q q1=>by
  let(c,L,S,Q0,I,h,k):=q1
  rw[e]
  exact wX I m h λv L' x H1 S' H' q r I' s' _=>k v L' q x S' H' r I' s'
def Lr (G:Good X C n sp){np:Str}{pp:Pos}(e:sp X.K f=tq X.K call Ω Ω f)(hf:C.fns[f]?=Ψ np)(hg:C.gl np=Ω)(hd:(np == ("__debug__":Str))=Ξ)(h:C.nm i nx=Ω)(m:jX C.md i=.own)(hs:kE xs=Ω)(ha:FA X C xs as):FF X C (.Call (.Name np pp) (.Name nx p :: xs) [] pos) (km call f i as) :=
 PE.imp (qZ G hf hg hd (show (Ω && kE xs)=Ω by rw[hs];rfl) (yw G h ha)) λσ H Q q1=>by
  let(c,L,S,Q0,I,h,k):=q1
  rw[e]
  exact wX I m h λv L' x H1 S' H' q r I' s' fr=>?_
  let(a,rfl,o,hn):=r
  exact k v L' q a S' H' o (fr a hn) I' s'
end
section
variable {K:ib}{c:Cn}{md:Md}{L:jR}{σ:L2.St}{S H:Hp}{i:Nat}{v:FV}{x:V}{a:jP}
def Iv.setI (I:Iv K c md L σ S H)(m:jX md i=.imm)(r:RV K S v x):Iv K c md (L.set i (Ψ v)) (σ.set i (Ψ x)) S H :=
 I.set (λa h z=>by subst z;exact (I.lent a h).1 m) (λz=>by rw[m] at z;cases z) (.inl ⟨m,r⟩)
def Iv.prot (I:Iv K c md L σ S H){o:HO}(h:H a=Ψ o)(hs:S a=Φ)(ho:∀ i v,(jX md i).w=Ω->L[i]?=Ψ (Ψ v)->σ[i]?≠Ψ (Ψ (.ref a)))(nt:ox o=Ξ:=by first|rfl|exact pI _ _):Iv K { c with pr:=(a,o) :: c.pr } md L σ S H :=
 ⟨I.len,I.imm,I.own,I.dis,I.sub,I.frame,I.s0,I.grow,I.lent,I.fzs,I.fzm,λp hp=>let ⟨xs,h⟩:=I.fzp p hp;⟨xs,bT _ h⟩,λp hp=>(gM.mp hp).elim (λe=>e ▸ ⟨h,hs,ho⟩) (I.prs p),λp hp=>(gM.mp hp).elim (λe=>e ▸ nt) (I.ntp p),I.lnt1,I.tie⟩
def wd:∀ {md:Md}{i j:Nat}{m:Mo},i<md.length->jX (md.set i m) j=if j=i then m else jX md j
 | [],i,j,m,h=>absurd h (fq _)
 | a :: md,0,0,m,h=>rfl
 | a :: md,0,j+1,m,h=>(if_neg (eu j)).symm
 | a :: md,i+1,0,m,h=>(if_neg (eu i).symm).symm
 | a :: md,i+1,j+1,m,h=>by
  have:=wd (md:=md) (i:=i) (j:=j) (m:=m) (by simpa using h)
  rw[show (if j+1=i+1 then m else jX (a :: md) (j+1))=if j=i then m else jX md j by simp![Nat.add_right_cancel_iff];rfl];exact this
def BK:∀ {md:Md}{i:Nat},jX md i=.own->i<md.length
 | [],i,h=>by cases (show Mo.imm=Mo.own from h)
 | a :: md,0,h=>by simp
 | a :: md,i+1,h=>by simpa using BK (md:=md) (i:=i) h
def Iv.frz (I:Iv K c md L σ S H){ob:HO}(m:jX md i=.own)(e:L[i]?=Ψ (Ψ v))(e1:σ[i]?=Ψ (Ψ (.ref a)))(h:H a=Ψ ob) :
  Iv K { c with fz:=(i,a) :: c.fz,pr:=(a,ob) :: c.pr } (md.set i .frz) L σ S H/\∀ L σ S H,Iv K { c with fz:=(i,a) :: c.fz,pr:=(a,ob) :: c.pr } (md.set i .frz) L σ S H->Iv K c md L σ S H:=by
 let hl:=BK m
 let mi:jX md i≠.imm:=λz=>by rw[m] at z;cases z
 let M:∀ j,jX (md.set i .frz) j=if j=i then .frz else jX md j:=λj=>wd hl
 let im:∀ {j},jX (md.set i .frz) j=.imm↔jX md j=.imm:=λ{j}=>by
  rw[M]
  by_cases q:j=i
  ·subst q;rw[if_pos rfl,m];simp
  ·rw[if_neg q]
 let gm:∀ {j},(jX md j).g=Ω->jX (md.set i .frz) j=jX md j:=λ{j} h=>by
  rw[M,if_neg λq=>by rw[q,m] at h;cases h]
 let gm':∀ {j k x},jX (md.set i .frz) j=.gst k x->jX md j=.gst k x:=λ{j k x} h=>by
  rw[M] at h
  split at h
  ·cases h
  ·exact h
 let om:∀ {j},jX (md.set i .frz) j=.ob->jX md j=.ob:=λ{j} h=>by
  rw[M] at h
  split at h
  ·cases h
  ·exact h
 let nfz:∀ p∈c.fz,p.1≠i:=λp hp z=>by have:=(I.fzs p hp).1;rw[z,m] at this;cases this
 let npr:∀ p∈c.pr,p.1≠a:=λp hp z=>(I.prs p hp).2.2 i v (Mo.w_own m) e (by rw[z];exact e1)
 let(a',f1,o,_):=I.own i v mi e
 rw[e1] at f1;cases f1
 let nt:ox ob=Ξ:=by
  let(_,_,_,_,h5,_):=o
  rw[h] at h5;rw[fo h5,pI]
 constructor
 ·exact⟨I.len,λj w h=>I.imm j w (im.mp h),λj w h=>I.own j w (λz=>h (im.mpr z)),λj k w u b h1 h2=>I.dis j k w u b (λz=>h1 (im.mpr z)) (λz=>h2 (im.mpr z)),I.sub,I.frame,I.s0,I.grow,λb hb=>let ⟨g1,g2⟩:=I.lent b hb;⟨λz=>g1 (im.mp z),g2⟩,λp hp=>?_,λj w hm hj=>?_,λp hp=>?_,λp hp=>?_,λp hp=>(gM.mp hp).elim (λz=>by rw[z];exact nt) (I.ntp p),λq hq=>let ⟨g1,g2⟩:=I.lnt1 q hq;⟨by rw[gm g1];exact g1,g2⟩,λj k x C dx fs w h1 h2=>I.tie j k x C dx fs w (gm' h1) (om h2)⟩
  ·rcases gM.mp hp with rfl|hp
   ·exact⟨by rw[M,if_pos rfl],e1,v,e⟩
   ·let(g1,g2):=I.fzs p hp
    exact⟨by rw[M,if_neg (nfz p hp)];exact g1,g2⟩
  ·by_cases q:j=i
   ·subst q;exact⟨a,cQ⟩
   ·rw[M,if_neg q] at hm
    let(b,g1):=I.fzm j w hm hj
    exact⟨b,bT _ g1⟩
  ·rcases gM.mp hp with rfl|hp
   ·exact⟨_,cQ⟩
   ·let(ys,g):=I.fzp p hp
    exact⟨ys,bT _ g⟩
  ·let own':∀ {j},(jX (md.set i .frz) j).w=Ω->j≠i/\(jX md j).w=Ω:=λ{j} z=>by
    by_cases q:j=i
    ·subst q;rw[M,if_pos rfl] at z;cases z
    ·rw[M,if_neg q] at z;exact⟨q,z⟩
   rcases gM.mp hp with rfl|hp
   ·exact⟨h,o.1,λj w hm hj hz=>(own' hm).1 (I.dis j i w v a (Mo.w_imm (own' hm).2) mi hj e hz e1)⟩
   ·let(g1,g2,g3):=I.prs p hp
    exact⟨g1,g2,λj w hm=>g3 j w (own' hm).2⟩
 ·intro L σ S H J
  let(_,j1,_):=J.fzs (i,a) cQ
  exact⟨J.len,λj w h=>J.imm j w (im.mpr h),λj w h=>J.own j w (λz=>h (im.mp z)),λj k w u b h1 h2=>J.dis j k w u b (λz=>h1 (im.mp z)) (λz=>h2 (im.mp z)),J.sub,J.frame,J.s0,J.grow,λb hb=>let ⟨g1,g2⟩:=J.lent b hb;⟨λz=>g1 (im.mpr z),g2⟩,λp hp=>?_,λj w hm hj=>?_,I.fzp,λp hp=>?_,I.ntp,λq hq=>?_,λj k x C dx fs w h1 h2=>?_⟩
  ·let(g1,g2):=J.fzs p (bT _ hp)
   rw[M,if_neg (nfz p hp)] at g1
   exact⟨g1,g2⟩
  ·let q:j≠i:=λz=>by rw[z,m] at hm;cases hm
   let(b,g1):=J.fzm j w (by rw[M,if_neg q];exact hm) hj
   rcases gM.mp g1 with z|g1
   ·exact absurd (Prod.mk.inj z).1 q
   ·exact⟨b,g1⟩
  ·let(g1,g2,g3):=J.prs p (bT _ hp)
   exact⟨g1,g2,λj w hm hj=>?_⟩
   by_cases q:j=i
   ·subst q;rw[j1];exact λz=>npr p hp (by cases z;rfl)
   ·exact g3 j w (by rw[M,if_neg q];exact hm) hj
  ·let(g1,g2):=J.lnt1 q hq
   exact⟨?_,g2⟩
   rw[M] at g1
   split at g1
   ·cases g1
   ·exact g1
  ·let n1:j≠i:=λz=>by rw[z,m] at h1;cases h1
   let n2:k≠i:=λz=>by rw[z,m] at h2;cases h2
   exact J.tie j k x C dx fs w (by rw[M,if_neg n1];exact h1) (by rw[M,if_neg n2];exact h2)
end
abbrev Ay (K:ib)(c:Cn)(md:Md)(J:It)(xs:List FV)(S1:Hp):Prop :=
 ∀ (i:Nat)(L:jR)(σ:L2.St)(S H:Hp),Iv K c md L σ S H->Same S1 S->(xs[i]?=Φ->J.stop i H)/\∀ p,xs[i]?=Ψ p->J.go i H/\∀ v H',J.yld i H v H'->∃ S',Same S S'/\(∀ c md L σ,Iv K c md L σ S H->Iv K c md L σ S' H')/\RV K S' p v
inductive liI (K:ib)(it:AW)(md md':Md)(σ:L2.St)(H:Hp)(R:It->Hp->Prop):Prop
 | mk (c:_)(L:_)(S:_)(Q0:_)(_:Iv K c md L σ S H)(_:it L Q0)(_:∀ xs L',Q0 xs L'->∀ J c' S' H',Iv K c' md' L' σ S' H'->(∀ L σ S H,Iv K c' md' L σ S H->Iv K c md L σ S H)->c'.H0=c.H0->Ay K c' md' J xs S'->Same S S'->R J H'):liI K it md md' σ H R
noncomputable abbrev li (K:ib)(md md':Md)(it:AW):TI:=liI K it md md'
abbrev FI (X:Cx)(C:CC)(md':Md)(tg Z6:Expr)(it:AW):Prop:=PI X.nox tg Z6 (li X.K C.md md' it)
section
variable {X:Cx}{C:CC}{n:Nat}{sp:ib->Nat->Sp}{a b tg:Expr}{ea eb:EW}{pos p:Pos}
variable {K:ib}{c:Cn}{md:Md}{L:jR}{σ:L2.St}{S H:Hp}{i:Nat}
def PI.imp {X:Cx}{tg it:Expr}{t u:TI}(h:PI X tg it t)(f:∀ σ H R,u σ H R->t σ H R):PI X tg it u:=λZ9 s σ H R I hu=>h Z9 s σ H R I (f σ H R hu)
abbrev Its (K:ib):Bool->jP->It
 | true,a=>Itl K a
 | false,a=>Itt K a
def Bo {X:Cx}{tg it:Expr}{te:TE}(h:PE X it te):PI X tg it (λσ H R=>te σ H λv H1=>∃ b a xs,v=.ref a/\sM b X.K H1 a xs/\R (Its X.K b a) H1):=by
 intro Z9 s σ H R I hh
 exact ko (h Z9 s σ H _ I hh) λv s1 q1=>?_;let(x,H1,I1,r1,b,a,xs,e,hq,q):=q1
 subst e
 cases r1
 cases b with
 | true =>
  let(Z7,rv,p,hz):=I1.list hq
  exact cY p.isList ?_
  exact⟨s1.heap.objs.size,[s1.heap.objs.size],_,_,H1,rfl,I1.kept (t':=s1.toks) λb o e=>bx _ e,zt a _,⟨_,cw _ rfl,rfl,rfl⟩,λb hb=>?_,q⟩
  let e:b=s1.heap.objs.size:=by simpa using hb
  subst e
  exact I1.fpOk (iK _) (I1.hok.fresh (iK _))
 | false =>
  let(Z7,rv,p,hz):=I1.tuple hq
  exact cC p ?_
  exact⟨s1.heap.objs.size,[s1.heap.objs.size],_,_,H1,rfl,I1.kept (t':=s1.toks) λb o e=>bx _ e,xf a _,⟨_,cw _ rfl,rfl,rfl⟩,λb hb=>?_,q⟩
  let e:b=s1.heap.objs.size:=by simpa using hb
  subst e
  exact I1.fpOk (iK _) (I1.hok.fresh (iK _))
def Cf {t:Bool}{q:jP}{ps:List FV}{S1:Hp}(h:∀ L σ S H,Iv K c md L σ S H->Same S1 S->∃ vs,sM t K H q vs/\RVs K S ps vs):Ay K c md (Its K t q) ps S1:=by
 intro i L σ S H I s
 let(vs,h1,h2):=h L σ S H I s
 cases t with
 | true =>
  exact⟨λe=>⟨vs,h1,by rw[<- h2.length];exact aJ.mp e⟩,λp ep=>?_⟩
  let(v,e1,r1):=h2.get ep
  exact⟨⟨vs,v,h1,e1⟩,λw H' ⟨eh,y⟩=>?_⟩
  have:=y vs h1
  rw[e1] at this;cases this
  subst eh
  exact⟨S,Same.refl S,λ_ _ _ _ I=>I,r1⟩
 | false =>
  exact⟨λe=>⟨vs,h1,by rw[<- h2.length];exact aJ.mp e⟩,λp ep=>?_⟩
  let(v,e1,r1):=h2.get ep
  exact⟨⟨vs,v,h1,e1⟩,λw H' ⟨eh,y⟩=>?_⟩
  have:=y vs h1
  rw[e1] at this;cases this
  subst eh
  exact⟨S,Same.refl S,λ_ _ _ _ I=>I,r1⟩
def RV.stays {v:FV}{ps:List FV}{u:V}{S1:Hp}(r:RV K S1 v u)(e:lR v=Ψ ps):∃ q,u=.ref q/\∀ S H,Same S1 S->Same S H->∃ vs,sM (Lc v) K H q vs/\RVs K S ps vs:=by
 cases v with
 | tup qs=>cases e;let(q,vs,rfl,h1,h2):=r;exact⟨q,rfl,λS H s s'=>⟨vs,SqT.of (s' _ _ (s _ _ h1)),h2.mono s⟩⟩
 | lst qs=>cases e;let(q,vs,rfl,h1,h2):=r;exact⟨q,rfl,λS H s s'=>⟨vs,SqL.of (s' _ _ (s _ _ h1)),h2.mono s⟩⟩
 | scr ns=>cases e;let(q,rfl,h):=r;exact⟨q,rfl,λS H s s'=>⟨_,h.sq (s.trans s'),RVs.ns ns⟩⟩
 | _=>cases e
def OQ (ha:FE X C a ea):FI X C C.md tg a (nJ ea):=PI.imp (Bo ha) λσ H R q1=>by let(c,L,S,Q0,I,h,k):=q1;exact
 ⟨c,L,S,_,I,h,λv L1 hv x S1 H1 r1 I1 s1=>by
  let(ps,e,q):=kq hv
  let(l,rfl,st):=r1.stays e
  let(vs,h1,h2):=st S1 H1 (Same.refl _) I1.sub
  exact⟨Lc v,l,vs,rfl,h1,k ps L1 q _ c S1 H1 I1 (λ_ _ _ _ I=>I) rfl (Cf λL σ S H I s=>st S H s I.sub) s1⟩⟩
def Ec {v:FV}{qs ps:List FV}(e2:zQ v=Ψ qs)(e0:lR v=Ψ ps):v=.lst ps/\qs=ps:=by
 cases v<;>first|(cases e2;cases e0;exact⟨rfl,rfl⟩)|(cases e0;done)|(cases e2;done)
def um:∀ (n:Nat) (lo:Int) (i:Nat),(uo lo n)[i]?=if i<n then Ψ (.int (lo+i)) else Φ
 | 0,lo,i=>by simp[uo]
 | n+1,lo,0=>by simp[uo]
 | n+1,lo,i+1=>by
  show (uo (lo+1) n)[i]?=_
  rw[um n (lo+1) i]
  let e:lo+1+(i:Int)=lo+((i+1:Nat):Int):=⋯
  rw[e]
  simp
def HL {lo:Int}{m:Nat}{S1:Hp}:Ay K c md (NU lo m) (uo lo m) S1:=by
 intro i L σ S H I s
 rw[um]
 by_cases h:i<m
 ·rw[if_pos h]
  exact⟨λe=>(nomatch e),λp e=>?_⟩
  cases e
  exact⟨h,λv H' q1=>by let(e1,e2):=q1;exact⟨S,Same.refl S,by rw[e1];exact λ_ _ _ _ I=>I,e2⟩⟩
 ·rw[if_neg h]
  exact⟨λ_=>show m<=i by lia,λp e=>(nomatch e)⟩
def OR (G:Good X C n sp)(hg:C.gl (hW "range")=Ω)(hs:j9 a=Ξ)(ha:FE X C a ea):FI X C C.md tg (.Call (.Name (hW "range") p) [a] [] pos) (wy ea):=PI.imp (zM (G.gl hg) (G.blt "range" (·)) (ka ha kF (jU hs)) (jU hs)) λσ H R q1=>by let(c,L,S,Q0,I,h,k):=q1;exact
 ⟨c,L,S,_,I,h,λv L1 hv x S1 H1 r1 I1 s1=>by
  let(j,e,hb,q):=kq hv
  cases kS e
  let hb:=de hb
  exact⟨j,by rw[show x=.int j from r1],hb.1,hb.2,k _ L1 q _ c S1 H1 I1 (λ_ _ _ _ I=>I) rfl HL s1⟩⟩
def vX {P Q:FV}{u w:V}{pp:jP}(I:Iv K c md L σ S H)(hp:H pp=Φ)(r1:RV K S P u)(r2:RV K S Q w):∃ S',Same S S'/\(∀ c md L σ,Iv K c md L σ S H->Iv K c md L σ S' (kh H pp (.tup [u,w])))/\RV K S' (.tup [P,Q]) (.ref pp) :=
 ⟨kh S pp (.tup [u,w]),kI (I.sn hp),λ_ _ _ _ I=>I.new hp _,pp,[u,w],rfl,jV,u,[w],rfl,r1.mono (kI (I.sn hp)),w,[],rfl,r2.mono (kI (I.sn hp)),rfl⟩
def Ce {t t':Bool}{q q':jP}{ps qs:List FV}{S1:Hp}(h:∀ L σ S H,Iv K c md L σ S H->Same S1 S->∃ vs,sM t K H q vs/\RVs K S ps vs)(h':∀ L σ S H,Iv K c md L σ S H->Same S1 S->∃ vs,sM t' K H q' vs/\RVs K S qs vs):Ay K c md (NS K t t' q q') (lT ps qs) S1:=by
 intro i L σ S H I s
 let(vs,h1,h2):=h L σ S H I s
 let(ws,g1,g2):=h' L σ S H I s
 unfold lT
 rw[bJ]
 exact⟨λz=>⟨vs,ws,h1,g1,?_⟩,λy ey=>?_⟩
 ·rw[<- h2.length,<- g2.length]
  cases c1:ps[i]? with
  | none=>exact .inl (aJ.mp c1)
  | some _ =>
   cases c2:qs[i]? with
   | none=>exact .inr (aJ.mp c2)
   | some _=>rw[c1,c2] at z;cases z
 ·cases c1:ps[i]? with
  | none=>rw[c1] at ey;cases ey
  | some p1 =>
   cases c2:qs[i]? with
   | none=>rw[c1,c2] at ey;cases ey
   | some q1 =>
    rw[c1,c2] at ey
    cases ey
    let(v,f1,f2):=h2.get c1
    let(w,f3,f4):=g2.get c2
    exact⟨⟨vs,ws,v,w,h1,g1,f1,f3⟩,λz H' ⟨pp,hp,ez,yy⟩=>?_⟩
    have:=yy vs ws v w h1 g1 f1 f3
    subst this ez
    exact vX I hp f2 f4
def EC {t:Bool}{q:jP}{ps:List FV}{S1:Hp}(h:∀ L σ S H,Iv K c md L σ S H->Same S1 S->∃ vs,sM t K H q vs/\RVs K S ps vs):Ay K c md (NV K t q) (lT (uo 0 ps.length) ps) S1:=by
 intro i L σ S H I s
 let(vs,h1,h2):=h L σ S H I s
 unfold lT
 rw[bJ,um]
 exact⟨λz=>⟨vs,h1,?_⟩,λy ey=>?_⟩
 ·rw[<- h2.length]
  by_cases hi:i<ps.length
  ·rw[if_pos hi,aV hi] at z;cases z
  ·lia
 ·by_cases hi:i<ps.length
  ·rw[if_pos hi,aV hi] at ey
   cases ey
   let(v,f1,f2):=h2.get (aV hi)
   exact⟨⟨vs,v,h1,f1⟩,λz H' ⟨pp,hp,ez,yy⟩=>?_⟩
   have:=yy vs v h1 f1
   subst this ez
   exact vX I hp (show RV K S (.int (0+i)) (.int i) by show V.int i=V.int (0+i);rw[Int.zero_add]) f2
  ·rw[if_neg hi] at ey;cases ey
variable {elts:List Expr}{kk:Nat}{tp:Pos}
def OP (G:Good X C n sp)(hg:C.gl (hW "zip")=Ω)(hs:j9 a=Ξ)(hs2:j9 b=Ξ)(ha:FE X C a ea)(hb:FE X C b eb):FI X C C.md (.Tuple elts kk tp) (.Call (.Name (hW "zip") p) [a,b] [] pos) (EJ ea eb) :=
 PI.imp (Ga (G.gl hg) (G.blt "zip" (·)) (ka ha (ka hb kF (jU hs2)) (jU hs)) (by rw[jU hs,jU hs2];rfl) (jU hs2)) λσ H R q1=>by let(c,L,S,Q0,I,h,k):=q1;exact
 ⟨c,L,S,_,I,h,λv L1 hv x S1 H1 r1 I1 s1=>⟨c,L1,S1,_,I1,hv,λw L2 hw y S2 H2 r2 I2 s2=>by
  let(ps,e,hw):=kq hw
  let(qs,e',q):=kq hw
  let(l,rfl,st):=(r1.mono s2).stays e
  let(l',rfl,st'):=r2.stays e'
  let(vs,h1,_):=st S2 H2 (Same.refl _) I2.sub
  let(ws,h2,_):=st' S2 H2 (Same.refl _) I2.sub
  exact⟨_,_,l,l',rfl,⟨vs,h1⟩,⟨ws,h2⟩,k _ L2 q _ c S2 H2 I2 (λ_ _ _ _ I=>I) rfl (Ce (λL σ S H I s=>st S H s I.sub) λL σ S H I s=>st' S H s I.sub) (s1.trans s2)⟩⟩⟩
def Nb (G:Good X C n sp)(hg:C.gl (hW "enumerate")=Ω)(hs:j9 a=Ξ)(ha:FE X C a ea):FI X C C.md (.Tuple elts kk tp) (.Call (.Name (hW "enumerate") p) [a] [] pos) (wz ea) :=
 PI.imp (KM (G.gl hg) (G.blt "enumerate" (·)) (ka ha kF (jU hs)) (jU hs)) λσ H R q1=>by let(c,L,S,Q0,I,h,k):=q1;exact
 ⟨c,L,S,_,I,h,λv L1 hv x S1 H1 r1 I1 s1=>by
  let(ps,e,q):=kq hv
  let(l,rfl,st):=r1.stays e
  let(vs,h1,_):=st S1 H1 (Same.refl _) I1.sub
  exact⟨_,l,rfl,⟨vs,h1⟩,k _ L1 q _ c S1 H1 I1 (λ_ _ _ _ I=>I) rfl (EC λL σ S H I s=>st S H s I.sub) s1⟩⟩
end
abbrev Lj:List Nat->Du
 | []=>HU
 | i :: is=>gCons (mq i) (Lj is)
abbrev gT (K:ib):Tg->TG
 | .nm i=>mq i
 | .tp is=>gTup K is.length (Lj is)
 | .tn i is=>gTup K 2 (gCons (mq i) (gCons (gTup K is.length (Lj is)) HU))
abbrev l8 (md:Md):Tg->Bool
 | .nm i=>Δ (jX md i=.imm)
 | .tp is=>is.all λi=>Δ (jX md i=.imm)
 | .tn i is=>Δ (jX md i=.imm) && is.all λi=>Δ (jX md i=.imm)
abbrev mR (n:Nat):Tg->Bool
 | .nm i=>Δ (n<=i)
 | .tp is=>is.all λi=>Δ (n<=i)
 | .tn i is=>Δ (n<=i) && is.all λi=>Δ (n<=i)
abbrev FG (X:Cx)(t:Expr)(tg:Tg):Prop:=PG X.nox t (gT X.K tg)
section
variable {K:ib}{c:Cn}{md:Md}{L:jR}{σ:L2.St}{S H:Hp}
def pE:∀ {is:List Nat}{ps:List FV}{vs:List V}{L L':jR}{σ:L2.St},(is.all λi=>Δ (jX md i=.imm))=Ω->Iv K c md L σ S H->RVs K S ps vs->qB L is ps=Ψ L' ->
  ∃ σ',(∀ Q:L2.St->Hp->Prop,Q σ' H->Lj is vs σ H Q)/\Iv K c md L' σ' S H/\σ'.length=σ.length/\is.length=vs.length/\∀ n,(is.all λi=>Δ (n<=i))=Ω->∀ j,j<n->σ'[j]?=σ[j]?
 | [],[],vs,L,L',σ,_,I,r,e=>by cases (show vs=[] from r);cases e;exact⟨σ,λQ q=>⟨rfl,q⟩,I,rfl,rfl,λ_ _ _ _=>rfl⟩
 | i :: is,p :: ps,vs,L,L',σ,hm,I,r,e=>by
  let(v,q,rfl,h1,h2):=r
  let hm:=b2 (show (Δ (jX md i=.imm) && is.all λi=>Δ (jX md i=.imm))=Ω from hm)
  let(σ',g,I',l1,l2,far):=pE (is:=is) (ps:=ps) (vs:=q) hm.2 (I.setI (de hm.1) h1) h2 e
  exact⟨σ',λQ q'=>⟨v,q,rfl,g Q q'⟩,I',by rw[l1,fB],by rw[eK,eK,l2],λn hn j hj=>?_⟩
  let hn:=b2 (show (Δ (n<=i) && is.all λi=>Δ (n<=i))=Ω from hn)
  have:=de hn.1
  rw[far n hn.2 j hj,bV ⋯]
 | [],p :: ps,_,_,_,_,_,_,_,e=>by cases e
 | i :: is,[],_,_,_,_,_,_,_,e=>by cases e
def qr {tg:Tg}{v:FV}{x:V}{Q:jR->Prop}(hm:l8 md tg=Ω)(I:Iv K c md L σ S H)(r:RV K S v x)(h:gW tg v L Q) :
  ∃ σ' L',(∀ Q':L2.St->Hp->Prop,Q' σ' H->gT K tg x σ H Q')/\Q L'/\Iv K c md L' σ' S H/\σ'.length=σ.length/\∀ n,mR n tg=Ω->∀ j,j<n->σ'[j]?=σ[j]?:=by
 cases tg with
 | nm i =>
  exact⟨σ.set i (Ψ x),L.set i (Ψ v),λQ q=>q,h,I.setI (de hm) r,fB ..,λn hn j hj=>?_⟩
  have:n<=i:=de hn
  exact bV ⋯
 | tp is =>
  let(ps,e,h):=kq h
  let(L',e1,q):=kq h
  cases nk e
  let(a,vs,rfl,h1,h2):=r
  let(σ',g,I',l1,l2,far):=pE hm I h2 e1
  exact⟨σ',L',λQ q=>⟨a,vs,rfl,SqT.of (I.sub _ _ h1),l2.symm,g Q q⟩,q,I',l1,far⟩
 | tn i is =>
  let hm:=b2 hm
  let(ps,e,h):=kq h
  let(p,e1,h):=kq h
  let(qs,e2,h):=kq h
  let(L',e3,q):=kq h
  cases nk e
  let(p1,p2):=p
  obtain rfl:ps=[p1,p2]:=by
   rcases ps with _|⟨a,_|⟨b,_|⟨c,r⟩⟩⟩<;>first|(cases e1;done)|(cases e1;rfl)
  let(a,vs,rfl,h1,h2):=r
  let(u,w,rfl,r1,r2):=h2.two_of
  cases nk e2
  let(b,ws,rfl,h3,h4):=r2
  let(σ',g,I',l1,l2,far):=pE hm.2 (I.setI (de hm.1) r1) h4 e3
  exact⟨σ',L',λQ q=>⟨a,_,rfl,SqT.of (I.sub _ _ h1),rfl,_,_,rfl,_,_,rfl,b,ws,rfl,SqT.of (I.sub _ _ h3),l2.symm,g _ ⟨rfl,q⟩⟩,q,I',by rw[l1,fB],λn hn j hj=>?_⟩
  let hn:=b2 hn
  have:=de hn.1
  rw[far n hn.2 j hj,bV ⋯]
def Iv.regrow {a:jP}{o o':HO}(I:Iv K { c with pr:=(a,o) :: c.pr } md L σ S H)(h0:c.H0 a=Φ)(hp:∀ p∈c.pr,p.1≠a)(hz:∀ p∈c.fz,∃ o,(p.2,o)∈c.pr)(nt:ox o'=Ξ:=by first|rfl|exact pI _ _):Iv K { c with pr:=(a,o') :: c.pr } md L σ S (kh H a o'):=by
 let(_,sa,na):=I.prs (a,o) cQ
 let oa:∀ j w b,jX md j≠.imm->L[j]?=Ψ (Ψ w)->σ[j]?=Ψ (Ψ (.ref b))->b≠a:=λj w b hm hj hs z=>by
  subst z
  by_cases m:(jX md j).w=Ω
  ·exact na j w m hj hs
  ·let m:jX md j=.frz:=by cases q:jX md j with|imm=>exact absurd q hm|frz=>rfl|_=>rw[q] at m;exact absurd rfl m
   let(b',g1):=I.fzm j w m hj
   let(_,g2,_):=I.fzs _ g1
   rw[hs] at g2;cases g2
   let(xs,g3):=hz _ g1
   exact hp _ g3 rfl
 exact⟨I.len,I.imm,λj w hm hj=>?_,I.dis,λb u e=>?_,λb u e n n1=>?_,I.s0,I.grow,I.lent,I.fzs,I.fzm,λp hpz=>let ⟨xs,g⟩:=hz p hpz;⟨xs,bT _ g⟩,λp hpr=>?_,λp hpr=>(gM.mp hpr).elim (λz=>by rw[z];exact nt) λz=>I.ntp p (bT _ z),I.lnt1,I.tie⟩
 ·let(b,e1,(g1,ps,xs,g2,g3,g4),g5):=I.own j w hm hj
  exact⟨b,e1,⟨g1,ps,xs,g2,by rw[jT (oa j w b hm hj e1)];exact g3,g4⟩,g5⟩
 ·rw[jT λz=>by subst z;rw[sa] at e;cases e];exact I.sub b u e
 ·rw[jT λz=>by subst z;rw[h0] at e;cases e];exact I.frame b u e n n1
 ·rcases gM.mp hpr with rfl|hpr
  ·exact⟨jV,sa,na⟩
  ·let(g1,g2,g3):=I.prs p (bT _ hpr)
   exact⟨by rw[jT (hp p hpr)];exact g1,g2,g3⟩
def Iv.unprot {a:jP}{o:HO}(I:Iv K { c with pr:=(a,o) :: c.pr } md L σ S H)(hz:∀ p∈c.fz,∃ o,(p.2,o)∈c.pr):Iv K c md L σ S H :=
 ⟨I.len,I.imm,I.own,I.dis,I.sub,I.frame,I.s0,I.grow,I.lent,I.fzs,I.fzm,hz,λp hp=>I.prs p (bT _ hp),λp hp=>I.ntp p (bT _ hp),I.lnt1,I.tie⟩
def BL:∀ {md:Md}{i:Nat},md.length<=i->jX md i=.imm
 | [],i,_=>rfl
 | a :: md,0,h=>absurd h ∅
 | a :: md,i+1,h=>BL (md:=md) (i:=i) (by simpa using h)
def Iv.more (I:Iv K c md L σ S H) (m:Nat):Iv K c md (L++gf m Φ) (σ++gf m Φ) S H:=by
 let look:∀ j w,(L++gf m Φ)[j]?=Ψ (Ψ w)->L[j]?=Ψ (Ψ w)/\(σ++gf m Φ)[j]?=σ[j]?:=λj w z=>by
  by_cases h:j<L.length
  ·rw[aK h] at z
   exact⟨z,aK (by rw[<- I.len];exact h)⟩
  ·rw[az ⋯,bh] at z
   split at z<;>cases z
 let up:∀ j w,L[j]?=Ψ (Ψ w)->(L++gf m Φ)[j]?=Ψ (Ψ w)/\(σ++gf m Φ)[j]?=σ[j]?:=λj w z=>by
  let h:=(aI.mp z).1
  exact⟨by rw[aK h];exact z,aK (by rw[<- I.len];exact h)⟩
 exact⟨by simp[I.len],λj w hm z=>?_,λj w hm z=>?_,λj k w u b m1 m2 z1 z2 y1 y2=>?_,I.sub,I.frame,I.s0,I.grow,λb hb=>?_,λp hp=>?_,λj w hm z=>I.fzm j w hm (look j w z).1,I.fzp,λp hp=>?_,I.ntp,λq hq=>?_,λj k x C dx fs w h1 h2 h3 h4=>?_⟩
 ·let(z,y):=look j w z;rw[y];exact I.imm j w hm z
 ·let(z,y):=look j w z;rw[y];exact I.own j w hm z
 ·let(z1,q1):=look j w z1
  let(z2,q2):=look k u z2
  rw[q1] at y1;rw[q2] at y2
  exact I.dis j k w u b m1 m2 z1 z2 y1 y2
 ·let(g1,g2,w,g3):=I.lent b hb
  let(f1,f2):=up 0 w g3
  exact⟨g1,by rw[f2];exact g2,w,f1⟩
 ·let(g1,g2,w,g3):=I.fzs p hp
  let(f1,f2):=up p.1 w g3
  exact⟨g1,by rw[f2];exact g2,w,f1⟩
 ·let(g1,g2,g3):=I.prs p hp
  exact⟨g1,g2,λj w hm z=>?_⟩
  let(z,y):=look j w z
  rw[y];exact g3 j w hm z
 ·let(g1,g2,w,g3):=I.lnt1 q hq
  let(f1,f2):=up q.1 w g3
  exact⟨g1,by rw[f2];exact g2,w,f1⟩
 ·let(z4,y4):=look j w h4
  rw[y4]
  exact I.tie j k x C dx fs w h1 h2 (look k _ h3).1 z4
def Iv.take {n:Nat}{σ2:L2.St}(I:Iv K c md L σ2 S H)(hmd:md.length<=n)(hs:σ.length=n)(hl:n<=σ2.length)(e:∀ j,j<n->σ2[j]?=σ[j]?):Iv K c md (L.take n) σ S H:=by
 let look:∀ j w,(L.take n)[j]?=Ψ (Ψ w)->L[j]?=Ψ (Ψ w)/\σ[j]?=σ2[j]?:=λj w z=>by
  let h:=(aI.mp z).1
  rw[eI] at h
  rw[aU ⋯] at z
  exact⟨z,(e j ⋯).symm⟩
 let up:∀ j w,jX md j≠.imm->L[j]?=Ψ (Ψ w)->(L.take n)[j]?=Ψ (Ψ w)/\σ[j]?=σ2[j]?:=λj w hm z=>by
  let h:j<n:=by
   by_cases h:j<n
   ·exact h
   ·exact absurd (BL ⋯) hm
  exact⟨by rw[aU h];exact z,(e j h).symm⟩
 exact⟨by rw[eI,I.len,hs];lia,λj w hm z=>?_,λj w hm z=>?_,λj k w u b m1 m2 z1 z2 y1 y2=>?_,I.sub,I.frame,I.s0,I.grow,λb hb=>?_,λp hp=>?_,λj w hm z=>I.fzm j w hm (look j w z).1,I.fzp,λp hp=>?_,I.ntp,λq hq=>?_,λj k x C dx fs w h1 h2 h3 h4=>?_⟩
 ·let(z,y):=look j w z;rw[y];exact I.imm j w hm z
 ·let(z,y):=look j w z;rw[y];exact I.own j w hm z
 ·let(z1,q1):=look j w z1
  let(z2,q2):=look k u z2
  rw[q1] at y1;rw[q2] at y2
  exact I.dis j k w u b m1 m2 z1 z2 y1 y2
 ·let(g1,g2,w,g3):=I.lent b hb
  let(f1,f2):=up 0 w g1 g3
  exact⟨g1,by rw[f2];exact g2,w,f1⟩
 ·let(g1,g2,w,g3):=I.fzs p hp
  let(f1,f2):=up p.1 w (λz=>by rw[g1] at z;cases z) g3
  exact⟨g1,by rw[f2];exact g2,w,f1⟩
 ·let(g1,g2,g3):=I.prs p hp
  exact⟨g1,g2,λj w hm z=>?_⟩
  let(z,y):=look j w z
  rw[y];exact g3 j w hm z
 ·let(g1,g2,w,g3):=I.lnt1 q hq
  let(f1,f2):=up q.1 w (λz=>by rw[z] at g1;cases g1) g3
  exact⟨g1,by rw[f2];exact g2,w,f1⟩
 ·let(z4,y4):=look j w h4
  rw[y4]
  exact I.tie j k x C dx fs w h1 h2 (look k _ h3).1 z4
def tV {α β:Type}{J:It}{xs:List FV}{n m:Nat}{tg:Tg}{t:BW}{QH:Hp->Prop}{fr:β->Cn}{P:α->β->Hp->Prop}{N:α->Nat}{Cm:List FV->α->jR->Prop}{em:α->jR->(α->jR->Prop)->Prop}{eh:L2.St->Hp->(Hp->Prop)->Prop}{a0:α}{b0:β}
  (I:Iv K (fr b0) md L σ S H)(hJ:Ay K c md J xs S)(hL:L.length=n)(hmd:md.length<=n)(ht:l8 md tg=Ω)(hg:mR n tg=Ω)(p0:P a0 b0 S)(n0:N a0=0)(h:Cm xs a0 L)
  (hU:∀ a b L σ S H,Iv K (fr b) md L σ S H->P a b S->Iv K c md L σ S H)(hP:∀ a b S S',P a b S->Same S S'->P a b S')
  (hC:∀ x xs a L,Cm (x :: xs) a L->gW tg x (L++gf m Φ) λL1=>t L1 λb L2=>if b=Ω then em a L2 (λa' L4=>Cm xs a' (L4.take n)) else Cm xs a (L2.take n))
  (hE:∀ a b L3 σ2 S3 H3 K' Z,N a<xs.length->Iv K (fr b) md L3 σ2 S3 H3->P a b S3->em a L3 K'->(∀ a' b' L4 S4 H4,K' a' L4->Iv K (fr b') md L4 σ2 S4 H4->P a' b' S4->Same S3 S4->N a'<=N a+1->Z H4)->eh σ2 H3 Z)
  (k:∀ a b L' S' H',Cm [] a L'->Iv K (fr b) md L' σ S' H'->P a b S'->Same S S'->QH H') :
  ∃ W:Nat->Nat->Hp->Prop,(∃ m,W 0 m H)/\∀ i j H,W i j H ->
   (J.stop i H/\QH H) ∨ (J.go i H/\∀ x H',J.yld i H x H'->gT K tg x (σ++gf m Φ) H' λσ2 H2=>Wk (σ++gf m Φ) σ2/\lb K md t σ2 H2 λb H3 =>
    if b=Ω then eh σ2 H3 λH4=>∃ m',m'<j/\W (i+1) m' H4 else ∃ m',m'<j/\W (i+1) m' H3):=by
 let hl:σ.length=n:=by rw[<- I.len];exact hL
 exact⟨λi j H1=>∃ L S1 a b,j=(xs.drop i).length/\Iv K (fr b) md L σ S1 H1/\P a b S1/\Same S S1/\L.length=n/\N a<=i/\Cm (xs.drop i) a L,⟨_,L,S,a0,b0,rfl,I,p0,Same.refl S,hL,ip n0,by rw[gj];exact h⟩,?_⟩
 rintro i j H1 ⟨L,S1,a,b,rfl,I,r,s,hL,hps,hc⟩
 let(j1,j2):=hJ i L σ S1 H1 (hU _ _ _ _ _ _ I r) s
 cases hd:xs.drop i with
 | nil =>
  left
  rw[hd] at hc
  exact⟨j1 (aJ.mpr (bW.mp hd)),k a b L S1 H1 hc I r s⟩
 | cons p rest =>
  right
  rw[hd] at hc
  let hi:xs[i]?=Ψ p:=by
   have:=congrArg (·[0]?) hd
   simpa using this
  let hd':xs.drop (i+1)=rest:=by
   have:=congrArg jb hd
   simpa[ge] using this
  let hix:i<xs.length:=(aI.mp hi).1
  let(go,yl):=j2 p hi
  exact⟨go,λx H2 y=>?_⟩
  let(S2,s2,tr,rx):=yl x H2 y
  let I2:=(tr _ _ _ _ I).more m
  let(σ2,L2,gq,q2,I2,len2,far):=qr ht I2 rx (hC _ _ _ _ hc)
  let l2:n<=σ2.length:=by rw[len2,cR,hl];lia
  let far':∀ q,q<n->σ2[q]?=σ[q]?:=λq hq=>by rw[far n hg q hq,aK (by rw[hl];exact hq)]
  exact gq _ ⟨⟨len2,λq v hv=>?_⟩,?_⟩
  ·let hq:q<n:=by
    by_cases h:q<σ.length
    ·rw[<- hl];exact h
    ·rw[az ⋯,bh] at hv
     split at hv<;>cases hv
   rw[far n hg q hq];exact hv
  ·exact⟨_,L2,S2,_,I2,q2,λb1 L3 hb3 S3 H3 I3 s3=>?_⟩
   let ln:∀ {c':Cn}{L4:jR}{S4 H4:Hp},Iv K c' md L4 σ2 S4 H4->(L4.take n).length=n:=λI4=>by rw[eI,I4.len];lia
   show ite _ _ _
   cases b1 with
   | false =>
    rw[if_neg cU] at hb3 ⊢
    exact⟨rest.length,∅,L3.take n,S3,a,b,by rw[hd'],I3.take hmd hl l2 far',hP _ _ _ _ r (s2.trans s3),s.trans (s2.trans s3),ln I3,⋯,by rw[hd'];exact hb3⟩
   | true =>
    rw[if_pos rfl] at hb3 ⊢
    exact hE a b L3 σ2 S3 H3 _ _ ⋯ I3 (hP _ _ _ _ r (s2.trans s3)) hb3 λa' b' L4 S4 H4 hv I4 r4 s4 n4=>⟨rest.length,∅,L4.take n,S4,a',b',by rw[hd'],I4.take hmd hl l2 far',r4,s.trans (s2.trans (s3.trans s4)),ln I4,⋯,by rw[hd'];exact hv⟩
def Iv.newPr {Z8:jP}{o:HO}(I:Iv K { c with pr:=(Z8,o) :: c.pr } md L σ S H)(h0:c.H0 Z8=Φ)(hp:∀ p∈c.pr,p.1≠Z8)(hz:∀ p∈c.fz,∃ o,(p.2,o)∈c.pr):H Z8=Ψ o/\S Z8=Φ/\nR c md L σ Z8:=by
 let(g1,g2,g3):=I.prs (Z8,o) cQ
 exact⟨g1,g2,h0,hp,λq w hm hq hs=>?_⟩
 by_cases mo:(jX md q).w=Ω
 ·exact g3 q w mo hq hs
 ·let mo:jX md q=.frz:=by cases z:jX md q with|imm=>exact absurd z hm|frz=>rfl|_=>rw[z] at mo;exact absurd rfl mo
  let(b,f1):=I.fzm q w mo hq
  let(_,f2,_):=I.fzs _ f1
  rw[hs] at f2;cases f2
  let(ys,f3):=hz _ f1
  exact hp _ f3 rfl
def Da {J:It}{xs:List FV}{n m:Nat}{tg:Tg}{t:BW}{e:EW}{Q:VK}{Q1:List FV->jR->Prop}(I:Iv K c md L σ S H)(hJ:Ay K c md J xs S)(hL:L.length=n)(hmd:md.length<=n)(ht:l8 md tg=Ω)(hg:mR n tg=Ω)(hb:xs.length<=big)(h:m8 n m tg t e xs [] L Q1)
  (k:∀ Z8 ps L' S' H',H Z8=Φ->Q1 ps L'->OwnAt K S' H' Z8 (.lst ps)->nR c md L' σ Z8->Iv K c md L' σ S' H'->Same S S'->Q (.ref Z8) H') :
  ∀ Z8,H Z8=Φ->∃ W:Nat->Nat->Hp->Prop,(∃ m,W 0 m (kh H Z8 (.lst [])))/\∀ i j H,W i j H ->
   (J.stop i H/\Q (.ref Z8) H) ∨ (J.go i H/\∀ x H',J.yld i H x H'->gT K tg x (σ++gf m Φ) H' λσ2 H2=>Wk (σ++gf m Φ) σ2/\lb K md t σ2 H2 λb H3 =>
    if b=Ω then Nx (lv K md e) Z8 σ2 H3 λH4=>∃ m',m'<j/\W (i+1) m' H4 else ∃ m',m'<j/\W (i+1) m' H3):=by
 intro Z8 hacc
 let h0:=I.h0 hacc
 let hp:∀ p∈c.pr,p.1≠Z8:=(I.fresh hacc).2.1
 let hz:=I.fzp
 let hbl:=kM
 exact tV (fr:=λus=>{ c with pr:=(Z8,.lst us) :: c.pr }) (P:=λps us S=>RVs K S ps us) (N:=iL) (Cm:=λxs ps L=>m8 n m tg t e xs ps L Q1) (em:=λps L3 K'=>e L3 λv L4=>K' (ps++[v]) L4) (a0:=[]) (b0:=[]) ((I.lay hacc _).prot jV (I.sn hacc) λj w hm hj=>(I.fresh hacc).2.2 j w (Mo.w_imm hm) hj) hJ hL hmd ht hg rfl rfl h (λ_ _ _ _ _ _ I _=>I.unprot hz) (λ_ _ _ _ r s=>r.mono s) (λ_ _ _ _ h=>h) (λps us L3 σ2 S3 H3 K' Z hn I3 r hv kz=>?_) λps us L' S' H' q I' r s'=>?_
 ·exact⟨_,L3,S3,_,I3,hv,λv L4 hv u S4 H4 r4 I4 s4=>?_⟩
  let lr:=r.length
  exact⟨us,(I4.prs (Z8,.lst us) cQ).1,⋯,kz _ (us++[u]) L4 S4 _ hv (I4.regrow h0 hp hz) ((r.mono s4).append (RVs.one r4)) s4 ∅⟩
 ·let(g1,g2,f):=I'.newPr h0 hp hz
  exact k Z8 ps L' S' H' hacc q ⟨g2,ps,us,rfl,g1,r⟩ f (I'.unprot hz) s'
end
abbrev wu:Expr->Bool
 | .Set ..=>Ω
 | _=>Ξ
def qt {x:Expr}{env:Env}(h:wu x=Ξ):∀ v,foldedSetIterable x env v=pure v:=by
 intro v
 cases x<;>first|rfl|(cases h;done)
abbrev CC.tn (C:CC) (i:Nat)(x:Str):Bool:=Δ (C.N[i]?=Ψ x) && C.loc x
abbrev GX (outer:List (Str×jj))(names:List (Str×jj)):List (Str×jj) :=
 names.map λ(n,k)=>if (k == NameKind.free && outer.lookup n == Ψ .cell) then (n,NameKind.cell) else (n,k)
abbrev CC.sub (C:CC)(scope:jG)(own:List Str)(md:Md):CC:=⟨C.N.map (pN own)++own,GX C.sc scope.names,C.fns,md,Ξ,scope.names,C.ms,C.fl⟩
abbrev CC.scOk (C:CC)(scope:jG)(own:List Str):Bool :=
 Δ (scope.kind=.function) && scope.names.all (λp=>Δ (p.2=.cell->scope.names.lookup p.1=Ψ .cell)) && scope.names.all (λp=>Δ (p.2=.local->scope.names.lookup p.1=Ψ .local)) &&
 scope.names.all (λp=>Δ (p.2=.free->(C.sc.lookup p.1=Ψ .cell ∨ C.sc.lookup p.1=Ψ .free))) && C.N.all (λx=>if own.contains x then Δ (scope.names.lookup (EL x)=Φ) else Δ (scope.names.lookup x≠Ψ .local/\scope.names.lookup x≠Ψ .cell)) && Δ ((C.N.map (pN own)++own).Nodup)
abbrev BM:Md->Md->Bool
 | [],_=>Ω
 | a :: md,[]=>Δ (a=.imm) && BM md []
 | a :: md,b :: md'=>(Δ (a=.imm) || !Δ (b=.imm)) && BM md md'
def pM:∀ {md md':Md},BM md md'=Ω->∀ j,jX md j≠.imm->jX md' j≠.imm
 | [],_,_,j,h=>absurd rfl h
 | a :: md,[],h,0,h0=>absurd (de (b2 h).1) h0
 | a :: md,[],h,j+1,h0=>pM (md:=md) (md':=[]) (b2 h).2 j h0
 | a :: md,b :: md',h,0,h0=>λz=>by
  let h:=(b2 h).1
  let h0:a≠.imm:=h0
  let z:b=.imm:=z
  simp[h0,z] at h
 | a :: md,b :: md',h,j+1,h0=>pM (md:=md) (md':=md') (b2 h).2 j h0
abbrev NW (X:Cx)(es:List Expr)(is:List Nat):Prop:=GB X.nox es (Lj is)/\(assignEach es X.env).length=is.length/\(assignEach es X.env).findIdx? (·.1)=Φ
abbrev J6 (X:Cx)(C:CC)(xs:List Expr)(t:BW):Prop:=PTs X.nox xs (lb X.K C.md t)
section
variable {X:Cx}{C:CC}{n:Nat}{sp:ib->Nat->Sp}{a x:Expr}{xs:List Expr}{pos p:Pos}{i k:Nat}{nx:Str}{is:List Nat}{t u:BW}
def Good.ix (G:Good X C n sp){y:Str}(h:Δ (C.N[i]?=Ψ y)=Ω):X.N[i]?=Ψ y:=by rw[G.N];exact de h
def Good.nd' (G:Good X C n sp):X.N.Nodup:=by rw[G.N];exact G.nd
def CI (G:Good X C n sp)(h:C.tn i nx=Ω):FG X (.Name nx p) (.nm i):=by
 let h:=b2 h
 let(l1,l2):=G.loc h.2
 exact D3 (X:=X.nox) G.nd' (G.ix h.1) l1 l2
def Nc:NW X [] []:=⟨yu,rfl,rfl⟩
def Lp (G:Good X C n sp)(h:C.tn i nx=Ω)(r:NW X xs is):NW X (.Name nx p :: xs) (i :: is):=by
 let(h1,h2,h3):=r
 exact⟨vQ (CI G h) h1 rfl,?_,?_⟩
 ·show (assignEach xs X.env).length+1=is.length+1
  rw[h2]
 ·show ((Ξ,assign (.Name nx p) X.env) :: assignEach xs X.env).findIdx? (·.1)=Φ
  rw[List.findIdx?_cons]
  simp[h3]
def fg_tp (G:Good X C n sp)(r:NW X xs is):FG X (.Tuple xs k p) (.tp is):=Hb (X:=X.nox) G.calm r.1 r.2.1 r.2.2
def PTs.imp {e:List Expr}{t u:TT}(h:PTs X e t)(f:∀ σ H Q,u σ H Q->t σ H Q):PTs X e u:=λZ9 s σ H Q I hu=>h Z9 s σ H Q I (f σ H Q hu)
def MS:J6 X C [] lp:=PTs.imp yq λσ H Q q1=>by let(c,L,S,Q0,I,h,k):=q1;exact k Ω L h S H I (Same.refl S)
def MR (h1:FB X C a t):J6 X C [a] t:=PTs.imp (Bd h1 (yq (X:=X.nox))) λσ H Q q1=>by let(c,L,S,Q0,I,h,k):=q1;exact
 ⟨c,L,S,_,I,h,λr L1 q S1 H1 I1 s1=>by
  cases r with
  | true=>rw[if_pos rfl];exact k Ω L1 q S1 H1 I1 s1
  | false=>rw[if_neg cU];exact k Ξ L1 q S1 H1 I1 s1⟩
def Good.sub (G:Good X C n sp){scope:jG}{own:List Str}(h:C.scOk scope own=Ω)(md:Md):CScope X scope own/\∀ fp D s H,Good (lD X scope own fp D s H) (C.sub scope own md) n sp:=by
 simp![CC.scOk,eR,decide_eq_true_eq,eO] at h
 let(((((h1,h2),h3),h4),h5),h6):=h
 exact⟨⟨h1,λp hp=>by simpa using h2 p hp,λp hp=>by simpa using h3 p hp,λp hp hk=>?_,λx hx hw=>?_,λx hx hw=>?_⟩,λfp D s H=>⟨?_,?_,h1,h6,G.calm,(λx z=>z),G.room,G.fns,G.blt,G.mts,G.fls⟩⟩
 ·have:=h4 p hp
  show X.env.scope.names.lookup p.1=_ ∨ X.env.scope.names.lookup p.1=_
  rw[G.sc];exact this hk
 ·have:=h5 x (by rw[<- G.N];exact hx)
  rw[if_neg (by rw[hw];exact cU)] at this
  exact de this
 ·have:=h5 x (by rw[<- G.N];exact hx)
  rw[if_pos hw] at this
  exact de this
 ·show X.N.map (pN own)++own=C.N.map (pN own)++own
  rw[G.N]
 ·show (relabel scope X.env).names=GX C.sc scope.names
  unfold relabel GX
  simp only
  exact cq λp hp=>?_
  let(nm,kd):=p
  show (if (kd == NameKind.free && X.env.scope.kind == .function && X.env.scope.names.lookup nm == Ψ .cell)=Ω then (nm,NameKind.cell) else (nm,kd))=_
  rw[G.kind,G.sc]
  simp
variable {scope:jG}{own:List Str}{Z4 Z0 Z6:Expr}{Z5:List Expr}{it:AW}{tg:Tg}{e:EW}{nn m:Nat}{md':Md}
structure CompOk (X:Cx)(C:CC) (n:Nat)(sp:ib->Nat->Sp)(scope:jG)(own:List Str)(Z4 Z0 Z6:Expr)(Z5:List Expr) (nn m:Nat)(md':Md)(it:AW)(tg:Tg)(t:BW)(e:EW):Prop where
 st:(C.scOk scope own && Δ (C.N.length=nn) && Δ (own.length=m) && Δ (md'.length<=nn) && BM C.md md' && l8 md' tg && mR nn tg && !wu Z6)=Ω
 it:FI X C md' Z0 Z6 it
 tg:∀ X',Good X' (C.sub scope own md') n sp->FG X' Z0 tg
 ts:∀ X',Good X' (C.sub scope own md') n sp->J6 X' (C.sub scope own md') Z5 t
 el:∀ X',Good X' (C.sub scope own md') n sp->FE X' (C.sub scope own md') Z4 e
def CompOk.run (G:Good X C n sp)(h:CompOk X C n sp scope own Z4 Z0 Z6 Z5 nn m md' it tg t e){σ:L2.St}{H:Hp}{Q:VK}(hq:lf X.K C.md (lU nn m it tg t e) σ H Q):AM (li X.K C.md md' it) (gT X.K tg) (lb X.K md' t) (lv X.K md' e) own.length σ H Q:=by
 let h0:=b2 h.st;let h1:=b2 h0.1;let h2:=b2 h1.1;let h3:=b2 h2.1;let h4:=b2 h3.1;let h5:=b2 h4.1;let h6:=b2 h5.1
 let(c,L,S,Q0,I,hh,k):=hq
 exact⟨c,L,S,_,I,hh,λxs L1 hx J c' S1 H1 I1 un e0 hJ s1=>?_⟩
 let(hl,hb,hc):=hx
 rw[de h5.2]
 refine Da I1 hJ hl (de h4.2) h2.2 h1.2 hb hc λZ8 ps L' S' H' hn q o fr I' s'=>k _ L' q Z8 S' H' o ⟨by rw[<- e0];exact fr.1,((un _ _ _ _ I1).fresh hn).2.1,λj w hm=>fr.2.2 j w (pM h3.2 j hm)⟩ (un _ _ _ _ I') (s1.trans s')
def CompOk.blk (G:Good X C n sp)(h:CompOk X C n sp scope own Z4 Z0 Z6 Z5 nn m md' it tg t e):CScope X scope own/\(∀ fp D s H,PG (lD X scope own fp D s H) Z0 (gT X.K tg)/\PTs (lD X scope own fp D s H) Z5 (lb X.K md' t)/\PE (lD X scope own fp D s H) Z4 (lv X.K md' e))/\∀ v,foldedSetIterable Z6 X.env v=pure v:=by
 let h0:=b2 h.st;let h1:=b2 h0.1;let h2:=b2 h1.1;let h3:=b2 h2.1;let h4:=b2 h3.1;let h5:=b2 h4.1;let h6:=b2 h5.1
 let(s1,s2):=G.sub h6.1 md'
 exact⟨s1,λfp D s H=>⟨h.tg _ (s2 fp D s H),h.ts _ (s2 fp D s H),h.el _ (s2 fp D s H)⟩,qt (nb h0.2)⟩
def lP (G:Good X C n sp)(h:CompOk X C n sp scope own Z4 Z0 Z6 Z5 nn m md' it tg t e):FF X C (.ListComp Z4 [⟨Z0,Z6,Z5,0⟩] scope pos) (lU nn m it tg t e):=by
 let(s1,s2,s3):=h.blk G
 exact PE.imp (uM G.calm s1 h.it s2 s3) λσ H Q q=>h.run G q
end
abbrev L8 (K:ib)(c:Cn)(S H:Hp)(v:FV)(x:V):Bool->Prop
 | false=>RV K S v x
 | true=>∃ a,x=.ref a/\OwnAt K S H a v/\c.H0 a=Φ
abbrev Mf (K:ib)(c:Cn)(fr:Bool)(D:Ends)(σ:L2.St)(S H:Hp):FFl->Prop
 | .next=>D.nx σ H
 | .brk=>D.bk σ H
 | .cont=>D.ct σ H
 | .ret v=>∀ x,L8 K c S H v x fr->D.rt x H
inductive ls (K:ib)(md:Md)(fr:Bool)(s:SW)(D:Ends)(σ:L2.St)(H:Hp):Prop
 | mk (c:_)(L:_)(S:_)(Q0:_)(_:Iv K c md L σ S H)(_:s L Q0)(_:∀ fl L',Q0 fl L'->∀ σ' S' H',Iv K c md L' σ' S' H'->Same S S'->Mf K c fr D σ' S' H' fl):ls K md fr s D σ H
abbrev FS (X:Cx)(C:CC)(fr:Bool)(x:jL)(s:SW):Prop:=PS X.nox x (ls X.K C.md fr s)
abbrev sO (X:Cx)(C:CC)(fr:Bool)(x:List jL)(s:SW):Prop:=PSs X.nox x (ls X.K C.md fr s)
abbrev CC.wmd (C:CC)(md:Md):CC:=⟨C.N,C.sc,C.fns,md,C.top,C.oc,C.ms,C.fl⟩
section
variable {X:Cx}{C:CC}{n:Nat}{sp:ib->Nat->Sp}{fr:Bool}{a b x y:Expr}{e ea eb:EW}{pos p px py:Pos}{i j k:Nat}{nx:Str}{st:jL}{sts:List jL}{s r:SW}
variable {K:ib}{c:Cn}{md:Md}{L:jR}{σ:L2.St}{S H:Hp}
def Good.wmd (G:Good X C n sp)(md:Md):Good X (C.wmd md) n sp:=⟨G.N,G.sc,G.kind,G.nd,G.calm,G.fn,G.room,G.fns,G.blt,G.mts,G.fls⟩
def PS.imp {e:jL}{t u:TS}(h:PS X e t)(f:∀ D σ H,u D σ H->t D σ H):PS X e u:=λZ9 s σ H D I hu=>h Z9 s σ H D I (f D σ H hu)
def PSs.imp {e:List jL}{t u:TS}(h:PSs X e t)(f:∀ D σ H,u D σ H->t D σ H):PSs X e u:=λZ9 s σ H D I hu=>h Z9 s σ H D I (f D σ H hu)
def xM:sO X C fr [] lB:=PSs.imp DT λD σ H q1=>by let(c,L,S,Q0,I,h,k):=q1;exact k .next L h σ S H I (Same.refl S)
def lG (h:FS X C fr st s):sO X C fr [st] s:=yr h
def kc (h:FS X C fr st s)(h2:sO X C fr sts r):sO X C fr (st :: sts) (jY s r):=PSs.imp (Bf h h2) λD σ H q1=>by let(c,L,S,Q0,I,h,k):=q1;exact
 ⟨c,L,S,_,I,h,λfl L1 q σ1 S1 H1 I1 s1=>by
  cases fl with
  | next=>exact⟨c,L1,S1,_,I1,q,λfl L2 q σ2 S2 H2 I2 s2=>k fl L2 q σ2 S2 H2 I2 (s1.trans s2)⟩
  | brk=>exact k _ L1 q σ1 S1 H1 I1 s1
  | cont=>exact k _ L1 q σ1 S1 H1 I1 s1
  | ret v=>exact k _ L1 q σ1 S1 H1 I1 s1⟩
def M0:FS X C fr (.Pass pos) lB:=PS.imp DU λD σ H q1=>by let(c,L,S,Q0,I,h,k):=q1;exact k .next L h σ S H I (Same.refl S)
abbrev nI:Expr->Bool
 | .ListComp ..=>Ω
 | .SetComp ..=>Ω
 | .DictComp ..=>Ω
 | _=>Ξ
def lK {e:Expr}{t:Option Expr}{n:Nat}{env:Env}(h:nI e=Ξ):swapsWith e t n env=pure Ξ:=by
 cases e<;>first|rfl|(cases h;done)
def vt {e t:Expr}{n:Nat}{env:Env}(h:nI e=Ξ):swapsWithSole [t] e n env=pure Ξ:=by
 delta swapsWithSole;exact lK h
def M4 (hc:nI a=Ξ)(h:FE X C a e):FS X C fr (.Expr a pos) (pf e):=PS.imp (DV h (lK hc)) λD σ H q1=>by let(c,L,S,Q0,I,h,k):=q1;exact
 ⟨c,L,S,_,I,h,λv L1 q x S1 H1 r I1 s1=>k .next L1 q σ S1 H1 I1 s1⟩
def u3 (h:FE X C a e):FS X C Ξ (.Return (Ψ a) pos) (kf e):=PS.imp (xu h) λD σ H q1=>by let(c,L,S,Q0,I,h,k):=q1;exact
 ⟨c,L,S,_,I,h,λv L1 q x S1 H1 r I1 s1=>k (.ret v) L1 q σ S1 H1 I1 s1 x r⟩
def MZ (h:FF X C a e):FS X C Ω (.Return (Ψ a) pos) (kf e):=PS.imp (xu h) λD σ H q1=>by let(c,L,S,Q0,I,h,k):=q1;exact
 ⟨c,L,S,_,I,h,λv L1 q l S1 H1 o fr I1 s1=>k (.ret v) L1 q σ S1 H1 I1 s1 _ ⟨l,rfl,o,fr.1⟩⟩
def Iv.mine (I:Iv K c md L σ S H){v:FV}{a:jP}(hi:i≠0)(m:jX md i≠.imm)(e:L[i]?=Ψ (Ψ v))(e1:σ[i]?=Ψ (Ψ (.ref a)))(ng:(jX md i).g=Ξ:=by first|rfl|(simp![*];rfl)):c.H0 a=Φ:=by
 let(b,e2,_,h):=I.own i v m e
 rw[e1] at e2;cases e2
 rcases h with h|h|⟨j,h⟩
 ·let(g1,g2,w,g3):=I.lent a h
  exact absurd (I.dis i 0 v w a m g1 e g3 e1 g2) hi
 ·exact h
 ·let(g1,g2,w,g3):=I.lnt1 _ h
  have:=I.dis i j v w a m (λz=>by rw[z] at g1;cases g1) e g3 e1 g2
  subst this
  rw[ng] at g1;cases g1
def MY (G:Good X C n sp)(h:C.nm i nx=Ω)(m:(Δ (jX C.md i=.own) && Δ (i≠0))=Ω):FS X C Ω (.Return (Ψ (.Name nx p)) pos) (kf (jQ i)):=PS.imp (xu (ki G h)) λD σ H q1=>by
 let(c,L,S,Q0,I,h,k):=q1
 let m:=b2 m
 let mi:jX C.md i≠.imm:=λz=>by rw[de m.1] at z;cases z
 let(v,e,q):=kq h
 let e:=(kP _ _ _).mp e
 let(l,e1,o,_):=I.own i v mi e
 exact⟨_,e1,k (.ret v) L q σ S H I (Same.refl S) _ ⟨l,rfl,o,I.mine (de m.2) mi e e1 (by rw[de m.1];rfl)⟩⟩
def CA {t:BW}{xa xb:List jL}(h:FB X C a t)(ha:sO X C fr xa s)(hb:sO X C fr xb r):FS X C fr (.If a xa xb pos) (my t s r):=PS.imp (KL h ha hb) λD σ H q1=>by let(c,L,S,Q0,I,h,k):=q1;exact
 ⟨c,L,S,_,I,h,λv L1 q S1 H1 I1 s1=>by
  cases v with
  | true=>rw[if_pos rfl] at q ⊢;exact⟨c,L1,S1,_,I1,q,λfl L2 q σ2 S2 H2 I2 s2=>k fl L2 q σ2 S2 H2 I2 (s1.trans s2)⟩
  | false=>rw[if_neg cU] at q ⊢;exact⟨c,L1,S1,_,I1,q,λfl L2 q σ2 S2 H2 I2 s2=>k fl L2 q σ2 S2 H2 I2 (s1.trans s2)⟩⟩
def FQ {tg:Tg}{te:TE}(ht:l8 C.md tg=Ω)(hte:∀ σ H Q,lv X.K C.md e σ H Q->te σ H Q)(h:PS X.nox st (qM te (gT X.K tg))):FS X C fr st (kg e tg):=PS.imp h λD σ H ⟨c,L,S,Q0,I,h,k⟩=>hte _ _ _
 ⟨c,L,S,_,I,h,λv L1 q x S1 H1 r I1 s1=>by
  let(σ',L',g,q,I2,_):=qr ht I1 r q
  exact g _ (k .next L' q σ' S1 H1 I2 s1)⟩
def q0 {te:TE}(m:jX C.md i=.imm)(hte:∀ σ H Q,lf X.K C.md e σ H Q->te σ H Q)(h:PS X.nox st (qM te (mq i))):FS X C fr st (kg e (.nm i)):=PS.imp h λD σ H ⟨c,L,S,Q0,I,h,k⟩=>hte _ _ _
 ⟨c,L,S,_,I,h,λv L1 q l S1 H1 o f I1 s1=>by
  let(u,hu,I2,r):=yB I1 o f
  exact k .next _ q _ _ H1 (I2.setI m r) (s1.trans (kI o.1))⟩
def FT {te:TE}(m:(Δ (jX C.md i=.own) && Δ (i≠0))=Ω)(hte:∀ σ H Q,lf X.K C.md e σ H Q->te σ H Q)(h:PS X.nox st (qM te (mq i))):FS X C fr st (kg e (.nm i)):=PS.imp h λD σ H ⟨c,L,S,Q0,I,h,k⟩=>hte _ _ _
 ⟨c,L,S,_,I,h,λv L1 q l S1 H1 o f I1 s1=>by
  let m:=b2 m
  exact k .next _ q _ _ H1 (I1.set (λ_ _=>de m.2) (λz=>by rw[de m.1] at z;cases z) (.inr ⟨de m.1,l,rfl,o,f.1,f.2.1,λj w _ hm hj=>f.2.2 j w hm hj⟩)) s1⟩
def vO (G:Good X C n sp){te:TE}(ht:C.tn i nx=Ω)(hs:swapsWith a (Ψ (.Name nx px)) pos.line X.env=pure Ξ)(h:PE X.nox a te):PS X.nox (.Assign [.Name nx px] a pos) (qM te (mq i)):=by
 let ht:=b2 ht
 let(l1,l2):=G.loc ht.2
 exact Bh (X:=X.nox) G.nd' (G.ix ht.1) l1 h hs l2
def HW (G:Good X C n sp)(ht:C.tn i nx=Ω)(m:jX C.md i=.imm)(hc:nI a=Ξ)(h:FE X C a e):FS X C fr (.Assign [.Name nx px] a pos) (kg e (.nm i)) :=
 FQ (tg:=.nm i) (by simpa[l8] using m) (λ_ _ _ z=>z) (vO G ht (lK hc) h)
def MW (G:Good X C n sp)(ht:C.tn i nx=Ω)(m:(Δ (jX C.md i=.own) && Δ (i≠0))=Ω)(hc:nI a=Ξ)(h:FF X C a e):FS X C fr (.Assign [.Name nx px] a pos) (kg e (.nm i)) :=
 FT m (λ_ _ _ z=>z) (vO G ht (lK hc) h)
abbrev JH (C:CC)(x:Str)(px:Pos)(scope:jG)(p:Pos):Bool:=Δ (C.sc.lookup x=Ψ .local) && (px.line == p.line) && !(scope.names.any λ(n,k)=>n == x && (k == .local || k == .cell))
def ye {Z4:Expr}{gs:List gS}{scope:jG}{p px:Pos}{x:Str}{n:Nat}{env:Env}(hk:env.scope.kind=.function) :
  swapsWith (.ListComp Z4 gs scope p) (Ψ (.Name x px)) n env=pure (Δ (env.scope.names.lookup x=Ψ .local) && (px.line == p.line) && !(scope.names.any λ(n,k)=>n == x && (k == .local || k == .cell))):=by
 let hb:env.blockKind=.function:=by unfold gQ;rw[hk];rfl
 have:(env.kindOf x == Ψ .local)=Δ (env.scope.names.lookup x=Ψ .local):=by
  rw[fL];simp[Env.kindOf]
 unfold swapsWith
 simp![hb,this]
 rfl
variable {scope:jG}{own:List Str}{Z4 Z0 Z6:Expr}{Z5:List Expr}{it:AW}{tg:Tg}{t:BW}{nn m:Nat}{md':Md}
def C9 (G:Good X C n sp)(ht:C.tn i nx=Ω)(h:CompOk X C n sp scope own Z4 Z0 Z6 Z5 nn m md' it tg t e):∃ te:TE,(∀ σ H Q,lf X.K C.md (lU nn m it tg t e) σ H Q->te σ H Q)/\PS X.nox (.Assign [.Name nx px] (.ListComp Z4 [⟨Z0,Z6,Z5,0⟩] scope p) pos) (qM te (mq i)):=by
 let hsw:swapsWith (.ListComp Z4 [⟨Z0,Z6,Z5,0⟩] scope p) (Ψ (.Name nx px)) pos.line X.env=pure (JH C nx px scope p):=by rw[ye G.kind,G.sc];rfl
 let(s1,s2,s3):=h.blk G
 cases hb:JH C nx px scope p with
 | false =>
  rw[hb] at hsw
  exact⟨_,λσ H Q q=>h.run G q,vO G ht hsw (uM G.calm s1 h.it s2 s3)⟩
 | true =>
  rw[hb] at hsw
  let hlo:X.env.scope.names.lookup nx=Ψ .local:=by
   rw[G.sc]
   let hb:=b2 hb
   exact de (b2 hb.1).1
  exact⟨_,λσ H Q q=>h.run G q,xt G.calm s1 G.nd' (G.ix (b2 ht).1) hlo h.it s2 hsw s3⟩
def yS (G:Good X C n sp)(ht:C.tn i nx=Ω)(hm:jX C.md i=.imm)(h:CompOk X C n sp scope own Z4 Z0 Z6 Z5 nn m md' it tg t e):FS X C fr (.Assign [.Name nx px] (.ListComp Z4 [⟨Z0,Z6,Z5,0⟩] scope p) pos) (kg (lU nn m it tg t e) (.nm i)) :=
 let ⟨te,h1,h2⟩:=C9 G ht h
 q0 hm h1 h2
abbrev NZ:Expr->Bool
 | .Tuple ..=>Ω
 | _=>Ξ
abbrev qA:Expr->Bool
 | .Starred ..=>Ω
 | _=>Ξ
abbrev Ou (env:Env) (l:Nat):Expr->Option Str
 | .Name id pos=>if env.kindOf id == Ψ .local && pos.line == l then Ψ id else Φ
 | _=>Φ
abbrev Oc (ts vs:List Expr)(env:Env):Bool:=!(ts.length == 2 || ts.length == 3) || vs.length != ts.length || env.blockKind != .function
abbrev Oa (ts:List Expr)(ns:List Str):Bool:=ns.length != ts.length || ns.eraseDups.length != ns.length
abbrev Ob (ts:List Expr)(env:Env):List Str:=ts.filterMap (Ou env ((ts.head?.map (·.pos.line)).getD 0))
def Kp (ts vs:List Expr) (k k2:Nat)(tp tp2:Pos)(env:Env):∃ z,swappedStores [.Tuple ts k tp] (.Tuple vs k2 tp2) env=if Oc ts vs env then pure Φ else if vs.any qA then pure Φ else if Oa ts (Ob ts env) then pure Φ else if vs.all (foldedForSure 8) then pure Φ else if vs.all (constantsAlone 8) then z else pure (Ψ (Ob ts env)):=⟨_,rfl⟩
def Ko {ts vs:List Expr}{k k2:Nat}{tp tp2:Pos}{env:Env}{ns:List Str}(h1:Oc ts vs env=Ξ)(h2:vs.any qA=Ξ)(h3:Ob ts env=ns)(h4:Oa ts ns=Ξ)(h5:vs.all (foldedForSure 8)=Ξ)(h6:vs.all (constantsAlone 8)=Ξ):swappedStores [.Tuple ts k tp] (.Tuple vs k2 tp2) env=pure (Ψ ns):=by
 let(z,e):=Kp ts vs k k2 tp tp2 env
 rw[e,h1,h2,h3,h4,h5,h6];rfl
def BX {env:Env}{l:Nat}{x:Str}{p:Pos}(hx:env.scope.names.lookup x=Ψ .local)(hl:(p.line == l)=Ω):Ou env l (.Name x p)=Ψ x:=by
 show (if env.kindOf x == Ψ .local && p.line == l then Ψ x else Φ)=Ψ x
 rw[hl,show env.kindOf x=Ψ .local from hx];rfl
def Ew {env:Env}(hk:env.scope.kind=.function):env.blockKind=.function:=by unfold gQ;rw[hk];rfl
def sw2 {x y:Str}{px py pt pt2:Pos}{kt k2:Nat}{a b:Expr}{env:Env}(hk:env.scope.kind=.function)(hx:env.scope.names.lookup x=Ψ .local)(hy:env.scope.names.lookup y=Ψ .local)(hxy:x≠y)(hl:(py.line == px.line)=Ω)
  (sa:qA a=Ξ)(sb:qA b=Ξ)(hf:(foldedForSure 8 a && foldedForSure 8 b)=Ξ)(hc:(constantsAlone 8 a && constantsAlone 8 b)=Ξ) :
  swappedStores [.Tuple [.Name x px,.Name y py] kt pt] (.Tuple [a,b] k2 pt2) env=pure (Ψ [x,y]):=by
 exact Ko (by unfold Oc;rw[Ew hk];rfl) ?_ ?_ ?_ ?_ ?_
 ·show (qA a || (qA b || false))=Ξ;rw[sa,sb];rfl
 ·show List.filterMap (Ou env px.line) [.Name x px,.Name y py]=_
  rw[cu,BX hx (beq_self_eq_true _),cu,BX hy hl];rfl
 ·unfold Oa;simp[List.eraseDups_cons,jp hxy]
 ·show (_ && (_ && Ω))=Ξ;rw[gU];exact hf
 ·show (_ && (_ && Ω))=Ξ;rw[gU];exact hc
abbrev BA (C:CC) (i j:Nat)(x y:Str)(px py:Pos)(a b:Expr):Bool:=Δ (C.N[i]?=Ψ x) && Δ (C.N[j]?=Ψ y) && Δ (i≠j) && Δ (x≠y) && Δ (C.sc.lookup x=Ψ .local) && Δ (C.sc.lookup y=Ψ .local) && (py.line == px.line) && !qA a && !qA b && !(foldedForSure 8 a && foldedForSure 8 b) && !(constantsAlone 8 a && constantsAlone 8 b)
def AY {xo xi : Expr} {p : Pos} {env : Env} (h : mL xi = Ξ) : ∀ v, assign (.Subscript xo xi p) env v = (do
      let ov <- holding [v] (eval xo env)
      let iv <- holding [v,ov] (eval xi env)
      standAt p
      holding [v,ov,iv] (setItem ov iv v)
      release [v,ov,iv] []):=by
  intro v
  cases xi<;>first|rfl|(cases h;done)
def fs_ix (G:Good X C n sp)(hn:C.nm i nx=Ω)(m:jX C.md i=.own)(hc:(!nI a && !mL b)=Ω)(ha:FE X C a ea)(hb:FE X C b eb):FS X C fr (.Assign [.Subscript (.Name nx px) b p] a pos) (vD i eb ea):=by
 let hc:=b2 hc
 exact PS.imp (Bj (X:=X.nox) ha (Hc (ki (pos:=px) G hn) hb A1 (AY (nb hc.2))) (vt (nb hc.1)) rfl rfl) λD σ H ⟨c,L,S,Q0,I,h,k⟩=>?_
 let mi:jX C.md i≠.imm:=λz=>by rw[m] at z;cases z
 let(v0,e,h):=kq h
 let(l,e1,_):=I.own i v0 mi ((kP _ _ _).mp e)
 exact⟨c,L,S,_,I,h,λv L1 q x S1 H1 r1 I1 s1=>⟨_,e1,c,L1,S1,_,I1,q,λw L2 q y S2 H2 r2 I2 s2=>?_⟩⟩
 let(v1,e2,q2):=kq q
 let(z,e3,q3):=kq q2
 let e2:=(kP _ _ _).mp e2
 let(l',f1,(o1,ps,us,e9,o2,o3),_):=I2.own i v1 mi e2
 rw[e1] at f1;cases f1
 let(xs,g1,e3):=lV e3
 let(nn,g2,e3):=lV e3
 let(pp,g3,rfl):=oX e3
 cases mK g1
 cases e9
 obtain rfl:w=.int nn:=by cases w<;>cases g2;rfl
 obtain rfl:y=.int nn:=r2
 exact⟨l,us,nn,pp,rfl,rfl,o2,by rw[<- o3.length];exact g3,?_⟩
 exact k .next _ q3 σ S2 _ (I2.write m e2 e1 (o3.set pp (r1.mono s2))) (s1.trans s2)
abbrev x6 (f:Int->Int->Int):FV->FV->Option FV
 | .int a,.int b=>Ψ (.int (f a b))
 | _,_=>Φ
def FM {f:Int->Int->Int}{v w z:FV}(h:x6 f v w=Ψ z):∃ a b,v=.int a/\w=.int b/\z=.int (f a b):=by
 obtain⟨a,rfl⟩:∃ a,v=.int a:=by cases v<;>first|exact⟨_,rfl⟩|cases h
 cases w<;>first|(cases h;exact⟨_,_,rfl,rfl,rfl⟩)|cases h
def JC {f:Int->Int->Int}(m:jX C.md i=.imm)(h:PS X.nox st (tAug i (lv X.K C.md e) (ipI f))):FS X C fr st (zG (x6 f) i e):=PS.imp h λD σ H q1=>by
 let(c,L,S,Q0,I,h,k):=q1
 let(v,e0,h):=kq h
 let(x,e1,r):=I.imm i v m ((kP _ _ _).mp e0)
 exact⟨x,e1,c,L,S,_,I,h,λw L1 q y S1 H1 r1 I1 s1=>?_⟩
 let(z,e2,q):=kq q
 let(a,b,rfl,rfl,rfl):=FM e2
 exact⟨a,b,r,r1,k .next _ q _ S1 H1 (I1.setI (v:=.int _) m rfl) s1⟩
def OK (G:Good X C n sp)(ht:C.tn i nx=Ω)(m:jX C.md i=.imm)(h:FE X C a e):FS X C fr (.AugAssign (.Name nx px) .Add a pos) (zG (x6 λi j=>i+j) i e):=by
 let ht:=b2 ht
 let(l1,l2):=G.loc ht.2
 exact JC m (Ha (X:=X.nox) G.nd' (G.ix ht.1) l1 h Ci l2)
def EV {J:It}{xs:List FV}{D:Ends}{Q0:FFl->jR->Prop}(I:Iv K c md L σ S H)(hJ:Ay K c md J xs S)(ht:l8 md tg=Ω)(h:u4 tg s xs L Q0)
  (k:∀ fl L',Q0 fl L'->∀ σ' S' H',Iv K c md L' σ' S' H'->Same S S'->Mf K c fr D σ' S' H' fl) :
  ∃ W:Nat->Nat->L2.St->Hp->Prop,(∃ m,W 0 m σ H)/\∀ i m σ H,W i m σ H ->
   (J.stop i H/\D.nx σ H) ∨ (J.go i H/\∃ N:L2.St->Hp->Prop,(∀ σ' H',N σ' H'->∃ m',m'<m/\W (i+1) m' σ' H')/\∀ x H',J.yld i H x H'->gT K tg x σ H' λσ2 H2=>ls K md fr s { D with nx:=N,ct:=N,bk:=D.nx } σ2 H2):=by
 let W:Nat->Nat->L2.St->Hp->Prop:=λi j σ1 H1=>∃ L S1,j=(xs.drop i).length/\Iv K c md L σ1 S1 H1/\Same S S1/\u4 tg s (xs.drop i) L Q0
 exact⟨W,⟨_,L,S,rfl,I,Same.refl S,by rw[gj];exact h⟩,?_⟩
 rintro i m σ1 H1 ⟨L,S1,rfl,I,s1,h⟩
 let(j1,j2):=hJ i L σ1 S1 H1 I s1
 cases hd:xs.drop i with
 | nil =>
  rw[hd] at h
  exact .inl ⟨j1 (aJ.mpr (bW.mp hd)),k .next L h σ1 S1 H1 I s1⟩
 | cons p rest =>
  right
  rw[hd] at h
  let hi:xs[i]?=Ψ p:=by
   have:=congrArg (·[0]?) hd
   simpa using this
  let hd':xs.drop (i+1)=rest:=by
   have:=congrArg jb hd
   simpa[ge] using this
  let(go,yl):=j2 p hi
  exact⟨go,λσ' H'=>∃ m',m'<rest.length+1/\W (i+1) m' σ' H',λσ' H' h=>h,λx H2 y=>?_⟩
  let(S2,s2,tr,rx):=yl x H2 y
  let I2:=tr _ _ _ _ I
  let(σ2,L2,g,q,I3,_):=qr ht I2 rx h
  exact g _ ⟨c,L2,S2,_,I3,q,λfl L3 q σ3 S3 H3 I4 s3=>?_⟩
  let ss:=s1.trans (s2.trans s3)
  cases fl with
  | next=>exact⟨_,eA _,L3,S3,by rw[hd'],I4,ss,by rw[hd'];exact q⟩
  | cont=>exact⟨_,eA _,L3,S3,by rw[hd'],I4,ss,by rw[hd'];exact q⟩
  | brk=>exact k .next L3 q σ3 S3 H3 I4 ss
  | ret v=>exact k (.ret v) L3 q σ3 S3 H3 I4 ss
def lZ (G:Good X C n sp){body:List jL}(hc:(l8 md' tg && !wu Z6)=Ω)(hi:FI X C md' Z0 Z6 it)(hg:FG X Z0 tg)(hb:Good X (C.wmd md') n sp->sO X (C.wmd md') fr body s):FS X C fr (.For Z0 Z6 body [] pos) (pd it tg s):=by
 let hc:=b2 hc
 exact PS.imp (G9 (X:=X.nox) fm G.calm hi hg (hb (G.wmd md')) (qt (nb hc.2))) λD σ H q1=>?_;let(c,L,S,Q0,I,h,k):=q1
 exact⟨c,L,S,_,I,h,λxs L1 q J c' S1 H1 I1 un e0 hJ s1=>?_⟩
 exact EV I1 hJ hc.1 q λfl L2 q σ2 S2 H2 I2 s2=>?_
 have:=k fl L2 q σ2 S2 H2 (un _ _ _ _ I2) (s1.trans s2)
 cases fl with
 | next=>exact this
 | brk=>exact this
 | cont=>exact this
 | ret v =>
  intro x r
  exact this x ?_
  cases fr with
  | false=>exact r
  | true =>
   let(a,r1,r2,r3):=r
   exact⟨a,r1,r2,by rw[<- e0];exact r3⟩
def OI {body:List jL}(hc:FB X C a t)(hb:sO X C fr body s):FS X C fr (.While a body [] pos) (vC t s):=by
 exact PS.imp (Bg (X:=X.nox) fm hc hb) λD σ H q1=>?_;let(c,L,S,Q0,I,(m,h),k):=q1
 exact⟨λm σ1 H1=>∃ L S1,Iv X.K c C.md L σ1 S1 H1/\Same S S1/\zq t s m L Q0,⟨m,L,S,I,Same.refl S,h⟩,?_⟩
 rintro m σ1 H1 ⟨L,S1,I1,s1,h⟩
 cases m with
 | zero=>exact h.elim
 | succ m =>
  exact⟨c,L,S1,_,I1,h,λv L1 q S2 H2 I2 s2=>?_⟩
  cases v with
  | false =>
   rw[if_neg cU] at q ⊢
   exact k .next L1 q σ1 S2 H2 I2 (s1.trans s2)
  | true =>
   rw[if_pos rfl] at q ⊢
   exact⟨λσ' H'=>∃ m',m'<m+1/\∃ L S1,Iv X.K c C.md L σ' S1 H'/\Same S S1/\zq t s m' L Q0,λσ' H' h=>h,c,L1,S2,_,I2,q,λfl L3 q σ3 S3 H3 I4 s3=>?_⟩
   let ss:=s1.trans (s2.trans s3)
   cases fl with
   | next=>exact⟨m,eA _,L3,S3,I4,ss,q⟩
   | cont=>exact⟨m,eA _,L3,S3,I4,ss,q⟩
   | brk=>exact k .next L3 q σ3 S3 H3 I4 ss
   | ret v=>exact k (.ret v) L3 q σ3 S3 H3 I4 ss
end
structure Df where
 name:String
 st:jL
 ps:List Str
 N:List Str
 md:Md
structure Fns where
 f:List Str
 ms:List (Str×jP×Str)
 fl:List (jP×Str)
abbrev Df.cc (d:Df)(fns:Fns):CC:=⟨d.N,(kr d.st).names,fns.f,d.md,Ω,[],fns.ms,fns.fl⟩
abbrev KP (io:Bool)(md:Md) (np:Nat):Bool:=(i7 np).all λi=>Δ (jX md i=if (io && Δ (i=0))=Ω then .own else .imm)
abbrev Df.ok (d:Df) (np ns:Nat)(io:Bool):Bool :=
 Δ ((kr d.st).kind=.function) && !(kr d.st).isCoroutine && !(kr d.st).isGenerator && Δ (d.N.Nodup) && Δ (d.N.take d.ps.length=d.ps) && d.ps.all (λx=>Δ ((kr d.st).names.lookup x=Ψ .local ∨ (kr d.st).names.lookup x=Ψ .cell)) &&
 (kr d.st).names.all (λp=>Δ (p.2≠.free)) && Δ (np=d.ps.length) && Δ (ns=d.N.length) && KP io d.md np
abbrev spT (K:ib)(tb:List FD)(call:CW) (f:Nat):Sp:=match tb[f]? with
 | some fd=>tq K call fd.io fd.fr f
 | none=>λ_ _ _ _=>False
abbrev tw (tb:List FD)(call:CW)(K:ib):Nat->Sp:=spT K tb call
def Df.sc {d:Df}{np ns:Nat}{io:Bool}(h:d.ok np ns io=Ω):FnScope d.N d.ps (kr d.st)/\np=d.ps.length/\ns=d.N.length/\∀ i,i<np->jX d.md i=if (io && Δ (i=0))=Ω then .own else .imm:=by
 let h0:=b2 h;let h1:=b2 h0.1;let h2:=b2 h1.1;let h3:=b2 h2.1;let h4:=b2 h3.1;let h5:=b2 h4.1;let h6:=b2 h5.1;let h7:=b2 h6.1;let h8:=b2 h7.1
 exact⟨⟨de h8.1,nb h8.2,nb h7.2,de h6.2,de h5.2,λx hx=>de (eO.mp h4.2 x hx),λy hy=>de (eO.mp h3.2 y hy)⟩,de h2.2,de h1.2,λi hi=>de (eO.mp h0.2 i (gh.mpr hi))⟩
section
variable {w:jE}{K:ib}{tb:List FD}
def ArgsOk.len {S H:Hp}{args:List FV}{vs:List V}{io:Bool}(h:ArgsOk K S H args vs io):args.length=vs.length:=by
 cases io with
 | false=>exact RVs.length h
 | true =>
  let(v,r,a,us,rfl,rfl,_,h):=h
  rw[eK,eK,h.length]
def wo {S H:Hp}{args:List FV}{vs:List V}{io:Bool}{md:Md}{N:List Str}{np ns:Nat}(h:ArgsOk K S H args vs io)(hs:Same S H)(hn:args.length=np)(hN:ns=N.length)(hm:∀ i,i<np->jX md i=if (io && Δ (i=0))=Ω then .own else .imm) :
  Iv K ⟨H,S,ql vs io,[],[],[]⟩ md (args.map Ψ++gf (ns-np) Φ) (L2.start N vs) S H:=by
 let hl:=h.len
 let look:∀ i v,(args.map Ψ++gf (ns-np) Φ)[i]?=Ψ (Ψ v)->args[i]?=Ψ v/\i<np:=λi v e=>by
  by_cases hi:i<args.length
  ·rw[aK (by rw[fE];exact hi),dJ] at e
   cases ea:args[i]? with
   | none=>rw[ea] at e;cases e
   | some q=>rw[ea] at e;cases e;exact⟨rfl,⋯⟩
  ·rw[az (by rw[fE];lia),bh] at e
   split at e<;>cases e
 let st:∀ i,i<np->(L2.start N vs)[i]?=vs[i]?.map Ψ:=λi hi=>by
  unfold L2.start
  rw[aK (by rw[fE];lia),dJ]
 let own:∀ i v,jX md i≠.imm->(args.map Ψ++gf (ns-np) Φ)[i]?=Ψ (Ψ v)->i=0/\io=Ω/\jX md 0=.own:=λi v hm' e=>by
  let(_,hi):=look i v e
  have:=hm i hi
  cases io with
  | false=>exact absurd (by simpa using this) hm'
  | true =>
   by_cases h0:i=0
   ·subst h0;exact⟨rfl,rfl,by simpa using this⟩
   ·exact absurd (by simpa[h0] using this) hm'
 let lent:∀ a,ql vs io=Ψ a->io=Ω/\0<np/\jX md 0=.own/\vs[0]?=Ψ (.ref a)/\∃ v,args[0]?=Ψ v/\OwnAt K S H a v:=λa e=>by
  cases io with
  | false=>cases e
  | true =>
   let(v,r,a',us,rfl,rfl,o,_):=h
   cases e
   let hp:0<np:=by rw[<- hn];exact Nat.succ_pos _
   exact⟨rfl,hp,by simpa using hm 0 hp,rfl,v,rfl,o⟩
 exact⟨?_,λi v hm' e=>?_,λi v hm' e=>?_,λi j v w a m1 m2 e1 e2 _ _=>?_,hs,λa o e _ _=>e,Same.refl S,λa o e=>.inl e,λa e=>?_,λp hp=>absurd hp eF,λi v hf e=>?_,λp hp=>absurd hp eF,λp hp=>absurd hp eF,λp hp=>absurd hp eF,λq hq=>absurd hq eF,λj i x C dx fs v h1 h2 h3 h4=>?_⟩
 ·unfold L2.start
  rw[cR,cR,fE,fE,bI,bI,hN]
  lia
 ·let(ea,hi):=look i v e
  rw[st i hi]
  cases io with
  | false =>
   let(x,e1,r):=RVs.get (show RVs K S args vs from h) ea
   exact⟨x,by rw[e1];rfl,r⟩
  | true =>
   let(v0,r,a',us,rfl,rfl,o,hr):=h
   cases i with
   | zero=>rw[show jX md 0=.own by simpa using hm 0 hi] at hm';cases hm'
   | succ i =>
    let(x,e1,r1):=RVs.get hr (by simpa using ea)
    exact⟨x,by simp[e1],r1⟩
 ·let(rfl,rfl,m0):=own i v hm' e
  let(ea,hi):=look 0 v e
  let(v0,r,a',us,rfl,rfl,o,hr):=h
  cases ea
  exact⟨a',by rw[st 0 hi];rfl,o,.inl rfl⟩
 ·rw[(own i v m1 e1).1,(own j w m2 e2).1]
 ·let(rfl,hp,m0,e1,v,ea,_):=lent a e
  exact⟨λz=>(nomatch (m0.symm.trans z)),by rw[st 0 hp,e1];rfl,v,?_⟩
  rw[aK (by rw[fE];lia),dJ,ea];rfl
 ·have:=own i v (λz=>by rw[z] at hf;cases hf) e
  rw[this.1,this.2.2] at hf;cases hf
 ·have:=own j v (λz=>by rw[z] at h1;cases h1) h4
  rw[this.1,this.2.2] at h1;cases h1
def law_sp {d f:Nat}{H:Hp}{a:jP}{ns:List Int}{fd:FD}(hf:tb[f]?=Ψ fd)(hio:fd.io=Ξ)(hfr:fd.fr=Ξ)(hO:FY H)(hS:SqL K H a (ns.map V.int))(h:callW tb d f [.scr ns] λz=>z.1=.bl Ω) :
  spT K tb (callW tb d) f [.ref a] H (λv _=>v=.bl Ω) λ_ _ _=>False:=by
 let e0:spT K tb (callW tb d) f=tq K (callW tb d) Ξ Ξ f:=by unfold spT;rw[hf];show tq K (callW tb d) fd.io fd.fr f=_;rw[hio,hfr]
 rw[e0]
 exact⟨H,[.scr ns],_,Same.refl H,RVs.one ⟨a,rfl,?_⟩,h,λz e x S' H' _ r=>?_⟩
 ·rcases hS with (h|⟨o,h⟩)|h
  ·rcases hO a with z|⟨o,xs,z⟩
   ·rw[z] at h;cases h
   ·rw[z] at h;cases h
  ·exact .inl ⟨o,h⟩
  ·exact .inr (.inr h)
 ·let r:RV K S' z.1 x:=r
  rw[e] at r;exact r
end
abbrev EachI {α:Type}(P:Nat->α->Prop):Nat->List α->Prop
 | _,[]=>True
 | i,x :: xs=>P i x/\EachI P (i+1) xs
def EachI.get {α:Type}{P:Nat->α->Prop}:∀ {xs:List α}{k:Nat},EachI P k xs->∀ (f:Nat)(x:α),xs[f]?=Ψ x->P (k+f) x
 | _ :: _,_,h,0,x,e=>(fo e) ▸ h.1
 | _ :: xs,k,h,f+1,x,e=>by
  have:=EachI.get h.2 f x e
  rw[Nat.add_assoc,Nat.add_comm 1 f] at this
  exact this
def Mm {P:List jF->Prop}{us:List jF}{n:Nat}(h:us.length=n+1)(H:∀ a r,r.length=n->P (a :: r)):P us:=by
 cases us with
 | nil=>cases h
 | cons a r=>exact H a r (Nat.succ.inj h)
def w5 {P:List jF->Prop}{us:List jF}(h:us.length=1)(H:∀ a,P [a]):P us:=Mm h λa r hr=>by rw[List.length_eq_zero_iff.mp hr];exact H a
def o7 {P:List jF->Prop}{us:List jF}(h:us.length=2)(H:∀ a b,P [a,b]):P us:=Mm h λa r hr=>w5 (P:=λr=>P (a :: r)) hr λb=>H a b
def Mn {P:List jF->Prop}{us:List jF}(h:us.length=3)(H:∀ a b c,P [a,b,c]):P us:=Mm h λa r hr=>o7 (P:=λr=>P (a :: r)) hr λb c=>H a b c
def us4 {P:List jF->Prop}{us:List jF}(h:us.length=4)(H:∀ a b c d,P [a,b,c,d]):P us:=Mm h λa r hr=>Mn (P:=λr=>P (a :: r)) hr λb c d=>H a b c d
end Kq
namespace Kq
open PySem PySem.Spec PySem.Calls PyProof.Rows L2 PySem.W
def ma:∀ {K:jN}{a:jP}{o:Obj},K.lookup a=Ψ o->(a,o)∈K
 | [],a,o,h=>by simp at h
 | (b,u) :: K,a,o,h=>by
  rw[eG] at h
  split at h
  ·rename_i e;cases h;rw[beq_iff_eq.mp e];exact cQ
  ·exact bT _ (ma h)
def zV {K:jN}{a:jP}{o:Obj}(h:(a,o)∈K):∃ u,K.lookup a=Ψ u:=by
 induction K with
 | nil=>exact absurd h eF
 | cons p K ih =>
  let(b,u):=p
  rw[eG]
  split
  ·exact⟨_,rfl⟩
  ·rename_i e
   rcases gM.mp h with z|z
   ·rw[(Prod.mk.inj z).1,beq_self_eq_true] at e;cases e
   ·exact ih z
abbrev AllIn (K:jN)(h:jM):Prop:=∀ p∈K,h.get? p.1=Ψ p.2
def AllIn.to {K:jN}{h:jM}(x:AllIn K h):K.In h:=λa o e=>x _ (ma e)
def AllIn.look {K:jN}{h:jM}(x:AllIn K h){a:jP}{o:Obj}(m:(a,o)∈K):K.lookup a=Ψ o:=by
 let(u,e):=zV m
 let h1:=x _ (ma e)
 rw[show h.get? a=Ψ o from x _ m] at h1
 cases h1;exact e
abbrev CIn (K:jN)(cd:jF)(q:Str):Prop:=∃ c oc vs t,cd=.ref c/\(c,oc)∈K/\oc.data=.fields vs/\vs[1]?=Ψ (.str q t)
abbrev DIn (K:jN)(mg:Str->Option jF)(d:jC):Prop:=∃ fa o pm cd doc,mg d.name=Ψ (.ref fa)/\(fa,o)∈K/\o.data=.func (docDef d.name d.params d.body d.scope pm cd doc)/\CIn K cd d.name
def DIn.fn {K:jN}{h:jM}(A:AllIn K h){mg:Str->Option jF}{x:Str}{st:jL}{pos:Pos}(D:DIn K mg ⟨x,nM st,ku st,kr st,pos⟩):∃ fa fd,mg x=Ψ (.ref fa)/\Fun K x x st fa fd:=by
 let(fa,o,pm,cd,doc,h1,h2,h3,c,oc,vs,t,rfl,h5,h6,h7):=D
 let l:=A.look h2
 let lc:=A.look h5
 let(k1,k2,k3,k4):=o
 let(j1,j2,j3,j4):=oc
 cases h3;cases h6
 exact⟨fa,_,h1,Cv (kV:=.none) (doc:=doc) (pm:=pm) (an:=Φ) (cdv:=.ref c) (ct:=.none) l ?_ ?_⟩
 ·show (match K.lookup c with|some ⟨_,_,.fields vs,_⟩=>_|_=>_)=Ω
  rw[lc]
  let⟨l⟩:=vs
  match l,h7 with
  | [],h7=>simp at h7
  | [a],h7=>simp at h7
  | a :: b :: r,h7 =>
   simp at h7;subst h7
   exact beq_self_eq_true _
 ·show (match K.lookup fa with|some ⟨_,_,.func _,_⟩=>Ω|some ⟨_,_,.cls _,_⟩=>_|_=>Ξ)=Ω
  rw[l]
abbrev IV:jL->Pos
 | .FunctionDef _ _ _ _ _ _ _ _ _ p=>p
 | _=>⟨0,0,0,0⟩
def ET {q:jn}{loose:List Str}{mean:ExcName->Option jF}{mg mb:Str->Option jF}{h:jM}(T:Top q loose mean mg mb h){x:Str}(e:freeIn q loose x=Ω):mg x=Φ:=by
 unfold freeIn at e
 simp![eR,Bool.not_eq_true',List.contains_eq_mem,decide_eq_false_iff_not] at e
 exact T.free x e.1.1.1.1 e.1.1.1.2 e.1.1.2 e.1.2 e.2
end Kq
set_option maxHeartbeats 1000000
namespace Kq
nonrec def lu {α:Type}(x:α)(Q:α->Prop):wp (Ψ x) Q=Q x:=propext Iff.rfl
nonrec def Ml {α:Type}(Q:α->Prop):wp (Φ:Option α) Q=False:=propext Iff.rfl
def l0 {α β:Type}(r:Option α)(f:α->Option β)(Q:β->Prop):wp (r.bind f) Q↔wp r (λx=>wp (f x) Q):=by cases r<;>rfl
nonrec def lW {α β:Type}(r:Option α)(f:α->β)(Q:β->Prop):wp (r.map f) Q↔wp r (λx=>Q (f x)):=by cases r<;>rfl
nonrec def me {α:Type}(c:Prop) [Decidable c] (a:α)(Q:α->Prop):wp (if c then Ψ a else Φ) Q↔c/\Q a:=by
 by_cases h:c<;>simp[h]
nonrec def Ny (i:Nat)(L:jR)(Q:FV->jR->Prop):jQ i L Q=(wp (lk L i) λx=>Q x L):=propext Iff.rfl
nonrec def eC_eq (v:FV)(L:jR)(Q:FV->jR->Prop):eC v L Q=(Q v L):=propext Iff.rfl
nonrec def IS (f:FV->Option FV)(a:EW)(L:jR)(Q:FV->jR->Prop):kG f a L Q=(a L λx L1=>wp (f x) λz=>Q z L1):=propext Iff.rfl
nonrec def PV (f:FV->FV->Option FV)(a b:EW)(L:jR)(Q:FV->jR->Prop):j0 f a b L Q=(a L λx L1=>b L1 λy L2=>wp (f x y) λz=>Q z L2):=propext Iff.rfl
nonrec def NB (f:FV->FV->Option FV) (i:Nat)(b:EW)(L:jR)(Q:FV->jR->Prop):mh f i b L Q=(wp (lk L i) λ_=>b L λy L1=>wp (lk L1 i) λx=>wp (f x y) λz=>Q z L1):=propext Iff.rfl
nonrec def ND (a b:EW)(L:jR)(Q:FV->jR->Prop):qQ a b L Q=(a L λx L1=>wp (nq x) λr=>if r=Ω then b L1 Q else Q x L1):=propext Iff.rfl
nonrec def PR (a b:EW)(L:jR)(Q:FV->jR->Prop):PU a b L Q=(a L λx L1=>wp (nq x) λr=>if r=Ω then Q x L1 else b L1 Q):=propext Iff.rfl
nonrec def PY (c:BW)(a b:EW)(L:jR)(Q:FV->jR->Prop):Fd c a b L Q=(c L λr L1=>if r=Ω then a L1 Q else b L1 Q):=propext Iff.rfl
nonrec def NN (a:EW)(L:jR)(Q:Bool->jR->Prop):ke a L Q=(a L λx L1=>wp (nq x) λb=>Q b L1):=propext Iff.rfl
nonrec def NP (a b:BW)(L:jR)(Q:Bool->jR->Prop):Dj a b L Q=(a L λr L1=>if r=Ω then b L1 Q else Q Ξ L1):=propext Iff.rfl
nonrec def Q7 (a b:BW)(L:jR)(Q:Bool->jR->Prop):Ax a b L Q=(a L λr L1=>if r=Ω then Q Ω L1 else b L1 Q):=propext Iff.rfl
nonrec def NO (a:BW)(L:jR)(Q:Bool->jR->Prop):pv a L Q=(a L λr L1=>Q (!r) L1):=propext Iff.rfl
nonrec def LZ (L:jR)(Q:Bool->jR->Prop):lp  L Q=(Q Ω L):=propext Iff.rfl
nonrec def NR (L:jR)(Q:List FV->jR->Prop):jW  L Q=(Q [] L):=propext Iff.rfl
nonrec def L7 (a:EW)(r:AW)(L:jR)(Q:List FV->jR->Prop):jS a r L Q=(a L λx L1=>r L1 λxs L2=>Q (x :: xs) L2):=propext Iff.rfl
nonrec def Nz (a:AW)(L:jR)(Q:FV->jR->Prop):nL a L Q=(a L λxs L1=>xs.length<=big/\Q (.tup xs) L1):=propext Iff.rfl
nonrec def NC (a:AW)(L:jR)(Q:FV->jR->Prop):m7 a L Q=(a L λxs L1=>xs.length<=big/\Q (.lst xs) L1):=propext Iff.rfl
nonrec def K4 (L:jR)(Q:Option Int->jR->Prop):lM  L Q=(Q Φ L):=propext Iff.rfl
nonrec def K3 (a:EW)(L:jR)(Q:Option Int->jR->Prop):kX a L Q=(a L λx L1=>wp (mG x) λi=>Q (Ψ i) L1):=propext Iff.rfl
nonrec def PN (a:EW)(l h:OW)(L:jR)(Q:FV->jR->Prop):sZ a l h L Q=(a L λx L1=>l L1 λi L2=>h L2 λj L3=>wp (rl x i j) λz=>Q z L3):=propext Iff.rfl
nonrec def LL (call:CW) (f:Nat)(a:AW)(L:jR)(Q:FV->jR->Prop):kT call f a L Q=(a L λxs L1=>call f xs λz=>Q z.1 L1):=propext Iff.rfl
nonrec def JY (call:CW) (f i:Nat)(a:AW)(L:jR)(Q:FV->jR->Prop):km call f i a L Q=(wp (lk L i) λ_=>a L λxs L1=>wp (lk L1 i) λx=>call f (x :: xs) λz=>Q z.1 (L1.set i (Ψ z.2))):=propext Iff.rfl
nonrec def LJ (f:FV->FV->Option FV) (i:Nat)(a:EW)(L:jR)(Q:FV->jR->Prop):oz f i a L Q=(wp (lk L i) λv=>wp (oo v) λ_=>a L λy L1=>wp (lk L1 i) λx=>wp (f x y) λz=>Q .non (L1.set i (Ψ z))):=propext Iff.rfl
nonrec def MM (a:EW)(L:jR)(Q:List FV->jR->Prop):nJ a L Q=(a L λx L1=>wp (lR x) λxs=>Q xs L1):=propext Iff.rfl
nonrec def MN (a:EW)(L:jR)(Q:List FV->jR->Prop):wy a L Q=(a L λx L1=>wp (mG x) λj=>mJ j=Ω/\Q (uo 0 j.toNat) L1):=propext Iff.rfl
nonrec def ML (a b:EW)(L:jR)(Q:List FV->jR->Prop):EJ a b L Q=(a L λx L1=>b L1 λy L2=>wp (lR x) λxs=>wp (lR y) λys=>Q (lT xs ys) L2):=propext Iff.rfl
nonrec def Lh (a:EW)(L:jR)(Q:List FV->jR->Prop):wz a L Q=(a L λx L1=>wp (lR x) λxs=>Q (lT (uo 0 xs.length) xs) L1):=propext Iff.rfl
nonrec def LK (n m:Nat)(it:AW)(tg:Tg)(t:BW)(e:EW)(L:jR)(Q:FV->jR->Prop):lU n m it tg t e L Q=(it L λxs L1=>L1.length=n/\xs.length<=big/\m8 n m tg t e xs [] L1 λys L2=>Q (.lst ys) L2):=propext Iff.rfl
nonrec def Mz (L:jR)(Q:FFl->jR->Prop):lB  L Q=(Q .next L):=propext Iff.rfl
nonrec def Mw (s r:SW)(L:jR)(Q:FFl->jR->Prop):jY s r L Q=(s L (L0 (λL1=>r L1 Q) Q)):=propext Iff.rfl
nonrec def MF (e:EW)(tg:Tg)(L:jR)(Q:FFl->jR->Prop):kg e tg L Q=(e L λx L1=>gW tg x L1 λL2=>Q .next L2):=propext Iff.rfl
nonrec def Mv (k:Nat)(i e:EW)(L:jR)(Q:FFl->jR->Prop):vD k i e L Q=(wp (lk L k) λ_=>e L λx L1=>i L1 λj L2=>wp (lk L2 k) λy=>wp (GU y j x) λz=>Q .next (L2.set k (Ψ z))):=propext Iff.rfl
nonrec def ME (f:FV->FV->Option FV) (i:Nat)(e:EW)(L:jR)(Q:FFl->jR->Prop):zG f i e L Q=(wp (lk L i) λa=>e L λx L1=>wp (f a x) λz=>Q .next (L1.set i (Ψ z))):=propext Iff.rfl
nonrec def Mx (e:EW)(L:jR)(Q:FFl->jR->Prop):kf e L Q=(e L λx L1=>Q (.ret x) L1):=propext Iff.rfl
nonrec def MC (e:EW)(L:jR)(Q:FFl->jR->Prop):pf e L Q=(e L λ_ L1=>Q .next L1):=propext Iff.rfl
nonrec def Og (c:BW)(a b:SW)(L:jR)(Q:FFl->jR->Prop):my c a b L Q=(c L λr L1=>if r=Ω then a L1 Q else b L1 Q):=propext Iff.rfl
nonrec def MB (it:AW)(tg:Tg)(b:SW)(L:jR)(Q:FFl->jR->Prop):pd it tg b L Q=(it L λxs L1=>u4 tg b xs L1 Q):=propext Iff.rfl
nonrec def Mu (c:BW)(b:SW)(L:jR)(Q:FFl->jR->Prop):vC c b L Q=(∃ n,zq c b n L Q):=propext Iff.rfl
nonrec def lk_z (x:Option FV)(L:jR)(Q:FV->Prop):wp (lk (x :: L) 0) Q=wp x Q:=propext Iff.rfl
nonrec def gw_nm (i:Nat)(v:FV)(L:jR)(Q:jR->Prop):gW (.nm i) v L Q=Q (L.set i (Ψ v)):=propext Iff.rfl
nonrec def gw_tp (is:List Nat)(v:FV)(L:jR)(Q:jR->Prop):gW (.tp is) v L Q=wp (qL v) λxs=>wp (qB L is xs) Q:=propext Iff.rfl
nonrec def sa_n (L:jR)(Q:jR->Prop):wp (qB L [] []) Q=Q L:=propext Iff.rfl
nonrec def sa_c (L:jR) (i:Nat)(is:List Nat)(v:FV)(vs:List FV)(Q:jR->Prop):wp (qB L (i :: is) (v :: vs)) Q=wp (qB (L.set i (Ψ v)) is vs) Q:=propext Iff.rfl
section
variable (L:jR)(k:jR->Prop)(Q:FFl->jR->Prop)
nonrec def NQ:L0 k Q .next L=k L:=propext Iff.rfl
nonrec def Q8 (v:FV):L0 k Q (.ret v) L=Q (.ret v) L:=propext Iff.rfl
nonrec def tq_n:qx k Q .next L=k L:=propext Iff.rfl
nonrec def tq_r (v:FV):qx k Q (.ret v) L=Q (.ret v) L:=propext Iff.rfl
end
nonrec def en_rt (fr:Bool)(Q:FV×FV->Prop)(v:FV)(L:jR):qw Ω fr Q (.ret v) L=wp (lk L 0) λx=>Q (v,x):=propext Iff.rfl
nonrec def en_rf (fr:Bool)(Q:FV×FV->Prop)(v:FV)(L:jR):qw Ξ fr Q (.ret v) L=Q (v,.non):=propext Iff.rfl
nonrec def en_nt (Q:FV×FV->Prop)(L:jR):qw Ω Ξ Q .next L=wp (lk L 0) λx=>Q (.non,x):=propext Iff.rfl
section
variable (Q:FV->Prop)(B:Bool->Prop)(i j:Int)
nonrec def tr_b (b:Bool):wp (nq (.bl b)) B=B b:=propext Iff.rfl
nonrec def tr_n:wp (nq .non) B=B Ξ:=propext Iff.rfl
nonrec def tr_t (xs:List FV):wp (nq (.tup xs)) B=B (!xs.isEmpty):=propext Iff.rfl
nonrec def in_i (Q:Int->Prop):wp (mG (.int i)) Q=Q i:=propext Iff.rfl
nonrec def tp_t (xs:List FV)(Q:List FV->Prop):wp (qL (.tup xs)) Q=Q xs:=propext Iff.rfl
nonrec def ls_l (xs:List FV)(Q:List FV->Prop):wp (oo (.lst xs)) Q=Q xs:=propext Iff.rfl
nonrec def Od (xs:List FV)(Q:List FV->Prop):wp (lR (.tup xs)) Q=Q xs:=propext Iff.rfl
nonrec def Oe (xs:List FV)(Q:List FV->Prop):wp (lR (.lst xs)) Q=Q xs:=propext Iff.rfl
nonrec def Ot (xs:List FV)(Q:List FV->Prop):wp (lN (.lst xs)) Q=Q xs:=propext Iff.rfl
nonrec def Gz:wp (kC (.int i) (.int j)) Q=Q (.int (i+j)):=propext Iff.rfl
nonrec def b_sub:wp (DH (.int i) (.int j)) Q=Q (.int (i-j)):=propext Iff.rfl
nonrec def b_mul:wp (pi (.int i) (.int j)) Q↔(small i || small j)=Ω/\Q (.int (i*j)):=me _ _ _
nonrec def Q5:wp (wI (.int i) (.int j)) Q↔(0<j/\j<1073741824)/\Q (.int (i / j)):=me _ _ _
nonrec def b_mod:wp (rH (.int i) (.int j)) Q↔0<j/\Q (.int (i % j)):=me _ _ _
nonrec def b_pow:wp (DY (.int i) (.int j)) Q↔(0<=j/\j<=1000/\small i=Ω)/\Q (.int (i ^ j.toNat)):=me _ _ _
nonrec def Q6 (xs ys:List FV):wp (kC (.lst xs) (.lst ys)) Q↔xs.length+ys.length<=big/\Q (.lst (xs++ys)):=me _ _ _
nonrec def b_rep (xs:List FV) (k:Int):wp (pi (.lst xs) (.int k)) Q↔(-(2 ^ 63)<=k/\k<2 ^ 63/\xs.length*k.toNat<=big)/\Q (.lst (gf k.toNat xs).flatten):=me _ _ _
nonrec def MK {f:FV->FV->Option FV}(v w:FV):wp (oQ f v w) Q↔wp (f v w) λz=>wp (oo z) λxs=>Q (.lst xs):=by unfold oQ;rw[l0];simp![lW]
nonrec def k_eq (a b:FV):wp (nW a b) Q↔wp (wJ a b) λr=>Q (.bl r):=lW _ _ _
nonrec def k_ne (a b:FV):wp (yD a b) Q↔wp (wJ a b) λr=>Q (.bl (!r)):=lW _ _ _
nonrec def k_lt:wp (Dt (.int i) (.int j)) Q=Q (.bl (Δ (i<j))):=propext Iff.rfl
nonrec def k_gt:wp (HR (.int i) (.int j)) Q=Q (.bl (Δ (j<i))):=propext Iff.rfl
nonrec def k_ge:wp (MP (.int i) (.int j)) Q=Q (.bl (Δ (j<=i))):=propext Iff.rfl
nonrec def e_ii:wp (wJ (.int i) (.int j)) B=B (i == j):=propext Iff.rfl
nonrec def e_ss (a b:String):wp (wJ (.str a) (.str b)) B=B (a == b):=propext Iff.rfl
nonrec def e_bb (a b:Bool):wp (wJ (.bl a) (.bl b)) B=B (a == b):=propext Iff.rfl
nonrec def e_nn:wp (wJ .non .non) B=B Ω:=propext Iff.rfl
nonrec def e_sh (d:D):wp (wJ (.shn d) (.shn d)) B=B Ω:=by simp[wJ]
nonrec def Gk (v:FV):wp (lH v (.int i)) Q↔wp (lR v) λxs=>wp (Dk xs i) Q:=by
 show wp ((lR v).bind _) Q↔_;rw[l0]
nonrec def f_min:wp (tL (.int i) (.int j)) Q=Q (.int (if j<i then j else i)):=propext Iff.rfl
nonrec def f_max:wp (yF (.int i) (.int j)) Q=Q (.int (if j > i then j else i)):=propext Iff.rfl
nonrec def f_not (b:Bool):wp (Em (.bl b)) Q=Q (.bl (!b)):=propext Iff.rfl
nonrec def f_neg:wp (HA (.int i)) Q=Q (.int (-i)):=propext Iff.rfl
nonrec def f_len (v:FV):wp (lC v) Q↔wp (lR v) λxs=>Q (.int xs.length):=lW _ _ _
nonrec def f_abs:wp (Dm (.int i)) Q=Q (.int (if i<0 then -i else i)):=propext Iff.rfl
nonrec def Py (b:Bool):wp (ut (.bl b)) Q=Q (.int (if b then 1 else 0)):=propext Iff.rfl
nonrec def LC (v:FV):wp (vy v) Q↔wp (lN v) λxs=>wp (zA xs) λn=>Q (.int n):=by
 show wp ((lN v).bind _) Q↔_;rw[l0];simp![lW]
nonrec def f_all (v:FV):wp (Dl v) Q↔wp (lN v) λxs=>wp (pq xs) λbs=>Q (.bl (bs.all id)):=by
 show wp ((lN v).bind _) Q↔_;rw[l0];simp![lW]
nonrec def Nw (v:FV):wp (mC v) Q↔wp (lR v) λxs=>Q (.tup xs):=lW _ _ _
nonrec def Pw (v:FV):wp (nH v) Q↔wp (lR v) λxs=>Q (.lst xs):=lW _ _ _
nonrec def f_isi (t:Ty)(v:FV):wp (mv t v) Q↔wp (mY v t) λb=>Q (.bl b):=lW _ _ _
nonrec def y_non (t:Ty):wp (mY .non t) B=B Ξ:=propext Iff.rfl
nonrec def y_bl (b:Bool)(t:Ty):wp (mY (.bl b) t) B=B (t == .int || t == .bool):=propext Iff.rfl
nonrec def y_int (t:Ty):wp (mY (.int i) t) B=B (t == .int):=propext Iff.rfl
nonrec def y_str (b:String)(t:Ty):wp (mY (.str b) t) B=B (t == .str):=propext Iff.rfl
nonrec def y_tup (b:List FV)(t:Ty):wp (mY (.tup b) t) B=B (t == .tuple):=propext Iff.rfl
nonrec def y_lst (b:List FV)(t:Ty):wp (mY (.lst b) t) B=B (t == .list):=propext Iff.rfl
nonrec def iN_n:wp (lz .non) Q=Q (.bl Ω):=propext Iff.rfl
nonrec def iN_b (b:Bool):wp (lz (.bl b)) Q=Q (.bl Ξ):=propext Iff.rfl
nonrec def iN_i:wp (lz (.int i)) Q=Q (.bl Ξ):=propext Iff.rfl
nonrec def nN_n:wp (pK .non) Q=Q (.bl Ξ):=propext Iff.rfl
nonrec def m_app (xs:List FV)(v:FV):wp (tf (.lst xs) v) Q↔xs.length<big/\Q (.lst (xs++[v])):=me _ _ _
nonrec def Os (xs ys:List FV):wp (E7 (.lst xs) (.tup ys)) Q↔xs.length+ys.length<=big/\Q (.lst (xs++ys)):=me _ _ _
nonrec def s_t (xs:List FV)(lo hi:Option Int):wp (rl (.tup xs) lo hi) Q=Q (.tup (lJ xs lo hi)):=propext Iff.rfl
nonrec def s_l (xs:List FV)(lo hi:Option Int):wp (rl (.lst xs) lo hi) Q=Q (.lst (lJ xs lo hi)):=propext Iff.rfl
nonrec def st_l (xs:List FV)(v:FV):wp (GU (.lst xs) (.int j) v) Q↔wp (ixN xs.length j) λp=>Q (.lst (xs.set p v)):=lW _ _ _
nonrec def au_f (f:Int->Int->Int):wp (x6 f (.int i) (.int j)) Q=Q (.int (f i j)):=propext Iff.rfl
end
def lE {xs:List FV}{i:Int}{n:Nat}{v:FV}{Q:FV->Prop}(h:i=n)(hv:xs[n]?=Ψ v):wp (Dk xs i) Q↔Q v:=by
 subst h
 have:=(aI.mp hv).1
 simp![Dk,ixN,Int.natCast_nonneg,if_true,Int.ofNat_lt,this,Option.bind_some,dN,hv,lu]
nonrec def at_0 (x:FV)(r:List FV)(Q:FV->Prop):wp (Dk (x :: r) 0) Q↔Q x:=lE (n:=0) rfl rfl
nonrec def at_1 (x y:FV)(r:List FV)(Q:FV->Prop):wp (Dk (x :: y :: r) 1) Q↔Q y:=lE (n:=1) rfl rfl
nonrec def at_2 (x y z:FV)(r:List FV)(Q:FV->Prop):wp (Dk (x :: y :: z :: r) 2) Q↔Q z:=lE (n:=2) rfl rfl
def xI {n:Nat}{i:Int}{j:Nat}{Q:Nat->Prop}(h:i=j)(hj:j<n):wp (ixN n i) Q↔Q j:=by
 subst h;simp[ixN,hj]
def vo {xs:List FV}{u:Int}{Q:FV->Prop}(h0:0<=u)(h1:u<xs.length)(h:∀ x∈xs,Q x):wp (Dk xs u) Q:=by
 let hu:u.toNat<xs.length:=⋯
 rw[lE (show u=u.toNat by lia) (aV hu)]
 exact h _ (eL hu)
def oU {α:Type}(p:α->Bool):∀ xs:List α,pq (xs.map λx=>.bl (p x))=Ψ (xs.map p)
 | []=>rfl
 | x :: r=>by simp![gN,pq,oU p r,Option.map_some]
def ints_map:∀ ns:List Int,mM (ns.map .int)=Ψ ns
 | []=>rfl
 | x :: r=>by simp![gN,mM,ints_map r,Option.map_some]
@[scoped simp] theorem ty_10:(Ty.bool == Ty.int)=Ξ:=(·)
@[scoped simp] theorem ty_20:(Ty.str == Ty.int)=Ξ:=(·)
@[scoped simp] theorem ty_21:(Ty.str == Ty.bool)=Ξ:=(·)
@[scoped simp] theorem ty_30:(Ty.list == Ty.int)=Ξ:=(·)
@[scoped simp] theorem ty_31:(Ty.list == Ty.bool)=Ξ:=(·)
@[scoped simp] theorem ty_32:(Ty.list == Ty.str)=Ξ:=(·)
@[scoped simp] theorem ty_34:(Ty.list == Ty.tuple)=Ξ:=(·)
@[scoped simp] theorem ty_40:(Ty.tuple == Ty.int)=Ξ:=(·)
@[scoped simp] theorem ty_41:(Ty.tuple == Ty.bool)=Ξ:=(·)
@[scoped simp] theorem ty_42:(Ty.tuple == Ty.str)=Ξ:=(·)
@[scoped simp] theorem ty_43:(Ty.tuple == Ty.list)=Ξ:=(·)
def jZ {tb:List FD}{d f:Nat}{args:List FV}{fd:FD}{Q:FV×FV->Prop}(h:tb[f]?=Ψ fd)(hl:args.length=fd.np)
  (H:fd.body (callW tb d) (args.map Ψ++gf (fd.ns-fd.np) Φ) (qw fd.io fd.fr Q)):callW tb (d+1) f args Q:=by
 show (match tb[f]? with
  | none=>False
  | some fd=>args.length=fd.np/\fd.body (callW tb d) (args.map Ψ++gf (fd.ns-fd.np) Φ) (qw fd.io fd.fr Q))
 rw[h];exact⟨hl,H⟩
def sI {tb:List FD}{d f:Nat}{args:List FV}{fd:FD}{Q:FV×FV->Prop}(h:tb[f]?=Ψ fd)(hl:args.length=fd.np) :
  callW tb (d+1) f args Q↔fd.body (callW tb d) (args.map Ψ++gf (fd.ns-fd.np) Φ) (qw fd.io fd.fr Q):=by
 show (match tb[f]? with
  | none=>False
  | some fd=>args.length=fd.np/\fd.body (callW tb d) (args.map Ψ++gf (fd.ns-fd.np) Φ) (qw fd.io fd.fr Q))↔_
 rw[h];exact⟨λz=>z.2,λz=>⟨hl,z⟩⟩
def mH {α:Type}{tg:Tg}{b:SW}{f:α->FV}{I:List α->jR->Prop}{Q:FFl->jR->Prop}(all:List α) :
  ∀ (rest done:List α)(L:jR),all=done++rest->I done L ->
  (∀ d x r L (K:jR->Prop),all=d++x :: r->I d L->(∀ L',I (d++[x]) L'->K L')->gW tg (f x) L λL1=>b L1 (qx K Q)) ->
  (∀ L,I all L->Q .next L)->u4 tg b (rest.map f) L Q
 | [],done,L,e,h,_,E=>by
  rw[fH] at e
  exact E L (e ▸ h)
 | x :: rest,done,L,e,h,B,E=>B done x rest L _ e h λL' h'=>mH all rest (done++[x]) L' (by simp[e]) h' B E
def m5 {tg:Tg}{b:SW}{I:Nat->jR->Prop}{Q:FFl->jR->Prop}:∀ (n i:Nat)(L:jR),I i L ->
  (∀ j L (K:jR->Prop),i<=j->j<i+n->I j L->(∀ L',I (j+1) L'->K L')->gW tg (.int (j:Int)) L λL1=>b L1 (qx K Q)) ->
  (∀ L,I (i+n) L->Q .next L)->u4 tg b (uo (i:Int) n) L Q
 | 0,i,L,h,_,E=>E L h
 | n+1,i,L,h,B,E=>B i L _ (iK _) ⋯ h λL' h'=>by
  have:=m5 n (i+1) L' h' (λj L K hj hj'=>B j L K ⋯ ⋯) (λL h=>E L (by rw[show i+(n+1)=i+1+n by lia];exact h))
  simpa using this
def pz {c:BW}{b:SW}{I:Nat->jR->Prop}{Q:FFl->jR->Prop}(B:∀ m L (K:jR->Prop),I m L->(∀ m' L',m'<m->I m' L'->K L')->c L λt L1=>if t=Ω then b L1 (qx K Q) else Q .next L1){m:Nat}{L:jR}(h:I m L):vC c b L Q:=by
 let go:∀ n m L,m<n->I m L->zq c b n L Q:=by
  intro n
  induction n with
  | zero=>intro m L hm;lia
  | succ n ih=>intro m L hm h;exact B m L _ h λm' L' h1 h2=>ih m' L' ⋯ h2
 exact⟨m+1,go _ m L (eA _) h⟩
def tY {α:Type}{tg:Tg}{n m:Nat}{t:BW}{e:EW}{f:α->FV}{I:List α->List FV->jR->Prop}{Q:List FV->jR->Prop}(all:List α) :
  ∀ (rest done:List α)(Z8:List FV)(L:jR),all=done++rest->I done Z8 L ->
  (∀ d x r Z8 L (K:List FV->jR->Prop),all=d++x :: r->I d Z8 L->(∀ acc' L',I (d++[x]) acc' L'->K acc' L')->gW tg (f x) (L++gf m Φ) λL1=>t L1 λb L2=>if b=Ω then e L2 λv L3=>K (Z8++[v]) (L3.take n) else K Z8 (L2.take n)) ->
  (∀ ys L,I all ys L->Q ys L)->m8 n m tg t e (rest.map f) Z8 L Q
 | [],done,Z8,L,e,h,_,E=>by
  rw[fH] at e
  exact E Z8 L (e ▸ h)
 | x :: rest,done,Z8,L,e,h,B,E=>B done x rest Z8 L (λacc' L'=>m8 _ _ _ _ _ (rest.map f) acc' L' Q) e h λacc' L' h'=>tY all rest (done++[x]) acc' L' (by simp[e]) h' B E
def kY {α:Type}{tg:Tg}{n m:Nat}{e:EW}{f:α->FV}{g:α->FV}{Q:List FV->jR->Prop}{L:jR}:∀ (xs:List α)(Z8:List FV),
  (∀ x∈xs,∀ K:FV->jR->Prop,K (g x) L->gW tg (f x) (L++gf m Φ) λL1=>e L1 λv L3=>K v (L3.take n))->Q (Z8++xs.map g) L->m8 n m tg lp e (xs.map f) Z8 L Q
 | [],Z8,_,E=>by
  show Q Z8 L
  simpa using E
 | x :: xs,Z8,B,E=>B x cQ (λv L'=>m8 n m tg lp e (xs.map f) (Z8++[v]) L' Q) (kY xs (Z8++[g x]) (λy hy=>B y (bT _ hy)) (by simpa using E))
def oA {α:Type}{tg:Tg}{n m:Nat}{t:BW}{e:EW}{f:α->FV}{g:α->FV}{p:α->Bool}{Q:List FV->jR->Prop}{L:jR}:∀ (xs:List α)(Z8:List FV),
  (∀ x∈xs,∀ (K:FV->jR->Prop)(N:jR->Prop),(p x=Ω->K (g x) L)->(p x=Ξ->N L)->gW tg (f x) (L++gf m Φ) λL1=>t L1 λb L2=>if b=Ω then e L2 λv L3=>K v (L3.take n) else N (L2.take n))->Q (Z8++(xs.filter p).map g) L->m8 n m tg t e (xs.map f) Z8 L Q
 | [],Z8,_,E=>by
  show Q Z8 L
  simpa using E
 | x :: xs,Z8,B,E=>B x cQ (λv L'=>m8 n m tg t e (xs.map f) (Z8++[v]) L' Q) (λL'=>m8 n m tg t e (xs.map f) Z8 L' Q)
   (λhp=>oA xs (Z8++[g x]) (λy hy=>B y (bT _ hy)) (by rw[List.filter_cons_of_pos hp] at E;simpa using E))
   (λhp=>oA xs Z8 (λy hy=>B y (bT _ hy)) (by rw[List.filter_cons_of_neg (by simp[hp])] at E;exact E))
def AE:∀ n lo:Nat,uo (lo:Int) n=(List.range' lo n).map λi:Nat=>FV.int i
 | 0,lo=>rfl
 | n+1,lo=>by simp![uo,List.range'_succ,gN];rw[<- AE n (lo+1)];simp
def mQ (n:Nat):uo 0 n=(i7 n).map λi:Nat=>FV.int i:=by
 have:=AE n 0
 rw[List.range_eq_range'];exact_mod_cast this
def mX {c A B:Prop} [Decidable c] (h1:c->A)(h2:¬ c->B):if c then A else B:=by
 by_cases h:c
 ·rw[if_pos h];exact h1 h
 ·rw[if_neg h];exact h2 h
end Kq
set_option maxHeartbeats 4000000
namespace Kq
open PySem PySem.Spec PyProof.Rows L2
section
variable {X:Cx}{C:CC}{n:Nat}{sp:ib->Nat->Sp}{a:Expr}{ea:EW}{p p2 p3 p4 pos:Pos}
def IZ:kN X (.builtin "isinstance") (λxs H Q=>∃ v d c c' b b' T,xs=[v,.ref d]/\H d=Ψ (.tup [.ty c,.ty c'])/\TyOf X.K H v (.type T)/\fX X.K (.type T) (.type c)=Ψ b/\fX X.K (.type T) (.type c')=Ψ b'/\Q (.bl (b || b')) H):=by
 intro Z9 s σ H xs us Q I r hh
 let(v,d,c,c',b,b',T,rfl,hd,h1,h2,h3,q):=hh
 let(u,u',rfl,ru,ru'):=vals2 r
 obtain rfl:u'=.ref d:=ru'
 let(_,Z7,rv,o,ho,hcl,nn,hdt):=(show ObjOk X.prog X.w H s.heap d (.tup [.ty c,.ty c']) from I.hok d _ hd)
 let(w1,w2,rfl,rw1,rw2):=vals2 rv
 obtain rfl:w1=.type c:=rw1
 obtain rfl:w2=.type c':=rw2
 let fin:∀ tk,EP X Z9 σ Q (.bool (b || b')) { s with toks:=tk }:=λtk=>⟨.bl (b || b'),H,I.tok _,rfl,q⟩
 let hany:PySem.W.kitAny X.K (.type T) [.type c,.type c']=Ψ (b || b'):=by
  show (match fX X.K (.type T) (.type c) with|some Ω=>Ψ Ω|some Ξ=>PySem.W.kitAny X.K (.type T) [.type c']|none=>Φ)=_
  rw[h2]
  cases b with
  | true=>rfl
  | false =>
   show (match fX X.K (.type T) (.type c') with|some Ω=>Ψ Ω|some Ξ=>PySem.W.kitAny X.K (.type T) []|none=>Φ)=_
   rw[h3];cases b'<;>rfl
 let(oc,od,odt,osl):=o
 simp only at hcl hdt
 subst hcl hdt
 cases h1 with
 | non=>cases (show u=Value.none from ru);exact PySem.W.kia_tup PySem.W.kitx_none I.kIn True.intro ho hany (λz=>nomatch z) fin
 | bl y=>cases (show u=Value.bool y from ru);exact PySem.W.kia_tup PySem.W.kitx_bool I.kIn True.intro ho hany (λz=>nomatch z) fin
 | int i=>let(t,rfl):=(show ∃ t,u=Value.int i t from ru);exact PySem.W.kia_tup PySem.W.kitx_int I.kIn True.intro ho hany (λz=>nomatch z) fin
 | str y=>let(t,rfl):=(show ∃ t,u=Value.str y t from ru);exact PySem.W.kia_tup PySem.W.kitx_str I.kIn True.intro ho hany (λz=>nomatch z) fin
 | flt y=>let(t,rfl):=(show ∃ t,u=Value.float y t from ru);exact PySem.W.kia_tup PySem.W.kitx_float I.kIn True.intro ho hany (λz=>nomatch z) fin
 | @lst a xs ea =>
  cases (show u=Value.ref a from ru)
  let(_,_,n,_,h1):=(show ObjOk X.prog X.w H s.heap a (.lst xs) from I.hok a _ ea)
  exact PySem.W.kia_tup du I.kIn ⟨_,h1,rfl⟩ ho hany (λz=>nomatch z) fin
 | @frz a ob xs ea =>
  cases (show u=Value.ref a from ru)
  let(_,_,_,n,_,h1):=(show ObjOk X.prog X.w H s.heap a (.frz ob (.lst xs)) from I.hok a _ ea)
  exact PySem.W.kia_tup du I.kIn ⟨_,h1,rfl⟩ ho hany (λz=>nomatch z) fin
 | @tup a xs ea =>
  cases (show u=Value.ref a from ru)
  let(_,_,_,o,h1,h2,_):=(show ObjOk X.prog X.w H s.heap a (.tup xs) from I.hok a _ ea)
  exact PySem.W.kia_tup PySem.W.kitx_tuple I.kIn ⟨o,h1,h2⟩ ho hany (λz=>nomatch z) fin
 | @dK a kvs ea =>
  cases (show u=Value.ref a from ru)
  let(_,_,vs,_,o,es,ep,h1,h2,_):=(show ObjOk X.prog X.w H s.heap a (.dK kvs) from I.hok a _ ea)
  exact PySem.W.kia_tup dv I.kIn ⟨o,h1,h2.1⟩ ho hany (λz=>nomatch z) fin
 | @dT a kvs ea =>
  cases (show u=Value.ref a from ru)
  let(_,_,xs,_,o,es,ep,h1,h2,_):=(show ObjOk X.prog X.w H s.heap a (.dT kvs) from I.hok a _ ea)
  exact PySem.W.kia_tup dv I.kIn ⟨o,h1,h2.1⟩ ho hany (λz=>nomatch z) fin
def Nq {t t':Ty}{tn tn':Str}{m:Nat}(G:Good X C n sp)(hg:C.gl (hW "isinstance")=Ω)(ht:tn=hW (lX t))(ht':tn'=hW (lX t'))(hg2:(C.gl tn && C.gl tn')=Ω)(hs:j9 a=Ξ)(ha:FR X C a ea) :
  FE X C (.Call (.Name (hW "isinstance") p) [a,.Tuple [.Name tn p2,.Name tn' p3] m p4] [] pos) (kG (wq t t') ea):=by
 subst ht ht'
 let hg2:=b2 hg2
 let tt:∀ (t:Ty)(p2:Pos),C.gl (hW (lX t))=Ω->PE X.nox (.Name (hW (lX t)) p2) (tC (.ty (lX t))):=λt p2 hg=>by
  cases t<;>exact uN (G.gl hg) (G.blt _ (·)) (by nofun) rfl (by nofun) (by nofun)
 let tup:=Br (x1:=m) (pos:=p4) (ka (tt t p2 hg2.1) (ka (tt t' p3 hg2.2) kF rfl) rfl)
 exact PE.imp (mE IZ (G.gl hg) (G.blt "isinstance" (·)) (by nofun) (ka ha (ka tup kF rfl) (jU hs)) (by nofun) (by nofun) (jU hs) rfl) λσ H Q q1=>?_;let(c,L,S,Q0,I,h,k):=q1;refine
  ⟨c,L,S,_,I,h,λv L1 hv x S1 H1 r1 I1 s1=>?_⟩
 exact⟨by show 2<=sizeLine;decide,λd hd=>?_⟩
 let(z,e,q):=kq hv
 let(r,e1,e2):=lV e
 let(r',e3,rfl):=oX e2
 let I2:=I1.lay hd (.tup [.ty (lX t),.ty (lX t')])
 let rr:RH X.K S1 (kh H1 d (.tup [.ty (lX t),.ty (lX t')])) v x:=by
  rcases r1 with r1|⟨b,rfl,o1,ps,us,e4,o2,o3⟩
  ·exact .inl r1
  ·exact .inr ⟨b,rfl,o1,ps,us,e4,by rw[jT (kK o2 hd)];exact o2,o3⟩
 let(T,t1,t2):=rf I2.sub rr e1
 let(T',t3,t4):=rf I2.sub rr e3
 let hT:T=T':=by cases t1<;>cases t3<;>first|rfl|(simp_all)
 subst hT
 exact⟨x,d,_,_,_,_,T,rfl,jV,t1,t2,t4,k _ L1 q _ S1 _ rfl I2 s1⟩
end
nonrec def Px (t u:Ty)(v:FV)(Q:FV->Prop):wp (wq t u v) Q↔wp (mY v t) λa=>wp (mY v u) λb=>Q (.bl (a || b)):=by
 unfold wq;rw[l0];simp![lW]
section
variable {X:Cx}{C:CC}{n:Nat}{sp:ib->Nat->Sp}{fr:Bool}{a b:Expr}{ea eb:EW}{pos px py pt p2:Pos}{i j kt k2:Nat}{nx ny:Str}
def Hl (G:Good X C n sp){ta:TA}(h:BA C i j nx ny px py a b=Ω)(ha:PA X.nox [a,b] ta):PS X.nox (.Assign [.Tuple [.Name nx px,.Name ny py] kt pt] (.Tuple [a,b] k2 p2) pos) (Kg i j ta):=by
 let g0:=b2 h;let g1:=b2 g0.1;let g2:=b2 g1.1;let g3:=b2 g2.1;let g4:=b2 g3.1;let g5:=b2 g4.1;let g6:=b2 g5.1;let g7:=b2 g6.1;let g8:=b2 g7.1;let g9:=b2 g8.1
 let lx:X.env.scope.names.lookup nx=Ψ .local:=by rw[G.sc];exact de g6.2
 let ly:X.env.scope.names.lookup ny=Ψ .local:=by rw[G.sc];exact de g5.2
 exact G8 (X:=X.nox) G.calm G.nd' (G.ix g9.1) (G.ix g9.2) (de g8.2) lx ly ha (sw2 (env:=X.env) G.kind lx ly (de g7.2) g4.2 (nb g3.2) (nb g2.2) (nb g1.2) (nb g0.2))
def Hk (h:BA C i j nx ny px py a b=Ω):j9 a=Ξ/\j9 b=Ξ/\i≠j:=by
 let g0:=b2 h;let g1:=b2 g0.1;let g2:=b2 g1.1;let g3:=b2 g2.1;let g4:=b2 g3.1;let g5:=b2 g4.1;let g6:=b2 g5.1;let g7:=b2 g6.1;let g8:=b2 g7.1
 exact⟨by cases a<;>first|rfl|(exact nb g3.2),by cases b<;>first|rfl|(exact nb g2.2),de g8.2⟩
def M3 (G:Good X C n sp)(hm:(Δ (jX C.md i=.imm) && (Δ (jX C.md j=.own) && Δ (j≠0)))=Ω)(h:BA C i j nx ny px py a b=Ω)(ha:FE X C a ea)(hb:FF X C b eb):FS X C fr (.Assign [.Tuple [.Name nx px,.Name ny py] kt pt] (.Tuple [a,b] k2 p2) pos) (kg (nL (jS ea (jS eb jW))) (.tp [i,j])):=by
 let(sa,sb,hij):=Hk h
 exact PS.imp (Hl G h (ka ha (ka hb kF (jU sb)) (jU sa))) λD σ H q1=>?_;let(c,L,S,Q0,I,h,k):=q1
 let hm:=b2 hm;let hm2:=b2 hm.2
 exact⟨c,L,S,_,I,h,λv L1 q x S1 H1 r1 I1 s1=>⟨c,L1,S1,_,I1,q,λw L2 q l S2 H2 o f I2 s2=>⟨x,.ref l,rfl,?_⟩⟩⟩
 let I3:=I2.setI (de hm.1) (r1.mono s2)
 exact k .next _ q.2 _ S2 H2 (I3.set (λ_ _=>de hm2.2) (λz=>by rw[de hm2.1] at z;cases z) (.inr ⟨de hm2.1,l,rfl,o,f.1,f.2.1,λy u _ hy hu=>?_⟩)) (s1.trans s2)
 let hyi:y≠i:=λz=>hy (by rw[z];exact de hm.1)
 rw[bV (jp hyi)] at hu ⊢
 exact f.2.2 y u hy hu
end
abbrev Rh (lo:Int) (n:Nat):It:=⟨λi _=>i<n,λi H x H'=>H'=H/\x=.int (lo-i),λi _=>n<=i⟩
def zu {P:jn}{w:jE}{K:ib}{tg:Expr}(it:jP) (lo:Int) (n:Nat):Turn P w K tg (Rh lo n) [it] it (λi h=>IsRangeIter h it (lo+(i:Nat)*(-1)) ((n:Int)-(i:Nat)) (-1)) where
 mem:=∅
 obj:=λi h st b hb=>by
  let e:b=it:=by simpa using hb
  subst e
  exact⟨_,st,λv z=>by
   let z':Data.fields _=Data.cell v:=z
   cases z'⟩
 keep:=λi h h' st k=>k it ∅ _ st
 item:=by
  intro X hP hw hK hc i Z9 s σ H E I hf st hg
  subst hP hw hK
  let(f0,f1,f2,f3,f4,f5):=hf it ∅
  let W:=Walks.range (prog:=X.prog) (w:=X.w) (I.ok.hd hc) it lo (-1) n
  exact W.item i s _ _ hg st λv h' tk hv st' kk=>?_
  let(t,rfl):=hv
  let I1:Inv X Z9 σ H { s with heap:=h',toks:=tk }:=I.turned (λb o hb e=>kk b o (by simpa using hb) e) f0 f1 f3 f4 f5
  exact⟨_,rfl,wA (s:={ s with heap:=h',toks:=tk }) (n:="range_iterator") st' rfl rfl (·) ⟨.int (lo-i),H,I1,⟨t,?_⟩,⟨rfl,rfl⟩,st',λb hb=>(hf b hb).1⟩⟩
  rw[Int.mul_neg,Int.mul_one,Int.sub_eq_add_neg]
 done:=by
  intro X hP hw hK hc i Z9 s σ H E I hf st hg
  subst hP hw hK
  let(f0,f1,f2,f3,f4,f5):=hf it ∅
  exact wpAny_pyNext_range_end (I.ok.hd hc) st (by have:n<=i:=hg;lia) λh' eb=>⟨rfl,I.turned (t':=s.toks) (λb o hb e=>eb b o hb e) f0 f1 f3 f4 f5⟩
 self:=λ_ _ _ _ _ st h=>wpAny_pyIter_rangeiter st h
abbrev nQ (hi:Int):Nat->List FV
 | 0=>[]
 | n+1=>.int hi :: nQ (hi-1) n
def tR:∀ (n:Nat) (lo:Int) (i:Nat),(nQ lo n)[i]?=if i<n then Ψ (.int (lo-i)) else Φ
 | 0,lo,i=>by simp[nQ]
 | n+1,lo,0=>by simp[nQ]
 | n+1,lo,i+1=>by
  show (nQ (lo-1) n)[i]?=_
  rw[tR n (lo-1) i]
  let e:lo-1-(i:Int)=lo-((i+1:Nat):Int):=⋯
  simp[e]
section
variable {K:ib}{c:Cn}{md:Md}
def ED {lo:Int}{m:Nat}{S1:Hp}:Ay K c md (Rh lo m) (nQ lo m) S1:=by
 intro i L σ S H I s
 rw[tR]
 by_cases h:i<m
 ·rw[if_pos h]
  exact⟨λe=>(nomatch e),λp e=>?_⟩
  cases e
  exact⟨h,λv H' q1=>by let(e1,e2):=q1;exact⟨S,Same.refl S,by rw[e1];exact λ_ _ _ _ I=>I,e2⟩⟩
 ·rw[if_neg h]
  exact⟨λ_=>show m<=i by lia,λp e=>(nomatch e)⟩
end
end Kq
namespace PySem
open PySem.Spec
def F.sub_rit_reversed:isSubtype (.type "range_iterator") (.type "reversed")=pure Ξ:=by rw[fT];kernel_rfl
def zJ (r:jP) (a b c:Int)(t u v:Tok)(hc0:¬(!(Builtin.Range.rangeFitsLong a && Builtin.Range.rangeFitsLong b && Builtin.Range.rangeFitsLong c && Builtin.Range.rangeFitsLong (-c) && Builtin.Range.rangeFitsLong (a-c) && Builtin.Range.rangeFitsLong (Builtin.Range.rangeSize a b c)))=Ω) :
  Meets (jt.«range.__reversed__» ⟨[.ref r],[]⟩) (λ_ R s=>s.heap.get? r=Ψ { cls:=.type "range",dict:=Φ,data:=.fields #[.int a t,.int b u,.int c v],slots:=#[] }/\R (.ok (.ret (Value.ref s.heap.objs.size))) { s with heap:=s.heap.push { cls:=Value.type (if (Builtin.Range.rangeFitsLong a && Builtin.Range.rangeFitsLong b && Builtin.Range.rangeFitsLong c && Builtin.Range.rangeFitsLong (-c) && Builtin.Range.rangeFitsLong (a-c) && Builtin.Range.rangeFitsLong (Builtin.Range.rangeSize a b c))=Ω then "range_iterator" else "longrange_iterator"),data:=Data.fields #[rawInt (a+(Builtin.Range.rangeSize a b c-1)*c),rawInt (Builtin.Range.rangeSize a b c),rawInt (-c)] },toks:=s.toks }) :=
 .of_wp λprog w A R s h=>by let(hp,g,d,tk,os):=s;let(hl,h):=h;wp_walk;exact⟨_,rfl,h⟩
section
variable {prog:jn}{w:jE}{A:jD}{E:jF->jw->Prop}{s:jw}
abbrev pF (a n:Int):Obj:={ cls:=.type "range_iterator",data:=.fields #[rawInt a,rawInt n,rawInt (-1)] }
def sG {r:jP}{b:Int}{t u v:Tok}{Q:jF->jw->Prop}(hr:IsRange s.heap r 0 b 1 t u v)(h1:-(2 ^ 62)<=b)(h2:b<2 ^ 62)
  (h:Q (.ref s.heap.objs.size) { s with heap:=s.heap.push (pF ((b.toNat:Int)-1) b.toNat) }):wpAny (model prog w) A (call (.builtin "range.__reversed__") [.ref r]) Q E s:=by
 let hT:s.TypeIs (.ref r) "range":=⟨_,hr,rfl⟩
 let hn:Builtin.Range.rangeSize 0 b 1=(b.toNat:Int):=by rw[rangeSize_one];split<;>lia
 let hs:(Builtin.Range.rangeFitsLong 0 && Builtin.Range.rangeFitsLong b && Builtin.Range.rangeFitsLong 1 && Builtin.Range.rangeFitsLong (-1) && Builtin.Range.rangeFitsLong (0-1) && Builtin.Range.rangeFitsLong (Builtin.Range.rangeSize 0 b 1))=Ω:=by
  rw[hn]
  simp![Builtin.Range.rangeFitsLong,eR,decide_eq_true_eq]
  lia
 exact iU F.slot_range_reversed hT F.entry_range_reversed (F.args_range_reversed_1 _) (zJ r 0 b 1 t u v (by rw[hs];decide)) ⟨hr,?_⟩
 rw[hs,if_pos rfl,hn]
 let e:(0:Int)+((b.toNat:Int)-1)*1=(b.toNat:Int)-1:=⋯
 rw[e]
 exact h
def sB {r:jP}{b:Int}{t u v:Tok}{Q₁:jF->jw->Prop}(hr:IsRange s.heap r 0 b 1 t u v)(h1:-(2 ^ 62)<=b)(h2:b<2 ^ 62)
  (h:Q₁ (.ref s.heap.objs.size) { s with heap:=s.heap.push (pF ((b.toNat:Int)-1) b.toNat) }) :
  codeAny (model prog w) A (.call (.builtin "reversed.__new__") ⟨[.type "reversed",.ref r],[]⟩) (wants Q₁ E) s:=by
 let hT:s.TypeIs (.ref r) "range":=⟨_,hr,rfl⟩
 exact ff ?_
 show wpAny _ A.in1 (do checkBuiltinCall "reversed.__new__" ⟨[.type "reversed",.ref r],[]⟩;again (.builtin "reversed.__new__" ⟨[.type "reversed",.ref r],[]⟩)) _ _ s
 exact iR (iB (F.newCall_reversed_1 _) (iO ⟨gC F.plain_reversed_new _,fg F.entry_reversed_new ?_⟩))
 rw[b9 F.plain_reversed_new _]
 unfold jt.«reversed.__new__»
 exact iR (iB (newClass_reversed _) ?_)
 try dsimp only
 exact iR (iB (a:=()) (by first|rfl|kernel_rfl) ?_)
 exact iR (iB (a:=()) (by first|rfl|kernel_rfl) ?_)
 try dsimp only
 exact iR (eU hT F.slot_range_reversed.lookup ?_)
 try dsimp only
 exact iR (iB (F.slot_range_reversed.bind _) ?_)
 try dsimp only
 first
 | rw[if_neg (show ¬ ((Value.builtin "range.__reversed__" == Value.none)=Ω) from cU)]
 | (show wpAny _ _ (if (Value.builtin "range.__reversed__" == Value.none)=Ω then _ else _) _ _ _;rw[if_neg (show ¬ ((Value.builtin "range.__reversed__" == Value.none)=Ω) from cU)])
 exact iR (iN ?_)
 exact iR (m:=runValue (.call (.builtin "range.__reversed__") ⟨[.ref r],[]⟩)) (show wpAny _ _ (call (.builtin "range.__reversed__") [.ref r]) _ _ _ from sG hr h1 h2 ?_)
 first
 | exact iO h
 | exact iR (iO (iO h))
def sF {r:jP}{b:Int}{t u v:Tok}{Q:jF->jw->Prop}(hr:IsRange s.heap r 0 b 1 t u v)(h1:-(2 ^ 62)<=b)(h2:b<2 ^ 62)
  (h:Q (.ref s.heap.objs.size) { s with heap:=s.heap.push (pF ((b.toNat:Int)-1) b.toNat) }):wpAny (model prog w) A (call (.type "reversed") [.ref r]) Q E s:=by
 exact callType_other (U:="range_iterator") (Q₁:=λobj s₁=>obj=.ref s.heap.objs.size/\s₁ = { s with heap:=s.heap.push (pF ((b.toNat:Int)-1) b.toNat) }) (by nofun) F.create_reversed ⟨_,_,F.mro_reversed⟩ F.made_reversed F.sub_rit_reversed (F.typeCall_reversed_1 _) (sB hr h1 h2 ⟨rfl,rfl⟩) ?_
 rintro obj s₁ ⟨rfl,rfl⟩
 exact⟨⟨_,cw _ rfl,rfl⟩,h⟩
end
end PySem
namespace Kq
open PySem PySem.Spec PyProof.Rows L2
section
variable {X:Cx}{tg:Expr}
def D1 {a:Expr}{ta:TA}{p p2 pos pos2:Pos}(hg:Gl X "range")(hm:X.mg "range" = Φ)(hg2:Gl X "reversed")(hm2:X.mg "reversed" = Φ)(ha:PA X [a] ta)(hs:starEach [a] X.env=[(Ξ,eval a X.env)]) :
  PI X tg (.Call (.Name "reversed" p) [.Call (.Name "range" p2) [a] [] pos2] [] pos) (λσ H R=>ta σ H λvs H1=>∃ j:Int,vs=[.int j]/\-(2 ^ 62)<=j/\j<2 ^ 62/\R (Rh ((j.toNat:Int)-1) j.toNat) H1):=by
 intro Z9 s σ H R I h
 exact Call_ (lY I hg2 hm2 (by nofun) (aq (T:="reversed") ?_ rfl rfl))
 show wpAny _ _ (spliced ((Ξ,eval (.Call (.Name "range" p2) [a] [] pos2) X.env) :: backTo pos [])) _ _ s
 exact cT (Call_ (lY I hg hm boot_range (aq (ko (ha pos2 Z9 s σ H _ I h) λus s1 ⟨vs,H1,I1,r1,q1⟩=>?_) hs rfl)))
 let(j,e,q1,q2,q):=q1
 subst e
 cases r1 with
 | cons r rr =>
  cases rr
  let(t,rfl):=r
  exact call_range_1 (dR (sF (IsRange.new ..) q1 q2 ?_))
  let W:jM:=s1.heap.push { cls:=.type "range",data:=.fields #[.int 0 s1.toks,.int j t,.int 1 (s1.toks+1)] }
  let I2:Inv X Z9 σ H1 { s1 with heap:=W,toks:=s1.toks+1+1 }:=I1.kept λb o e=>bx _ e
  let st:IsRangeIter (W.push (pF ((j.toNat:Int)-1) j.toNat)) W.objs.size ((j.toNat:Int)-1) j.toNat (-1):=cw _ rfl
  exact wpAny_pyIter_rangeiter st ?_
  exact⟨W.objs.size,[W.objs.size],_,_,H1,rfl,I2.kept (t':=s1.toks+1+1) λb o e=>bx _ e,zu _ ((j.toNat:Int)-1) j.toNat,?_,λb hb=>?_,q⟩
  ·let e1:((j.toNat:Int)-1)+((0:Nat):Int)*(-1)=(j.toNat:Int)-1:=by simp
   let e2:((j.toNat:Nat):Int)-((0:Nat):Int)=j.toNat:=∅
   rw[e1,e2]
   exact st
  ·let e:b=W.objs.size:=by simpa using hb
   subst e
   exact I2.fpOk (iK _) (I2.hok.fresh (iK _))
end
abbrev Co (a:EW):AW:=λL Q=>a L λx L1=>wp (mG x) λj=>mJ j=Ω/\Q (nQ ((j.toNat:Int)-1) j.toNat) L1
nonrec def Lg (a:EW)(L:jR)(Q:List FV->jR->Prop):Co a L Q=(a L λx L1=>wp (mG x) λj=>mJ j=Ω/\Q (nQ ((j.toNat:Int)-1) j.toNat) L1):=propext Iff.rfl
def Na {X:Cx}{C:CC}{n:Nat}{sp:ib->Nat->Sp}{a tg:Expr}{ea:EW}{p p2 pos pos2:Pos}(G:Good X C n sp)(hg:(C.gl (hW "range") && C.gl (hW "reversed"))=Ω)(hs:j9 a=Ξ)(ha:FE X C a ea):FI X C C.md tg (.Call (.Name (hW "reversed") p) [.Call (.Name (hW "range") p2) [a] [] pos2] [] pos) (Co ea) :=
 PI.imp (D1 (G.gl (b2 hg).1) (G.blt "range" (·)) (G.gl (b2 hg).2) (G.blt "reversed" (·)) (ka ha kF (jU hs)) (jU hs)) λσ H R q1=>by let(c,L,S,Q0,I,h,k):=q1;exact
 ⟨c,L,S,_,I,h,λv L1 hv x S1 H1 r1 I1 s1=>by
  let(j,e,hb,q):=kq hv
  cases kS e
  let h1:=de hb
  exact⟨j,by rw[show x=.int j from r1],h1.1,h1.2,k _ L1 q _ c S1 H1 I1 (λ_ _ _ _ I=>I) rfl ED s1⟩⟩
abbrev Dq (P:jn)(w:jE)(A:jD)(I:Nat->jF->Prop)(bt:Nat->Nat->Bool)(h0:jM) (N:Nat):Prop :=
 ∀ i j u v (s:jw)(Q:jF->jw->Prop)(E:jF->jw->Prop),L2.Kept h0 s.heap N->I i u->I j v->Q (.bool (bt i j)) s->wpAny (model P w) A (richCompare .Gt u v) Q E s
def uh (a d:jF):argsOk "max" ⟨[a],[(hW "default",d)]⟩:=by unfold argsOk;kernel_rfl
section
variable {P:jn}{w:jE}{A:jD}{R:jx->jw->Prop}{it S N:jP}{fp wr:List jP}{n:Nat}{V:Nat->jF->Prop}{St:Nat->jM->Prop}{bt:Nat->Nat->Bool}{h0:jM}{kw:List (Str×jF)}
def zU (W:Walks P w A.in1 it fp wr n V St)(C:Dq P w A.in1 V bt h0 N)(sf:S ∉ fp)(nw:∀ b∈wr,N<=b)(nS:N<=S) :
  ∀ (k j:Nat)(s:jw)(best:jF) (c:Nat),n-(j+1)=k->j+1<=n->St (j+1) s.heap->V (argBest bt j) best->L2.Kept h0 s.heap N->s.heap.get? S=Ψ { cls:=.type "list",dict:=Φ,data:=.seq #[best,best] c,slots:=#[] } ->
  (∀ v h' tk,V (argBest bt (n-1)) v->(∀ b o,b ∉ wr->b≠S->s.heap.get? b=Ψ o->h'.get? b=Ψ o)->R (.ok (.ret v)) { s with heap:=h',toks:=tk })->codeAny (model P w) A (.builtin "max.loop" ⟨[.ref it,.none,.ref S],kw⟩) R s:=by
 let sw:S ∉ wr:=λh=>sf (W.sub _ h)
 let nm:(toString "max"++toString ".loop":String) = "max.loop":=(·)
 let low:∀ {b:jP},b<N->b ∉ wr/\b≠S:=λ{b} hb=>⟨λz=>absurd (nw b z) (i6.mpr hb),λz=>absurd nS (by rw[<- z];exact i6.mpr hb)⟩
 intro k
 induction k with
 | zero =>
  intro j s best c hk hj hst hV kp hS hR
  let en:j+1=n:=⋯
  exact fg F.entry_max_loop ?_;rw[ay F.plain_max_loop _]
  show wpAny _ A.in1 (seqItems? (.ref S) >>= _) _ _ s;exact iR (fO hS rfl ?_)
  show wpAny _ A.in1 (tryCatch (pyNext (.ref it)) _ >>= _) _ _ s;exact iR (fM (W.done s _ _ (en ▸ hst) λg tk kk=>?_))
  let S1:=kk S _ sw hS
  show wpAny _ A.in1 (updateSeq S (λ_=>#[]) >>= _) _ _ _;exact iR (eT S1 rfl (iR (iC (iO ?_))))
  exact hR best _ tk (by rw[<- en];exact hV) λb o c1 c2 e=>(bw _ _ (jp c2)).trans (kk b o c1 e)
 | succ k ih =>
  intro j s best c hk hj hst hV kp hS hR
  let lt:j+1<n:=⋯
  exact fg F.entry_max_loop ?_;rw[ay F.plain_max_loop _]
  show wpAny _ A.in1 (seqItems? (.ref S) >>= _) _ _ s;exact iR (fO hS rfl ?_)
  show wpAny _ A.in1 (tryCatch (pyNext (.ref it)) _ >>= _) _ _ s;exact iR (fM (W.item (j+1) s _ _ lt hst λv g tk vP st1 kk=>?_))
  let S1:=kk S _ sw hS
  let kp1:L2.Kept h0 g N:=λb o hb e=>kk b o (low hb).1 (kp b o hb e)
  show wpAny _ A.in1 (tryCatch (holding [v,v] (richCompare .Gt v best >>= _)) _ >>= _) _ _ _
  exact iR (fM (gx (iR (C (j+1) (argBest bt j) v best _ _ _ kp1 vP hV (iR (gx (cW (iR (iC (iO ?_))))))))))
  cases hb:bt (j+1) (argBest bt j) with
  | true =>
   simp![if_true];exact iR (eT S1 rfl (iR (iC ?_)));rw[nm]
   refine iO ⟨gC F.plain_max_loop _,ih (j+1) _ v _ ⋯ lt (W.frame _ _ _ st1 λb bf o e=>(bw _ _ (λh:S=b=>sf (by rw[h];exact bf))).trans e) (by simp![argBest,hb,if_true];exact vP)
    (λb o l e=>(bw _ _ (jp (low l).2)).trans (kp1 b o l e)) (bK _ S1 rfl) λv' g' tk' p' k'=>?_⟩
   exact hR v' g' tk' p' λb o c1 c2 e=>k' b o c1 c2 ((bw _ _ (jp c2)).trans (kk b o c1 e))
  | false =>
   simp![cV,if_false];exact iR (iC ?_);rw[nm]
   exact iO ⟨gC F.plain_max_loop _,ih (j+1) _ best c ⋯ lt st1 (by simp![argBest,hb,cV,if_false];exact hV) kp1 S1 λv' g' tk' p' k'=>?_⟩
   exact hR v' g' tk' p' λb o c1 c2 e=>k' b o c1 c2 (kk b o c1 e)
def xz (W:Walks P w A.in1 it fp wr n V St)(C:Dq P w A.in1 V bt h0 N)(sf:S ∉ fp)(nw:∀ b∈wr,N<=b)(nS:N<=S)(hn:0<n){s:jw}{c:Nat}(hst:St 0 s.heap)(kp:L2.Kept h0 s.heap N)
  (hS:s.heap.get? S=Ψ { cls:=.type "list",dict:=Φ,data:=.seq #[] c,slots:=#[] })
  (hR:∀ v h' tk,V (argBest bt (n-1)) v->(∀ b o,b ∉ wr->b≠S->s.heap.get? b=Ψ o->h'.get? b=Ψ o)->R (.ok (.ret v)) { s with heap:=h',toks:=tk }):codeAny (model P w) A (.builtin "max.loop" ⟨[.ref it,.none,.ref S],kw⟩) R s:=by
 let sw:S ∉ wr:=λh=>sf (W.sub _ h)
 let nm:(toString "max"++toString ".loop":String) = "max.loop":=(·)
 let low:∀ {b:jP},b<N->b ∉ wr/\b≠S:=λ{b} hb=>⟨λz=>absurd (nw b z) (i6.mpr hb),λz=>absurd nS (by rw[<- z];exact i6.mpr hb)⟩
 exact fg F.entry_max_loop ?_;rw[ay F.plain_max_loop _]
 show wpAny _ A.in1 (seqItems? (.ref S) >>= _) _ _ s;exact iR (fO hS rfl ?_)
 show wpAny _ A.in1 (tryCatch (pyNext (.ref it)) _ >>= _) _ _ s;exact iR (fM (W.item 0 s _ _ hn hst λv g tk vP st1 kk=>?_))
 let S1:=kk S _ sw hS
 show wpAny _ A.in1 (updateSeq S (λ_=>#[v,v]) >>= _) _ _ _;exact iR (eT S1 rfl ?_);rw[nm]
 refine iO ⟨gC F.plain_max_loop _,zU W C sf nw nS _ 0 _ v _ rfl hn (W.frame _ _ _ st1 λb bf o e=>(bw _ _ (λh:S=b=>sf (by rw[h];exact bf))).trans e) vP
  (λb o l e=>(bw _ _ (jp (low l).2)).trans (kk b o (low l).1 (kp b o l e))) (bK _ S1 rfl) λv' g' tk' p' k'=>?_⟩
 exact hR v' g' tk' p' λb o c1 c2 e=>k' b o c1 c2 ((bw _ _ (jp c2)).trans (kk b o c1 e))
end
def pT {prog:jn}{w:jE}{A:jD}{E:jF->jw->Prop}{s:jw}{id:String}{b:jt}{args:List jF}{kw:List (Str×jF)}{Q:jF->jw->Prop}(hk:builtinKind id=Φ)(hp:plainId id=Ω)
  (hb:entryFor table id=Ψ b)(ha:argsOk id ⟨args,kw⟩)
  (hc:wpAny (model prog w) A.in1 (b ⟨args,kw⟩) (λfin s'=>match fin with
   | .done f=>(match (Except.ok f:jx) with|.ok (.ret v)=>Q v s'|.ok _=>False|.error e=>E e s')
   | .again c'=>c'.quiet=Ω/\codeAny (model prog w) A c' (λr s'=>match r with|.ok (.ret v)=>Q v s'|.ok _=>False|.error e=>E e s') s') E s):wpAny (model prog w) A (call (.builtin id) args kw) Q E s:=by
 exact wpAny_call (codeAny_call_builtin hp hb ?_)
 simp![checkBuiltinCall,hk]
 cases hsig:Manifest.signature? id with
 | none=>exact iO hc
 | some sig =>
  let ha':Bind.checkArgs id sig ⟨args,kw⟩=pure ():=by simpa only[argsOk,hsig] using ha
  simp![ha']
  exact iO hc
section
variable {P:jn}{w:jE}{A:jD}{E:jF->jw->Prop}{s:jw}
def Ar {l:jP}{xs:Array jF}{bt:Nat->Nat->Bool}{d:jF}{Q:jF->jw->Prop}(hh:A.in1.handled=Φ)(hl:s.heap.IsList l xs)(hn:0<xs.size)(C:Dq P w A.in1 (λi v=>xs[i]?=Ψ v) bt s.heap s.heap.objs.size)
  (K:∀ v h' tk,xs[argBest bt (xs.size-1)]?=Ψ v->(∀ b o,s.heap.get? b=Ψ o->h'.get? b=Ψ o)->Q v { s with heap:=h',toks:=tk }):wpAny (model P w) A (call (.builtin "max") [.ref l] [(hW "default",d)]) Q E s:=by
 let nm:(toString "max"++toString ".loop":String) = "max.loop":=(·)
 let ll:l<s.heap.objs.size:=by let(_,e,_):=hl;exact iy e
 exact pT F.kind_max F.plain_max F.entry_max (uh _ _) ?_
 show wpAny _ A.in1 (av "max" ["key","default"] 0 ⟨[],[(hW "default",d)]⟩ >>= _) _ _ s
 exact iR (iB (show av "max" ["key","default"] 0 ⟨[],[(hW "default",d)]⟩=pure [Φ,Ψ d] from rfl) (iR (iO (iR (cY hl ?_)))))
 let W:=iV (prog:=P) (w:=w) hh s.heap.objs.size l (ii ll) xs
 exact iR (db ?_)
 rw[nm]
 let z1:(s.heap.push { cls:=.type "list_iterator",data:=.fields #[.ref l,.int 0 0] }).objs.size=s.heap.objs.size+1:=gn ..
 exact iO ⟨gC F.plain_max_loop _,xz (S:=(s.heap.push { cls:=.type "list_iterator",data:=.fields #[.ref l,.int 0 0] }).objs.size) W C ?_ ?_ ?_ hn ⟨⟨_,bx _ (cw _ rfl),rfl,rfl⟩,(hl.push _).push _⟩
  (λb o hb e=>bx _ (bx _ e)) (cw _ rfl) λv h' tk hv hk=>?_⟩
 ·rw[z1];intro z;simp![gM,eF,or_false] at z;rcases z with z|z
  ·exact absurd z (ij (eA _))
  ·exact absurd z (ij (dD ll))
 ·intro b hb;simp at hb;rw[hb];exact iK _
 ·rw[z1];exact iJ _
 ·exact K v h' tk hv λb o e=>hk b o (by simp;exact ii (iy e)) ?_ (bx _ (bx _ e))
  rw[z1];exact ii (dD (iy e))
end
section
variable {P:jn}{w:jE}{A:jD}{E:jF->jw->Prop}{s:jw}
def x0 {l:jP}{xs:Array jF}{d:jF}{Q:jF->jw->Prop}(hh:A.in1.handled=Φ)(hl:s.heap.IsList l xs)(hn:xs.size=0)
  (K:∀ h' tk,(∀ b o,s.heap.get? b=Ψ o->h'.get? b=Ψ o)->Q d { s with heap:=h',toks:=tk }):wpAny (model P w) A (call (.builtin "max") [.ref l] [(hW "default",d)]) Q E s:=by
 let nm:(toString "max"++toString ".loop":String) = "max.loop":=(·)
 let ll:l<s.heap.objs.size:=by let(_,e,_):=hl;exact iy e
 exact pT F.kind_max F.plain_max F.entry_max (uh _ _) ?_
 show wpAny _ A.in1 (av "max" ["key","default"] 0 ⟨[],[(hW "default",d)]⟩ >>= _) _ _ s
 exact iR (iB (show av "max" ["key","default"] 0 ⟨[],[(hW "default",d)]⟩=pure [Φ,Ψ d] from rfl) (iR (iO (iR (cY hl ?_)))))
 let W:=iV (prog:=P) (w:=w) hh s.heap.objs.size l (ii ll) xs
 exact iR (db ?_)
 rw[nm]
 let z1:(s.heap.push { cls:=.type "list_iterator",data:=.fields #[.ref l,.int 0 0] }).objs.size=s.heap.objs.size+1:=gn ..
 exact iO ⟨gC F.plain_max_loop _,?_⟩
 exact fg F.entry_max_loop ?_;rw[ay F.plain_max_loop _]
 let st0:0=xs.size:=hn.symm
 show wpAny _ A.in1 (seqItems? (.ref (s.heap.push { cls:=.type "list_iterator",data:=.fields #[.ref l,.int 0 0] }).objs.size) >>= _) _ _ _;exact iR (fO (cw _ rfl) rfl ?_)
 show wpAny _ A.in1 (tryCatch (pyNext (.ref s.heap.objs.size)) _ >>= _) _ _ _;exact iR (fM (W.done _ _ _ (by rw[<- st0];exact⟨⟨_,bx _ (cw _ rfl),rfl,rfl⟩,(hl.push _).push _⟩) λg tk kk=>?_))
 show wpAny _ A.in1 (rule "max.default" >>= _) _ _ _
 exact iR (iN (iO (K g tk λb o e=>kk b o (by simp;exact ii (iy e)) (bx _ (bx _ e)))))
end
abbrev nP (b:Int):List Int->Int
 | []=>b
 | x :: r=>nP (if b<x then x else b) r
abbrev yE (d:Int):List Int->Int
 | []=>d
 | n :: r=>nP n r
abbrev we (v w:FV):Option FV:=(lN v).bind λxs=>(mM xs).bind λns=>(mG w).bind λd=>Ψ (.int (yE d ns))
def tK:∀ (xs:List Int) (b x:Int),nP b (xs++[x])=if nP b xs<x then x else nP b xs
 | [],b,x=>rfl
 | y :: ys,b,x=>by
  show nP (if b<y then y else b) (ys++[x])=_
  rw[tK ys];rfl
def vZ (n:Int)(r:List Int):∀ k,k<=r.length->(n :: r)[argBest (λi j=>Δ ((n :: r).getD j 0<(n :: r).getD i 0)) k]?=Ψ (nP n (r.take k))
 | 0,_=>rfl
 | k+1,h=>by
  let ih:=vZ n r k ⋯
  let hk:k<r.length:=h
  let e1:(n :: r).getD (argBest (λi j=>Δ ((n :: r).getD j 0<(n :: r).getD i 0)) k) 0=nP n (r.take k):=by rw[aA,ih];rfl
  let e2:(n :: r).getD (k+1) 0=r[k]:=by simp[jc,hk]
  rw[af hk,tK]
  simp![argBest,e1,e2,decide_eq_true_eq]
  split
  ·simp[hk]
  ·exact ih
section
variable {X:Cx}
def IX (hc:X.calm=Ω){Z9:List (jP×Obj)}{s:jw}{σ:L2.St}{S H:Hp}{x y:V}{u u':jF}{v w z:FV}{Q:VK}(I:Inv X Z9 σ H s)(r1:RelV x u)(r2:RelV y u')(hs:Same S H)(rv:RH X.K S H v x)(rw':RH X.K S H w y)(e:we v w=Ψ z)(k:NewOr X.K S H Q z) :
  wpAny (model X.prog X.w) X.A (call (.builtin "max") [u] [(hW "default",u')]) (EP X Z9 σ Q) X.xe s:=by
 let(ps,e1,e2):=lV e
 let(ns,e3,e4):=lV e2
 let(d,e5,e6):=lV e4
 cases kS e5
 cases e6
 cases rw'.int
 obtain⟨td,rfl⟩:∃ t,u'=.int d t:=r2
 let(a,ys,rfl,hq,ry):=rv.list hs e1
 cases (show u=Value.ref a from r1)
 let(Z7,r',pl,hz'):=I.list hq
 let hh:X.A.in1.handled=Φ:=I.ok.hd hc
 let hlen:ys.length=Z7.length:=r'.length
 cases mZ ry e3
 cases ns with
 | nil =>
  exact x0 hh pl.isList (by simpa using hlen.symm) λh' tk hk=>?_
  exact⟨.int d,H,I.kept (t':=tk) hk,⟨td,rfl⟩,k.int⟩
 | cons n r =>
  let hl2:Z7.length=r.length+1:=by rw[<- hlen];simp
  let it:∀ (i:Nat)(v:jF),Z7.toArray[i]?=Ψ v->∃ t,v=Value.int ((n :: r).getD i 0) t:=λi v hv=>by
   let hv:Z7[i]?=Ψ v:=by simpa using hv
   let hi:=(aI.mp hv).1
   let(t,e):=Vals.mapInt r' i (by simp;lia)
   rw[hv] at e
   exact⟨t,fo e⟩
  exact Ar (bt:=λi j=>Δ ((n :: r).getD j 0<(n :: r).getD i 0)) hh pl.isList (by simp;lia) (λi j u v s1 Q1 E1 _ hi hj q1=>?_) λv h' tk hv hk=>?_
  ·let(t1,rfl):=it i u hi
   let(t2,rfl):=it j v hj
   exact PyProof.Rows.gt_int q1
  ·let hv:Z7[argBest (λi j=>Δ ((n :: r).getD j 0<(n :: r).getD i 0)) (Z7.toArray.size-1)]?=Ψ v:=by simpa using hv
   let hb:=vZ n r r.length (iK _)
   rw[eE] at hb
   let hsz:Z7.toArray.size-1=r.length:=by simp;lia
   rw[hsz] at hv
   generalize argBest (λi j=>Δ ((n :: r).getD j 0<(n :: r).getD i 0)) r.length=z at hv hb
   let(t,rfl):=it z v (by simpa using hv)
   rw[aA,hb]
   exact⟨.int (nP n r),H,I.kept (t':=tk) hk,⟨t,rfl⟩,k.int⟩
variable {x:Str}{p pos kp:Pos}{e v:Expr}{t:TA}{tv:TE}{id:String}{kn:Str}{r:V->V->Hp->VK->Prop}
def zO (hc:∀ (Z9:List (jP×Obj))(s:jw)(σ:L2.St)(H:Hp)(x y:V)(u u':jF)(Q:VK),Inv X Z9 σ H s->RelV x u->RelV y u'->r x y H Q->wpAny (model X.prog X.w) X.A (call (.builtin id) [u] [(kn,u')]) (EP X Z9 σ Q) X.xe s)
  (hg:Gl X x)(hm:X.mg x=Φ)(hv:bootBuiltins x=Ψ (.builtin id))(ha:PA X [e] t)(hd:PE X v tv)(hn:x≠"__name__")(hdb:(x == ("__debug__":Str))=Ξ)(he:starEach [e] X.env=(Ξ,eval e X.env) :: starEach [] X.env) :
  PE X (.Call (.Name x p) [e] [⟨Ψ kn,v,kp⟩] pos) (λσ H Q=>t σ H λvs H1=>tv σ H1 λy H2=>∃ x,vs=[x]/\r x y H2 Q):=by
 intro Z9 s σ H Q I h
 exact cD (lY I hg hm hv ?_ hn hdb)
 exact PyProof.Rows.callWith_kw (ko (ha pos Z9 s σ H _ I h) λus s1 ⟨vs,H1,I1,r1,q1⟩=>PyProof.Rows.kws_cons (ko (hd Z9 s1 σ H1 _ I1 q1) λu' s2 ⟨y,H2,I2,r2,q2⟩=>PyProof.Rows.kws_nil ?_)) (by rw[he];rfl) (by rw[he];rfl) rfl rfl
 let(x,rfl,q):=q2
 let(u,rfl,ru):=vals1 r1
 exact hc Z9 s2 σ H2 x y u u' Q I2 ru r2 q
end
section
variable {X:Cx}{C:CC}{n:Nat}{sp:ib->Nat->Sp}{a b:Expr}{ea eb:EW}{pos p kp:Pos}
def Nn (G:Good X C n sp)(hg:C.gl (hW "max")=Ω)(hs:j9 a=Ξ)(ha:FE X C a ea)(hb':FR X C b eb):FE X C (.Call (.Name (hW "max") p) [a] [⟨Ψ (hW "default"),b,kp⟩] pos) (j0 we ea eb) :=
 PE.imp (zO (r:=λx y H Q=>∃ S v w z,Same S H/\RH X.K S H v x/\RH X.K S H w y/\we v w=Ψ z/\NewOr X.K S H Q z) (λZ9 s σ H x y u u' Q I r1 r2 q1=>by let(S,v,w,z,h1,h2,h3,h4,h5):=q1;exact IX (X:=X.nox) G.calm I r1 r2 h1 h2 h3 h4 h5) (G.gl hg) (G.blt "max" (·)) (by nofun) (ka ha kF (jU hs)) hb' (by nofun) (by nofun) (jU hs)) λσ H Q q2=>by let(c,L,S,Q0,I,h,k):=q2;exact
 ⟨c,L,S,_,I,h,λv L1 hv x S1 H1 r1 I1 s1=>⟨c,L1,S1,_,I1,hv,λw L2 hw y S2 H2 r2 I2 s2=>by
  let(z,e,q):=kq hw
  exact⟨x,rfl,S2,v,w,z,I2.sub,.inl (r1.mono s2),r2,e,o9 I2 λx S' H' r I' s'=>k z L2 q x S' H' r I' (s1.trans (s2.trans s'))⟩⟩⟩
end
section
variable (Q:FV->Prop)
nonrec def Pv (v:FV) (d:Int):wp (we v (.int d)) Q↔wp (lN v) λxs=>wp (mM xs) λns=>Q (.int (yE d ns)):=by
 show wp ((lN v).bind _) Q↔_;simp![l0];rfl
end
def wg {α:Type}(xs:List α):∀ k:Nat,(gf k xs).flatten.length=k*xs.length
 | 0=>by simp
 | k+1=>by rw[cp,dL,cR,wg xs k,Nat.add_mul,Nat.one_mul,Nat.add_comm]
def qi:fillsNumberSlot (.type "tuple") "mul" = pure Ξ :=
 PySem.fillsNumberSlot_seq (id:="tuple.__mul__") (r:=Ψ (.builtin "tuple.__rmul__")) F.slot_tuple_mul.lookup (by nofun) F.slot_tuple_rmul.lookup (by nofun)
def uF:seqRepeat? (.type "tuple")=pure (Ψ (.builtin "tuple.__mul__")):=by
 unfold seqRepeat?
 rw[PySem.seqSlot_of (T:="tuple") (name:="__mul__") (id:="tuple.__mul__") F.slot_tuple_mul.lookup (by nofun),PySem.seqSlot_of (T:="tuple") (name:="__rmul__") (id:="tuple.__rmul__") F.slot_tuple_rmul.lookup (by nofun)]
 rfl
section
variable {prog:jn}{w:jE}{A:jD}{E:jF->jw->Prop}{s:jw}
def Eo {t:jP}{Z7:List jF}{k:Int}{u:Tok}{Q:jF->jw->Prop}(ht:jJ s.heap t Z7.toArray)(h1:-(2 ^ 63)<=k)(h2:k<2 ^ 63)(hz:Z7.length*k.toNat<=sizeLine)
  (hs:(Z7=[] ∨ k=1)->Q (.ref t) s)
  (hn:¬ (Z7=[] ∨ k=1)->Q (.ref s.heap.objs.size) { s with heap:=s.heap.push { cls:=.type "tuple",data:=.seq (gf k.toNat Z7).flatten.toArray } }):wpAny (model prog w) A (binaryOp .Mult (.ref t) (.int k u)) Q E s:=by
 exact wpAny_binaryOp_repeat_ref (T:="tuple") (U:="int") (·) ht.typeIs (λs'=>iT s' k u) qi F.fills_int_mul fJ uF F.slot_int_index.lookup ?_
 exact dY fJ (iT s k u) F.entry_int_rmul ?_ (F.args_int_rmul_2 _ _)
 let h3:wpAny (model prog w) A.in1 (jt.«int.__rmul__» ⟨[.int k u,.ref t],[]⟩) (λfin s'=>fin=.done (.ret .notImplemented)/\s'=s) E s:=by
  let(o,ho,hcl,n,hd):=ht
  show wpAny _ A.in1 (asInt? (.ref t) >>= _) _ _ s
  unfold asInt?
  show wpAny _ A.in1 ((load t >>= _) >>= _) _ _ s
  exact iR (iR (iQ ho ?_))
  rw[hd]
  exact iO (iR (iN (iO ⟨rfl,rfl⟩)))
 exact iP h3 ?_ λ_ _ e=>e
 rintro _ _ ⟨rfl,rfl⟩
 exact⟨_,rfl,rfl,ht.typeIs,?_⟩
 exact dY F.slot_tuple_mul ht.typeIs F.entry_tuple_mul ?_ (F.args_tuple_mul_2 _ _)
 show wpAny _ A.in1 (asIndex (.int k u) >>= _) _ _ _
 exact iR (iB (a:=k) rfl ?_)
 rw[if_neg (by simp;lia)]
 exact iR (gA ht ?_)
 by_cases h0:Z7=[] ∨ k=1
 ·let e:(Z7.toArray.isEmpty || k == 1)=Ω:=by
   rcases h0 with h0|h0
   ·subst h0;rfl
   ·subst h0;simp
  rw[e]
  simp![if_true]
  exact iR (m:=aE (.ref t)) ?_
  unfold aE
  exact iR (gX ht.typeIs (iO ?_))
  rw[if_pos (·)]
  exact iR (iN (iO ⟨_,rfl,hs h0⟩))
 ·let hi:Z7≠[]:=λz=>h0 (.inl z)
  let hk:k≠1:=λz=>h0 (.inr z)
  let e:(Z7.toArray.isEmpty || k == 1)=Ξ:=by simp[hi,hk]
  let e0:Z7.toArray.isEmpty=Ξ:=by simp[hi]
  rw[e]
  simp![cV,if_false,e0,Bool.or_false]
  by_cases hp:k<=0
  ·rw[if_pos (by simpa using hp)]
   let hr:=hn h0
   rw[show k.toNat=0 by lia] at hr
   exact iR (db (iO ⟨_,rfl,hr⟩))
  ·rw[if_neg (by simpa using hp)]
   let hk:((Z7.toArray.size:Int)*k)=((Z7.length*k.toNat:Nat):Int):=by
    rw[dG,Int.natCast_mul];congr 1;lia
   let hl:(sizeLine:Nat)<=(2 ^ 63-1) / 8:=(·)
   rw[hk,if_neg ⋯]
   let h4:Builtin.Tuple.tupleTooMany ((Z7.length*k.toNat:Nat):Int)=Ξ:=by
    unfold Builtin.Tuple.tupleTooMany
    generalize Z7.length*k.toNat=m at hz
    exact decide_eq_false ⋯
   rw[h4]
   simp![cV,if_false]
   let hr:=hn h0
   let f0:i8 (λx1 x2=>x1++x2) #[] (gf k.toNat Z7.toArray)=(gf k.toNat Z7).flatten.toArray:=by
    have:=foldl_rep Z7 k.toNat []
    rw[fw] at this
    exact this
   rw[f0]
   exact iR (db (iO ⟨_,rfl,hr⟩) ?_)
   show ((gf k.toNat Z7).flatten.toArray).size<=sizeLine
   rw[dG,wg,Nat.mul_comm];exact hz
end
section
variable {X:Cx}{H:Hp}{Q:VK}
def Eg {Z9:List (jP×Obj)}{σ:L2.St}{s:jw}{u1 u2:jF}{a:jP}{as:List V}{k:Int}(I:Inv X Z9 σ H s)(rx:RelV (.ref a) u1)(ry:RelV (.int k) u2)(ha:SqT X.K H a as)(h1:-(2 ^ 63)<=k)(h2:k<2 ^ 63)(hz:as.length*k.toNat<=sizeLine)
  (q1:(as=[] ∨ k=1)->Q (.ref a) H)(q2:∀ p,H p=Φ->Q (.ref p) (kh H p (.tup (gf k.toNat as).flatten))):wpAny (model X.prog X.w) X.A (binaryOp .Mult u1 u2) (EP X Z9 σ Q) X.xe s:=by
 cases rx
 let(t,rfl):=ry
 let(Z7,r1,p1,_):=I.tuple ha
 exact Eo p1 h1 h2 (by rw[<- r1.length];exact hz) (λz=>⟨.ref a,H,I,rfl,q1 (z.imp_left λz=>r1.nil_iff.mp z)⟩) λz=>?_
 exact⟨.ref s.heap.objs.size,_,I.laid (t':=s.toks) (o:=.tup (gf k.toNat as).flatten) (λb ob q=>bx _ q) (iK _) ?_,rfl,q2 _ (I.hok.fresh (iK _))⟩
 exact⟨by rw[yJ,Nat.mul_comm];exact hz,_,r1.rep _,jd _ _⟩
abbrev pD (v w:FV):Option FV:=(qL v).bind λxs=>(mG w).bind λk=>if -(2 ^ 63)<=k/\k<2 ^ 63/\xs.length*k.toNat<=big then Ψ (.tup (gf k.toNat xs).flatten) else Φ
def GY:mI X (binaryOp .Mult) (Rq X.K pD):=by
 intro Z9 s σ H x y u1 u2 Q I rx ry ⟨S,v,w,z,hs,hv,hw,e,k⟩
 let(xs,e1,e):=lV e
 let(j,e2,e):=lV e
 cases nk e1
 cases kS e2
 let(hc,rfl):=ou e
 let rv:=hv.val rfl
 let(a,as,rfl,ha,ra):=hv.tup hs
 obtain rfl:=hw.int
 let l1:=ra.length
 let hl:=kM
 exact Eg I rx ry (SqT.of ha) hc.1 hc.2.1 (by rw[<- l1];lia) (λz=>k.old _ (λ_ z=>nomatch z) ?_) λp hp=>k.tup _ _ p rfl (ra.rep _) hp
 rcases z with z|z
 ·subst z
  let z2:xs=[]:=aj (by simpa using l1)
  subst z2
  simpa using rv
 ·subst z;simpa using rv
end
section
variable {X:Cx}{C:CC}{a b:Expr}{ea eb:EW}{pos:Pos}
def Ni (ha:FE X C a ea)(hb:FR X C b eb):FE X C (.BinOp a .Mult b pos) (j0 pD ea eb):=sh GY ha hb
nonrec def JB (xs:List FV) (k:Int)(Q:FV->Prop):wp (pD (.tup xs) (.int k)) Q↔(-(2 ^ 63)<=k/\k<2 ^ 63/\xs.length*k.toNat<=big)/\Q (.tup (gf k.toNat xs).flatten):=by
 show wp (if _ then Ψ _ else Φ) Q↔_;exact me _ _ _
end
abbrev Dr (lo:Int):Nat->List V
 | 0=>[]
 | n+1=>.int lo :: Dr (lo+1) n
def yb:∀ (n:Nat) (lo:Int),(Dr lo n).length=n
 | 0,_=>rfl
 | n+1,lo=>by simp[Dr,yb n]
def DA {lo:Int}{n:Nat}{Z8:Array jF}(h:jr (λi v=>∃ t,v=Value.int (lo+i*1) t) Z8 n):Vals (Dr lo n) Z8.toList:=by
 let go:∀ (n:Nat) (lo:Int)(vs:List jF),vs.length=n->(∀ (j:Nat) v,vs[j]?=Ψ v->∃ t,v=Value.int (lo+j) t)->Vals (Dr lo n) vs:=by
  intro n
  induction n with
  | zero=>intro lo vs hl _;cases aj hl;exact .nil
  | succ n ih =>
   intro lo vs hl hv
   cases vs with
   | nil=>simp at hl
   | cons v vs =>
    let(t,rfl):=hv 0 v rfl
    exact .cons ⟨t,∅⟩ (ih (lo+1) vs (by simpa using hl) λj v hj=>?_)
    let(t,rfl):=hv (j+1) v (by simpa using hj)
    exact⟨t,by congr 1;push_cast;lia⟩
 exact go n lo Z8.toList (by simpa using h.1) λj v hj=>?_
 let(t,rfl):=h.2 j v (by simpa using hj)
 exact⟨t,by rw[Int.mul_one]⟩
def DJ (a b:Int):Builtin.Range.rangeSize a b 1=((b-a).toNat:Int):=by rw[rangeSize_one];split<;>lia
def AU {a b:Int}(ha:-(2 ^ 62)<=a)(ha':a<2 ^ 62)(hb:-(2 ^ 62)<=b)(hb':b<2 ^ 62):Builtin.Range.small a b 1=Ω:=by
 unfold Builtin.Range.small
 rw[rangeSize_one]
 simp![Builtin.Range.rangeFitsLong,eR,fK,decide_eq_true_eq,beq_iff_eq,show (1:Int) > 0 by decide,if_true]
 split<;>lia
section
variable {X:Cx}
def HF {Z9:List (jP×Obj)}{σ:L2.St}{H:Hp}{s:jw}{Q:VK}{lo hi:Int}{t u v:Tok}{tk:Nat}(hc:X.calm=Ω)(I:Inv X Z9 σ H s)(h1:-(2 ^ 62)<=lo)(h2:lo<2 ^ 62)(h3:-(2 ^ 62)<=hi)(h4:hi<2 ^ 62)(hz:(hi-lo).toNat<=big)
  (q:∀ p,H p=Φ->Q (.ref p) (kh H p (.lst (Dr lo (hi-lo).toNat)))):wpAny (model X.prog X.w) X.A (call (.type "list") [.ref s.heap.objs.size]) (EP X Z9 σ Q) X.xe { s with heap:=s.heap.push { cls:=.type "range",data:=.fields #[.int lo t,.int hi u,.int 1 v] },toks:=tk }:=by
 let I1:Inv X Z9 σ H { s with heap:=s.heap.push { cls:=.type "range",data:=.fields #[.int lo t,.int hi u,.int 1 v] },toks:=tk }:=I.kept λb o e=>bx _ e
 let hl:=kM
 let hl2:(sizeLine:Nat)<=2 ^ 24:=(·)
 exact call_list_range (I.ok.hd hc) (IsRange.new ..) (AU h1 h2 h3 h4) (DJ lo hi) ⋯ λh' tk Z8 c hk hS hacc=>?_
 exact⟨.ref _,_,I1.laid (t':=tk) (o:=.lst (Dr lo (hi-lo).toNat)) hk (iK _) ?_,rfl,q _ (I1.hok.fresh (iK _))⟩
 exact⟨by rw[yb];lia,Z8.toList,c,DA hacc,?_⟩
 rw[hS]
variable {a:Expr}{ta:TA}{p p2 pos pos2:Pos}{T:Str}{Tn:String}{ho:List V->HO}
abbrev Ke (ho:List V->HO)(ta:TA):TE:=λσ H Q=>ta σ H λvs H1=>∃ j:Int,vs=[.int j]/\(-(2 ^ 62)<=j/\j<2 ^ 62)/\j.toNat<=big/\∀ p,H1 p=Φ->Q (.ref p) (kh H1 p (ho (Dr 0 j.toNat)))
def D6 (it:∀ (Z9:List (jP×Obj))(σ:L2.St)(H:Hp)(s:jw)(Q:VK) (lo hi:Int)(t u v:Tok) (tk:Nat),Inv X Z9 σ H s->-(2 ^ 62)<=lo->lo<2 ^ 62->-(2 ^ 62)<=hi->hi<2 ^ 62->(hi-lo).toNat<=big->(∀ p,H p=Φ->Q (.ref p) (kh H p (ho (Dr lo (hi-lo).toNat))))->wpAny (model X.prog X.w) X.A (call (.type Tn) [.ref s.heap.objs.size]) (EP X Z9 σ Q) X.xe { s with heap:=s.heap.push { cls:=.type "range",data:=.fields #[.int lo t,.int hi u,.int 1 v] },toks:=tk })
  (hg:Gl X "range")(hm:X.mg "range" = Φ)(hg2:Gl X T)(hm2:X.mg T=Φ)(hv:bootBuiltins T=Ψ (.type Tn))(hn:T≠"__name__")(hdb:(T == ("__debug__":Str))=Ξ)(ha:PA X [a] ta)(hs:starEach [a] X.env=[(Ξ,eval a X.env)]) :
  PE X (.Call (.Name T p) [.Call (.Name "range" p2) [a] [] pos2] [] pos) (Ke ho ta):=by
 intro Z9 s σ H Q I h
 exact cD (lY I hg2 hm2 hv ?_ hn hdb)
 exact aq (T:=Tn) ?_ rfl rfl
 show wpAny _ _ (spliced ((Ξ,eval (.Call (.Name "range" p2) [a] [] pos2) X.env) :: backTo pos [])) _ _ s
 exact cT (Call_ (lY I hg hm boot_range (aq (ko (ha pos2 Z9 s σ H _ I h) λus s1 ⟨vs,H1,I1,r1,q1⟩=>?_) hs rfl)))
 let(j,e,q1,q2,q):=q1
 subst e
 cases r1 with
 | cons r rr =>
  cases rr
  let(t,rfl):=r
  exact call_range_1 (dR (it Z9 σ H1 s1 Q 0 j _ _ _ _ I1 ⋯ ⋯ q1.1 q1.2 (by simpa using q2) (by simpa using q)))
end
def A4 {K:ib}{S:Hp}:∀ (n:Nat) (lo:Int),RVs K S (uo lo n) (Dr lo n)
 | 0,_=>rfl
 | n+1,lo=>⟨_,_,rfl,rfl,A4 n (lo+1)⟩
abbrev DP (c:List FV->FV)(v:FV):Option FV:=(mG v).bind λj=>if mJ j=Ω/\j.toNat<=big then Ψ (c (uo 0 j.toNat)) else Φ
nonrec def f_rng (c:List FV->FV) (j:Int)(Q:FV->Prop):wp (DP c (.int j)) Q↔(mJ j=Ω/\j.toNat<=big)/\Q (c (uo 0 j.toNat)):=by
 show wp (if _ then Ψ _ else Φ) Q↔_;exact me _ _ _
section
variable {X:Cx}{C:CC}{n:Nat}{sp:ib->Nat->Sp}{a:Expr}{ea:EW}{pos p p2 pos2:Pos}
def Nd (G:Good X C n sp)(hg:(C.gl (hW "range") && C.gl (hW "list"))=Ω)(hs:j9 a=Ξ)(ha:FE X C a ea):FF X C (.Call (.Name (hW "list") p) [.Call (.Name (hW "range") p2) [a] [] pos2] [] pos) (kG (DP .lst) ea) :=
 PE.imp (D6 (X:=X.nox) (ho:=.lst) (λZ9 σ H s Q lo hi t u v tk I h1 h2 h3 h4 h5 q=>HF (X:=X.nox) G.calm I h1 h2 h3 h4 h5 q) (G.gl (b2 hg).1) (G.blt "range" (·)) (G.gl (b2 hg).2) (G.blt "list" (·)) (by nofun) (by nofun) (by nofun) (ka ha kF (jU hs)) (jU hs)) λσ H Q q1=>by let(c,L,S,Q0,I,h,k):=q1;exact
 ⟨c,L,S,_,I,h,λv L1 hv x S1 H1 r1 I1 s1=>by
  let(z,e,q):=kq hv
  let(j,e1,e2):=lV e
  cases kS e1
  let(hc,rfl):=ou e2
  exact⟨j,by rw[show x=.int j from r1],de hc.1,hc.2,λp hp=>(yC I1 ⟨_,rfl⟩ λa S' H' o fr I' s'=>k _ L1 q a S' H' o fr I' (s1.trans s')).lst _ _ p rfl (A4 _ _) hp⟩⟩
end
end Kq
namespace PySem
abbrev Mc (A:jD)(s:jw)(x y:jF)(b:Bool):Prop :=
 ∀ (prog:jn)(w:jE)(E:jF->jw->Prop)(Q:jF->jw->Prop),Q (.bool b) s->wpAny (model prog w) A (richCompare .Lt x y) Q E s
inductive LexAt (A:jD)(s:jw):List jF->List jF->Bool->Prop
 | nn:LexAt A s [] [] Ξ
 | nc {y ys}:LexAt A s [] (y :: ys) Ω
 | cn {x xs}:LexAt A s (x :: xs) [] Ξ
 | eq {x y xs ys r}:iX A s x y Ω->LexAt A s xs ys r->LexAt A s (x :: xs) (y :: ys) r
 | ne {x y xs ys r}:iX A s x y Ξ->Mc A s x y r->LexAt A s (x :: xs) (y :: ys) r
section
open PySem.SeqAt
open PySem.AutoSeq1 (wpAny_loadPart')
open PySem.MeetsSeq PySem.MeetsSeq2 PySem.MeetsSeq3
def uq (l b:jP)(items ZZ:Array jF) (n n2:Nat)(dd dd2:Option jP)(sl sl2:Array (Option jF)) :
  Meets (jt.«tuple.__lt__» ⟨[.ref l,.ref b],[]⟩)
   (λA R s=>s.heap.get? l=Ψ { cls:=.type "tuple",dict:=dd,data:=.seq items n,slots:=sl }/\s.heap.get? b=Ψ { cls:=.type "tuple",dict:=dd2,data:=.seq ZZ n2,slots:=sl2 } /\
    ∃ r,LexAt A.in1 s items.toList ZZ.toList r/\R (.ok (.ret (.bool r))) s) :=
 .of_wp λprog w A R s h=>by
  let(hp,g,d,tk,os):=s;let(hl,hb,r,hlex,h):=h
  let f2:=AutoSeq1.sub_tuple_tuple
  wp_walk using eW hl,eW hb,dW _ (λrest b s'=>b.1=Φ/\s'=⟨hp,g,d,tk,os⟩/\∃ (vs ws:List jF),rest=vs.zip ws /\
   LexAt A.in1 ⟨hp,g,d,tk,os⟩ vs ws r/\vs.length+ZZ.size=ws.length+items.size) _
  case turn =>
   rintro⟨y,x⟩ rest b s' ⟨hb',rfl,vs,ws,hz,hlx,hlen⟩
   cases hlx with
   | nn=>cases hz
   | nc=>cases hz
   | cn=>rw[cL] at hz;cases hz
   | eq he hr =>
    rw[cM] at hz
    injection hz with hyx hrest
    injection hyx with hy hx
    subst hy hx
    simp![eK] at hlen
    exact iR (he prog w _ _ ?_)
    wp_walk
    exact⟨rfl,rfl,_,_,hrest,hr,⋯⟩
   | ne he hr =>
    rw[cM] at hz
    injection hz with hyx hrest
    injection hyx with hy hx
    subst hy hx
    exact iR (he prog w _ _ ?_)
    let hri:=hr prog w
    wp_walk using hri
    exact⟨_,rfl,by simpa using h⟩
  case fin =>
   rintro⟨b1,b2⟩ s' ⟨hb',rfl,vs,ws,hz,hlx,hlen⟩
   simp only at hb'
   subst hb'
   let hv:r=Δ (items.size<ZZ.size):=by
    cases hlx with
    | nn=>simp![fC] at hlen;exact (decide_eq_false ⋯).symm
    | nc=>simp![fC,eK] at hlen;exact (decide_eq_true ⋯).symm
    | cn=>simp![fC,eK] at hlen;exact (decide_eq_false ⋯).symm
    | eq=>rw[cM] at hz;cases hz
    | ne=>rw[cM] at hz;cases hz
   rw[hv] at h
   wp_walk
   exact⟨_,rfl,by simpa[Builtin.Tuple.tupleCompareSizes] using h⟩
  case h =>
   exact⟨rfl,rfl,items.toList,ZZ.toList,rfl,hlex,by simp;lia⟩
end
def K9 {A:jD}{s:jw}{l b:jP}{o o2:Obj}{items ZZ:Array jF}{n n2:Nat}{r:Bool}(h1:s.heap.get? l=Ψ o)(h2:o.cls=.type "tuple")(h3:o.data=.seq items n)(g1:s.heap.get? b=Ψ o2)(g2:o2.cls=.type "tuple")(g3:o2.data=.seq ZZ n2)
  (hlex:LexAt A.in1 s items.toList ZZ.toList r)(hu:A.units<cLine):Mc A s (.ref l) (.ref b) r:=by
 intro prog w E Q h
 let(cls,dd,data,sl):=o
 let(cls2,dd2,data2,sl2):=o2
 simp only at h2 h3 g2 g3
 subst h2 h3 g2 g3
 exact richCompare_meets_room (op:=.Lt) ⟨_,h1,rfl⟩ ⟨_,g1,rfl⟩ PySem.F.slot_tuple_lt PySem.F.entry_tuple_lt (PySem.F.args_tuple_lt_2 _ _) (uq l b items ZZ n n2 dd dd2 sl sl2)
  ⟨h1,g1,r,hlex,show Value.bool r≠Value.notImplemented/\Q (.bool r) s from ⟨(λx=>nomatch x),h⟩⟩ hu
end PySem
namespace Kq
open PySem PySem.Spec PyProof.Rows L2
abbrev k6 {κ α:Type} [DecidableEq κ] (ks:List κ)(vs:List α)(k:κ)(v:α):List κ×List α :=
 if k∈ks then (ks,iq (λk' v'=>if k'=k then v else v') ks vs) else (ks++[k],vs++[v])
abbrev nK {κ α:Type} [DecidableEq κ]:List κ->List α->κ->Option α
 | k' :: ks,v :: vs,k=>if k'=k then Ψ v else nK ks vs k
 | _,_,_=>Φ
def tO {κ α:Type} [DecidableEq κ] (k k0:κ)(ks:List κ)(v:α)(vs:List α):nK (k0 :: ks) (v :: vs) k=if k0=k then Ψ v else nK ks vs k:=nrf rfl
def rX {κ α:Type} [DecidableEq κ]:∀ {ks:List κ}{vs:List α}(k:κ),ks.length=vs.length->((nK ks vs k).isSome=Ω↔k∈ks)
 | [],vs,k,h=>⟨λz=>Bool.noConfusion (show Ξ=Ω from z),λz=>nomatch z⟩
 | k' :: ks,[],k,h=>by simp at h
 | k' :: ks,v :: vs,k,h=>by
  show (if k'=k then Ψ v else nK ks vs k).isSome=Ω↔_
  by_cases e:k'=k
  ·simp[e]
  ·simp![e,if_false,gM,jp e,false_or]
   rw[rX k (by simpa using h)]
def vK {κ α:Type} [DecidableEq κ] (ks:List κ)(vs:List α)(k:κ)(v:α)(h:ks.length=vs.length):(k6 ks vs k v).1.length=(k6 ks vs k v).2.length/\(k6 ks vs k v).1.length<=ks.length+1:=by
 unfold k6
 split
 ·simp[h]
 ·simp[h]
section
variable {K:ib}{S:Hp}
def yo {κ:Type} [DecidableEq κ] {k:κ}{v:FV}{u:V}(r2:RV K S v u):∀ {ks:List κ}{vs:List FV}{us:List V},RVs K S vs us->RVs K S (iq (λk' v'=>if k'=k then v else v') ks vs) (iq (λk' v'=>if k'=k then u else v') ks us)
 | [],vs,us,_=>rfl
 | k' :: ks,[],us,r=>by cases (show us=[] from r);rfl
 | k' :: ks,p :: vs,us,q1=>by
  let(x,q,e,h1,h2):=q1
  subst e
  exact⟨_,_,rfl,?_,yo r2 h2⟩
  by_cases e:k'=k
  ·simp![e,if_true];exact r2
  ·simp![e,if_false];exact h1
def vJ {κ:Type} [DecidableEq κ] {ks:List κ}{vs:List FV}{us:List V}{k:κ}{v:FV}{u:V}(r:RVs K S vs us)(r2:RV K S v u):(k6 ks vs k v).1=(k6 ks us k u).1/\RVs K S (k6 ks vs k v).2 (k6 ks us k u).2:=by
 unfold k6
 split
 ·exact⟨rfl,yo r2 r⟩
 ·exact⟨rfl,r.append (RVs.one r2)⟩
def wC {κ:Type} [DecidableEq κ]:∀ {ks:List κ}{vs:List FV}{us:List V}{k:κ}{v:FV},RVs K S vs us->nK ks vs k=Ψ v->∃ u,nK ks us k=Ψ u/\RV K S v u
 | [],vs,us,k,v,r,e=>by cases (show Φ=Ψ v from e)
 | k' :: ks,[],us,k,v,r,e=>by cases (show Φ=Ψ v from e)
 | k' :: ks,p :: vs,us,k,v,q1,e=>by
  let(x,q,e',h1,h2):=q1
  subst e'
  replace e:(if k'=k then Ψ p else nK ks vs k)=Ψ v:=e
  show ∃ u,(if k'=k then Ψ x else nK ks q k)=Ψ u/\_
  by_cases e0:k'=k
  ·rw[if_pos e0] at e ⊢;cases e;exact⟨x,rfl,h1⟩
  ·rw[if_neg e0] at e ⊢;exact wC h2 e
end
end Kq
namespace PySem
def F.nolen_lri:typeLookup (.type "list_reverseiterator") "__len__" = pure Φ:=by rw[eZ,bC];kernel_rfl
def F.slot_lri_hint:Slot "list_reverseiterator" "__length_hint__" "list_reverseiterator.__length_hint__" :=
 .of (owner:="list_reverseiterator") (n:="__length_hint__") (by rw[eZ,bC];kernel_rfl) (by nofun) (by nofun) (by nofun)
  (by first|exact .inl (by decide +kernel)|exact .inr (by decide +kernel)) (by rw[fT];kernel_rfl)
section
variable {prog:jn}{w:jE}{A:jD}{E:jF->jw->Prop}{s:jw}
def wT {it l:jP}{items:Array jF}{Q:List jF->jw->Prop}(hh:A.handled=Φ)(hne:l≠it)(hit:s.heap.IsRevIter it l ((items.size:Int)-1))(hl:s.heap.IsList l items)(hz:items.size<=sizeLine)
  (hQ:∀ s' Z8,Moved [it] (λa b=>b=a) s s'->jr (λi v=>items[items.size-1-i]?=Ψ v) Z8 items.size->Q Z8.toList s'):wpAny (model prog w) A (collect (.ref it)) Q E s:=by
 let W:=(Walks.listRev (prog:=prog) (w:=w) (A:=A.in1) (show A.in1.handled=Φ from hh) it l hne items).toS
 let l1:it<s.heap.objs.size:=by let(o,e,_):=hit;exact iy e
 let l2:l<s.heap.objs.size:=by let(o,e,_):=hl;exact iy e
 let hSf:s.heap.objs.size ∉ [it,l]:=λhm=>by
  simp![gM,eF,or_false] at hm
  rcases hm with hm|hm
  ·exact gK _ (hm ▸ l1)
  ·exact gK _ (hm ▸ l2)
 let hSI:s.heap.objs.size≠it:=λe=>gK _ (e ▸ l1)
 unfold collect
 exact iR (wpAny_runValue (fg F.entry_proto_collect ?_));rw[b9 F.plain_proto_collect _]
 show wpAny _ A.in1 (newList [] >>= λZ8=>again (.builtin "list.__iadd__" ⟨[Z8,.ref it],[]⟩)) _ _ s
 exact iR (db (iO ⟨gC dP _,fg F.entry_list_iadd ?_⟩));rw[b9 dP _]
 generalize hs1:({ s with heap:=s.heap.push { cls:=.type "list",data:=.seq ([]:List jF).toArray } }:jw)=s1
 let k1:∀ b o,s.heap.get? b=Ψ o->s1.heap.get? b=Ψ o:=λb o e=>by rw[<- hs1];exact bx _ e
 let it1:=hit.at λo e=>k1 it o e
 let li1:=hl.at λo e=>k1 l o e
 let S1:s1.heap.get? s.heap.objs.size=Ψ { cls:=.type "list",data:=.seq ([]:List jF).toArray }:=by rw[<- hs1];exact cw _ rfl
 let st1:0<=items.size/\s1.heap.IsRevIter it l ((items.size:Int)-1-((0:Nat):Int))/\s1.heap.IsList l items:=⟨iI _,by simpa using it1,li1⟩
 let ty1:s1.TypeIs (.ref it) "list_reverseiterator":=it1.typeIs
 let h1:aY (.ref s.heap.objs.size) (.ref it)=Ξ:=by simp[aY,hSI]
 show wpAny _ A.in1 (au (.ref s.heap.objs.size) (.ref it) (.ref s.heap.objs.size)) _ _ s1
 unfold au
 exact iR (gX ty1 ?_)
 rw[if_neg (by rw[h1];decide)]
 exact iR (W.self 0 s1 _ _ st1 (iR (gx ?_)))
 unfold Builtin.List.listLengthHint
 exact iR (eU ty1 F.nolen_lri ?_)
 show wpAny _ A.in1 (specialOf (Value.ref it) (hW "__length_hint__") >>= _) _ _ _
 exact iR (eU ty1 F.slot_lri_hint.lookup ?_)
 (generalize hid:("list_reverseiterator.__length_hint__":String)=id0;(fail_if_success (clear hid id0));wp_delta;rw[show splitId id0=Ψ ("list_reverseiterator","__length_hint__") from by subst hid;nofun];subst hid)
 exact iR (dU (b:=Ω) ty1 (by rw[fT];kernel_rfl) ?_)
 exact iO ?_
 rw[if_neg (·)]
 exact iO ⟨gC F.plain_extend_loop _,codeAny_extend_loopS W hz _ hSf _ items.size 0 _ _ _ rfl (iI _) st1 S1 (ItemsOf.nil _) λs' acc' c' hm hS' hacc=>?_⟩
 show wpAny _ A (load s.heap.objs.size >>= _) _ _ s'
 exact iR (iQ hS' (iO (hQ s' acc' ?_ hacc)))
 subst hs1
 exact Moved.drop_new (o:={ cls:=.type "list",data:=.seq ([]:List jF).toArray }) (tk:=s.toks) hm (iK _)
end
section
variable {prog:jn}{w:jE}{A:jD}{E:jF->jw->Prop}{s:jw}
def sA {it l:jP}{items:Array jF}{Q₁:jF->jw->Prop}(hh:A.handled=Φ)(hne:l≠it)(hit:s.heap.IsRevIter it l ((items.size:Int)-1))(hl:s.heap.IsList l items)(hz:items.size<=sizeLine)
  (h:∀ s' Z8,Moved [it] (λa b=>b=a) s s'->jr (λi v=>items[items.size-1-i]?=Ψ v) Z8 items.size->Q₁ (.ref s'.heap.objs.size) { s' with heap:=s'.heap.push { cls:=.type "tuple",data:=.seq Z8 } }) :
  codeAny (model prog w) A (.call (.builtin "tuple.__new__") ⟨[.type "tuple",.ref it],[]⟩) (wants Q₁ E) s:=by
 exact ff ?_
 show wpAny _ A.in1 (do checkBuiltinCall "tuple.__new__" ⟨[.type "tuple",.ref it],[]⟩;again (.builtin "tuple.__new__" ⟨[.type "tuple",.ref it],[]⟩)) _ _ s
 exact iR (iB (F.newCall_tuple_1 _) (iO ⟨gC dO _,fg F.entry_tuple_new ?_⟩));rw[b9 dO _]
 let hsub:=sub_tuple_self;let hinit:=init_tuple_lookup;let hmh:=madeHere_tuple
 let hTI:s.TypeIs (.ref it) "list_reverseiterator":=hit.typeIs
 wp_walk using gX hTI,wT (A:=A.in1) (show A.in1.handled=Φ from hh) hne hit hl hz
 intro s' Z8 hm hacc
 show wpAny _ _ (aW Z8.toList.toArray >>= λv=>ret v) _ _ _
 unfold aW
 exact iR (db (iO ?_) (by show Z8.toList.toArray.size<=sizeLine;simp![bZ];rw[hacc.1];exact hz))
 let e:Z8.toList.toArray=Z8:=∅
 rw[e];exact h s' Z8 hm hacc
def sE {it l:jP}{items:Array jF}{Q:jF->jw->Prop}(hh:A.handled=Φ)(hne:l≠it)(hit:s.heap.IsRevIter it l ((items.size:Int)-1))(hl:s.heap.IsList l items)(hz:items.size<=sizeLine)
  (hQ:∀ s' Z8,Moved [it] (λa b=>b=a) s s'->jr (λi v=>items[items.size-1-i]?=Ψ v) Z8 items.size->Q (.ref s'.heap.objs.size) { s' with heap:=s'.heap.push { cls:=.type "tuple",data:=.seq Z8 } }) :
  wpAny (model prog w) A (call (.type "tuple") [.ref it]) Q E s:=by
 exact callType_codes (Q₁:=λobj s₁=>s₁.TypeIs obj "tuple"/\Q obj s₁) gp (F.typeCall_tuple_1 _) F.entry_object_init (sA (A:=A.in1) hh hne hit hl hz λs' Z8 hm hacc=>⟨⟨_,cw _ rfl,rfl⟩,hQ s' Z8 hm hacc⟩) λobj s₁ h₁=>?_
 exact⟨h₁.1,bX obj _,object_init_meets gp.init.lookup gp.made (·) prog w A.in1 _ s₁ ⟨h₁.1,rfl,h₁.2⟩⟩
end
end PySem
namespace Kq
open PySem PySem.Spec PyProof.Rows L2
section
variable {X:Cx}{a:Expr}{ta:TA}{p p2 pos pos2:Pos}
def D4 (hc:X.calm=Ω)(hg:Gl X "reversed")(hm:X.mg "reversed" = Φ)(hg2:Gl X "tuple")(hm2:X.mg "tuple" = Φ)(ha:PA X [a] ta)(hs:starEach [a] X.env=[(Ξ,eval a X.env)]) :
  PE X (.Call (.Name "tuple" p) [.Call (.Name "reversed" p2) [a] [] pos2] [] pos) (λσ H Q=>ta σ H λvs H1=>∃ l xs,vs=[.ref l]/\SqL X.K H1 l xs/\∀ q,H1 q=Φ->Q (.ref q) (kh H1 q (.tup xs.reverse))):=by
 intro Z9 s σ H Q I h
 exact cD (lY I hg2 hm2 (show bootBuiltins (hW "tuple")=Ψ (.type "tuple") by nofun) ?_ (by nofun) (by nofun))
 exact aq (T:="tuple") ?_ rfl rfl
 show wpAny _ _ (spliced ((Ξ,eval (.Call (.Name "reversed" p2) [a] [] pos2) X.env) :: backTo pos [])) _ _ s
 exact cT (Call_ (lY I hg hm (show bootBuiltins (hW "reversed")=Ψ (.type "reversed") by nofun) (aq (T:="reversed") (ko (ha pos2 Z9 s σ H _ I h) λus s1 ⟨vs,H1,I1,r1,q1⟩=>?_) hs rfl)))
 let(l,xs,e,hq,q):=q1
 subst e
 let(u,rfl,ru):=vals1 r1
 cases (show u=Value.ref l from ru)
 let(Z7,rv,pl,hz):=I1.list hq
 let hlen:=rv.length
 let ll:l<s1.heap.objs.size:=by let(o,e,_):=pl.isList;exact iy e
 exact call_reversed_list pl.isList (dR ?_)
 let I2:Inv X Z9 σ H1 { s1 with heap:=s1.heap.push (revObj l ((Z7.toArray.size:Int)-1)) }:=I1.kept (t':=s1.toks) λb o e=>bx _ e
 exact sE (items:=Z7.toArray) (l:=l) (I1.ok.hd hc) (ii ll) ⟨_,cw _ rfl,rfl,rfl⟩ (pl.isList.push _) (by simpa[<- hlen] using hz) λs' Z8 hm hacc=>?_
 let I3:Inv X Z9 σ H1 s':=by
  have:=I1.kept (h':=s'.heap) (t':=s'.toks) λb o e=>hm.heap b o (by simp;exact ii (iy e)) (bx _ e)
  let e:s' = { s1 with heap:=s'.heap,toks:=s'.toks }:=by
   let(h1,h2,h3,h4,h5):=hm
   let(a,b,c,d,e):=s'
   simp only at h2 h3 h4
   subst h2 h3 h4;rfl
  rw[e];exact this
 exact⟨.ref s'.heap.objs.size,_,I3.laid (t':=s'.toks) (o:=.tup xs.reverse) (λb ob q=>bx _ q) (iK _) ?_,rfl,q _ (I3.hok.fresh (iK _))⟩
 let e:Z8.toList=Z7.reverse:=by
  let h1:Z8.toList.length=Z7.length:=by simpa using hacc.1
  apply List.ext_getElem
  ·rw[cr];exact h1
  ·intro i h2 h3
   let h4:=hacc.2 i (Z8.toList[i]) (by simp at h2;simp[h2])
   let h5:Z7[Z7.length-1-i]?=Ψ Z8.toList[i]:=by simpa using h4
   rw[List.getElem_reverse]
   exact ((aI.mp h5).2).symm
 exact⟨by rw[cr];exact hz,Z7.reverse,rv.reverse,?_⟩
 rw[<- e]
 exact jd _ _
end
abbrev A6 (v:FV):Option FV:=(lN v).map λxs=>.tup xs.reverse
nonrec def Pu (v:FV)(Q:FV->Prop):wp (A6 v) Q↔wp (lN v) λxs=>Q (.tup xs.reverse):=lW _ _ _
def Nh {X:Cx}{C:CC}{n:Nat}{sp:ib->Nat->Sp}{a:Expr}{ea:EW}{pos p p2 pos2:Pos}(G:Good X C n sp)(hg:(C.gl (hW "reversed") && C.gl (hW "tuple"))=Ω)(hs:j9 a=Ξ)(ha:FR X C a ea):FE X C (.Call (.Name (hW "tuple") p) [.Call (.Name (hW "reversed") p2) [a] [] pos2] [] pos) (kG A6 ea) :=
 PE.imp (D4 (X:=X.nox) G.calm (G.gl (b2 hg).1) (G.blt "reversed" (·)) (G.gl (b2 hg).2) (G.blt "tuple" (·)) (ka ha kF (jU hs)) (jU hs)) λσ H Q q1=>by let(c,L,S,Q0,I,h,k):=q1;exact
 ⟨c,L,S,_,I,h,λv L1 hv x S1 H1 r1 I1 s1=>by
  let(z,e,q):=kq hv
  let(ps,e1,rfl):=oX e
  let(a,ys,rfl,hq,ry):=r1.list I1.sub e1
  exact⟨a,ys,rfl,hq,λp hp=>(o9 I1 λx S' H' r I' s'=>k _ L1 q x S' H' r I' (s1.trans s')).tup _ _ p rfl ry.rev hp⟩⟩
abbrev insL {α:Type}(xs:List α) (k:Nat)(y:α):List α:=xs.take k++y :: xs.drop k
abbrev Cj (i:Nat)(eb:EW):AW:=λL Q=>wp (lk L i) λ_=>eb L λy L1=>wp (lk L1 i) λx=>wp (lR x) λxs=>wp (lR y) λys=>Q (lT xs ys) L1
section
variable {X:Cx}{C:CC}{n:Nat}{sp:ib->Nat->Sp}{b:Expr}{eb:EW}{pos p p2 tp:Pos}{i kk:Nat}{nx:Str}{elts:List Expr}
def M9 (G:Good X C n sp)(hg:C.gl (hW "zip")=Ω)(h:C.nm i nx=Ω)(m:jX C.md i=.own)(hs2:j9 b=Ξ)(hb:FE X C b eb):FI X C (C.md.set i .frz) (.Tuple elts kk tp) (.Call (.Name (hW "zip") p) [.Name nx p2,b] [] pos) (Cj i eb) :=
 PI.imp (Ga (G.gl hg) (G.blt "zip" (·)) (ka (ki G h) (ka hb kF (jU hs2)) (jU rfl)) (by rw[jU rfl,jU hs2];rfl) (jU hs2)) λσ H R q1=>by
 let(c,L,S,Q0,I,h,k):=q1
 let(v,e,h):=kq h
 let e:=(kP _ _ _).mp e
 let(l,e1,_,_):=I.own i v (λz=>by rw[m] at z;cases z) e
 exact⟨_,e1,c,L,S,_,I,h,λw L2 hw y S2 H2 r2 I2 s2=>?_⟩
 let(v2,e2,hw):=kq hw
 let(ps,e0,hw):=kq hw
 let(qs,e',q):=kq hw
 let e2:=(kP _ _ _).mp e2
 let(l2,f1,(o1,rs,vs,e9,o2,o3),o4):=I2.own i v2 (λz=>by rw[m] at z;cases z) e2
 rw[e1] at f1;cases f1
 let(e3,e4):=Ec e9 e0
 subst e3 e4
 let(l',rfl,st'):=r2.stays e'
 let(ws,h2,_):=st' S2 H2 (Same.refl _) I2.sub
 let(I',un):=I2.frz m e2 e1 o2
 exact⟨Ω,_,l,l',rfl,⟨vs,SqL.of o2⟩,⟨ws,h2⟩,k _ L2 q _ _ S2 H2 I' un rfl (Ce (t:=Ω) (λL σ S' H I s=>⟨vs,SqL.of (I.prs (l,.lst vs) cQ).1,o3.mono s⟩) λL σ S H I s=>st' S H s I.sub) s2⟩
end
nonrec def Ld (i:Nat)(eb:EW)(L:jR)(Q:List FV->jR->Prop):Cj i eb L Q=(wp (lk L i) λ_=>eb L λy L1=>wp (lk L1 i) λx=>wp (lR x) λxs=>wp (lR y) λys=>Q (lT xs ys) L1):=propext Iff.rfl
abbrev noTup (o:HO):Prop:=∀ xs,o≠.tup xs
section
variable {S:Hp}{os:List jP}
abbrev lessO (S:Hp)(os:List jP):Hp:=λa=>if a∈os then Φ else S a
end
abbrev GF:List FV->Bool
 | []=>Ω
 | .tup ps :: r=>(match mM ps with|some (_ :: _)=>Ω|_=>Ξ) && GF r
 | _=>Ξ
def Ge:∀ {us:List jF}{ns:List Int},js us ns->Vals (ns.map V.int) us
 | _,_,.nil=>.nil
 | _,_,.cons n t h=>.cons ⟨t,rfl⟩ (Ge h)
abbrev Gm (tg:Tg)(t:BW)(e:EW):List FV->List FV->jR->(List FV->jR->Prop)->Prop
 | [],Z8,L,Q=>Q Z8 L
 | y :: r,Z8,L,Q=>gW tg y L λL1=>t L1 λb L2=>if b=Ω then e L2 λv L3=>Gm tg t e r (Z8++[v]) L3 Q else Gm tg t e r Z8 L2 Q
abbrev oC (n m:Nat)(tg:Tg)(t:BW)(it2:AW)(tg2:Tg)(t2:BW)(e:EW):List FV->List FV->jR->(List FV->jR->Prop)->Prop
 | [],Z8,L,Q=>Q Z8 L
 | x :: xs,Z8,L,Q=>gW tg x (L++gf m Φ) λL1=>t L1 λb L2=>if b=Ω then it2 L2 λys L3=>Z8.length+ys.length<=big/\Gm tg2 t2 e ys Z8 L3 λacc' L4=>oC n m tg t it2 tg2 t2 e xs acc' (L4.take n) Q else oC n m tg t it2 tg2 t2 e xs Z8 (L2.take n) Q
abbrev sk (n m:Nat)(it:AW)(tg:Tg)(t:BW)(it2:AW)(tg2:Tg)(t2:BW)(e:EW):EW:=λL Q=>it L λxs L1=>L1.length=n/\oC n m tg t it2 tg2 t2 e xs [] L1 λys L2=>Q (.lst ys) L2
inductive liv (K:ib)(md:Md)(it:AW)(σ:L2.St)(H:Hp)(R:It->Hp->Prop):Prop
 | mk (c:_)(L:_)(S:_)(Q0:_)(_:Iv K c md L σ S H)(_:it L Q0)(_:∀ xs L',Q0 xs L'->∀ J S' H',Iv K c md L' σ S' H'->(∀ c md,Ay K c md J xs S')->Same S S'->R J H'):liv K md it σ H R
abbrev FIv (X:Cx)(C:CC)(tg Z6:Expr)(it:AW):Prop:=PI X.nox tg Z6 (liv X.K C.md it)
section
variable {X:Cx}{C:CC}{a tg:Expr}{ea:EW}
def M8 (ha:FE X C a ea):FIv X C tg a (nJ ea):=PI.imp (Bo ha) λσ H R q1=>by let(c,L,S,Q0,I,h,k):=q1;exact
 ⟨c,L,S,_,I,h,λv L1 hv x S1 H1 r1 I1 s1=>by
  let(ps,e,q):=kq hv
  let(l,rfl,st):=r1.stays e
  let(vs,h1,h2):=st S1 H1 (Same.refl _) I1.sub
  exact⟨Lc v,l,vs,rfl,h1,k ps L1 q _ S1 H1 I1 (λ_ _=>Cf λL σ S H I s=>st S H s I.sub) s1⟩⟩
end
section
variable {K:ib}{c:Cn}{md:Md}{L:jR}{σ:L2.St}{S H:Hp}
def HN {n:Nat}{it2:AW}{tg:Tg}{t:BW}{e:EW}{Z8:jP}{us:List V}{ps:List FV}{Q1:List FV->jR->Prop}{R:L2.St->Hp->Prop}(I:Iv K { c with pr:=(Z8,.lst us) :: c.pr } md L σ S H)
  (h0:c.H0 Z8=Φ)(hp:∀ p∈c.pr,p.1≠Z8)(hz:∀ p∈c.fz,∃ o,(p.2,o)∈c.pr)(r:RVs K S ps us)(ht:l8 md tg=Ω)(hg:mR n tg=Ω)
  (hh:it2 L λys L1=>ps.length+ys.length<=big/\Gm tg t e ys ps L1 Q1)
  (k:∀ ps' us' L' σ' S' H',Q1 ps' L'->Iv K { c with pr:=(Z8,.lst us') :: c.pr } md L' σ' S' H'->RVs K S' ps' us'->Same S S'->σ'.length=σ.length->(∀ q,q<n->σ'[q]?=σ[q]?)->R σ' H') :
  Kk (liv K md it2) (gT K tg) (lb K md t) (lv K md e) Z8 σ H R:=by
 let hbl:=kM
 exact⟨_,L,S,_,I,hh,λys L1 hx J S1 H1 I1 hJ s1=>?_⟩
 let(hb,hc):=hx
 let W:Nat->Nat->L2.St->Hp->Prop:=λi j σ' H'=>∃ L' S' ps' us',j=(ys.drop i).length/\Iv K { c with pr:=(Z8,.lst us') :: c.pr } md L' σ' S' H'/\RVs K S' ps' us'/\Same S1 S'/\σ'.length=σ.length/\(∀ q,q<n->σ'[q]?=σ[q]?)/\ps'.length<=ps.length+i/\Gm tg t e (ys.drop i) ps' L' Q1
 exact⟨W,⟨_,L1,S1,ps,us,rfl,I1,r.mono s1,Same.refl _,rfl,λ_ _=>rfl,iK _,by rw[gj];exact hc⟩,?_⟩
 rintro i j σ' H' ⟨L',S',ps',us',rfl,I',r',s',hl,far0,hps,hc⟩
 let(j1,j2):=hJ _ _ i L' σ' S' H' I' s'
 cases hd:ys.drop i with
 | nil =>
  left
  rw[hd] at hc
  exact⟨j1 (aJ.mpr (bW.mp hd)),k ps' us' L' σ' S' H' hc I' r' (s1.trans s') hl far0⟩
 | cons p rest =>
  right
  rw[hd] at hc
  let hi:ys[i]?=Ψ p:=by
   have:=congrArg (·[0]?) hd
   simpa using this
  let hd':ys.drop (i+1)=rest:=by
   have:=congrArg jb hd
   simpa[ge] using this
  let hix:i<ys.length:=(aI.mp hi).1
  let(go,yl):=j2 p hi
  exact⟨go,λx H2 y=>?_⟩
  let(S2,s2,tr,rx):=yl x H2 y
  let I2:=tr _ _ _ _ I'
  let(σ2,L2,gq,q2,I2,len2,far):=qr ht I2 rx hc
  exact gq _ ?_
  exact⟨_,L2,S2,_,I2,q2,λb L3 hb3 S3 H3 I3 s3=>?_⟩
  cases b with
  | false =>
   rw[if_neg cU] at hb3 ⊢
   exact⟨rest.length,∅,L3,S3,ps',us',by rw[hd'],I3,r'.mono (s2.trans s3),s'.trans (s2.trans s3),len2.trans hl,λq hq=>(far n hg q hq).trans (far0 q hq),⋯,by rw[hd'];exact hb3⟩
  | true =>
   rw[if_pos rfl] at hb3 ⊢
   exact⟨_,L3,S3,_,I3,hb3,λv L4 hv u S4 H4 r4 I4 s4=>?_⟩
   let(k1,_):=I4.prs (Z8,.lst us') cQ
   let lr:=r'.length
   exact⟨us',k1,⋯,rest.length,∅,L4,S4,ps'++[v],us'++[u],by rw[hd'],I4.regrow h0 hp hz,(r'.mono (s2.trans (s3.trans s4))).append (RVs.one r4),s'.trans (s2.trans (s3.trans s4)),len2.trans hl,λq hq=>(far n hg q hq).trans (far0 q hq),by simp;lia,by rw[hd'];exact hv⟩
def Ao {J:It}{xs:List FV}{n m:Nat}{tg:Tg}{t:BW}{it2:AW}{tg2:Tg}{t2:BW}{e:EW}{Q:VK}{Q1:List FV->jR->Prop}(I:Iv K c md L σ S H)(hJ:Ay K c md J xs S)(hL:L.length=n)(hmd:md.length<=n)(ht:l8 md tg=Ω)(hg:mR n tg=Ω)(ht2:l8 md tg2=Ω)(hg2:mR n tg2=Ω)(h:oC n m tg t it2 tg2 t2 e xs [] L Q1)
  (k:∀ Z8 ps L' S' H',H Z8=Φ->Q1 ps L'->OwnAt K S' H' Z8 (.lst ps)->nR c md L' σ Z8->Iv K c md L' σ S' H'->Same S S'->Q (.ref Z8) H') :
  ∀ Z8,H Z8=Φ->∃ W:Nat->Nat->Hp->Prop,(∃ m,W 0 m (kh H Z8 (.lst [])))/\∀ i j H,W i j H ->
   (J.stop i H/\Q (.ref Z8) H) ∨ (J.go i H/\∀ x H',J.yld i H x H'->gT K tg x (σ++gf m Φ) H' λσ2 H2=>Wk (σ++gf m Φ) σ2/\lb K md t σ2 H2 λb H3 =>
    if b=Ω then Kk (liv K md it2) (gT K tg2) (lb K md t2) (lv K md e) Z8 σ2 H3 λσ3 H4=>Wk (σ++gf m Φ) σ3/\∃ m',m'<j/\W (i+1) m' H4 else ∃ m',m'<j/\W (i+1) m' H3):=by
 intro Z8 hacc
 let h0:=I.h0 hacc
 let hp:∀ p∈c.pr,p.1≠Z8:=(I.fresh hacc).2.1
 let hz:=I.fzp
 let hl:σ.length=n:=by rw[<- I.len];exact hL
 let W:Nat->Nat->Hp->Prop:=λi j H1=>∃ L S1 ps us,j=(xs.drop i).length/\Iv K { c with pr:=(Z8,.lst us) :: c.pr } md L σ S1 H1/\RVs K S1 ps us/\Same S S1/\L.length=n/\oC n m tg t it2 tg2 t2 e (xs.drop i) ps L Q1
 let I1:Iv K { c with pr:=(Z8,.lst []) :: c.pr } md L σ S (kh H Z8 (.lst [])):=(I.lay hacc _).prot jV (I.sn hacc) λj w hm hj=>(I.fresh hacc).2.2 j w (Mo.w_imm hm) hj
 exact⟨W,⟨_,L,S,[],[],rfl,I1,rfl,Same.refl S,hL,by rw[gj];exact h⟩,?_⟩
 rintro i j H1 ⟨L,S1,ps,us,rfl,I,r,s,hL,hc⟩
 let I0:=I.unprot hz
 let(j1,j2):=hJ i L σ S1 H1 I0 s
 let(g1,g2,g3):=I.prs (Z8,.lst us) cQ
 cases hd:xs.drop i with
 | nil =>
  left
  rw[hd] at hc
  exact⟨j1 (aJ.mpr (bW.mp hd)),k Z8 ps L S1 H1 hacc hc ⟨g2,ps,us,rfl,g1,r⟩ ⟨h0,hp,λq w hm hq hs=>?_⟩ I0 s⟩
  by_cases mo:(jX md q).w=Ω
  ·exact g3 q w mo hq hs
  ·let mo:jX md q=.frz:=by cases z:jX md q with|imm=>exact absurd z hm|frz=>rfl|_=>rw[z] at mo;exact absurd rfl mo
   let(b,f1):=I0.fzm q w mo hq
   let(_,f2,_):=I0.fzs _ f1
   rw[hs] at f2;cases f2
   let(ys,f3):=hz _ f1
   exact hp _ f3 rfl
 | cons p rest =>
  right
  rw[hd] at hc
  let hi:xs[i]?=Ψ p:=by
   have:=congrArg (·[0]?) hd
   simpa using this
  let hd':xs.drop (i+1)=rest:=by
   have:=congrArg jb hd
   simpa[ge] using this
  let hix:i<xs.length:=(aI.mp hi).1
  let(go,yl):=j2 p hi
  exact⟨go,λx H2 y=>?_⟩
  let(S2,s2,tr,rx):=yl x H2 y
  let I2:=(tr _ _ _ _ I).more m
  let(σ2,L2,gq,q2,I2,len2,far):=qr ht I2 rx hc
  let l2:n<=σ2.length:=by rw[len2,cR,hl];lia
  let far':∀ q,q<n->σ2[q]?=σ[q]?:=λq hq=>by rw[far n hg q hq,aK (by rw[hl];exact hq)]
  let wk:∀ {σ3:List (Option V)},σ3.length=(σ++gf m Φ).length->(∀ q,q<n->σ3[q]?=σ[q]?)->Wk (σ++gf m Φ) σ3:=λ{σ3} hl3 f3=>⟨hl3,λq v hv=>by
   let hq:q<n:=by
    by_cases h:q<σ.length
    ·rw[<- hl];exact h
    ·rw[az ⋯,bh] at hv
     split at hv<;>cases hv
   rw[aK (by rw[hl];exact hq)] at hv
   rw[f3 q hq];exact hv⟩
  exact gq _ ⟨wk len2 far',?_⟩
  exact⟨_,L2,S2,_,I2,q2,λb L3 hb3 S3 H3 I3 s3=>?_⟩
  cases b with
  | false =>
   rw[if_neg cU] at hb3 ⊢
   exact⟨rest.length,∅,L3.take n,S3,ps,us,by rw[hd'],I3.take hmd hl l2 far',r.mono (s2.trans s3),s.trans (s2.trans s3),by rw[eI,I3.len];lia,by rw[hd'];exact hb3⟩
  | true =>
   rw[if_pos rfl] at hb3 ⊢
   exact HN (n:=n) I3 h0 hp hz (r.mono (s2.trans s3)) ht2 hg2 hb3 λps' us' L' σ' S' H' q' I' r' s' hl' f'=>?_
   let f'':∀ q,q<n->σ'[q]?=σ[q]?:=λq hq=>(f' q hq).trans (far' q hq)
   exact⟨wk (hl'.trans len2) f'',rest.length,∅,L'.take n,S',ps',us',by rw[hd'],I'.take hmd hl (by rw[hl'];exact l2) f'',r',s.trans (s2.trans (s3.trans s')),by rw[eI,I'.len,hl'];lia,by rw[hd'];exact q'⟩
end
section
variable {X:Cx}{C:CC}{n:Nat}{sp:ib->Nat->Sp}{pos p px:Pos}{i:Nat}{nx:Str}{fr:Bool}
variable {scope:jG}{own:List Str}{Z4 Z0 Z6 tgx2 iter2:Expr}{Z5 ifs2:List Expr}{it it2:AW}{tg tg2:Tg}{t t2:BW}{e:EW}{nn m:Nat}{md':Md}
structure CompOk2 (X:Cx)(C:CC) (n:Nat)(sp:ib->Nat->Sp)(scope:jG)(own:List Str)(Z4 Z0 Z6:Expr)(Z5:List Expr)(tgx2 iter2:Expr)(ifs2:List Expr) (nn m:Nat)(md':Md)(it:AW)(tg:Tg)(t:BW)(it2:AW)(tg2:Tg)(t2:BW)(e:EW):Prop where
 st:(C.scOk scope own && Δ (C.N.length=nn) && Δ (own.length=m) && Δ (md'.length<=nn) && BM C.md md' && l8 md' tg && mR nn tg && !wu Z6)=Ω
 st2:(l8 md' tg2 && mR nn tg2 && !wu iter2)=Ω
 it:FI X C md' Z0 Z6 it
 tg:∀ X',Good X' (C.sub scope own md') n sp->FG X' Z0 tg
 ts:∀ X',Good X' (C.sub scope own md') n sp->J6 X' (C.sub scope own md') Z5 t
 it2:∀ X',Good X' (C.sub scope own md') n sp->FIv X' (C.sub scope own md') tgx2 iter2 it2
 tg2:∀ X',Good X' (C.sub scope own md') n sp->FG X' tgx2 tg2
 ts2:∀ X',Good X' (C.sub scope own md') n sp->J6 X' (C.sub scope own md') ifs2 t2
 el:∀ X',Good X' (C.sub scope own md') n sp->FE X' (C.sub scope own md') Z4 e
def CompOk2.run (G:Good X C n sp)(h:CompOk2 X C n sp scope own Z4 Z0 Z6 Z5 tgx2 iter2 ifs2 nn m md' it tg t it2 tg2 t2 e){σ:L2.St}{H:Hp}{Q:VK}(hq:lf X.K C.md (sk nn m it tg t it2 tg2 t2 e) σ H Q):xm (li X.K C.md md' it) (gT X.K tg) (lb X.K md' t) (liv X.K md' it2) (gT X.K tg2) (lb X.K md' t2) (lv X.K md' e) own.length σ H Q:=by
 let h0:=b2 h.st;let h1:=b2 h0.1;let h2:=b2 h1.1;let h3:=b2 h2.1;let h4:=b2 h3.1;let h5:=b2 h4.1;let h6:=b2 h5.1
 let g0:=b2 h.st2;let g1:=b2 g0.1
 let(c,L,S,Q0,I,hh,k):=hq
 exact⟨c,L,S,_,I,hh,λxs L1 hx J c' S1 H1 I1 un e0 hJ s1=>?_⟩
 let(hl,hc):=hx
 rw[de h5.2]
 refine Ao I1 hJ hl (de h4.2) h2.2 h1.2 g1.1 g1.2 hc λZ8 ps L' S' H' hn q o fr I' s'=>k _ L' q Z8 S' H' o ⟨by rw[<- e0];exact fr.1,((un _ _ _ _ I1).fresh hn).2.1,λj w hm=>fr.2.2 j w (pM h3.2 j hm)⟩ (un _ _ _ _ I') (s1.trans s')
def CompOk2.blk (G:Good X C n sp)(h:CompOk2 X C n sp scope own Z4 Z0 Z6 Z5 tgx2 iter2 ifs2 nn m md' it tg t it2 tg2 t2 e):CScope X scope own/\(∀ fp D s H,PG (lD X scope own fp D s H) Z0 (gT X.K tg)/\PTs (lD X scope own fp D s H) Z5 (lb X.K md' t)/\(PI (lD X scope own fp D s H) tgx2 iter2 (liv X.K md' it2)/\PG (lD X scope own fp D s H) tgx2 (gT X.K tg2)/\PTs (lD X scope own fp D s H) ifs2 (lb X.K md' t2)/\PE (lD X scope own fp D s H) Z4 (lv X.K md' e)/\∀ x,foldedSetIterable iter2 (lD X scope own fp D s H).env x=pure x))/\∀ v,foldedSetIterable Z6 X.env v=pure v:=by
 let h0:=b2 h.st;let h1:=b2 h0.1;let h2:=b2 h1.1;let h3:=b2 h2.1;let h4:=b2 h3.1;let h5:=b2 h4.1;let h6:=b2 h5.1
 let g0:=b2 h.st2
 let(s1,s2):=G.sub h6.1 md'
 exact⟨s1,λfp D s H=>⟨h.tg _ (s2 fp D s H),h.ts _ (s2 fp D s H),h.it2 _ (s2 fp D s H),h.tg2 _ (s2 fp D s H),h.ts2 _ (s2 fp D s H),h.el _ (s2 fp D s H),qt (nb g0.2)⟩,qt (nb h0.2)⟩
def Ak (G:Good X C n sp)(ht:C.tn i nx=Ω)(h:CompOk2 X C n sp scope own Z4 Z0 Z6 Z5 tgx2 iter2 ifs2 nn m md' it tg t it2 tg2 t2 e):∃ te:TE,(∀ σ H Q,lf X.K C.md (sk nn m it tg t it2 tg2 t2 e) σ H Q->te σ H Q)/\PS X.nox (.Assign [.Name nx px] (.ListComp Z4 [⟨Z0,Z6,Z5,0⟩,⟨tgx2,iter2,ifs2,0⟩] scope p) pos) (qM te (mq i)):=by
 let hsw:swapsWith (.ListComp Z4 [⟨Z0,Z6,Z5,0⟩,⟨tgx2,iter2,ifs2,0⟩] scope p) (Ψ (.Name nx px)) pos.line X.env=pure (JH C nx px scope p):=by rw[ye G.kind,G.sc];rfl
 let(s1,s2,s3):=h.blk G
 cases hb:JH C nx px scope p with
 | false =>
  rw[hb] at hsw
  exact⟨_,λσ H Q q=>h.run G q,vO G ht hsw (By G.calm s1 h.it s2 s3)⟩
 | true =>
  rw[hb] at hsw
  let hlo:X.env.scope.names.lookup nx=Ψ .local:=by
   rw[G.sc]
   let hb:=b2 hb
   exact de (b2 hb.1).1
  exact⟨_,λσ H Q q=>h.run G q,vN G.calm s1 G.nd' (G.ix (b2 ht).1) hlo h.it s2 hsw s3⟩
def Cy (G:Good X C n sp)(ht:C.tn i nx=Ω)(hm:jX C.md i=.imm)(h:CompOk2 X C n sp scope own Z4 Z0 Z6 Z5 tgx2 iter2 ifs2 nn m md' it tg t it2 tg2 t2 e):FS X C fr (.Assign [.Name nx px] (.ListComp Z4 [⟨Z0,Z6,Z5,0⟩,⟨tgx2,iter2,ifs2,0⟩] scope p) pos) (kg (sk nn m it tg t it2 tg2 t2 e) (.nm i)) :=
 let ⟨te,h1,h2⟩:=Ak G ht h
 q0 hm h1 h2
end
nonrec def JX (n m:Nat)(it:AW)(tg:Tg)(t:BW)(it2:AW)(tg2:Tg)(t2:BW)(e:EW)(L:jR)(Q:FV->jR->Prop):sk n m it tg t it2 tg2 t2 e L Q=(it L λxs L1=>L1.length=n/\oC n m tg t it2 tg2 t2 e xs [] L1 λys L2=>Q (.lst ys) L2):=propext Iff.rfl
def sx {α:Type}{tg:Tg}{n m:Nat}{t:BW}{it2:AW}{tg2:Tg}{t2:BW}{e:EW}{f:α->FV}{I:List α->List FV->jR->Prop}{Q:List FV->jR->Prop}(all:List α) :
  ∀ (rest done:List α)(Z8:List FV)(L:jR),all=done++rest->I done Z8 L ->
  (∀ d x r Z8 L (K:List FV->jR->Prop),all=d++x :: r->I d Z8 L->(∀ acc' L',I (d++[x]) acc' L'->K acc' L')->gW tg (f x) (L++gf m Φ) λL1=>t L1 λb L2=>if b=Ω then it2 L2 λys L3=>Z8.length+ys.length<=big/\Gm tg2 t2 e ys Z8 L3 λacc' L4=>K acc' (L4.take n) else K Z8 (L2.take n)) ->
  (∀ ys L,I all ys L->Q ys L)->oC n m tg t it2 tg2 t2 e (rest.map f) Z8 L Q
 | [],done,Z8,L,e,h,_,E=>by
  rw[fH] at e
  exact E Z8 L (e ▸ h)
 | x :: r,done,Z8,L,e,h,B,E=>B done x r Z8 L (λacc' L'=>oC n m tg t it2 tg2 t2 _ (r.map f) acc' L' Q) e h λacc' L' h'=>sx all r (done++[x]) acc' L' (by simp[e]) h' B E
def yQ {α:Type}{tg:Tg}{t:BW}{e:EW}{f:α->FV}{I:List α->List FV->jR->Prop}{Q:List FV->jR->Prop}(all:List α) :
  ∀ (rest done:List α)(Z8:List FV)(L:jR),all=done++rest->I done Z8 L ->
  (∀ d x r Z8 L (K:List FV->jR->Prop),all=d++x :: r->I d Z8 L->(∀ acc' L',I (d++[x]) acc' L'->K acc' L')->gW tg (f x) L λL1=>t L1 λb L2=>if b=Ω then e L2 λv L3=>K (Z8++[v]) L3 else K Z8 L2) ->
  (∀ ys L,I all ys L->Q ys L)->Gm tg t e (rest.map f) Z8 L Q
 | [],done,Z8,L,e,h,_,E=>by
  rw[fH] at e
  exact E Z8 L (e ▸ h)
 | x :: r,done,Z8,L,e,h,B,E=>B done x r Z8 L (λacc' L'=>Gm tg t _ (r.map f) acc' L' Q) e h λacc' L' h'=>yQ all r (done++[x]) acc' L' (by simp[e]) h' B E
section
variable {L:jR}{i j:Nat}
def AZ {L:jR}{j i:Nat}{v:FV}(z:(L.set j Φ)[i]?=Ψ (Ψ v)):i≠j/\L[i]?=Ψ (Ψ v):=by
 by_cases q:i=j
 ·subst q
  let hj:i<L.length:=by have:=(aI.mp z).1;rwa [fB] at this
  rw[bu hj] at z;cases z
 ·rw[bV (jp q)] at z;exact⟨q,z⟩
end
section
variable {L:jR}{j:Nat}
def rn {L:jR}{i j:Nat}(h:i≠j):(L.set j Φ)[i]?=L[i]?:=bV (jp h)
end
end Kq
set_option maxHeartbeats 1000000
set_option maxHeartbeats 4000000
namespace Kq
open PySem PySem.Spec PyProof.Rows L2 PySem.W
noncomputable abbrev Asc {α:Type}(lt:α->α->Bool)(l:List α):Prop:=l.Pairwise λx y=>lt y x=Ξ
abbrev EntAt (h:jM)(d:jP)(es:Array jf) (ep:Nat):Prop:=∃ o,h.get? d=Ψ o/\o.ExactDict/\o.data=.dict es ep
section
variable {prog:jn}{w:jE}{A:jD}{E:jF->jw->Prop}{s:jw}{it d:jP}{i ep:Nat}{es:Array jf}
def EntAt.ty (x:EntAt s.heap d es ep):s.TypeIs (.ref d) "dict":=by
 let(o,ho,hc,_):=x
 exact⟨o,ho,hc.1⟩
def Cd {Q:jF->jw->Prop}(hd:(d == sysModules)=Ξ)(hm:EntAt s.heap d es ep)
  (q:Q (.ref s.heap.objs.size) { s with heap:=s.heap.push { cls:=.type "dict_keyiterator",data:=.fields #[.ref d,.int 0 0,.int es.size 0,.int ep 0] } }):wpAny (model prog w) A (pyIter (.ref d)) Q E s:=by
 let hT:=hm.ty
 let(o,ho,hc,hdat):=hm
 exact wpAny_pyIter_slot hT eP (dY eP hT F.entry_dict_iter ?_ (F.args_dict_iter_1 _));unfold jt.«dict.__iter__»;exact iR ?_;unfold Builtin.Dict.dictSlotNone
 exact iR (wpAny_notOrdered_dict hT ?_);show wpAny _ _ (pure (Value.ref d)) _ _ s;exact iO ?_;show wpAny _ _ (bM d >>= _) _ _ s;unfold bM
 rw[if_neg (by rw[hd];exact cU)];exact iR (iO (iR (dc ho hdat (iR (eY ho hdat ?_)))))
 exact iR (db (iO ⟨_,rfl,"dict_keyiterator",_,⟨_,cw _ rfl,rfl⟩,al.lookup,?_⟩));simpa[rawInt] using q
def BH {Q:Option jF->jw->Prop}(hit:s.heap.IsKeyIter it d i es.size ep)(hm:EntAt s.heap d es ep)(hi:i<es.size)
  (q:∀ h',h'.IsKeyIter it d (i+1) es.size ep->iz it s.heap h'->Q (Ψ es[i].key) { s with heap:=h' }):wpAny (model prog w) A (pyNext (.ref it)) Q E s:=by
 let hT:=hit.typeIs
 let(o,ho,hc,hd):=id hit
 let(od,hod,_,hdd):=hm
 let hown:ap "dict_keyiterator" = Ξ:=(·)
 unfold pyNext;exact iR (gz (aZ (name:=hW "__next__") hT al (dY al hT ak ?_ (ah _))))
 exact iR (iO (iR (iR ?_)));first|exact iR (ai hT (iO ?_))|exact iR (aQ hT (iO ?_))
 exact iR (fQ ho hd ?_);simp -iota only[hown,cV,if_false];show wpAny _ _ (if (Value.ref d == Value.none)=Ω then _ else _) _ _ s;rw[if_neg (show ¬ ((Value.ref d == Value.none)=Ω) from cU)]
 exact iR (iO (iR (dc hod hdd ?_)));rw[if_neg ∅]
 exact iR (iO (iR (eY hod hdd ?_)));rw[if_neg ∅];exact iO ?_
 simp![show ¬ ((i:Int)<0) from by lia,if_false,dN,aP hi];exact iR ?_
 first|exact iR (ai hT (iO (iR (bB hT ?_))))|exact iR (aQ hT (iO (iR (bB hT ?_))))
 show wpAny _ _ (setField (.ref it) 1 (rawInt ((i:Int)+1)) >>= _) _ _ s;exact iR (fN ho hd ∅ ?_)
 let hit':(s.heap.update it (gJ (·.setIfInBounds 1 (rawInt ((i:Int)+1))))).IsKeyIter it d (i+1) es.size ep:=⟨_,bK _ ho (bF (cJ hd _)),(dC ..).trans hc,by rw[cJ hd];simp[rawInt]⟩
 exact iR (gx (iR (bB (s:={ s with heap:=s.heap.update it (gJ (·.setIfInBounds 1 (rawInt ((i:Int)+1)))) }) hit'.typeIs ?_)));show wpAny _ _ (pure es[i].key) _ _ _
 exact iO (iO ⟨_,rfl,iO (q _ hit' (cy ..))⟩)
def Fa {Q:Option jF->jw->Prop}(hh:A.handled=Φ)(hit:s.heap.IsKeyIter it d i es.size ep)(hm:EntAt s.heap d es ep)(hi:es.size<=i)
  (q:∀ h',iM it s.heap h'->Q Φ { s with heap:=h' }):wpAny (model prog w) A (pyNext (.ref it)) Q E s:=by
 let hT:=hit.typeIs
 let(o,ho,hc,hd):=id hit
 let(od,hod,_,hdd):=hm
 let hown:ap "dict_keyiterator" = Ξ:=(·)
 unfold pyNext;exact iR (gz (aZ (name:=hW "__next__") hT al (dY al hT ak ?_ (ah _))))
 exact iR (iO (iR (iR ?_)));first|exact iR (ai hT (iO ?_))|exact iR (aQ hT (iO ?_))
 exact iR (fQ ho hd ?_);simp -iota only[hown,cV,if_false];show wpAny _ _ (if (Value.ref d == Value.none)=Ω then _ else _) _ _ s;rw[if_neg (show ¬ ((Value.ref d == Value.none)=Ω) from cU)]
 exact iR (iO (iR (dc hod hdd ?_)));rw[if_neg ∅]
 exact iR (iO (iR (eY hod hdd ?_)));rw[if_neg ∅];exact iO ?_
 simp![show ¬ ((i:Int)<0) from by lia,if_false,dN,Array.getElem?_eq_none hi];exact iR ?_
 first|exact iR (ai hT (iO ?_))|exact iR (aQ hT (iO ?_))
 show wpAny _ _ (setField (.ref it) 0 .none >>= _) _ _ s;exact iR (fN ho hd ∅ ?_);show wpAny _ _ (newExc (.type "StopIteration") [] >>= _) _ _ _;exact iR ?_;simp![newExc,newTuple]
 exact iR (db ?_ (by size_fits));exact iR (m:=firstArgMember _ _) (iB (a:=Value.none) (by first|rfl|(simp![firstArgMember];rfl)) ?_);exact db ?_ (by size_fits);simp -iota only[raiseNew]
 exact iR (gy ?_);rw[show A.in1.handled=Φ from hh];exact iR (iO (wpAny_throw ?_))
 exact iR (dU (T:="StopIteration") (b:=Ω) ⟨_,cw _ rfl,rfl⟩ fU ?_);exact iO (q _ (((cy ..).extBut.push _).push _))
end
def tJ {P:jn}{w:jE}{H:Hp}{h:jM}{a:jP}{o:HO}(x:ObjOk P w H h a o):∃ u,h.get? a=Ψ u:=by
 cases o with
 | lst xs=>exact let ⟨_,_,_,_,e⟩:=x;⟨_,e⟩
 | tup xs=>exact let ⟨_,_,_,o,e,_⟩:=x;⟨o,e⟩
 | dK kvs=>exact let ⟨_,_,_,_,o,_,_,e,_⟩:=x;⟨o,e⟩
 | dT kvs=>exact let ⟨_,_,_,_,o,_,_,e,_⟩:=x;⟨o,e⟩
 | set S n=>exact let ⟨o,_,_,_,e,_⟩:=x;⟨o,e⟩
 | ins C dx fs=>exact let ⟨_,_,_,e,_⟩:=x;⟨_,e⟩
 | big C dx fs gs=>exact let ⟨_,_,_,_,e,_⟩:=x;⟨_,e⟩
 | bag C dx fs gs=>exact let ⟨_,_,_,_,e,_⟩:=x;⟨_,e⟩
 | own y=>exact x
 | xd fs=>exact let ⟨_,⟨o,_,_,e,_⟩,_⟩:=x;⟨o,e⟩
 | rng lo hi=>exact let ⟨_,_,_,e⟩:=x;⟨_,e⟩
 | frz ob u=>exact⟨ob,x.1⟩
 | tbl ps=>exact⟨_,x⟩
 | met f y=>exact⟨_,x⟩
 | ext φ=>exact x.2.1
def wv {X:Cx}{Z9:List (jP×Obj)}{σ:L2.St}{H:Hp}{s:jw}{h':jM}{a:jP}{o:HO}{t':Nat}(I:Inv X Z9 σ H s)(k:∀ b u,s.heap.get? b=Ψ u->h'.get? b=Ψ u)(hp:∀ b u,s.heap.get? b=Ψ u->b≠a)(new:ObjOk X.prog X.w (kh H a o) h' a o):Inv X Z9 σ (kh H a o) { s with heap:=h',toks:=t' }/\H a=Φ:=by
 let tr:∀ {b u},H b=Ψ u->b≠a:=λ{b u} e=>let ⟨v,hv⟩:=tJ (I.hok b u e);hp b v hv
 let ow:∀ b u,H b=Ψ u->kh H a o b=Ψ u:=λb u e=>by rw[jT (tr e)];exact e
 exact⟨I.un (t':=t') ⟨λb o' e _ _ _=>k b o' e,λb o' e _ _ _=>⟨o'.slots,k b o' e⟩,λb o' e n _=>by rw[jT (hp b o' e)];exact n,λb o' e _=>⟨o',k b o' e⟩,λb xs e=>ow b _ e,λb o' u e=>ow b _ e,λb ps e=>⟨#[],by rw[Array.append_empty];exact ow b _ e⟩⟩ λb u e=>?_,?_⟩
 ·by_cases z:b=a
  ·subst z;rw[jV] at e;cases e;exact new
  ·rw[jT z] at e
   exact (I.hok b u e).stay (λc v _ q=>k c v q) (λc e=>ow c _ e) λc xs e=>ow c _ e
 ·cases q:H a with
  | none=>rfl
  | some u=>exact absurd rfl (tr q)
abbrev GA (xs:Array Nat):Prop:=∀ i j (hi:i<xs.size)(hj:j<xs.size),i<j->xs[i]<xs[j]
abbrev TabOk (t:jh)(l:Bool):Prop:=t.led=l/\t.dummies = #[]/\(t.plain=Ω->GA t.place)
abbrev NumEs (l:List (Int×jF)):Prop:=∀ e∈l,∃ k tk,e=(hashInt k,Value.int k tk)
abbrev PB (l:List (Int×jF)):List Int:=l.map λe=>numOf e.2
abbrev Do (prog:jn)(w:jE) (m:Nat):Prop:=∀ (A:jD)(E:jF->jw->Prop)(s:jw)(a:jP) (n:Nat)(vs:List jF)(ns:List Int)(P:PySem.Fin->jw->Prop),s.heap.get? a=Ψ (seqObj "list" vs.toArray n)->js vs ns->vs.length<=m ->
 (∀ (us:List jF)(ms:List Int)(h':jM) (c tk:Nat),js us ms->ms.Perm ns->ms.Pairwise (·<=·)->h'.get? a=Ψ (seqObj "list" us.toArray c)->(∀ b o,b≠a->s.heap.get? b=Ψ o->h'.get? b=Ψ o)->P (.done (.ret .none)) { s with heap:=h',toks:=tk }) ->
 wpAny (model prog w) A (jt.«list.sort» ⟨[.ref a],[]⟩) P E s
def DI (prog:jn)(w:jE):Do prog w 63:=by
 intro A E s a n vs ns P ho hi hl k
 exact list_sort_tree ho hi ⋯ λout ms i1 i2 i3=>?_
 let(c,hc):=sortedHeap_at (out:=out) ho
 exact k out.toList ms _ c s.toks i1 i2 i3 (by rw[bZ];exact hc) λb o hb e=>(sortedHeap_old hb (iy e)).trans e
end Kq
namespace Kq
open PySem PySem.Spec PyProof.Rows L2
abbrev P2:FV->Option (List D):=λv=>(fD kU v).bind λd=>match d with|.lst ys=>Ψ ys|_=>Φ
abbrev EI (x:D):List D->Option Nat
 | []=>Φ
 | y :: r=>if D.eqv y x=Ω then Ψ 0 else (EI x r).map (· + 1)
abbrev rV (v w:FV):Option FV:=(P2 v).bind λys=>(fD kU w).bind λx=>(EI x ys).bind λj=>if j<big then Ψ (.int (j:Int)) else Φ
abbrev su (v w:FV):Option FV:=(P2 v).bind λys=>(fD kU w).bind λx=>Ψ (.int ((ys.countP λy=>D.eqv y x:Nat):Int))
abbrev Ai (f:FV->FV->Option FV) (i:Nat)(b:EW):EW:=λL Q=>wp (lk L i) λv=>wp (oo v) λ_=>b L λy L1=>wp (lk L1 i) λx=>wp (f x y) λz=>Q z L1
inductive Rm (K:ib)(f:FV->FV->Option FV)(x:V)(xs:List V)(H:Hp)(Q:VK):Prop
 | mk (y:_)(_:xs=[y])(_:Rq K f x y H Q):Rm K f x xs H Q
section
variable {X:Cx}
def yR {x:D}:∀ {ys:List D}{j:Nat},EI x ys=Ψ j->∃ h:j<ys.length,D.eqv ys[j] x=Ω/\∀ m (hm:m<ys.length),m<j->D.eqv ys[m] x=Ξ
 | [],j,e=>by cases e
 | y :: r,j,e=>by
  unfold EI at e
  split at e
  ·rename_i h;cases e
   exact⟨∅,h,λm _ h=>absurd h (fq _)⟩
  ·rename_i h
   let(k,e1,rfl):=oX e
   let(h1,h2,h3):=yR e1
   exact⟨by simp;lia,by simpa using h2,λm hm hl=>?_⟩
   cases m with
   | zero=>simpa using h
   | succ m=>simpa using h3 m (by simpa using hm) ⋯
def qC {h:jM}:∀ {ys:List D}{vs:List jF}{as:List jP},ReadsAll h vs (dPys ys) as->vs.map (SeqAt.readOf h)=dPys ys:=λ{ys vs as} r=>SeqAt.readsAll_map _ _ _ (d_lays ys) r
def wR:∀ (ys:List D) (j:Nat),(dPys ys)[j]?=ys[j]?.map nj
 | [],j=>by simp[dPys]
 | y :: r,0=>by simp[dPys]
 | y :: r,j+1=>by simpa[dPys] using wR r j
def wQ:∀ (ys:List D),(dPys ys).length=ys.length
 | []=>rfl
 | y :: r=>by simp[dPys,wQ r]
def Gu {v:FV}{ys:List D}(e:P2 v=Ψ ys):fD kU v=Ψ (.lst ys):=by
 let(d,e1,e2):=lV e
 cases d with
 | lst zs=>cases e2;exact e1
 | _=>cases e2
def BI (hu:X.A.units+64<cLine):J5 X "list.index" (Rm X.K rV):=by
 rintro Z9 s σ H x xs v us Q I rx rv ⟨y,rfl,S,p,q,z,hs,rp,rq,e,k⟩
 let(u,rfl,ru):=rv.one
 let(ys,e1,e):=lV e
 let(dx,e2,e):=lV e
 let(j,e3,e):=lV e
 let(hb,rfl):=ou e
 let(as,ra):=mD I hs rp rx (Gu e1)
 let(bs,rb):=mD I hs rq ru e2
 let(hj,hit,hno):=yR e3
 let hd:X.A.units+1+min (fj (dPys ys)) (nj dx).depth<cLine:=by
  let h1:=oy e2
  unfold kU at h1
  lia
 simp![nj] at ra
 cases ra with
 | list h1 h2 h3 h4 =>
  rename_i a o Z7 n bs'
  let(cls,dd,data,sl):=o
  simp only at h2 h3
  subst h2 h3
  let hm:=qC h4
  let hsz:Z7.size=ys.length:=by rw[<- wQ ys,<- hm];simp
  let hat:∀ m (hm1:m<Z7.size)(hm2:m<ys.length),PyData.eqv (SeqAt.readOf s.heap Z7[m]) (nj dx)=D.eqv ys[m] dx:=λm hm1 hm2=>by
   have:=congrArg (λl=>l[m]?) hm
   rw[wR] at this
   simp[hm1,hm2] at this
   rw[this,wP]
  exact iU PySem.F.slot_list_index ⟨_,h1,rfl⟩ PySem.F.entry_list_index (PySem.F.args_list_index_2 _ _) (SeqAt.list_indexAt a Z7 n dd sl u (λy=>PyData.eqv (SeqAt.readOf s.heap y) (nj dx)) j ⋯ ?_ ?_ ?_) ⟨h1,SeqAt.items_eqAt h4 rb (d_lays ys) (qH dx) hd,?_⟩
  ·unfold big at hb;lia
  ·rw[hat j ⋯ hj];exact hit
  ·intro m hm1 hl
   show PyData.eqv _ _=_
   rw[hat m hm1 ⋯];exact hno m ⋯ hl
  ·exact⟨.int j,H,I.tok _,⟨_,rfl⟩,k.old _ (λ_ z=>nomatch z) rfl⟩
def BJ (hu:X.A.units+64<cLine):J5 X "list.count" (Rm X.K su):=by
 rintro Z9 s σ H x xs v us Q I rx rv ⟨y,rfl,S,p,q,z,hs,rp,rq,e,k⟩
 let(u,rfl,ru):=rv.one
 let(ys,e1,e):=lV e
 let(dx,e2,e):=lV e
 cases e
 let(as,ra):=mD I hs rp rx (Gu e1)
 let(bs,rb):=mD I hs rq ru e2
 let hd:X.A.units+1+min (fj (dPys ys)) (nj dx).depth<cLine:=by
  let h1:=oy e2
  unfold kU at h1
  lia
 simp![nj] at ra
 cases ra with
 | list h1 h2 h3 h4 =>
  rename_i a o Z7 n bs'
  let(cls,dd,data,sl):=o
  simp only at h2 h3
  subst h2 h3
  let hm:=qC h4
  let hc:∀ zs:List D,List.countP (λy=>PyData.eqv y (nj dx)) (dPys zs)=List.countP (λy=>D.eqv y dx) zs:=λzs=>by
   induction zs with
   | nil=>rfl
   | cons z r ih=>simp![dPys,List.countP_cons,ih,wP]
  let hq:List.countP (λy=>PyData.eqv (SeqAt.readOf s.heap y) (nj dx)) Z7.toList=List.countP (λy=>D.eqv y dx) ys:=by
   rw[<- hc,<- hm,List.countP_map];rfl
  exact iU PySem.F.slot_list_count ⟨_,h1,rfl⟩ PySem.F.entry_list_count (PySem.F.args_list_count_2 _ _) (SeqAt.list_countAt a Z7 n dd sl u (λy=>PyData.eqv (SeqAt.readOf s.heap y) (nj dx))) ⟨h1,SeqAt.items_eqAt h4 rb (d_lays ys) (qH dx) hd,?_⟩
  rw[hq]
  exact⟨.int _,H,I.tok _,⟨_,rfl⟩,k.old _ (λ_ z=>nomatch z) rfl⟩
end
section
variable {X:Cx}{C:CC}{n:Nat}{sp:ib->Nat->Sp}{b:Expr}{eb:EW}{p:Pos}{i:Nat}{nx:Str}
def HE {K:ib}{S H:Hp}{v:FV}{l:List FV}{x:V}(s:Same S H)(rv:RH K S H v x)(e:oo v=Ψ l):Mp K "list" x H:=by
 cases mK e
 let(a,xs,rfl,h1,_):=rv.lst s
 exact .inl ⟨rfl,xs,SqL.of h1⟩
def CN {f:FV->FV->Option FV}{id nm:String}(slot:Slot "list" (hW nm) id)(hty:typeOf (.builtin id)=pure (.type "method_descriptor"))(hm:J5 X.nox id (Rm X.K f))(G:Good X C n sp){apos Z1:Pos}(h:C.nm i nx=Ω)(hl:oG apos Z1=Ω)(hs:j9 b=Ξ)(hb:FR X C b eb):FE X C (.Call (.Attribute (.Name nx p) (hW nm) apos) [b] [] Z1) (Ai f i eb):=by
 exact PE.imp (Bz bc slot hty hm (ki G h) (ka hb kF (jU hs)) rfl (by rw[jU hs];rfl) hl (jU hs) rfl) λσ H Q ⟨c,L,S,Q0,I,h,k⟩=>?_
 let(v,e,h):=kq h
 let(l,e9,h):=kq h
 let(x,e1,r1):=I.rd e
 exact⟨x,e1,HE I.sub r1 e9,c,L,S,_,I,h,λw L1 hw y S1 H1 r2 I1 s1=>?_⟩
 let(v1,e2,hw):=kq hw
 let(z,e3,q):=kq hw
 let(x',f1,r3):=I1.rd e2
 rw[e1] at f1;cases f1
 exact⟨y,rfl,S1,v1,w,z,I1.sub,r3,r2,e3,o9 I1 λx S' H' r I' s'=>k z L1 q x S' H' r I' (s1.trans s')⟩
def Ag (G:Good X C n sp){apos Z1:Pos}(h:C.nm i nx=Ω)(hl:oG apos Z1=Ω)(hs:j9 b=Ξ)(hb:FR X C b eb):FE X C (.Call (.Attribute (.Name nx p) (hW "index") apos) [b] [] Z1) (Ai rV i eb):=CN PySem.F.slot_list_index PySem.F.type_list_index (BI G.room.units) G h hl hs hb
def Ah (G:Good X C n sp){apos Z1:Pos}(h:C.nm i nx=Ω)(hl:oG apos Z1=Ω)(hs:j9 b=Ξ)(hb:FR X C b eb):FE X C (.Call (.Attribute (.Name nx p) (hW "count") apos) [b] [] Z1) (Ai su i eb):=CN PySem.F.slot_list_count PySem.F.type_list_count (BJ G.room.units) G h hl hs hb
end
abbrev BC:List FV->Option (List (Option Int))
 | []=>Ψ []
 | .int i :: r=>(BC r).map (Ψ i :: ·)
 | .non :: r=>(BC r).map (Φ :: ·)
 | _=>Φ
def BF {a b:Option Int}(h:oK a=oK b):a=b:=by
 cases a<;>cases b<;>first|rfl|cases h
 rfl
abbrev Db (n m:Nat)(tg:Tg)(t:BW)(ek ev:EW):List FV->List (List (Option Int))->List FV->jR->(List (List (Option Int))->List FV->jR->Prop)->Prop
 | [],ks,vs,L,Q=>Q ks vs L
 | x :: xs,ks,vs,L,Q=>gW tg x (L++gf m Φ) λL1=>t L1 λb L2=>if b=Ω then ek L2 λkx L3=>wp (qL kx) λps=>wp (BC ps) λk=>ev L3 λv L4=>Db n m tg t ek ev xs (k6 ks vs k v).1 (k6 ks vs k v).2 (L4.take n) Q else Db n m tg t ek ev xs ks vs (L2.take n) Q
section
variable {H:Hp}
def uH {H:Hp}{a:jP}{u:HO}{z:Option Obj}(h:H a=Ψ (Go u z)):Rd H a u:=by
 cases z with
 | none=>exact .inl h
 | some o=>exact .inr ⟨o,h⟩
end
abbrev oF:Option Int->FV
 | some i=>.int i
 | none=>.non
abbrev qS (v:FV)(lo hi:Option Int):Option FV:=(lN v).map λxs=>.lst (lJ xs lo hi)
abbrev Fc (a:EW)(l h:OW):EW:=λL Q=>a L λx L1=>l L1 λi L2=>h L2 λj L3=>wp (qS x i j) λz=>Q z L3
inductive RslL (K:ib)(x:V)(lo:Option Int)(hi:Option Int)(H:Hp)(Q:VK):Prop
 | mk (S:_)(v:_)(z:_)(_:Same S H)(_:RH K S H v x)(_:qS v lo hi=Ψ z)(_:NewOr K S H Q z):RslL K x lo hi H Q
section
variable {X:Cx}{C:CC}{a:Expr}{ea:EW}{pos:Pos}
def KD:J4 X (RslL X.K):=by
 intro Z9 s σ H x v vl vu lo hi sl Q I rx hsl pl pu ⟨S,p,z,hs,rp,e,k⟩
 let(ps,e1,rfl):=bq.mp e
 let(a,xs,rfl,ha,ra):=rp.list hs e1
 exact yi Z9 s σ H _ v vl vu lo hi sl Q I rx hsl pl pu ⟨a,xs,rfl,ha,λp hp=>k.lst _ _ p rfl (vi ra) hp⟩
variable {xl xh:Option Expr}{wl wh:OW}{p2:Pos}
def OY (ha:FE X C a ea)(hl:FO X C xl wl)(hh:FO X C xh wh):FE X C (.Subscript a (.Slice xl xh Φ p2) pos) (Fc ea wl wh):=PE.imp (vS KD ha hl hh) λσ H Q q1=>by let(c,L,S,Q0,I,h,k):=q1;exact
 ⟨c,L,S,_,I,h,λv L1 hv x S1 H1 r1 I1 s1=>⟨c,L1,S1,_,I1,hv,λo1 L2 h1 S2 H2 I2 s2=>⟨c,L2,S2,_,I2,h1,λo2 L3 h2 S3 H3 I3 s3=>by
  let(z,e,q):=kq h2
  exact⟨S3,v,z,I3.sub,.inl (r1.mono (s2.trans s3)),e,o9 I3 λx S' H' r I' s'=>k z L3 q x S' H' r I' (s1.trans (s2.trans (s3.trans s')))⟩⟩⟩⟩
end
nonrec def NA (a:EW)(l h:OW)(L:jR)(Q:FV->jR->Prop):Fc a l h L Q=(a L λx L1=>l L1 λi L2=>h L2 λj L3=>wp (qS x i j) λz=>Q z L3):=propext Iff.rfl
nonrec def k_slL (v:FV)(lo hi:Option Int)(Q:FV->Prop):wp (qS v lo hi) Q↔wp (lN v) λxs=>Q (.lst (lJ xs lo hi)):=lW _ _ _
mutual
noncomputable def fla:FV->Bool
 | .non=>Ω
 | .bl _=>Ω
 | .int _=>Ω
 | .str _=>Ω
 | .shn _=>Ω
 | .scr _=>Ω
 | .tup xs=>flas xs
 | .lst _=>Ξ
 | .dct _ _=>Ξ
 | .dci _ _=>Ξ
 | .dcz _ _ _=>Ξ
 | .dcn _ _ _=>Ξ
 | .obj _ _ _ _=>Ξ
 | .dco _ _ _=>Ξ
 | .shf _ _ _ _=>Ξ
 | .adr _=>Ω
noncomputable def flas:List FV->Bool
 | []=>Ω
 | x :: xs=>fla x && flas xs
end
abbrev ownNo (v:FV):Bool:=match zQ v with
 | some ps=>flas ps
 | none=>Ξ
abbrev nl (S:Hp):Hp:=λa=>match S a with
 | some (.lst _)=>Φ
 | o=>o
section
variable {K:ib}{S:Hp}
def Gf {a:jP}{o:HO}(h:S a=Ψ o)(n:∀ xs,o≠.lst xs):nl S a=Ψ o:=by
 unfold nl
 split
 ·rename_i xs z;rw[h] at z;exact absurd (fo z) (n xs)
 ·exact h
mutual
theorem RV.nl:∀ {p:FV}{v:V},fla p=Ω->RV K S p v->RV K (nl S) p v
 | .non,v,_,h=>h
 | .bl b,v,_,h=>h
 | .int i,v,_,h=>h
 | .str _,v,_,h=>h
 | .shn _,v,_,h=>h
 | .tup ps,v,n,q1=>by let(a,xs,e,h1,h2):=q1;exact⟨a,xs,e,Gf h1 (λ_ z=>nomatch z),RVs.nl n h2⟩
 | .lst ps,v,n,h=>by cases n
 | .dct ks vs,v,n,h=>by cases n
 | .dci ks vs,v,n,h=>by cases n
 | .dcz o ks vs,v,n,h=>by cases n
 | .dcn z ks vs,v,n,h=>by cases n
 | .obj _ _ _ _,v,n,h=>by cases n
 | .dco _ _ _,v,n,h=>by cases n
 | .shf _ _ _ _,v,n,h=>by cases n
 | .adr _,v,_,h=>h
 | .scr ns,v,_,q2=>by let(a,e,h):=q2;exact⟨a,e,h.elim (λq3=>by let(o,h):=q3;exact .inl ⟨o,Gf h (λ_ z=>nomatch z)⟩) .inr⟩
theorem RVs.nl:∀ {ps:List FV}{vs:List V},flas ps=Ω->RVs K S ps vs->RVs K (nl S) ps vs
 | [],vs,_,h=>h
 | p :: ps,vs,n,q1=>by let(v,r,e,h1,h2):=q1;exact⟨v,r,e,RV.nl (b2 n).1 h1,RVs.nl (b2 n).2 h2⟩
end
end
def rE {a b:Str}(ha:ic a=Ω)(hb:ic b=Ω):ic (a++b)=Ω:=by
 show Array.all (a.cps++b.cps) _=Ω
 rw[Array.all_append]
 exact bY.mpr ⟨ha,hb⟩
def Ej {s:Str}(hs:ic s=Ω):∀ {ts:List Str},(∀ t∈ts,ic t=Ω)->ic (Str.join s ts)=Ω
 | [],_=>xn ""
 | [a],h=>h a ∅
 | a :: b :: r,h=>by
  simp![Str.join]
  exact rE (rE (h a ∅) hs) (Ej hs λt ht=>h t (by simp[gM.mp ht]))
def Ek:∀ {ts:List Str}{k:Nat}{Z8:Str},ic Z8=Ω->(∀ t∈ts,ic t=Ω)->ic (textFrom k Z8 ts)=Ω
 | [],k,Z8,ha,_=>ha
 | t :: r,k,Z8,ha,h=>by
  unfold textFrom
  exact Ek ?_ λx hx=>h x (by simp[hx])
  split
  ·exact rE (rE ha (xn _)) (h t ∅)
  ·exact rE ha (h t ∅)
end Kq
namespace Kq
@[scoped simp ↓ high] theorem lk_1 (a0:Option FV)(v:FV)(L:jR)(Q:FV->Prop):wp (lk (a0 :: Ψ v :: L) 1) Q=Q v:=propext Iff.rfl
@[scoped simp ↓ high] theorem lk_2 (a0 a1:Option FV)(v:FV)(L:jR)(Q:FV->Prop):wp (lk (a0 :: a1 :: Ψ v :: L) 2) Q=Q v:=propext Iff.rfl
@[scoped simp ↓ high] theorem lk_3 (a0 a1 a2:Option FV)(v:FV)(L:jR)(Q:FV->Prop):wp (lk (a0 :: a1 :: a2 :: Ψ v :: L) 3) Q=Q v:=propext Iff.rfl
@[scoped simp ↓ high] theorem lk_4 (a0 a1 a2 a3:Option FV)(v:FV)(L:jR)(Q:FV->Prop):wp (lk (a0 :: a1 :: a2 :: a3 :: Ψ v :: L) 4) Q=Q v:=propext Iff.rfl
@[scoped simp ↓ high] theorem lk_5 (a0 a1 a2 a3 a4:Option FV)(v:FV)(L:jR)(Q:FV->Prop):wp (lk (a0 :: a1 :: a2 :: a3 :: a4 :: Ψ v :: L) 5) Q=Q v:=propext Iff.rfl
@[scoped simp ↓ high] theorem lk_6 (a0 a1 a2 a3 a4 a5:Option FV)(v:FV)(L:jR)(Q:FV->Prop):wp (lk (a0 :: a1 :: a2 :: a3 :: a4 :: a5 :: Ψ v :: L) 6) Q=Q v:=propext Iff.rfl
@[scoped simp ↓ high] theorem lk_7 (a0 a1 a2 a3 a4 a5 a6:Option FV)(v:FV)(L:jR)(Q:FV->Prop):wp (lk (a0 :: a1 :: a2 :: a3 :: a4 :: a5 :: a6 :: Ψ v :: L) 7) Q=Q v:=propext Iff.rfl
@[scoped simp ↓ high] theorem lk_8 (a0 a1 a2 a3 a4 a5 a6 a7:Option FV)(v:FV)(L:jR)(Q:FV->Prop):wp (lk (a0 :: a1 :: a2 :: a3 :: a4 :: a5 :: a6 :: a7 :: Ψ v :: L) 8) Q=Q v:=propext Iff.rfl
@[scoped simp ↓ high] theorem lk_9 (a0 a1 a2 a3 a4 a5 a6 a7 a8:Option FV)(v:FV)(L:jR)(Q:FV->Prop):wp (lk (a0 :: a1 :: a2 :: a3 :: a4 :: a5 :: a6 :: a7 :: a8 :: Ψ v :: L) 9) Q=Q v:=propext Iff.rfl
@[scoped simp ↓ high] theorem lk_10 (a0 a1 a2 a3 a4 a5 a6 a7 a8 a9:Option FV)(v:FV)(L:jR)(Q:FV->Prop):wp (lk (a0 :: a1 :: a2 :: a3 :: a4 :: a5 :: a6 :: a7 :: a8 :: a9 :: Ψ v :: L) 10) Q=Q v:=propext Iff.rfl
@[scoped simp ↓ high] theorem lk_11 (a0 a1 a2 a3 a4 a5 a6 a7 a8 a9 a10:Option FV)(v:FV)(L:jR)(Q:FV->Prop):wp (lk (a0 :: a1 :: a2 :: a3 :: a4 :: a5 :: a6 :: a7 :: a8 :: a9 :: a10 :: Ψ v :: L) 11) Q=Q v:=propext Iff.rfl
@[scoped simp ↓ high] theorem lk_12 (a0 a1 a2 a3 a4 a5 a6 a7 a8 a9 a10 a11:Option FV)(v:FV)(L:jR)(Q:FV->Prop):wp (lk (a0 :: a1 :: a2 :: a3 :: a4 :: a5 :: a6 :: a7 :: a8 :: a9 :: a10 :: a11 :: Ψ v :: L) 12) Q=Q v:=propext Iff.rfl
@[scoped simp ↓ high] theorem lk_13 (a0 a1 a2 a3 a4 a5 a6 a7 a8 a9 a10 a11 a12:Option FV)(v:FV)(L:jR)(Q:FV->Prop):wp (lk (a0 :: a1 :: a2 :: a3 :: a4 :: a5 :: a6 :: a7 :: a8 :: a9 :: a10 :: a11 :: a12 :: Ψ v :: L) 13) Q=Q v:=propext Iff.rfl
@[scoped simp ↓ high] theorem lk_14 (a0 a1 a2 a3 a4 a5 a6 a7 a8 a9 a10 a11 a12 a13:Option FV)(v:FV)(L:jR)(Q:FV->Prop):wp (lk (a0 :: a1 :: a2 :: a3 :: a4 :: a5 :: a6 :: a7 :: a8 :: a9 :: a10 :: a11 :: a12 :: a13 :: Ψ v :: L) 14) Q=Q v:=propext Iff.rfl
@[scoped simp ↓ high] theorem lk_15 (a0 a1 a2 a3 a4 a5 a6 a7 a8 a9 a10 a11 a12 a13 a14:Option FV)(v:FV)(L:jR)(Q:FV->Prop):wp (lk (a0 :: a1 :: a2 :: a3 :: a4 :: a5 :: a6 :: a7 :: a8 :: a9 :: a10 :: a11 :: a12 :: a13 :: a14 :: Ψ v :: L) 15) Q=Q v:=propext Iff.rfl
end Kq
namespace Kq
open PySem PySem.Spec PySem.Calls PyProof.Rows L2 PySem.W
def AC (h:jM):AllIn (nZ h) h:=λp hp=>by
 let(a,_,e):=cP.mp hp
 let(o,e1,e2):=bq.mp e
 rw[<- e2];exact e1
def HM {r:Option (Option jF)}{f:jP}(h:Ox r f=Ω):r=Ψ (Ψ (.ref f)):=by
 unfold Ox at h
 split at h
 ·rw[beq_iff_eq.mp h]
 ·cases h
def yO {r:Option (Option jF)}(h:EE r=Ω):r=Ψ Φ:=by
 unfold EE at h
 split at h
 ·rfl
 ·cases h
def uU {r:Option (Option jF)}{x:String}(h:Ch r x=Ω):r=Ψ (Ψ (.builtin x)):=by
 unfold Ch at h
 split at h
 ·rw[beq_iff_eq.mp h]
 ·cases h
def qj {r:Option jF}{f:jP}(h:Gh r f=Ω):r=Ψ (.ref f):=by
 unfold Gh at h
 split at h
 ·rw[beq_iff_eq.mp h]
 ·cases h
structure CF (K:jN)(mg:Str->Option jF)(c:CSp):Prop where
 x:c.x K mg=Ω
 mg:mg c.c=Ψ (.ref c.a)
 cl:Cls K c.a
 fl:∀ f∈c.fl,NoAttr K c.a f
 ms:∀ m∈c.ms,findIn K (.ref c.a) m.1=Ψ (Ψ (.ref m.2))/\isFn K (.ref m.2)=Ω/\keepIn K (.ref m.2)=Ω/\M7 K m.2=Ω
 mks:makesIn K c.a=Ω
 kp:keepIn K (.ref c.a)=Ω
def CF.of {K:jN}{mg:Str->Option jF}{c:CSp}(h:cB K mg c=Ω):CF K mg c:=by
 let(h1,h):=b2 h
 let(h2,h):=b2 h
 let(h3,h):=b2 h
 let(h4,h):=b2 h
 let(h5,h):=b2 h
 let(h6,h):=b2 h
 let(h7,h):=b2 h
 let(h8,h):=b2 h
 let(h9,h10):=b2 h
 exact⟨h10,qj h1,⟨h2,h3,h4,uU h5⟩,λf hf=>yO (eO.mp h6 f hf),λm hm=>?_,h8,h9⟩
 let(g1,g):=b2 (eO.mp h7 m hm)
 let(g2,g):=b2 g
 let(g3,g4):=b2 g
 exact⟨HM g1,g2,g3,g4⟩
inductive VF (K:jN)(p:Vw):Prop
 | mk (fd:_)(_:Fun K p.m p.q p.st p.f fd):VF K p
abbrev YPC (vw:List Vw)(w:jE)(h:jM):Prop:=∀ p∈vw,∃ o,h.get? p.f=Ψ o/\F1 o=Ψ p.due
def YPC.of {vw:List Vw}{w:jE}{s:jw}(h:YfC vw s=YaC vw):YPC vw w s.heap:=λp hp=>by
 let(i,hi,e):=bS.mp hp
 have:=congrArg (·[i]?) h
 simp![YfC,YaC,dJ,aV hi,e,Option.map_some] at this
 exact Option.bind_eq_some_iff.mp (fo this)
def YPC.keeps {vw:List Vw}{w:jE}{h h':jM}(y:YPC vw w h)(k:∀ (b:jP)(o:Obj),h.get? b=Ψ o->h'.get? b=Ψ o):YPC vw w h':=λp hp=>let ⟨o,e1,e2⟩:=y p hp;⟨o,k _ _ e1,e2⟩
def VF.of {vw:List Vw}{w:jE}{h:jM}{K:jN}(A:AllIn K h)(y:YPC vw w h){p:Vw}(hp:p∈vw)(kp:keepIn K (.ref p.f)=Ω)(fb:M7 K p.f=Ω):VF K p:=by
 let(o,e1,e2):=y p hp
 unfold M7 at fb
 split at fb
 ·rename_i oc od fd osl lk
  have:=A _ (ma lk)
  rw[e1] at this
  cases this
  let e3:ya fd=p.due:=fo e2
  let(f1,f2,f3,f4,f5,f6,f7,f8,f9,f10,f11,f12,f13,f14,f15):=fd
  simp![ya,Vw.due,fnOf,Prod.mk.injEq] at e3
  let(rfl,rfl,rfl,rfl,rfl,rfl,rfl,rfl,rfl):=e3
  exact⟨_,Cv lk fb kp⟩
 ·cases fb
inductive XPC (q:jn)(cs:List CSp)(mg:Str->Option jF)(h:jM):Prop
 | mk (_:XL q [] mg h)(K:_)(_:AllIn K h)(_:allB cs ((recsOf q).map (·.name)) K mg=Ω):XPC q cs mg h
def XPC.of {q:jn}{cs:List CSp}(s:jw)(h:XtC q cs s=Ω):XPC q cs (s.heap.nsMap mainGlobals) s.heap:=⟨xl_of s (b2 h).1,_,AC _,(b2 h).2⟩
def XPC.keeps {q:jn}{cs:List CSp}(mg:Str->Option jF)(h h':jM)(x:XPC q cs mg h)(k:∀ (b:jP)(o:Obj),h.get? b=Ψ o->h'.get? b=Ψ o):XPC q cs mg h':=let ⟨x1,K,x2,x3⟩:=x;⟨XL.keeps mg h h' x1 k,K,λp hp=>k _ _ (x2 p hp),x3⟩
def DIn.in {q:jn}{loose:List Str}{mean:ExcName->Option jF}{mg mb:Str->Option jF}{h:jM}{K:jN}(T:Top q loose mean mg mb h)(A:AllIn K h){d:jC}(hd:d∈recsOf q)(b:dB K mg d.name=Ω):DIn K mg d:=by
 let(a,o,pm,cd,doc,g1,g2,g3,c,oc,vs,t,g4,g5,g6):=T.fn d hd
 unfold dB at b
 rw[g1] at b
 dsimp only at b
 split at b
 ·rename_i x1 x2 fd x3 lk
  have:=A _ (ma lk)
  rw[g2] at this
  cases this
  cases g3
  rw[g4] at b
  let(u,hu):=aT.mp b
  let h2:=A _ (ma hu)
  rw[g5] at h2
  cases h2
  exact⟨a,_,pm,cd,doc,g1,ma lk,rfl,c,_,vs,t,g4,ma hu,g6⟩
 ·cases b
def walkC {l:jo}{n k:Nat}{q:jn}{cs:List CSp}{vw:List Vw}{d:jC}{ds:List jC}{x:Str}{sp:jN->Sp}
  (hn:l.most=Ψ n)(hn2:n<=sizeLine)(hdf:d.params.defaults=[])(hr:Room k callerA)(hds:ds=recsOf q)(hfree:(bltNames.all λb=>freeIn q (looseW q []) (hW b))=Ω)(hvw:(vw.all λp=>cs.any λc=>c.ms.any λm=>m.2 == p.f)=Ω)
  (F:∀ (w:jE)(K:jN)(mg:Str->Option jF)(fa:jP)(h:jM),AllIn K h->(∀ d∈ds,DIn K mg d)->(∀ c∈cs,CF K mg c)->(∀ p∈vw,VF K p)->(∀ b∈bltNames,mg (hW b)=Φ)->mg d.name=Ψ (.ref fa) ->
   ∃ fd:jm,(∀ (s:jw)(u:jF),ju s fd ⟨[u],[]⟩ [(x,u)])/\∀ base:jM,FnOk l.prog w K mg base w9 k fa fd [x] (sp K))
  (hsp:∀ (K:jN)(H:Hp)(a:jP)(ns:List Int),ns.length<=n->FY H->SqL K H a (ns.map V.int)->sp K [.ref a] H (λv _=>v=.bl Ω) λ_ _ _=>False) :
  WalkO q [] (XPC q cs) (YPC vw) l.row.toRowW d [] (λf vs=>iY f vs):=by
 exact Att.attach_call hn hdf λw s₀ s₁ mg mb fa o pm cd doc a vs ns G Y ho hd hcd hmg hobj hints hlen hg=>?_
 let(_,K,hK,hB):=G.X
 let hB:=b2 hB
 let hC:∀ c∈cs,CF K mg c:=λc hc=>CF.of (eO.mp hB.2 c hc)
 let hD:∀ d∈ds,DIn K mg d:=λd hd=>DIn.in G.T hK (hds ▸ hd) (eO.mp hB.1 _ (ir.mpr ⟨d,hds ▸ hd,rfl⟩))
 let hV:∀ p∈vw,VF K p:=λp hp=>by
  let(c,hc,z):=List.any_eq_true.mp (eO.mp hvw p hp)
  let(m,hm,z):=List.any_eq_true.mp z
  let z:=beq_iff_eq.mp z
  let(_,_,g3,g4):=(hC c hc).ms m hm
  exact VF.of hK Y hp (z ▸ g3) (z ▸ g4)
 let(fd,hb,hF):=F w K mg fa _ hK hD hC hV (λb hb=>ET G.T (eO.mp hfree b hb)) hmg
 exact B4 hK.to G.T.g G.T.b G.T.builtins G.T.nolimit hg hobj hints (ik hlen hn2) hr (λbase _ _=>hF base) hb (λH hO hS=>hsp K H a ns hlen hO hS) λH e s' z=>z
def row_holdsC {l:jo}{q:jn}{cs:List CSp}{vw:List Vw}{d:jC}{N:Nat}(said:l.wellSaid=Ω)(left:LeftO l.prog q [] (λs=>XtC q cs s && recOk (RowW.records l.row.toRowW) s) (YfC vw) (λ_=>YaC vw) N)
  (hdef:defOf q l.name=Ψ (d,[]))(hp:l.prog.theDef l.name=Ψ (d.params,d.body,d.scope))(hk:kwWritten? d.params.kwonlyargs d.params.kw_defaults=Ψ [])(hwr:(!l.writes || l.row.records.isEmpty)=Ω)
  (ok:(chainsOk q && opensWell l.prog && (frees l.row.toRowW && l.row.within.isEmpty))=Ω)(hb:l.prog.bare)(hw:l.row.toRowW.promised)
  (call:WalkO q [] (XPC q cs) (YPC vw) l.row.toRowW d [] λf vs=>iY f vs):l.Holds :=
 holds_law said λk1=>holds_open (r:=l.row) left (λw s h=>YPC.of h) (λw h h' y k=>y.keeps k) (λs e=>XPC.of s (bY.mp e).1) XPC.keeps hdef hp hk (λs e=>recFacts_of (bY.mp e).2) hwr k1 ok hb hw call
end Kq
namespace Kq
open PySem PySem.Spec PyProof.Rows L2
section
variable {gs:List (jP×List V)}
abbrev putG (gs:List (jP×List V))(l:jP)(ys:List V):List (jP×List V):=gs.map λg=>if g.1=l then (l,ys) else g
end
abbrev vF:V->Option FV
 | .int i=>Ψ (.int i)
 | .non=>Ψ .non
 | _=>Φ
abbrev vI:FV->Option V
 | .int i=>Ψ (.int i)
 | .non=>Ψ .non
 | _=>Φ
abbrev lsA (fs:List (Str×V))(gs:List (jP×List V))(f:Str):Option (jP×List V):=match fs.lookup f with
 | some (.ref l)=>(gs.lookup l).map λys=>(l,ys)
 | _=>Φ
def EH {α:Type}{c:Prop} [Decidable c] {a:Option α}{z:α}(h:(if c then a else Φ)=Ψ z):c/\a=Ψ z:=by
 by_cases y:c
 ·rw[if_pos y] at h;exact⟨y,h⟩
 ·rw[if_neg y] at h;cases h
def RV.vF {K:ib}{S:Hp}{v:V}{z:FV}(h:Kq.vF v=Ψ z):RV K S z v:=by
 cases v<;>cases h<;>rfl
def RV.vI {K:ib}{S:Hp}{z:FV}{u x:V}(h:Kq.vI z=Ψ u)(r:RV K S z x):x=u:=by
 cases z<;>cases h
 ·exact r
 ·exact r
section
variable {pos p apos:Pos}{nx:Str}{xs:List Expr}{m:Str}
def oP {env : Env} {es : List Expr} (hl : (apos.endLine == pos.line) = Ω) (hf : methodCallForm (es.length + ([] : List Keyword).length) (backTo pos (starEach es env)) (backToKw pos (keywordEach [] env)) = Ω) : ∃ pl : Sem Bool, eval (.Call (.Attribute (.Name nx p) m apos) es [] pos) env = (do
      let ov <- eval (.Name nx p) env
      standAt apos.atName
      let (f,first) <- holding [ov] (getMethod ov m pl)
      callWith pos f first (backTo pos (starEach es env)) (backToKw pos (keywordEach [] env))):=by
  refine ⟨(do
      let x <- importBound (Expr.Name nx p) env
      pure (x.getD Ω)),?_⟩
  rw[arm_eval_Call]
  show (do
      let ov <- attributeBase (Expr.Name nx p) m env (eval (Expr.Name nx p) env)
      standAt apos.atName
      methodCall (Expr.Name nx p) m apos pos env ov (es.length+([]:List Keyword).length) (backTo pos (starEach es env)) (backToKw pos (keywordEach [] env)))=_
  unfold methodCall
  rw[hf]
  unfold methodCallPos calleeOf
  rw[show (!Ω || apos.endLine == pos.line)=Ω from hl]
  rfl
def yT:∀ {xs:List Expr}{env:Env},kE xs=Ω->(backTo pos (starEach xs env)).all (λx=>!x.1)=Ω
 | [],_,_=>rfl
 | x :: xs,env,h=>by
  let h:=b2 (show (!j9 x && kE xs)=Ω from h)
  rw[jU (nb h.1)]
  show (Ω && (backTo pos (starEach xs env)).all (λx=>!x.1))=Ω
  rw[yT h.2];rfl
def wE {xs:List Expr}{env:Env}(h:kE xs=Ω)(hl:Δ (xs.length<30)=Ω):methodCallForm (xs.length+([]:List Keyword).length) (backTo pos (starEach xs env)) (backToKw pos (keywordEach [] env))=Ω:=by
 unfold methodCallForm
 rw[yT h]
 show (Ω && Ω && Δ (xs.length+0+0<30))=Ω
 exact hl
end
abbrev rC:SW:=λ_ _=>False
nonrec def MA (L:jR)(Q:FFl->jR->Prop):rC L Q=False:=rfl
section
variable {X:Cx}{C:CC}{fr:Bool}
def OJ {st:jL}:FS X C fr st rC:=λZ9 s σ H D I q1=>by let(c,L,S,Q0,_,h,_):=q1;exact h.elim
end
noncomputable abbrev NG:=jP×List V×List FV
abbrev Oh (gs:List NG):List V:=gs.map λg=>V.ref g.1
abbrev prG (gs:List NG):List (jP×HO):=gs.map λg=>(g.1,HO.lst g.2.1)
abbrev cN (c:Cn)(Z8:jP)(gs:List NG):Cn:={ c with pr:=(Z8,.lst (Oh gs)) :: (prG gs++c.pr) }
abbrev eIsL (e:EW):EW:=λL Q=>e L λv L1=>∃ ps,v=.lst ps/\Q v L1
abbrev K6 (tg:Tg)(ix a:EW):List FV->List (List FV)->jR->(List (List FV)->jR->Prop)->Prop
 | [],pss,L,Q=>Q pss L
 | z :: zs,pss,L,Q=>gW tg z L λL1=>ix L1 λi L2=>∃ (k:Nat)(ps:List FV),i=.int k/\pss[k]?=Ψ ps/\ps.length<big/\a L2 λv L3=>K6 tg ix a zs (pss.set k (ps++[v])) L3 Q
section
variable {K:ib}{c:Cn}{md:Md}{L:jR}{σ:L2.St}{S H:Hp}{j:Nat}
def Iv.blankO (I:Iv K c md L σ S H)(m:jX md j=.imm)(x:Option V):Iv K c md (L.set j Φ) (σ.set j x) S H:=by
 let ne:∀ {i u},(L.set j Φ)[i]?=Ψ (Ψ u)->i≠j/\L[i]?=Ψ (Ψ u):=λz=>AZ z
 let sg:∀ {i},i≠j->(σ.set j x)[i]?=σ[i]?:=λh=>bV (jp h)
 exact⟨by rw[fB,fB];exact I.len,λi u hm z=>?_,λi u hm z=>?_,λi k u w a m1 m2 z1 z2 y1 y2=>?_,I.sub,I.frame,I.s0,I.grow,λb z=>?_,λp hp=>?_,λi u hm z=>I.fzm i u hm (ne z).2,I.fzp,λp hp=>?_,I.ntp,λq hq=>?_,λy k x C dx fs w h1 h2 h3 h4=>?_⟩
 ·rw[sg (ne z).1];exact I.imm i u hm (ne z).2
 ·rw[sg (ne z).1];exact I.own i u hm (ne z).2
 ·rw[sg (ne z1).1] at y1;rw[sg (ne z2).1] at y2
  exact I.dis i k u w a m1 m2 (ne z1).2 (ne z2).2 y1 y2
 ·let(g1,g2,v,g3):=I.lent b z
  have:(0:Nat)≠j:=λy=>g1 (by rw[y];exact m)
  exact⟨g1,by rw[sg this];exact g2,v,by rw[rn this];exact g3⟩
 ·let(g1,g2,v,g3):=I.fzs p hp
  have:p.1≠j:=λy=>by rw[y,m] at g1;cases g1
  exact⟨g1,by rw[sg this];exact g2,v,by rw[rn this];exact g3⟩
 ·let(g1,g2,g3):=I.prs p hp
  exact⟨g1,g2,λi u hm z=>by rw[sg (ne z).1];exact g3 i u hm (ne z).2⟩
 ·let(g1,g2,v,g3):=I.lnt1 q hq
  have:q.1≠j:=λy=>by rw[y,m] at g1;cases g1
  exact⟨g1,by rw[sg this];exact g2,v,by rw[rn this];exact g3⟩
 ·rw[sg (ne h4).1];exact I.tie y k x C dx fs w h1 h2 (ne h3).2 (ne h4).2
end
end Kq
namespace Kq
open PySem PySem.Spec PyProof.Rows L2 PySem.W
abbrev Mk4 (mask:Nat):Prop:=mask=7 ∨ mask=31 ∨ mask=127 ∨ mask=511
abbrev L6 (t:jh):Nat->fV->fV
 | 0,p=>p
 | k+1,p=>L6 t k (t.advance p)
abbrev pth (t:jh) (h:Int) (n:Nat):Nat:=(L6 t n (t.probeStart h)).j
inductive Pth (t:jh)(occ:Nat->Prop) (h:Int) (j:Nat):Prop
 | mk (n:_)(_:pth t h n=j)(_:∀ n',n'<n->occ (pth t h n')):Pth t occ h j
structure TabT (t:jh) (n:Nat):Prop where
 m4:Mk4 t.mask
 dm:t.dummies = #[]
 rs:GA t.place
 sz:t.place.size=n
 lo:n*5<t.mask*3
abbrev hT (k:List Int):Int:=reduceHash (Builtin.Tuple.tupleHashOf (k.map hashInt))
end Kq
namespace Kq
open PySem PySem.Spec PyProof.Rows L2
abbrev adT (Z8:List (List Int))(k:List Int):List (List Int):=if k∈Z8 then Z8 else Z8++[k]
end Kq
namespace Kq
open PySem PySem.Spec PySem.Calls PyProof.Rows PySem.W
section
variable {prog:jn}{w:jE}{A:jD}{E:jF->jw->Prop}{K:jN}{x D:jP}{o:Obj}
structure XCls (K:jN)(D:jP):Prop where
 cl:(clsIn K D).isSome=Ω
 ga:findIn K (.ref D) "__getattribute__" = Ψ (Ψ (.builtin "BaseException.__getattribute__"))
 gt:findIn K (.ref D) "__getattr__" = Ψ Φ
 ca:findIn K (.ref D) "__class__" = Ψ (Ψ (.builtin "object.__class__"))
 ob:mroIn K D (.type "object")=Ψ Ω
 be:mroIn K D (.type "BaseException")=Ψ Ω
def J7 {h:jM} {g d t os}{R:jx->jw->Prop}(C:XCls K D)(X:K.In h)(hx:h.get? x=Ψ o)(hc:o.cls=.ref D)(hq:R (.ok (.ret (.ref D))) ⟨h,g,d,t,os⟩) :
  codeAny (model prog w) A (.call (.builtin "getset_descriptor.__get__") ⟨[.builtin "object.__class__",.ref x,.ref D],[]⟩) R ⟨h,g,d,t,os⟩:=by
 let hT5:(⟨h,g,d,t,os⟩:jw).TypeIs (.builtin "object.__class__") "getset_descriptor":=F.typeOf_object_class
 let L1:Looks (model prog w) h (isSubtype (.ref D) (.type (".".intercalate ("object.__class__".cutAt '.').dropLast))) Ω:=by rw[F.owner_object_class];exact looks_mroIn X C.ob
 exact codeAny_call_builtin F.slot_gs_get.plain F.entry_gs_get (F.slot_gs_get.check _ _ _ _ _ _ _ _ hT5 (F.args_gs_get _ _ _) ?_)
 repeat (any_goals (first|assumption|(with_reducible exact wpAny_loadPart_at hx ?_;rw[hc])|with_reducible exact L1.at ?_|wp_step))
 exact⟨Code.quiet_builtin _ (by nofun),fg F.entry_object_class ?_⟩
 repeat (any_goals (first|assumption|(with_reducible exact wpAny_loadPart_at hx ?_;rw[hc])|wp_step))
def Dw {h:jM} {g d t os}{tk:Tok}{Q:Fin->jw->Prop}(C:XCls K D)(X:K.In h)(hx:h.get? x=Ψ o)(hc:o.cls=.ref D)(hq:Q (.done (.ret (.ref D))) ⟨h,g,d,t,os⟩) :
  wpAny (model prog w) A (jt.«object.__getattribute__» ⟨[.ref x,.str "__class__" tk],[]⟩) Q E ⟨h,g,d,t,os⟩:=by
 let hT5:(⟨h,g,d,t,os⟩:jw).TypeIs (.builtin "object.__class__") "getset_descriptor":=F.typeOf_object_class
 let L4:=looks_findIn (M:=model prog w) X C.ca
 let f5:=F.typeOf_object_class
 let f6:=F.slot_gs_get.lookup
 let f7:=F.slot_gs_set.lookup
 repeat (any_goals (first|assumption|(with_reducible exact wpAny_loadPart_at hx ?_;rw[hc])|with_reducible exact L4.at ?_|wp_step))
 exact J7 C X hx hc ?_
 repeat (any_goals (first|assumption|wp_step))
def Dy {h:jM} {g d t os}{M:jH}{nv:jF}{Q:Unit->jw->Prop}(C:XCls K D)(X:K.In h)(hx:h.get? x=Ψ o)(hc:o.cls=.ref D)(hq:Q () ⟨h,g,d,t,os⟩) :
  wpAny M A (checkBuiltinCall "BaseException.__getattribute__" ⟨[.ref x,nv],[]⟩) Q E ⟨h,g,d,t,os⟩:=by
 let hk:builtinKind "BaseException.__getattribute__" = Ψ .slot:=by nofun
 let hsp:splitId "BaseException.__getattribute__" = Ψ ("BaseException","__getattribute__"):=by nofun
 let L1:=looks_mroIn (M:=M) X C.be
 let ha:=F.args_bexc_ga (.ref x) nv
 simp![checkBuiltinCall,hk,hsp]
 exact iR ?_
 ·unfold isInstance
  repeat (first|(with_reducible exact wpAny_loadPart_at hx ?_;rw[hc])|with_reducible exact L1.at ?_|wp_step)
  exact hq
def NX {h:jM} {g d t os}{tk:Tok}{fill:Bool}{Q:jF->jw->Prop}(C:XCls K D)(X:K.In h)(hx:h.get? x=Ψ o)(hc:o.cls=.ref D)(hq:Q (.ref D) ⟨h,g,d,t,os⟩) :
  wpAny (model prog w) A (getAttrBy (.ref x) (.str "__class__" tk) fill) Q E ⟨h,g,d,t,os⟩:=by
 let f3:=F.excAttr_ValueError.ga.bind (.ref x)
 let hx2:(Value.builtin "BaseException.__getattribute__" == Value.builtin "object.__getattribute__")=Ξ:=by nofun
 let hx1:(onTheHeap (Value.ref D) && Value.builtin "BaseException.__getattribute__" == Value.builtin "object.__getattribute__")=Ξ:=by rw[hx2];rfl
 let L1:=looks_findIn (M:=model prog w) X C.ga
 let L2:=looks_findIn (M:=model prog w) X C.gt
 repeat (any_goals (first|assumption|(with_reducible exact wpAny_loadPart_at hx ?_;rw[hc])|with_reducible exact L1.at ?_|with_reducible exact L2.at ?_|wp_step))
 exact codeAny_call_builtin F.excAttr_ValueError.ga.plain F.entry_bexc_ga (Dy C X hx hc (Dw C X hx hc ?_))
 repeat (any_goals (first|assumption|wp_step))
def Dx {s:jw}{Q:Option jF->jw->Prop}(C:XCls K D)(X:K.In s.heap)(hx:s.heap.get? x=Ψ o)(hc:o.cls=.ref D)(hq:Q (Ψ (.ref D)) { s with toks:=s.toks+1 }) :
  wpAny (model prog w) A (getAttr? (.ref x) "__class__") Q E s:=by
 let(h,g,d,t,os):=s
 unfold getAttr? getAttrBy?
 repeat (any_goals (first|assumption|with_reducible apply NX C X hx hc|wp_step))
inductive XIs (x D:jP)(h:jM):Prop
 | mk (o:_)(_:h.get? x=Ψ o)(_:o.cls=.ref D):XIs x D h
def B7 (C:XCls K D):KitX K (.ref x) (.ref D) (XIs x D) where
 ty:=λM h _ q1=>by let(o,h1,h2):=q1;exact h2 ▸ (Looks.ld h1).andThen .now
 it:=λ_ _ X _=>by
  let(cd,hcd):=aT.mp C.cl
  unfold clsIn at hcd
  split at hcd
  ·rename_i ho
   intro A' Q' E' s' k q
   unfold isType loadHead
   exact iR (wpAny_loadPart (k _ _ (X _ _ ho)) (iO q))
  ·cases hcd
 ne:=λh tp dd Z7 n sl X htp=>by
  let(cd,hcd):=aT.mp C.cl
  exact Bool.eq_false_iff.mpr λq=>?_
  let e:=Value.ref.inj (beq_iff_eq.mp q)
  subst e
  unfold clsIn at hcd
  split at hcd
  ·rename_i ho
   cases (X _ _ ho).symm.trans htp
  ·cases hcd
 ca:=λX q2 k=>by let(o,h1,h2):=q2;exact Dx C X h1 h2 k
end
end Kq
namespace Kq
open PySem PySem.Spec PySem.Calls PyProof.Rows
section
open L2
variable {P:jn}{w:jE}{H:Hp}{h h':jM}{a:jP}{o:HO}
def ObjOk.at (x:L2.ObjOk P w H h a o):∃ u,h.get? a=Ψ u:=by
 cases o with
 | lst xs=>let(_,_,_,_,e):=x;exact⟨_,e⟩
 | tup xs=>let(_,_,_,o,e,_):=x;exact⟨_,e⟩
 | dK kvs=>let(_,_,_,_,o,_,_,e,_):=x;exact⟨_,e⟩
 | dT kvs=>let(_,_,_,_,o,_,_,e,_):=x;exact⟨_,e⟩
 | set S n=>let(o,_,_,_,e,_):=x;exact⟨_,e⟩
 | ins C dx fs=>let(_,_,_,e,_):=x;exact⟨_,e⟩
 | big C dx fs gs=>let(_,_,_,_,e,_):=x;exact⟨_,e⟩
 | bag C dx fs gs=>let(_,_,_,_,e,_):=x;exact⟨_,e⟩
 | own y=>let(_,e):=x;exact⟨_,e⟩
 | xd fs=>let(_,(_,_,_,e,_),_):=x;exact⟨_,e⟩
 | rng lo hi=>let(_,_,_,e):=x;exact⟨_,e⟩
 | frz ob u=>let(e,_):=x;exact⟨_,e⟩
 | tbl ps=>exact⟨_,(show h.get? a=Ψ _ from x)⟩
 | met f y=>exact⟨_,(show h.get? a=Ψ _ from x)⟩
 | ext φ=>let(_,(_,e),_):=x;exact⟨_,e⟩
def HOk.non (x:L2.HOk P w H h)(e:h.get? a=Φ):H a=Φ:=by
 cases q:H a with
 | none=>rfl
 | some u=>let(u,z):=ObjOk.at (x a u q);rw[e] at z;cases z
def HOk.but {ls:List jP}(x:L2.HOk P w H h)(n:∀ b∈ls,H b=Φ)(k:∀ b u,b ∉ ls->h.get? b=Ψ u->h'.get? b=Ψ u):L2.HOk P w H h':=λb u e =>
 (x b u e).stay (λc v hc q=>k c v (λz=>by
  rcases hc with r|r
  ·rw[r] at z;rw[n b z] at e;cases e
  ·rw[n c z] at r;cases r) q) (λ_ q=>q) λ_ _ q=>q
end
end Kq
namespace Kq
open PySem PySem.Spec PySem.Calls PyProof.Rows L2
def E8 {K:ib}{h:jM}{Cn:jP}{bs:List jF}{i:String}(X:K.In h)(q:PySem.W.excIn K Cn bs i=Ω) :
  ∃ bm N nm qn b0 hd sn sub ab col dd k0 k1 k2 k3 k5 mN,h.get? Cn=Ψ (excClassObj nm qn Cn N b0 bm hd sn sub ab col dd k0 k1 k2 k3 k5 i)/\h.Ns N mN/\mN "__init__" = Φ/\OwnTail h bs bm:=by
 unfold PySem.W.excIn at q
 split at q<;>try (cases q;done)
 rename_i dd cd sl ho
 split at q<;>try (cases q;done)
 rename_i C' bm k0 k1 k2 k3 n k5 hm hs
 simp![eR,beq_iff_eq,Bool.not_eq_true'] at q
 let(((((rfl,rfl),hdel),ht),hok),hni):=q
 let(nm,b0,mro,ns,qn,hd,sn,sub,ab,col,del):=cd
 let⟨l⟩:=sl
 dsimp only at hm hdel hok hni hs
 subst hm hdel hs
 exact⟨bm,ns,nm,qn,b0,hd,sn,sub,ab,col,dd,k0,k1,k2,k3,k5,_,X _ _ ho,.of_isNs (PySem.W.isNs_of_in X hok),PySem.W.nsMap_none_of_in X hok hni,PySem.W.tail_of_in X ht⟩
abbrev Cx.at (X:Cx)(A:jD)(calm:Bool)(pn:List (jP×Obj))(E:jF->jw->Prop):Cx:={ X with A:=A,calm:=calm,pn:=pn,xe:=E }
section
variable {X:Cx}{Z9:List (jP×Obj)}{σ:L2.St}{H:Hp}{s:jw}
def uV (I:Inv X Z9 σ H s){A:jD}{cm:Bool}{pn:List (jP×Obj)}{E:jF->jw->Prop}(ha:A.frames=X.A.frames)(hc:cm=Ω->A.handled=Φ)(hp:∀ p∈pn,s.heap.get? p.1=Ψ p.2/\H p.1=Φ/\p.1≠X.env.locals/\p.1 ∉ X.fs/\∀ v,p.2.data≠.cell v):Inv (Cx.at X A cm pn E) Z9 σ H s :=
 ⟨⟨I.ok.mod,I.ok.kind,I.ok.glob,I.ok.blt,I.ok.above,I.ok.inj,I.ok.has,I.ok.cab,hc,ha.trans I.ok.frames,I.ok.stk,I.ok.exf,I.ok.bs,I.ok.bsz,I.ok.noex,I.ok.exfs,I.ok.funs,I.ok.frf⟩,I.os,I.bare,I.base,I.loc,I.cell,I.free,I.freeC,λp h=>(fA.mp h).elim (hp p) λh=>I.pin p (bH _ h),I.hok,I.len⟩
def EN {M:jH}{A:jD}{E:jF->jw->Prop}{k:Nat}{n:Str}{pos:Pos}{Q:Unit->jw->Prop}(I:Inv X Z9 σ H s)(hN:X.N.Nodup)(hk:X.N[k]?=Ψ n)(hl:X.env.kindOf n=Ψ .local)(h:∀ s',Inv X Z9 (σ.set k Φ) H s'->Q () s') :
  wpAny M A (do bindName X.env n .none;unbindBehindTheSuite X.env n pos) Q E s:=by
 let(m,hn,hlk):=id I.loc
 let hcls:(X.env.scope.kind == .class || (X.env.scope.kind == .module && X.env.locals != X.env.globals))=Ξ:=by rw[I.ok.kind];rfl
 exact wpAny_nameGoes_keeps hl hn hcls λh' v hn' hs=>h _ ?_
 let cne:=I.cne
 let ab:∀ b o,X.s₀.heap.get? b=Ψ o->b≠X.env.locals:=λb o e=>ii (cK (iy e) I.ok.above)
 exact⟨I.ok,I.os,I.bare,⟨λb o e n hb hx=>?_,λb o e n hb hx=>?_,I.base.free,λb o e hx=>?_,I.base.tups,I.base.frzs,I.base.tbls⟩,⟨_,hn',λj y v' e1 e2 e3=>?_⟩,λy c e=>?_,I.free,I.freeC,λp hp=>?_,HOk.but (ls:=[X.env.locals]) I.hok (λb hb=>by rw[cO.mp hb];exact I.free) (λb u hb e=>(hs.2 b λz=>hb (by rw[z];exact List.mem_singleton_self _)).trans e),by rw[fB];exact I.len⟩
 ·exact (hs.2 b (ab b o e)).trans (I.base.keep b o e n hb hx)
 ·let(sl,z):=I.base.slot b o e n hb hx
  exact⟨sl,(hs.2 b (ab b o e)).trans z⟩
 ·let(o',z):=I.base.there b o e hx
  exact⟨o',(hs.2 b (ab b o e)).trans z⟩
 ·let hj:j≠k:=λz=>by
   rw[z] at e2
   by_cases hl:k<σ.length
   ·rw[bu hl] at e2;cases e2
   ·rw[List.getElem?_eq_none (by rw[fB];exact Nat.le_of_not_lt hl)] at e2;cases e2
  rw[bV (jp hj)] at e2
  let(u,r,q):=hlk j y v' e1 e2 e3
  exact⟨u,r,?_⟩
  rcases q with⟨kk,e⟩|⟨kk,c,e,z⟩
  ·let ny:y≠n:=λz=>hj (rG hN e1 (z ▸ hk))
   exact .inl ⟨kk,(if_neg ny).trans e⟩
  ·exact .inr ⟨kk,c,e,z.sameBut hs (cne y c e)⟩
 ·let(u,z):=I.cell y c e
  exact⟨u,z.sameBut hs (cne y c e)⟩
 ·let(e,n,ne,nf,d):=I.pin p hp
  exact⟨(hs.2 p.1 ne).trans e,n,ne,nf,d⟩
end
structure AtDef (X:Cx):Prop where
 stk:X.stack=X.env :: X.outer
 fr:X.env.frame=Ψ X.env.locals
section
variable {X:Cx}{Cn ea:jP}{oe:Obj}
def Gy (hc:oe.cls=.ref Cn)(xc:XCls X.K Cn):kN (Cx.at X X.A X.calm ((ea,oe) :: X.pn) X.xe) (.builtin "isinstance") (λxs H Q=>∃ cv c b,xs=[.ref ea,c]/\(∀ u,RelV c u->u=cv)/\fX X.K (.ref Cn) cv=Ψ b/\Q (.bl b) H):=by
 intro Z9 s σ H xs us Q I r hh
 let(cv,c,b,rfl,h1,h2,q):=hh
 let(u,u',rfl,ru,ru'):=vals2 r
 obtain rfl:u=.ref ea:=ru
 obtain rfl:=h1 u' ru'
 exact fh (K:=X.K) (B7 xc) I.kIn ⟨oe,(I.pin (ea,oe) (bU _ cQ)).1,hc⟩ h2 (λz=>nomatch z) λtk=>⟨.bl b,H,I.tok _,rfl,q⟩
end
abbrev qO (cx n:Str)(q1 q2 q3 q4:Pos):Expr:=.Call (.Name (hW "isinstance") q1) [.Name cx q2,.Name n q3] [] q4
end Kq
namespace Kq
open PySem PySem.Spec PyProof.Rows L2
def qV {x:Option Bool}{b:Bool}(h:Cg x b=Ω):x=Ψ b:=by
 cases x with
 | none=>cases h
 | some c=>rw[beq_iff_eq.mp (show (c == b)=Ω from h)]
def XCls.of {K:ib}{D:jP}(h:F0 K D=Ω):XCls K D :=
 let h1:=b2 h;let h2:=b2 h1.2;let h3:=b2 h2.2;let h4:=b2 h3.2;let h5:=b2 h4.2
 ⟨h1.1,uU h2.1,yO h3.1,uU h4.1,qV h5.1,qV h5.2⟩
def qk {md:Md}(h:md.all (λm=>Δ (m≠.ob))=Ω):∀ i,jX md i≠.ob:=by
 induction md with
 | nil=>intro i z;cases z
 | cons m md ih =>
  let h:=b2 (show (Δ (m≠.ob) && md.all _)=Ω from h)
  intro i
  cases i with
  | zero=>exact de h.1
  | succ i=>exact ih h.2 i
section
variable {n:Nat}{b:Expr}{call:CW}{f i:Nat}{m:Str}{as:AW}
variable {K:ib}{c:Cn}{md:Md}{L:jR}{σ:L2.St}{S H:Hp}
def sJ {Q:VK}{fr:Bool}{Q1:FV->jR->Prop}(I:Iv K c md L σ S H)(m:(jX md i).w=Ω)(ob:∀ i,jX md i≠.ob)(h:km call f i as L Q1)
  (k:∀ v L' x H1 S' H',Q1 v L'->zj K S' H' H1 v x fr->Iv K c md L' σ S' H'->Same S S'->(∀ a,H1 a=Φ->nR c md L' σ a)->Q x H'):vq (tVar i) (la K md as) σ H λvs H1=>tq K call Ω fr f vs H1 Q E0:=by
 let(v0,e,h):=kq h
 let mi:jX md i≠.imm:=Mo.w_imm m
 let(l,e1,_):=I.own i v0 mi ((kP _ _ _).mp e)
 exact⟨_,e1,c,L,S,_,I,h,λvs L1 hv us S1 H1 r1 I1 s1=>?_⟩
 let(v1,e2,q):=kq hv
 let e2:=(kP _ _ _).mp e2
 let(l',f1,o,_):=I1.own i v1 mi e2
 rw[e1] at f1;cases f1
 exact⟨S1,v1 :: vs,_,I1.sub,⟨v1,vs,l,us,rfl,rfl,o,r1⟩,q,λz q x S' H' kp r=>?_⟩
 let I2:=I1.back4 m e2 e1 kp.same kp.sub kp.grow (λb o e n=>kp.keep b o e λz=>n (by cases z;rfl)) (kp.back l rfl) λ_ _ _ _ _ _ _ z=>absurd z (ob i)
 exact k _ _ x H1 S' H' q r I2 (s1.trans kp.same) λa ha=>⟨I1.h0 ha,(I1.fresh ha).2.1,λj w mj ej z=>?_⟩
 let(_,_,g2):=I1.fresh ha
 by_cases hj:j=i
 ·subst hj;exact g2 j v1 mj e2 z
 ·rw[bV (jp hj)] at ej;exact g2 j w mj ej z
end
abbrev qh:FV->Option (Option Int)
 | .int i=>Ψ (Ψ i)
 | .non=>Ψ Φ
 | _=>Φ
abbrev xV (v w:FV):Option FV:=match v with
 | .dco _ ks vs=>(qh w).bind λk=>nK ks vs k
 | _=>Φ
abbrev Hy (a b:FV):Option FV:=match b with
 | .dco _ ks _=>(qh a).bind λk=>Ψ (.bl (!Δ (k∈ks)))
 | _=>Φ
abbrev IU (v j x:FV):Option FV:=match v with
 | .dco Φ ks vs=>(qh j).bind λk=>if ks.length<big then Ψ (.dco Φ (k6 ks vs k x).1 (k6 ks vs k x).2) else Φ
 | .dci ks vs=>(mG j).bind λk=>if ks.length<big then Ψ (.dci (k6 ks vs k x).1 (k6 ks vs k x).2) else Φ
 | _=>Φ
def pJ {K:ib}{S:Hp}{p:FV}{x:V}{k:Option Int}(r:RV K S p x)(e:qh p=Ψ k):x=kV (oK k):=by
 cases p with
 | int i=>cases e;exact r
 | non=>cases e;exact r
 | _=>cases e
def Ed {K:ib}{S H:Hp}{p:FV}{x:V}{k:Option Int}(r:RH K S H p x)(e:qh p=Ψ k):x=kV (oK k):=by
 exact pJ (r.val ?_) e
 cases p with
 | int i=>rfl
 | non=>rfl
 | _=>cases e
def pQ:∀ (ks:List (Option Int))(us:List V)(k:Option Int),qK ((ks.map oK).zip us) (oK k)=nK ks us k
 | [],us,k=>by cases us<;>rfl
 | k' :: ks,[],k=>rfl
 | k' :: ks,u :: us,k=>by
  show qK ((oK k',u) :: (ks.map oK).zip us) (oK k)=if k'=k then Ψ u else nK ks us k
  by_cases e:k'=k
  ·subst e;rw[pA rfl,if_pos rfl]
  ·rw[pB λz=>e (BF z),if_neg e];exact pQ ks us k
def vH (ks:List (Option Int))(us:List V)(k:Option Int)(u:V)(hl:ks.length=us.length):oW ((ks.map oK).zip us) (oK k) u=((k6 ks us k u).1.map oK).zip (k6 ks us k u).2:=by
 let hany:(((ks.map oK).zip us).any λkv=>Δ (kv.1=oK k))=Ω↔k∈ks:=by
  rw[re,pQ,rX k hl]
 unfold oW k6
 by_cases e:k∈ks
 ·rw[if_pos (hany.mpr e),if_pos e]
  clear e hany
  induction ks generalizing us with
  | nil=>cases us<;>rfl
  | cons k' ks ih=>cases us with
   | nil=>rfl
   | cons u' us =>
    have:=ih us (by simpa using hl)
    show (if oK k'=oK k then (oK k',u) else (oK k',u')) :: ((ks.map oK).zip us).map _=(oK k',if k'=k then u else u') :: (ks.map oK).zip _
    rw[this]
    congr 1
    by_cases e:k'=k
    ·subst e;simp
    ·rw[if_neg λz=>e (BF z),if_neg e]
 ·rw[if_neg λz=>e (hany.mp z),if_neg e]
  show _=((ks++[k]).map oK).zip (us++[u])
  rw[List.map_append,List.zip_append (by simpa using hl)];rfl
section
variable {K:ib}{S H:Hp}{c:Cn}{md:Md}{L:jR}{σ:L2.St}
def RH.dco {z:Option Obj}{ks:List (Option Int)}{vs:List FV}{x:V}(hs:Same S H)(r:RH K S H (.dco z ks vs) x):∃ a us,x=.ref a/\ks.length=vs.length/\H a=Ψ (Go (.dK ((ks.map oK).zip us)) z)/\RVs K S vs us:=by
 rcases r with⟨a,xs,e,h0,h1,h2⟩|⟨a,e,_,qs,xs,e2,h1,h2⟩
 ·exact⟨a,xs,e,h0,hs _ _ h1,h2⟩
 ·let(hl,rfl):=ou e2
  exact⟨a,xs,e,hl,h1,h2⟩
def wN {v w z:FV}{x y:V}(hs:Same S H)(rv:RH K S H v x)(rw':RH K S H w y)(e:xV v w=Ψ z):∃ a u,x=.ref a/\L2.DGet H a y (Ψ u)/\RV K S z u:=by
 cases v with
 | dco zz ks vs =>
  let(k,e3,e4):=lV e
  let(a,us,rfl,hl,h1,h2):=rv.dco hs
  rw[Ed rw' e3]
  let(u,g1,g2):=wC h2 e4
  exact⟨a,u,rfl,?_,g2⟩
  rw[<- g1,<- pQ]
  exact .inl ⟨_,_,uH h1,rfl,rfl⟩
 | _=>cases e
def Iv.writeW (I:Iv K c md L σ S H){i:Nat}{v w:FV}{a:jP}{ps:List FV}{xs:List V}(m:(jX md i).w=Ω)(ob:jX md i≠.ob)(e:L[i]?=Ψ (Ψ v))(e1:σ[i]?=Ψ (Ψ (.ref a)))(hw:zQ w=Ψ ps)(r:RVs K S ps xs) :
  Iv K c md (L.set i (Ψ w)) σ S (kh H a (BB w xs)):=by
 let(a',e1',(h1,_),_):=I.own i v (Mo.w_imm m) e
 rw[e1] at e1';cases e1'
 exact I.back4 m e e1 (Same.refl S) (λb o z=>by rw[jT λy=>by subst y;rw[h1] at z;cases z];exact I.sub b o z) (λb o z=>.inl z) (λb o z n=>by rw[jT n];exact z) ⟨h1,ps,xs,hw,jV,r⟩ λ_ _ _ _ _ _ _ z=>absurd z ob
end
section
variable {X:Cx}{C:CC}{n:Nat}{sp:ib->Nat->Sp}{b:Expr}{eb:EW}{pos p:Pos}{i:Nat}{nx:Str}
def Nt (G:Good X C n sp)(hs:mL b=Ξ)(h:C.nm i nx=Ω)(hb:FR X C b eb):FE X C (.Subscript (.Name nx p) b pos) (mh xV i eb):=PE.imp (D8 (X:=X.nox) (by have:=G.room.units;show X.A.units+1<cLine;lia) (ki G h) hb (pH hs)) λσ H Q q1=>by
 let(c,L,S,Q0,I,h,k):=q1
 let(v0,e,h):=kq h
 let(x,e1,_):=I.rd e
 exact⟨x,e1,c,L,S,_,I,h,λw L2 hw y S2 H2 r2 I2 s2=>?_⟩
 let(v,e2,q):=kq hw
 let(x',e3,r1):=I2.rd e2
 rw[e1] at e3;cases e3
 let(z,e4,q):=kq q
 let(a,u,rfl,g,r5):=wN I2.sub r1 r2 e4
 exact⟨a,u,rfl,g,k z L2 q u S2 H2 r5 I2 s2⟩
end
section
variable (Q:FV->Prop)(i:Nat)(L:jR)
nonrec def Oo (k:Int)(Q:Option Int->Prop):wp (qh (.int k)) Q=Q (Ψ k):=propext Iff.rfl
nonrec def k_dgo (zz:Option Obj)(ks:List (Option Int))(vs:List FV)(w:FV):wp (xV (.dco zz ks vs) w) Q↔wp (qh w) λk=>wp (nK ks vs k) Q:=l0 _ _ _
nonrec def k_niO (w:FV)(zz:Option Obj)(ks:List (Option Int))(vs:List FV):wp (Hy w (.dco zz ks vs)) Q↔wp (qh w) λk=>Q (.bl (!Δ (k∈ks))):=l0 _ _ _
nonrec def Ow (ks:List (Option Int))(vs:List FV)(j x:FV):wp (IU (.dco Φ ks vs) j x) Q↔wp (qh j) λk=>ks.length<big/\Q (.dco Φ (k6 ks vs k x).1 (k6 ks vs k x).2):=by
 show wp ((qh j).bind _) Q↔_;rw[l0];simp![me]
end
abbrev tN:GO->HO
 | .lst xs=>.lst xs
 | .dk kvs=>.dK kvs
 | .fdk o kvs=>.frz o (.dK kvs)
def uY (g:GO):(∀ x,tN g≠.own x)/\(∀ C dx fs,tN g≠.ins C dx fs)/\(∀ xs,tN g≠.tup xs)/\∀ ps,tN g≠.tbl ps:=by
 cases g<;>exact⟨(λ_ z=>nomatch z),(λ_ _ _ z=>nomatch z),(λ_ z=>nomatch z),(λ_ z=>nomatch z)⟩
abbrev mf (H:Hp)(a C dx:jP)(fs:List (Str×V))(gs:List (jP×GO)):Hp:=λb=>if b=a then Ψ (.ins C dx fs) else match gs.lookup b with
 | some g=>Ψ (tN g)
 | none=>H b
structure Bag (H:Hp)(a C dx:jP)(fs:List (Str×V))(gs:List (jP×GO)):Prop where
 at_:H a=Ψ (.bag C dx fs gs)
 dxo:H dx=Ψ (.own a)
 gso:∀ g∈gs,H g.1=Ψ (.own a)
 nd:(a :: dx :: gs.map (·.1)).Nodup
 ax:a=dx+1
def nG {l:jP}{g:GO}:∀ {gs:List (jP×GO)},(gs.map (·.1)).Nodup->(l,g)∈gs->gs.lookup l=Ψ g
 | [],_,h=>absurd h eF
 | (b,zs) :: gs,nd,h=>by
  let(n1,n2):=fv.mp nd
  rw[eG]
  rcases gM.mp h with z|z
  ·cases z;simp
  ·have:l≠b:=λy=>n1 (ir.mpr ⟨_,z,y⟩)
   rw[beq_eq_false_iff_ne.mpr this]
   exact nG n2 z
def pO {l:jP}{g:GO}:∀ {gs:List (jP×GO)},gs.lookup l=Ψ g->(l,g)∈gs
 | [],h=>by simp at h
 | (b,zs) :: gs,h=>by
  rw[eG] at h
  split at h
  ·rename_i e;cases h;rw[beq_iff_eq.mp e];exact cQ
  ·exact bT _ (pO h)
section
variable {X:Cx}{Z9:List (jP×Obj)}{σ:L2.St}{H:Hp}{s:jw}{a C dx:jP}{fs:List (Str×V)}{gs:List (jP×GO)}
def lQ (I:Inv X Z9 σ H s)(h:H a=Ψ (.bag C dx fs gs)):Bag H a C dx fs gs:=by
 let(d,gg,nd,_):=(show ObjOk X.prog X.w H s.heap a (.bag C dx fs gs) from I.hok a _ h)
 exact⟨h,d.1,gg,nd,d.2⟩
def ml:mf H a C dx fs gs a=Ψ (.ins C dx fs):=if_pos rfl
def Bag.ndg (B:Bag H a C dx fs gs):(gs.map (·.1)).Nodup:=(fv.mp (fv.mp B.nd).2).2
def Bag.ne (B:Bag H a C dx fs gs){g:jP×GO}(hg:g∈gs):g.1≠a:=λz=>(fv.mp B.nd).1 (bT _ (ir.mpr ⟨g,hg,z⟩))
def Bag.opl (B:Bag H a C dx fs gs){l:jP}{g:GO}(hg:(l,g)∈gs):mf H a C dx fs gs l=Ψ (tN g):=by
 unfold mf
 rw[if_neg (B.ne hg),nG B.ndg hg]
def Gd {b:jP}(h:b≠a)(hg:gs.lookup b=Φ):mf H a C dx fs gs b=H b:=by
 unfold mf
 rw[if_neg h,hg]
def kO (B:Bag H a C dx fs gs)(b:jP):b=a ∨ (∃ g,(b,g)∈gs/\mf H a C dx fs gs b=Ψ (tN g)/\H b=Ψ (.own a)) ∨ (b≠a/\gs.lookup b=Φ/\mf H a C dx fs gs b=H b):=by
 by_cases h:b=a
 ·exact .inl h
 ·cases e:gs.lookup b with
  | none=>exact .inr (.inr ⟨h,rfl,Gd h e⟩)
  | some g=>let m:=pO e;exact .inr (.inl ⟨g,m,B.opl m,B.gso _ m⟩)
def Bag.dxn (B:Bag H a C dx fs gs):mf H a C dx fs gs dx=Ψ (.own a):=by
 let n:=fv.mp (fv.mp B.nd).2
 let h1:dx≠a:=λz=>(fv.mp B.nd).1 (by rw[z];exact cQ)
 rcases kO B dx with z|⟨g,m,_⟩|⟨_,_,e⟩
 ·exact absurd z h1
 ·exact absurd (ir.mpr ⟨_,m,rfl⟩) n.1
 ·rw[e];exact B.dxo
abbrev oY (X:Cx)(gs:List (jP×GO)):Prop:=∀ l∈gs.map (·.1),∀ o u,X.H₀ l≠Ψ (.frz o u)
def sW (I:Inv X Z9 σ H s)(B:Bag H a C dx fs gs):oY X gs:=λl hl o u e=>by
 let(g,hg,rfl):=ir.mp hl
 have:=I.base.frzs _ o u e
 rw[B.gso g hg] at this;cases this
def k8 (I:Inv X Z9 σ H s)(h:H a=Ψ (.bag C dx fs gs)):Inv X Z9 σ (mf H a C dx fs gs) s:=by
 let B:=lQ I h
 let(d,gg,nd,z,e,mm,ls):=(show ObjOk X.prog X.w H s.heap a (.bag C dx fs gs) from I.hok a _ h)
 let same:∀ {b:jP}{u:HO},H b=Ψ u->(∀ x,u≠.own x)->u≠.bag C dx fs gs->mf H a C dx fs gs b=Ψ u:=λ{b u} e1 n1 n2=>by
  rcases kO B b with z|⟨ys,m,_,e2⟩|⟨_,_,e2⟩
  ·rw[z,h] at e1;cases e1;exact absurd rfl n2
  ·rw[e2] at e1;cases e1;exact absurd rfl (n1 a)
  ·rw[e2];exact e1
 exact I.un (t':=s.toks) (h':=s.heap) ⟨λb o' e _ _ _=>e,λb o' e _ _ _=>⟨o'.slots,e⟩,λb o' e n _=>?_,λb o' e _=>⟨o',e⟩,λb xs e=>same e (λ_ z=>nomatch z) (λz=>nomatch z),λb o' u e=>same e (λ_ z=>nomatch z) (λz=>nomatch z),λb ps e=>⟨#[],by rw[Array.append_empty];exact same e (λ_ z=>nomatch z) (λz=>nomatch z)⟩⟩ λb u e1=>?_
 ·rcases kO B b with z|⟨ys,m,_,e2⟩|⟨_,_,e2⟩
  ·rw[z,h] at n;cases n
  ·rw[e2] at n;cases n
  ·rw[e2];exact n
 ·rcases kO B b with rfl|⟨g,m,e2,_⟩|⟨h1,h2,e2⟩
  ·rw[ml] at e1;cases e1
   exact⟨B.dxn,z,(λy=>(fv.mp nd).1 (by rw[y];exact cQ)),e,mm⟩
  ·rw[e2] at e1;cases e1
   have:=ls _ m
   cases g with
   | lst xs=>exact this
   | dk kvs=>exact this
   | fdk o kvs=>exact this
  ·rw[e2] at e1
   exact (I.hok b u e1).stay (λ_ _ _ q=>q) (λc e3=>?_) λc xs e3=>same e3 (λ_ z=>nomatch z) (λz=>nomatch z)
   rcases kO B c with rfl|⟨ys,m,_,e4⟩|⟨_,_,e4⟩
   ·rw[h] at e3;cases e3
   ·rw[e4] at e3;cases e3;exact absurd rfl h1
   ·rw[e4];exact e3
def mw (I:Inv X Z9 σ (mf H a C dx fs gs) s)(B:Bag H a C dx fs gs)(nf:oY X gs):Inv X Z9 σ H s:=by
 let same:∀ {b:jP}{u:HO},mf H a C dx fs gs b=Ψ u->(∀ g,u≠tN g)->u≠.ins C dx fs->H b=Ψ u:=λ{b u} e1 n1 n2=>by
  rcases kO B b with rfl|⟨g,m,e2,_⟩|⟨_,_,e2⟩
  ·rw[ml] at e1;cases e1;exact absurd rfl n2
  ·rw[e2] at e1;cases e1;exact absurd rfl (n1 g)
  ·rw[<- e2];exact e1
 let none_:∀ {b:jP},mf H a C dx fs gs b=Φ->H b=Φ:=λ{b} n=>by
  rcases kO B b with rfl|⟨g,m,e2,_⟩|⟨_,_,e2⟩
  ·rw[ml] at n;cases n
  ·rw[e2] at n;cases n
  ·rw[<- e2];exact n
 let tup:∀ {b:jP}{xs:List V},mf H a C dx fs gs b=Ψ (.tup xs)->H b=Ψ (.tup xs):=λe=>same e (λg z=>(uY g).2.2.1 _ z.symm) (λz=>nomatch z)
 exact⟨I.ok,I.os,I.bare,⟨I.base.keep,I.base.slot,λb o e n hx=>none_ (I.base.free b o e n hx),I.base.there,λb xs e=>tup (I.base.tups b xs e),λb o u e=>?_,λb ps e=>?_⟩,I.loc,I.cell,none_ I.free,λx c e=>none_ (I.freeC x c e),λp hp=>let ⟨g1,g2,g3⟩:=I.pin p hp;⟨g1,none_ g2,g3⟩,λb u e1=>?_,I.len⟩
 ·let e2:=I.base.frzs b o u e
  rcases kO B b with rfl|⟨g,m,_,_⟩|⟨_,_,e3⟩
  ·rw[ml] at e2;cases e2
  ·exact absurd e (nf b (ir.mpr ⟨_,m,rfl⟩) o u)
  ·rw[<- e3];exact e2
 ·let(more,e2):=I.base.tbls b ps e
  exact⟨more,same e2 (λg z=>(uY g).2.2.2 _ z.symm) (λz=>nomatch z)⟩
 ·rcases kO B b with rfl|⟨g,m,e2,e3⟩|⟨h1,h2,e2⟩
  ·rw[B.at_] at e1;cases e1
   let(_,z,_,e,mm):=(show ObjOk X.prog X.w (mf H b C dx fs gs) s.heap b (.ins C dx fs) from I.hok b _ ml)
   exact⟨⟨B.dxo,B.ax⟩,B.gso,B.nd,z,e,mm,λg hg=>?_⟩
   have:=I.hok g.1 _ (B.opl (g:=g.2) hg)
   let(l,g):=g
   cases g with
   | lst xs=>exact this
   | dk kvs=>exact this
   | fdk o kvs=>exact this
  ·rw[e3] at e1;cases e1
   exact tJ (I.hok b _ e2)
  ·refine (I.hok b u (by rw[e2];exact e1)).stay (λ_ _ _ q=>q) (λc e3=>same e3 (λg z=>(uY g).1 _ z.symm) (λz=>nomatch z)) λc xs e3=>tup e3
def yx (B:Bag H a C dx fs gs){p:jP}(o:HO)(hp:H p=Φ):kh (mf H a C dx fs gs) p o=mf (kh H p o) a C dx fs gs/\Bag (kh H p o) a C dx fs gs:=by
 let n:∀ {b u},H b=Ψ u->b≠p:=λe z=>by rw[z,hp] at e;cases e
 exact⟨?_,by rw[jT (n B.at_)];exact B.at_,by rw[jT (n B.dxo)];exact B.dxo,λg hg=>by rw[jT (n (B.gso g hg))];exact B.gso g hg,B.nd,B.ax⟩
 funext b
 unfold mf
 by_cases h:b=a
 ·rw[jT (by rw[h];exact n B.at_),if_pos h,if_pos h]
 ·rw[if_neg h]
  cases e:gs.lookup b with
  | none =>
   by_cases z:b=p
   ·rw[z,jV,jV]
   ·rw[jT z,jT z,if_neg h,e]
  | some ys=>rw[jT (n (B.gso _ (pO e))),if_neg h,e]
abbrev k7 (gs:List (jP×GO))(l:jP)(g:GO):List (jP×GO):=gs.map λp=>if p.1=l then (l,g) else p
def n9 (l:jP)(y:GO):∀ gs:List (jP×GO),(k7 gs l y).map (·.1)=gs.map (·.1)
 | []=>rfl
 | g :: gs=>by
  show (if g.1=l then (l,y) else g).1 :: (k7 gs l y).map (·.1)=_
  rw[n9 l y gs]
  split
  ·rename_i e;rw[gN,e]
  ·rfl
def oM (l:jP)(y:GO)(b:jP):∀ gs:List (jP×GO),(k7 gs l y).lookup b=if b=l then (gs.lookup b).map λ_=>y else gs.lookup b
 | []=>by simp[k7]
 | g :: gs=>by
  show List.lookup b ((if g.1=l then (l,y) else g) :: k7 gs l y)=_
  let(g1,g2):=g
  by_cases e:g1=l
  ·subst e
   rw[if_pos rfl,eG,eG,oM]
   by_cases h:b=g1
   ·subst h;simp
   ·rw[beq_eq_false_iff_ne.mpr h]
  ·rw[if_neg e,eG,eG,oM]
   by_cases h:b=g1
   ·subst h;simp[e]
   ·rw[beq_eq_false_iff_ne.mpr h]
def Ee (B:Bag H a C dx fs gs){l:jP}{z:GO}(y:GO)(hl:(l,z)∈gs):kh (mf H a C dx fs gs) l (tN y)=mf (kh H a (.bag C dx fs (k7 gs l y))) a C dx fs (k7 gs l y)/\Bag (kh H a (.bag C dx fs (k7 gs l y))) a C dx fs (k7 gs l y):=by
 let na:=B.ne hl
 let nn:∀ {b u},H b=Ψ u->(∀ x y z w,u≠.bag x y z w)->b≠a:=λe n z=>by rw[z,B.at_] at e;exact n _ _ _ _ (fo e).symm
 exact⟨?_,jV,by rw[jT (nn B.dxo (λ_ _ _ _ z=>nomatch z))];exact B.dxo,λg hg=>?_,by rw[n9];exact B.nd,B.ax⟩
 ·funext b
  unfold mf
  rw[oM]
  by_cases h:b=a
  ·rw[jT (by rw[h];exact jp na),if_pos h,if_pos h]
  ·rw[if_neg h,jT h]
   by_cases z:b=l
   ·subst z;rw[jV,if_pos rfl,nG B.ndg hl];rfl
   ·rw[jT z,if_neg h,if_neg z]
 ·have:g.1∈gs.map (·.1):=by rw[<- n9 l y];exact ir.mpr ⟨g,hg,rfl⟩
  let(g',hg',e):=ir.mp this
  rw[<- e,jT (B.ne hg')];exact B.gso g' hg'
def yz (B:Bag H a C dx fs gs)(fs':List (Str×V)):kh (mf H a C dx fs gs) a (.ins C dx fs')=mf (kh H a (.bag C dx fs' gs)) a C dx fs' gs/\Bag (kh H a (.bag C dx fs' gs)) a C dx fs' gs:=by
 let nn:∀ {b u},H b=Ψ u->(∀ x y z w,u≠.bag x y z w)->b≠a:=λe n z=>by rw[z,B.at_] at e;exact n _ _ _ _ (fo e).symm
 exact⟨?_,jV,by rw[jT (nn B.dxo (λ_ _ _ _ z=>nomatch z))];exact B.dxo,λg hg=>by rw[jT (B.ne hg)];exact B.gso g hg,B.nd,B.ax⟩
 funext b
 unfold mf
 by_cases h:b=a
 ·rw[h,jV,if_pos rfl]
 ·rw[jT h,if_neg h,if_neg h,jT h]
def Ef (B:Bag H a C dx fs gs){p:jP}(hp:H p=Φ)(fs':List (Str×V))(y:GO):kh (kh (mf H a C dx fs gs) p (tN y)) a (.ins C dx fs')=mf (kh (kh H p (.own a)) a (.bag C dx fs' (gs++[(p,y)]))) a C dx fs' (gs++[(p,y)])/\Bag (kh (kh H p (.own a)) a (.bag C dx fs' (gs++[(p,y)]))) a C dx fs' (gs++[(p,y)]):=by
 let n:∀ {b u},H b=Ψ u->b≠p:=λe z=>by rw[z,hp] at e;cases e
 let nn:∀ {b u},H b=Ψ u->(∀ x y z w,u≠.bag x y z w)->b≠a:=λe n z=>by rw[z,B.at_] at e;exact n _ _ _ _ (fo e).symm
 let pa:p≠a:=jp (n B.at_)
 let lk:∀ (b:jP)(gs:List (jP×GO)),(∀ g∈gs,g.1≠p)->(gs++[(p,y)]).lookup b=if b=p then Ψ y else gs.lookup b:=λb gs hgs=>by
  induction gs with
  | nil =>
   rw[fw,eG]
   by_cases z:b=p
   ·rw[z];simp
   ·rw[beq_eq_false_iff_ne.mpr z,if_neg z]
  | cons g gs ih =>
   let(g1,g2):=g
   let h1:=hgs _ cQ
   rw[eM,eG,eG,ih λg hg=>hgs g (bT _ hg)]
   by_cases z:b=g1
   ·subst z;simp[h1]
   ·rw[beq_eq_false_iff_ne.mpr z]
 let hgp:∀ g∈gs,g.1≠p:=λg hg=>n (B.gso g hg)
 exact⟨?_,jV,by rw[jT (nn B.dxo (λ_ _ _ _ z=>nomatch z)),jT (n B.dxo)];exact B.dxo,λg hg=>?_,?_,B.ax⟩
 ·funext b
  unfold mf
  by_cases h:b=a
  ·rw[h,jV,if_pos rfl]
  ·rw[jT h,if_neg h,jT h,lk b gs hgp]
   by_cases z:b=p
   ·subst z;rw[jV,if_pos rfl]
   ·rw[jT z,if_neg h,if_neg z,jT z]
 ·rcases fA.mp hg with z|z
  ·rw[jT (B.ne z),jT (n (B.gso g z))];exact B.gso g z
  ·rw[cO.mp z,jT pa];exact jV
 ·let(n1,n2):=fv.mp B.nd
  let(n3,n4):=fv.mp n2
  rw[List.map_append]
  let np:p ∉ gs.map (·.1):=λz=>by
   let(g,hg,e):=ir.mp z
   exact hgp g hg e
  exact fv.mpr ⟨λz=>?_,fv.mpr ⟨λz=>?_,List.nodup_append.mpr ⟨n4,∅,λx hx w hw e=>?_⟩⟩⟩
  ·rcases gM.mp z with z|z
   ·exact n1 (by rw[z];exact cQ)
   ·rcases fA.mp z with z|z
    ·exact n1 (bT _ z)
    ·exact pa (cO.mp z).symm
  ·rcases fA.mp z with z|z
   ·exact n3 z
   ·exact n B.dxo (cO.mp z)
  ·let e':x=p:=by rw[e,cO.mp hw]
   exact np (e' ▸ hx)
end
abbrev pV (f:Str):List (Str×Option jP)->List FV->Option (Option jP×FV)
 | [],_=>Φ
 | n :: ns,vs=>match vs with
  | []=>Φ
  | v :: vs=>if n.1=f then Ψ (n.2,v) else pV f ns vs
abbrev pc (f:Str)(w:FV):List (Str×Option jP)->List FV->List FV
 | [],vs=>vs
 | n :: ns,vs=>match vs with
  | []=>[]
  | v :: vs=>if n.1=f then w :: vs else v :: pc f w ns vs
section
variable {K:ib}{S:Hp}{f:Str}
def RVs.split:∀ {ps qs:List FV}{xs:List V},RVs K S (ps++qs) xs->RVs K S ps (xs.take ps.length)/\RVs K S qs (xs.drop ps.length)
 | [],qs,xs,h=>⟨rfl,h⟩
 | p :: ps,qs,xs,h=>by
  let(v,r,rfl,h1,h2):=h
  let(g1,g2):=RVs.split h2
  exact⟨⟨v,_,rfl,h1,g1⟩,g2⟩
inductive Shd (K:ib)(S:Hp):List (Str×Option jP)->List FV->List V->Prop
 | nil:Shd K S [] [] []
 | imm {g:Str}{v:FV}{x:V}{ns:List (Str×Option jP)}{vs:List FV}{xs:List V}:RV K S v x->Shd K S ns vs xs->Shd K S ((g,Φ) :: ns) (v :: vs) (x :: xs)
 | own {g:Str}{l:jP}{v:FV}{ps:List FV}{ys:List V}{ns:List (Str×Option jP)}{vs:List FV}{xs:List V}:oV v=Ψ ps->RVs K S ps ys->Shd K S ns vs xs->Shd K S ((g,Ψ l) :: ns) (v :: vs) (ys++xs)
def xp:∀ {ns:List (Str×Option jP)}{vs ps:List FV}{xs:List V},pR ns vs=Ψ ps->RVs K S ps xs->Shd K S ns vs xs
 | [],[],ps,xs,h,r=>by cases h;cases (show xs=[] from r);exact .nil
 | [],_ :: _,ps,xs,h,r=>by cases h
 | _ :: _,[],ps,xs,h,r=>by cases h
 | (g,Φ) :: ns,v :: vs,ps,xs,h,r=>by
  let(qs,e,rfl):=oX (show (pR ns vs).map (v :: ·)=Ψ ps from h)
  let(x,ys,rfl,r1,r2):=r
  exact .imm r1 (xp e r2)
 | (g,Ψ l) :: ns,v :: vs,ps,xs,h,r=>by
  let(us,e1,h):=lV (show (oV v).bind (λps=>(pR ns vs).map (ps++·))=Ψ ps from h)
  let(qs,e,rfl):=oX h
  let(r1,r2):=RVs.split r
  have:=Shd.own (g:=g) (l:=l) e1 r1 (xp e r2)
  rwa [bG] at this
def Shd.flat {ns:List (Str×Option jP)}{vs:List FV}{xs:List V}(h:Shd K S ns vs xs):∃ ps,pR ns vs=Ψ ps/\RVs K S ps xs:=by
 induction h with
 | nil=>exact⟨[],rfl,rfl⟩
 | @imm g v x ns vs xs r _ ih =>
  let(ps,e,r2):=ih
  exact⟨v :: ps,by show (pR ns vs).map (v :: ·)=_;rw[e];rfl,_,_,rfl,r,r2⟩
 | @own g l v ps ys ns vs xs e r _ ih =>
  let(qs,e2,r2):=ih
  exact⟨ps++qs,by show (oV v).bind (λps=>(pR ns vs).map (ps++·))=_;rw[e,Option.bind_some,e2];rfl,r.append r2⟩
def lm {g:Str}{l:jP}{v:FV}{ps:List FV}{ys xs:List V}{ns:List (Str×Option jP)}{vs:List FV}(e:oV v=Ψ ps)(r:RVs K S ps ys):kD ((g,Ψ l) :: ns) (v :: vs) (ys++xs)=(g,.ref l) :: kD ns vs xs/\kB ((g,Ψ l) :: ns) (v :: vs) (ys++xs)=(l,lI v ys) :: kB ns vs xs:=by
 let hn:sT v=ys.length:=by unfold sT;rw[e];exact r.length
 constructor
 ·show (g,V.ref l) :: kD ns vs ((ys++xs).drop (sT v))=_
  rw[hn,List.drop_left]
 ·show (l,lI v ((ys++xs).take (sT v))) :: kB ns vs ((ys++xs).drop (sT v))=_
  rw[hn,List.drop_left,List.take_left]
def Shd.rd {ns:List (Str×Option jP)}{vs:List FV}{xs:List V}(h:Shd K S ns vs xs){v:FV}(e:pV f ns vs=Ψ (Φ,v)):∃ x,(kD ns vs xs).lookup f=Ψ x/\RV K S v x:=by
 induction h with
 | nil=>cases e
 | @imm g w x ns vs xs r _ ih =>
  let e:(if g=f then Ψ ((Φ:Option jP),w) else pV f ns vs)=Ψ (Φ,v):=e
  show ∃ y,List.lookup f ((g,x) :: kD ns vs xs)=Ψ y/\_
  rw[eG]
  by_cases z:g=f
  ·rw[if_pos z] at e;cases e
   subst z
   exact⟨x,∅,r⟩
  ·rw[if_neg z] at e
   rw[beq_eq_false_iff_ne.mpr (jp z)]
   exact ih e
 | @own g l w ps ys ns vs xs e1 r _ ih =>
  let e:(if g=f then Ψ (Ψ l,w) else pV f ns vs)=Ψ (Φ,v):=e
  rw[(lm e1 r).1,eG]
  by_cases z:g=f
  ·rw[if_pos z] at e;cases e
  ·rw[if_neg z] at e
   rw[beq_eq_false_iff_ne.mpr (jp z)]
   exact ih e
def Shd.rdo {ns:List (Str×Option jP)}{vs:List FV}{xs:List V}(h:Shd K S ns vs xs){l:jP}{v:FV}(e:pV f ns vs=Ψ (Ψ l,v)):(kD ns vs xs).lookup f=Ψ (.ref l)/\∃ ps ys,oV v=Ψ ps/\RVs K S ps ys/\(l,lI v ys)∈kB ns vs xs:=by
 induction h with
 | nil=>cases e
 | @imm g w x ns vs xs r _ ih =>
  let e:(if g=f then Ψ ((Φ:Option jP),w) else pV f ns vs)=Ψ (Ψ l,v):=e
  show List.lookup f ((g,x) :: kD ns vs xs)=_/\∃ ps ys,_/\_/\_∈kB ns vs xs
  rw[eG]
  by_cases z:g=f
  ·rw[if_pos z] at e;cases e
  ·rw[if_neg z] at e
   rw[beq_eq_false_iff_ne.mpr (jp z)]
   exact ih e
 | @own g l2 w ps ys ns vs xs e1 r _ ih =>
  let e:(if g=f then Ψ (Ψ l2,w) else pV f ns vs)=Ψ (Ψ l,v):=e
  let(b1,b2):=lm (g:=g) (l:=l2) (ns:=ns) (vs:=vs) (xs:=xs) e1 r
  rw[b1,b2,eG]
  by_cases z:g=f
  ·rw[if_pos z] at e;cases e
   subst z
   exact⟨∅,ps,ys,e1,r,cQ⟩
  ·rw[if_neg z] at e
   rw[beq_eq_false_iff_ne.mpr (jp z)]
   let(g1,ps',ys',g2,g3,g4):=ih e
   exact⟨g1,ps',ys',g2,g3,bT _ g4⟩
def Shd.put {ns:List (Str×Option jP)}{vs:List FV}{xs:List V}(h:Shd K S ns vs xs){v w:FV}{x:V}(e:pV f ns vs=Ψ (Φ,v))(r:RV K S w x):∃ xs',Shd K S ns (pc f w ns vs) xs'/\kD ns (pc f w ns vs) xs'=lS f x (kD ns vs xs)/\kB ns (pc f w ns vs) xs'=kB ns vs xs:=by
 induction h with
 | nil=>cases e
 | @imm g u y ns vs xs r0 h0 ih =>
  let e:(if g=f then Ψ ((Φ:Option jP),u) else pV f ns vs)=Ψ (Φ,v):=e
  show ∃ xs',Shd K S _ (if g=f then w :: vs else u :: pc f w ns vs) xs'/\kD ((g,Φ) :: ns) (if g=f then w :: vs else u :: pc f w ns vs) xs'=(if g=f then (g,x) :: kD ns vs xs else (g,y) :: lS f x (kD ns vs xs))/\kB ((g,Φ) :: ns) (if g=f then w :: vs else u :: pc f w ns vs) xs'=kB ns vs xs
  by_cases z:g=f
  ·rw[if_pos z,if_pos z]
   exact⟨x :: xs,.imm r h0,rfl,rfl⟩
  ·rw[if_neg z] at e
   rw[if_neg z,if_neg z]
   let(xs',h1,h2,h3):=ih e
   exact⟨y :: xs',.imm r0 h1,by show (g,y) :: kD ns _ xs'=_;rw[h2],h3⟩
 | @own g l u ps ys ns vs xs e1 r0 h0 ih =>
  let e:(if g=f then Ψ (Ψ l,u) else pV f ns vs)=Ψ (Φ,v):=e
  let(b1,b2):=lm (g:=g) (l:=l) (ns:=ns) (vs:=vs) (xs:=xs) e1 r0
  by_cases z:g=f
  ·rw[if_pos z] at e;cases e
  ·rw[if_neg z] at e
   let(xs',h1,h2,h3):=ih e
   let(c1,c2):=lm (g:=g) (l:=l) (ns:=ns) (vs:=pc f w ns vs) (xs:=xs') e1 r0
   let es:pc f w ((g,Ψ l) :: ns) (u :: vs)=u :: pc f w ns vs:=if_neg z
   rw[es,b1,b2]
   exact⟨ys++xs',.own e1 r0 h1,?_,by rw[c2,h3]⟩
   rw[c1,h2]
   exact (if_neg z).symm
def Shd.puto {ns:List (Str×Option jP)}{vs:List FV}{xs:List V}(h:Shd K S ns vs xs)(nd:((kB ns vs xs).map (·.1)).Nodup){l:jP}{v w:FV}{ps:List FV}{ys:List V}(e:pV f ns vs=Ψ (Ψ l,v))(ew:oV w=Ψ ps)(r:RVs K S ps ys):∃ xs',Shd K S ns (pc f w ns vs) xs'/\kD ns (pc f w ns vs) xs'=kD ns vs xs/\kB ns (pc f w ns vs) xs'=k7 (kB ns vs xs) l (lI w ys):=by
 induction h with
 | nil=>cases e
 | @imm g u y ns vs xs r0 h0 ih =>
  let e:(if g=f then Ψ ((Φ:Option jP),u) else pV f ns vs)=Ψ (Ψ l,v):=e
  by_cases z:g=f
  ·rw[if_pos z] at e;cases e
  ·rw[if_neg z] at e
   let(xs',h1,h2,h3):=ih nd e
   let es:pc f w ((g,Φ) :: ns) (u :: vs)=u :: pc f w ns vs:=if_neg z
   rw[es]
   exact⟨y :: xs',.imm r0 h1,by show (g,y) :: kD ns _ xs'=(g,y) :: kD ns vs xs;rw[h2],h3⟩
 | @own g l2 u qs zs ns vs xs e1 r0 h0 ih =>
  let e:(if g=f then Ψ (Ψ l2,u) else pV f ns vs)=Ψ (Ψ l,v):=e
  let(b1,b2):=lm (g:=g) (l:=l2) (ns:=ns) (vs:=vs) (xs:=xs) e1 r0
  rw[b2] at nd
  let(n1,n2):=fv.mp nd
  let far:∀ {gs:List (jP×GO)}{a:jP}{q:GO},a ∉ gs.map (·.1)->k7 gs a q=gs:=λ{gs a q} hn=>by
   unfold k7
   conv=>rhs;rw[<- List.map_id gs]
   exact cq λp hp=>if_neg λy=>hn (ir.mpr ⟨p,hp,y⟩)
  by_cases z:g=f
  ·rw[if_pos z] at e;cases e
   let es:pc f w ((g,Ψ l) :: ns) (v :: vs)=w :: vs:=if_pos z
   let(c1,c2):=lm (g:=g) (l:=l) (ns:=ns) (vs:=vs) (xs:=xs) ew r
   rw[es,b1,b2]
   exact⟨ys++xs,.own ew r h0,c1,?_⟩
   rw[c2]
   show _=(if l=l then (l,lI w ys) else _) :: k7 (kB ns vs xs) l (lI w ys)
   rw[if_pos rfl,far n1]
  ·rw[if_neg z] at e
   let(xs',h1,h2,h3):=ih n2 e
   let(c1,c2):=lm (g:=g) (l:=l2) (ns:=ns) (vs:=pc f w ns vs) (xs:=xs') e1 r0
   let es:pc f w ((g,Ψ l2) :: ns) (u :: vs)=u :: pc f w ns vs:=if_neg z
   rw[es,b1,b2]
   exact⟨zs++xs',.own e1 r0 h1,by rw[c1,h2],?_⟩
   rw[c2,h3]
   let hl:l2≠l:=λy=>n1 (by
    let(_,_,_,_,_,m):=h0.rdo e
    rw[y];exact ir.mpr ⟨_,m,rfl⟩)
   show _=(if l2=l then _ else (l2,lI u zs)) :: k7 (kB ns vs xs) l (lI w ys)
   rw[if_neg hl]
def Shd.new {ns:List (Str×Option jP)}{vs:List FV}{xs:List V}(h:Shd K S ns vs xs)(hn:f ∉ ns.map (·.1)):(∀ {w:FV}{x:V},RV K S w x->∃ xs',Shd K S (ns++[(f,Φ)]) (vs++[w]) xs'/\kD (ns++[(f,Φ)]) (vs++[w]) xs'=lS f x (kD ns vs xs)/\kB (ns++[(f,Φ)]) (vs++[w]) xs'=kB ns vs xs) /\
  ∀ {w:FV}{ps:List FV}{ys:List V}{l:jP},oV w=Ψ ps->RVs K S ps ys->∃ xs',Shd K S (ns++[(f,Ψ l)]) (vs++[w]) xs'/\kD (ns++[(f,Ψ l)]) (vs++[w]) xs'=lS f (.ref l) (kD ns vs xs)/\kB (ns++[(f,Ψ l)]) (vs++[w]) xs'=kB ns vs xs++[(l,lI w ys)]:=by
 induction h with
 | nil =>
  exact⟨λ{w x} r=>⟨[x],.imm r .nil,rfl,rfl⟩,λ{w ps ys l} e r=>?_⟩
  let(c1,c2):=lm (g:=f) (l:=l) (ns:=[]) (vs:=[]) (xs:=[]) e r
  rw[fH] at c1 c2
  exact⟨ys,by have:=Shd.own (g:=f) (l:=l) e r Shd.nil;rwa [fH] at this,c1,c2⟩
 | @imm g u y ns vs xs r0 h0 ih =>
  let hn:=not_or.mp λz=>hn (gM.mpr z)
  let ng:¬ g=f:=λz=>hn.1 z.symm
  let(i1,i2):=ih hn.2
  exact⟨λ{w x} r=>?_,λ{w ps ys l} e r=>?_⟩
  ·let(xs',h1,h2,h3):=i1 r
   exact⟨y :: xs',.imm r0 h1,?_,h3⟩
   show (g,y) :: kD (ns++_) (vs++_) xs'=(if g=f then _ else (g,y) :: lS f x (kD ns vs xs))
   rw[if_neg ng,h2]
  ·let(xs',h1,h2,h3):=i2 (l:=l) e r
   exact⟨y :: xs',.imm r0 h1,?_,h3⟩
   show (g,y) :: kD (ns++_) (vs++_) xs'=(if g=f then _ else (g,y) :: lS f (.ref l) (kD ns vs xs))
   rw[if_neg ng,h2]
 | @own g l2 u qs zs ns vs xs e1 r0 h0 ih =>
  let hn:=not_or.mp λz=>hn (gM.mpr z)
  let ng:¬ g=f:=λz=>hn.1 z.symm
  let(b1,b2):=lm (g:=g) (l:=l2) (ns:=ns) (vs:=vs) (xs:=xs) e1 r0
  let(i1,i2):=ih hn.2
  rw[b1,b2]
  exact⟨λ{w x} r=>?_,λ{w ps ys l} e r=>?_⟩
  ·let(xs',h1,h2,h3):=i1 r
   let(c1,c2):=lm (g:=g) (l:=l2) (ns:=ns++[(f,Φ)]) (vs:=vs++[w]) (xs:=xs') e1 r0
   exact⟨zs++xs',.own e1 r0 h1,c1.trans ?_,c2.trans (by rw[h3])⟩
   show _=(if g=f then _ else (g,V.ref l2) :: lS f x (kD ns vs xs))
   rw[if_neg ng,h2]
  ·let(xs',h1,h2,h3):=i2 (l:=l) e r
   let(c1,c2):=lm (g:=g) (l:=l2) (ns:=ns++[(f,Ψ l)]) (vs:=vs++[w]) (xs:=xs') e1 r0
   exact⟨zs++xs',.own e1 r0 h1,c1.trans ?_,c2.trans (by rw[h3];rfl)⟩
   show _=(if g=f then _ else (g,V.ref l2) :: lS f (.ref l) (kD ns vs xs))
   rw[if_neg ng,h2]
end
inductive ClS (X:Cx)(a C dx:jP)(Q:Hp->Prop)(H2:Hp):Prop
 | mk (H':_)(fs:_)(gs:_)(_:H2=mf H' a C dx fs gs)(_:Bag H' a C dx fs gs)(_:oY X gs)(_:Q H'):ClS X a C dx Q H2
section
variable {X:Cx}{Z9:List (jP×Obj)}{σ:L2.St}{H:Hp}{s:jw}{a Ca dx:jP}{fs:List (Str×V)}{gs:List (jP×GO)}
def vV {l:jP}{y:GO}(n:oY X gs):oY X (k7 gs l y):=λb hb=>n b (by rw[<- n9 l y];exact hb)
def zd {Q:Hp->Prop}(B:Bag H a Ca dx fs gs)(n:oY X gs){l:jP}{z:GO}(y:GO)(hl:(l,z)∈gs)(q:Q (kh H a (.bag Ca dx fs (k7 gs l y)))):ClS X a Ca dx Q (kh (mf H a Ca dx fs gs) l (tN y)):=by
 let(e,B2):=Ee B y hl
 exact⟨_,_,_,e,B2,vV n,q⟩
def Fm {Q:Hp->Prop}(B:Bag H a Ca dx fs gs)(n:oY X gs)(fs':List (Str×V))(q:Q (kh H a (.bag Ca dx fs' gs))):ClS X a Ca dx Q (kh (mf H a Ca dx fs gs) a (.ins Ca dx fs')):=by
 let(e,B2):=yz B fs'
 exact⟨_,_,_,e,B2,n,q⟩
def ze {Q:Hp->Prop}(B:Bag H a Ca dx fs gs)(n:oY X gs){p:jP}(o:HO)(hp:H p=Φ)(q:Q (kh H p o)):ClS X a Ca dx Q (kh (mf H a Ca dx fs gs) p o):=by
 let(e,B2):=yx B o hp
 exact⟨_,_,_,e,B2,n,q⟩
def xP {Q:VK}{u:jF}{s':jw}(h:EP X Z9 σ (λv H2=>ClS X a Ca dx (Q v) H2) u s'):EP X Z9 σ Q u s':=by
 let(v,H2,I,r,H',fs,gs,rfl,B,n,q):=h
 exact⟨v,H',mw I B n,r,q⟩
def Gx {f:jF}{r:List V->Hp->VK->Prop}(hc:kN X f r):kN X f (λxs H Q=>∃ a C dx fs gs,H a=Ψ (.bag C dx fs gs)/\(Bag H a C dx fs gs->oY X gs->r xs (mf H a C dx fs gs) (λv H2=>ClS X a C dx (Q v) H2))):=by
 rintro Z9 s σ H xs us Q I rv ⟨a,C,dx,fs,gs,h,q⟩
 let B:=lQ I h
 exact ko (hc Z9 s σ _ xs us _ (k8 I h) rv (q B (sW I B))) λu s' h=>xP h
variable {i:Nat}{nx:Str}{p pos:Pos}{f:Str}
def mr (ho:PE X (.Name nx p) (tVar i)):PE X (.Attribute (.Name nx p) f pos) (λσ H Q=>∃ a C dx fs gs v,σ[i]?=Ψ (Ψ (.ref a))/\H a=Ψ (.bag C dx fs gs)/\Cls X.K C/\NoAttr X.K C f/\fs.lookup f=Ψ v/\Q v H):=by
 rintro Z9 s σ H Q I ⟨a,C,dx,fs,gs,v,e1,h,c,n,l,q⟩
 exact FN rfl (ko (ho Z9 s σ H (λx H1=>x=.ref a/\H1=H) I ⟨_,e1,rfl,rfl⟩) λu s1 ⟨x,H1,I1,rx,ex,eh⟩=>?_)
 subst ex;subst eh
 obtain rfl:u=Value.ref a:=rx
 let B:=lQ I1 h
 let nf:=sW I1 B
 exact rW (k8 I1 h) ml c n l λu' s2 I2 ru=>⟨v,H1,mw I2 B nf,ru,q⟩
def uI {value:Expr}{tv:TE}{pos':Pos}(ho:PE X (.Name nx p) (tVar i))(hv:PE X value tv)(hs:swapsWith value (Ψ (.Attribute (.Name nx p) f pos')) pos.line X.env=pure Ξ):PS X (.Assign [.Attribute (.Name nx p) f pos'] value pos) (λD σ H=>tv σ H λy H1=>∃ a C dx fs gs,σ[i]?=Ψ (Ψ (.ref a))/\H1 a=Ψ (.bag C dx fs gs)/\Cls X.K C/\NoAttr X.K C f/\fs.length<1000/\(Bag H1 a C dx fs gs->(∀ b o u,X.H₀ b=Ψ (.frz o u)->H1 b=Ψ (.frz o u))->oY X gs->ClS X a C dx (D.nx σ) (kh (mf H1 a C dx fs gs) a (.ins C dx (lS f y fs))))):=by
 intro Z9 s σ H D I h
 exact plainObj_wpAny_Assign_Attribute (ko (hv Z9 s σ H _ I h) λu s1 ⟨y,H1,I1,ry,a,C,dx,fs,gs,e1,h1,c,n,l,q⟩=>ko (ho Z9 s1 σ H1 (λx H2=>x=.ref a/\H2=H1) I1 ⟨_,e1,rfl,rfl⟩) λov s2 ⟨x,H2,I2,rx,ex,eh⟩=>?_) hs
 subst ex;subst eh
 obtain rfl:ov=Value.ref a:=rx
 exact rm (k8 I2 h1) ml c n l ry λs3 I3=>?_
 let B:=lQ I2 h1
 let(H',fs',gs',e,B,nf,q):=q B I2.base.frzs (sW I2 B)
 exact⟨σ,H',mw (e ▸ I3) B nf,q⟩
def DW {op:ji}{rd:V->V->Hp->VK->Prop}{value:Expr}{tv:TE}{tpos:Pos}(ho:PE X (.Name nx p) (tVar i))(hv:PE X value tv)(hop:Rj X op rd):PS X (.AugAssign (.Attribute (.Name nx p) f tpos) op value pos) (λD σ H=>∃ a C dx fs gs v,σ[i]?=Ψ (Ψ (.ref a))/\H a=Ψ (.bag C dx fs gs)/\Cls X.K C/\NoAttr X.K C f/\fs.lookup f=Ψ v/\tv σ H λy H2=>rd v y H2 λz H3=>∃ fs' gs',H3 a=Ψ (.bag C dx fs' gs')/\fs'.length<1000/\D.nx σ (kh H3 a (.bag C dx (lS f z fs') gs'))):=by
 rintro Z9 s σ H D I ⟨a,C,dx,fs,gs,v,e1,h,c,n,l,q⟩
 exact wpAny_AugAssign_AttributeAny (ko (ho Z9 s σ H (λx H1=>x=.ref a/\H1=H) I ⟨_,e1,rfl,rfl⟩) λov s1 ⟨x,H1,I1,rx,ex,eh⟩=>?_)
 subst ex;subst eh
 obtain rfl:ov=Value.ref a:=rx
 let B0:=lQ I1 h
 let nf0:=sW I1 B0
 exact rW (k8 I1 h) ml c n l λu s2 I2 ru=>?_
 let I2:=mw I2 B0 nf0
 exact ko (hv Z9 s2 σ H1 _ I2 q) λw3 s3 ⟨y,H2,I3,ry,q3⟩=>ko (hop Z9 s3 σ H2 v y u w3 _ I3 ru ry q3) λw4 s4 ⟨z,H3,I4,rz,fs',gs',ea',l',q4⟩=>?_
 let B:=lQ I4 ea'
 let nf:=sW I4 B
 exact rm (k8 I4 ea') ml c n l' rz λs5 I5=>?_
 let(e5,B5):=yz B (lS f z fs')
 rw[e5] at I5
 exact⟨σ,_,mw I5 B5 nf,q4⟩
def Bw {o b:Expr}{td ty:TE}(hu:X.A.units+1<cLine)(ho:PE X o td)(hi:PE X b ty)(hs:JF b):PE X (.Subscript o b pos) (λσ H Q=>td σ H λx H1=>ty σ H1 λy H2=>∃ l a C dx fs gs,x=.ref l/\H2 a=Ψ (.bag C dx fs gs)/\(Bag H2 a C dx fs gs->∃ v,DGet (mf H2 a C dx fs gs) l y (Ψ v)/\Q v H2)):=by
 intro Z9 s σ H Q I h
 exact yg PySem.F.slot_dict_getitem.lookup hs (ko (ho Z9 s σ H _ I h) λu s1 ⟨x,H1,I1,rx,q1⟩=>ko (hi Z9 s1 σ H1 _ I1 q1) λiv s2 ⟨y,H2,I2,ry,l,a,C,dx,fs,gs,ex,h2,g⟩=>?_)
 subst ex
 obtain rfl:u=Value.ref l:=rx
 let B:=lQ I2 h2
 let nf:=sW I2 B
 let J:=k8 I2 h2
 let(v,g,q2):=g B
 exact⟨qG J g,tT hu J g ry λw' s3 I3 rw'=>⟨v,H2,mw I3 B nf,rw',q2⟩⟩
def xy {o b:Expr}{td ty:TE}(hu:X.A.units+1<cLine)(hi:PE X b ty)(ho:PE X o td):PC X .NotIn b o (λσ H Q=>ty σ H λy H1=>td σ H1 λx H2=>∃ l a C dx fs gs,x=.ref l/\H2 a=Ψ (.bag C dx fs gs)/\(Bag H2 a C dx fs gs->∃ ov,DGet (mf H2 a C dx fs gs) l y ov/\Q (.bl (!ov.isSome)) H2)):=by
 intro Z9 s σ H Q I h
 exact ko (hi Z9 s σ H _ I h) λiv s1 ⟨y,H1,I1,ry,q1⟩=>ko (ho Z9 s1 σ H1 _ I1 q1) λu s2 ⟨x,H2,I2,rx,l,a,C,dx,fs,gs,ex,h2,g⟩=>?_
 subst ex
 obtain rfl:u=Value.ref l:=rx
 let B:=lQ I2 h2
 let nf:=sW I2 B
 let(ov,g,q2):=g B
 exact Fg hu (k8 I2 h2) g ry λs3 I3=>⟨.bl (!ov.isSome),H2,mw I3 B nf,rfl,q2⟩
def Bi {o b value:Expr}{td ty tv:TE}{pos':Pos}(hu:X.A.units+1<cLine)(ho:PE X o td)(hi:PE X b ty)(hv:PE X value tv)(hs:swapsWith value (Ψ (.Subscript o b pos')) pos.line X.env=pure Ξ) :
  PS X (.Assign [.Subscript o b pos'] value pos) (λD σ H=>tv σ H λv H1=>td σ H1 λx H2=>ty σ H2 λy H3=>∃ l a C dx fs gs,x=.ref l/\H3 a=Ψ (.bag C dx fs gs)/\(Bag H3 a C dx fs gs->oY X gs->∃ H4,DPut (mf H3 a C dx fs gs) l y v H4/\ClS X a C dx (D.nx σ) H4)):=by
 intro Z9 s σ H D I h
 exact wpAny_Assign_Subscript (ko (hv Z9 s σ H _ I h) λr s1 ⟨v,H1,I1,rv,q1⟩=>ko (ho Z9 s1 σ H1 _ I1 q1) λu s2 ⟨x,H2,I2,rx,q2⟩=>ko (hi Z9 s2 σ H2 _ I2 q2) λiv s3 ⟨y,H3,I3,ry,l,a,C,dx,fs,gs,ex,h3,q3⟩=>?_) hs
 subst ex
 obtain rfl:u=Value.ref l:=rx
 let B:=lQ I3 h3
 let(H4,g,H',fs',gs',e,B2,nf,q):=q3 B (sW I3 B)
 exact Aj hu (k8 I3 h3) g ry rv λs4 I4=>⟨σ,H',mw (e ▸ I4) B2 nf,q⟩
variable {CX:Az}{k:Nat}{g:jP}{fd:jm}{ps:List Str}{sp:Sp}{m:Str}{apos:Pos}{e:Expr}{es:List Expr}{t:TA}{E:XK}
def Bt {pl:Sem Bool}(ho:PE X (.Name nx p) (tVar i))(c:Cls X.K Ca)(hm:Meth X.K Ca m g)(F:FnOk X.prog X.w X.K X.mg X.base CX k g fd ps sp)(hr:Room k X.A)(hb:Binds X.K fd ps [])(hx:pw CX X E)(ha:PA X (e :: es) t)
  (hst:starEach (e :: es) X.env=(Ξ,eval e X.env) :: starEach es X.env)(hpl:(backTo pos (starEach es X.env)).any (·.1)=Ξ)
  (ht:eval (.Call (.Attribute (.Name nx p) m apos) (e :: es) [] pos) X.env=(do
   let ov <- eval (.Name nx p) X.env
   standAt apos.atName
   let (f,first) <- holding [ov] (getMethod ov m pl)
   callWith pos f first (backTo pos (starEach (e :: es) X.env)) (backToKw pos (keywordEach [] X.env)))) :
  PE X (.Call (.Attribute (.Name nx p) m apos) (e :: es) [] pos) (λσ H Q=>∃ a dx fs gs,σ[i]?=Ψ (Ψ (.ref a))/\H a=Ψ (.bag Ca dx fs gs)/\fs.lookup m=Φ/\t σ H λvs H2=>sp (.ref a :: vs) H2 Q E):=by
 rintro Z9 s σ H Q I ⟨a,dx,fs,gs,e1,h,l,q⟩
 exact PySem.W.methodCall_KW (pl:=pl) (ko (ho Z9 s σ H (λx H1=>x=.ref a/\H1=H) I ⟨_,e1,rfl,rfl⟩) λu s1 ⟨x,H1,I1,rx,ex,eh⟩=>?_) ht
 subst ex;subst eh
 obtain rfl:u=Value.ref a:=rx
 exact pj (k8 I1 h) ml c hm l ?_
 exact PySem.W.callWith_K (first:=[.ref a]) (h₀:=X.base) I1.ok.mod.kin hm.kp (ko (ha pos Z9 s1 σ H1 _ I1 q) λus s2 ⟨vs,H2,I2,r,q2⟩=>⟨I2.kIn,?_⟩) hst hpl
 exact uD (us:=.ref a :: us) (vs:=.ref a :: vs) F hr hb .nil hx I2 (.cons rfl r) (by rw[fH];exact q2)
def tH {pl:Sem Bool}(ho:PE X (.Name nx p) (tVar i))(c:Cls X.K Ca)(hm:Meth X.K Ca m g)(F:FnOk X.prog X.w X.K X.mg X.base CX k g fd ps sp)(hr:Room k X.A)(hb:Binds X.K fd ps [])(hx:pw CX X E)
  (ht:eval (.Call (.Attribute (.Name nx p) m apos) [] [] pos) X.env=(do
   let ov <- eval (.Name nx p) X.env
   standAt apos.atName
   let (f,first) <- holding [ov] (getMethod ov m pl)
   callWith pos f first (backTo pos (starEach [] X.env)) (backToKw pos (keywordEach [] X.env)))) :
  PE X (.Call (.Attribute (.Name nx p) m apos) [] [] pos) (λσ H Q=>∃ a dx fs gs,σ[i]?=Ψ (Ψ (.ref a))/\H a=Ψ (.bag Ca dx fs gs)/\fs.lookup m=Φ/\sp [.ref a] H Q E):=by
 rintro Z9 s σ H Q I ⟨a,dx,fs,gs,e1,h,l,q⟩
 exact PySem.W.methodCall_KW (pl:=pl) (ko (ho Z9 s σ H (λx H1=>x=.ref a/\H1=H) I ⟨_,e1,rfl,rfl⟩) λu s1 ⟨x,H1,I1,rx,ex,eh⟩=>?_) ht
 subst ex;subst eh
 obtain rfl:u=Value.ref a:=rx
 exact pj (k8 I1 h) ml c hm l ?_
 exact PySem.W.callWith_K0 (first:=[.ref a]) I1.kIn hm.kp (uD (us:=[.ref a]) (vs:=[.ref a]) F hr hb .nil hx I1 (.cons rfl .nil) q)
def zH {Q:VK}{us:List jF}{vs:List V}(M:Mk X.K Ca g)(F:FnOk X.prog X.w X.K X.mg X.base CX k g fd ps sp)(hr:RoomS k X.A)(hb:Binds X.K fd ps [])(hx:pw CX X E)(I:Inv X Z9 σ H s)(r:Vals vs us)
  (h:∀ x dx,H x=Φ->H dx=Φ->dx≠x->x=dx+1->sp (.ref x :: vs) (kh (kh H dx (.own x)) x (.bag Ca dx [] [])) (λv H2=>v=.non/\Q (.ref x) H2) E) :
  wpAny (model X.prog X.w) X.A (call (.ref Ca) us) (EP X Z9 σ Q) X.xe s:=by
 let f1:=I.hok.fresh (iJ _)
 let f2:=I.hok.fresh (iK _)
 let ne:s.heap.objs.size≠s.heap.objs.size+1:=ii (eA _)
 let hq:=h (s.heap.objs.size+1) s.heap.objs.size f1 f2 ne rfl
 let B:Bag (kh (kh H s.heap.objs.size (.own (s.heap.objs.size+1))) (s.heap.objs.size+1) (.bag Ca s.heap.objs.size [] [])) (s.heap.objs.size+1) Ca s.heap.objs.size [] []:=⟨jV,by rw[jT ne,jV],λg hg=>absurd hg eF,∅,rfl⟩
 let I2:=Inv.made (C:=Ca) I
 let e0:kh (kh H s.heap.objs.size (.own (s.heap.objs.size+1))) (s.heap.objs.size+1) (.ins Ca s.heap.objs.size [])=mf (kh (kh H s.heap.objs.size (.own (s.heap.objs.size+1))) (s.heap.objs.size+1) (.bag Ca s.heap.objs.size [] [])) (s.heap.objs.size+1) Ca s.heap.objs.size [] []:=by
  funext b
  unfold mf
  by_cases z:b=s.heap.objs.size+1
  ·rw[z,jV,if_pos rfl]
  ·rw[jT z,if_neg z,jT z];rfl
 rw[e0] at I2
 let I2:=mw I2 B λl hl=>absurd hl eF
 let r2:Vals (V.ref (s.heap.objs.size+1) :: vs) (Value.ref (s.heap.objs.size+1) :: us):=.cons rfl r
 let hl:(Value.ref (s.heap.objs.size+1) :: us++[]).length=ps.length:=by
  let e:=r2.length
  rw[F.len _ _ _ _ hq] at e
  rw[fH];exact e.symm
 let hbb:=hb _ (Value.ref (s.heap.objs.size+1) :: us) I2.kIn hl
 rw[fH] at hbb
 refine wpAny_call (BO (f:=g) I.kIn M.makes M.init (beq_iff_eq.mp M.fn) (hG (F.run _ X.stack _ _ ⟨Value.ref (s.heap.objs.size+1) :: us,[]⟩ (Value.ref (s.heap.objs.size+1) :: us) _ _ E (hr.make Ca us [])
  (I2.env0.make Ca us []) hbb r2 hq) λr s' hq'=>?_))
 cases r with
 | error e=>exact hx Z9 σ _ _ e s' I2 hq'
 | ok fl =>
  cases fl with
  | ret u =>
   let(v,H',I3,rv,ev,q3):=I2.after hq'
   subst ev
   exact⟨rv,⟨V.ref (s.heap.objs.size+1),H',I3,rfl,q3⟩⟩
  | next=>exact i9 hq'
  | brk=>exact i9 hq'
  | cont=>exact i9 hq'
variable {x:Str}
def zN (M:Mk X.K Ca g)(F:FnOk X.prog X.w X.K X.mg X.base CX k g fd ps sp)(hr:RoomS k X.A)(hg:Gl X x)(hm:X.mg x=Ψ (.ref Ca))(hb:Binds X.K fd ps [])(hx:pw CX X E)
  (hdb:(x == ("__debug__":Str))=Ξ) :
  PE X (.Call (.Name x p) [] [] pos) (λσ H Q=>∀ x dx,H x=Φ->H dx=Φ->dx≠x->x=dx+1->sp [.ref x] (kh (kh H dx (.own x)) x (.bag Ca dx [] [])) (λv H2=>v=.non/\Q (.ref x) H2) E):=by
 intro Z9 s σ H Q I h
 exact cD (oR I hg hm ?_ hdb)
 exact PySem.W.callWith_K0 I.kIn M.kp (zH (us:=[]) M F hr hb hx I .nil h)
end
abbrev xN (Ca:jP)(f:Str):FV->Option FV
 | .shf C _ ns vs=>if C=Ca then (pV f ns vs).bind λp=>if p.1=Φ then Ψ p.2 else Φ else Φ
 | _=>Φ
abbrev mS (Ca:jP)(f:Str):FV->Option FV
 | .shf C _ ns vs=>if C=Ca then (pV f ns vs).bind λp=>if p.1.isSome then Ψ p.2 else Φ else Φ
 | _=>Φ
abbrev qN (Ca:jP)(f:Str)(w:FV):FV->Option FV
 | .shf C dx ns vs=>if C=Ca then Ψ (.shf C dx ns (pc f w ns vs)) else Φ
 | _=>Φ
abbrev xq (Ca:jP)(f:Str)(w:FV):FV->Option FV
 | .shf C dx ns vs=>if C=Ca/\ns.length<1000 then (if f∈ns.map (·.1) then (pV f ns vs).bind λp=>if p.1=Φ then Ψ (.shf C dx ns (pc f w ns vs)) else Φ else Ψ (.shf C dx (ns++[(f,Φ)]) (vs++[w]))) else Φ
 | _=>Φ
abbrev Hz (Ca:jP)(f:Str)(w:FV)(Q:FV->Prop):FV->Prop
 | .shf C dx ns vs=>C=Ca/\ns.length<1000/\f ∉ ns.map (·.1)/\∀ l,Q (.shf C dx (ns++[(f,Ψ l)]) (vs++[w]))
 | _=>False
abbrev Lb (Ca:jP)(m:Str):FV->Prop
 | .shf C _ ns _=>C=Ca/\m ∉ ns.map (·.1)
 | _=>False
abbrev wL (i:Nat)(Ca:jP)(f:Str):EW:=λL Q=>wp (lk L i) λo=>wp (xN Ca f o) λz=>Q z L
abbrev pb (i:Nat)(Ca:jP)(f:Str)(e:EW):EW:=λL Q=>wp (lk L i) λo=>wp (mS Ca f o) λd=>e L λk L1=>wp (lk L1 i) λo1=>o1=o/\wp (xV d k) λz=>Q z L1
abbrev qX (i:Nat)(Ca:jP)(f:Str)(e:EW):EW:=λL Q=>e L λk L1=>wp (lk L1 i) λo=>wp (mS Ca f o) λd=>wp (Hy k d) λz=>Q z L1
abbrev ym (i:Nat)(Ca:jP)(f:Str)(e:EW):SW:=λL Q=>e L λv L1=>wp (lk L1 i) λo=>wp (xq Ca f v o) λo1=>Q .next (L1.set i (Ψ o1))
abbrev yn (i:Nat)(Ca:jP)(f:Str)(e:EW):SW:=λL Q=>wp (lk L i) λo=>wp (xN Ca f o) λz=>e L λw L1=>wp (lk L1 i) λo1=>o1=o/\wp (mG z) λa=>wp (mG w) λb=>wp (xq Ca f (.int (a+b)) o1) λo2=>Q .next (L1.set i (Ψ o2))
abbrev rB (i:Nat)(Ca:jP)(f:Str)(w:FV):SW:=λL Q=>wp (lk L i) λo=>Hz Ca f w (λo1=>Q .next (L.set i (Ψ o1))) o
abbrev yk (i:Nat)(Ca:jP)(f:Str)(ek ev:EW):SW:=λL Q=>ev L λx L1=>wp (lk L1 i) λo=>wp (mS Ca f o) λ_=>ek L1 λj L2=>wp (lk L2 i) λo1=>o1=o/\wp (mS Ca f o1) λd=>wp (IU d j x) λd1=>wp (qN Ca f d1 o1) λo2=>Q .next (L2.set i (Ψ o2))
abbrev noO (S:Hp):Hp:=λb=>match S b with
 | some (.own _)=>Φ
 | o=>o
def mF {S:Hp}{b:jP}{u:HO}(e:S b=Ψ u)(n:∀ x,u≠.own x):noO S b=Ψ u:=by
 show (match S b with|some (.own _)=>Φ|o=>o)=_
 rw[e]
 cases u with
 | own x=>exact absurd rfl (n x)
 | _=>rfl
def nE {S:Hp}{b:jP}{u:HO}(h:noO S b=Ψ u):S b=Ψ u/\∀ x,u≠.own x:=by
 let h:(match S b with|some (.own _)=>Φ|o=>o)=Ψ u:=h
 cases e:S b with
 | none=>rw[e] at h;cases h
 | some o =>
  rw[e] at h
  cases o with
  | own x=>cases h
  | _=>cases h;exact⟨rfl,λ_ z=>nomatch z⟩
def HQ {k:List (List lF×V)}{z:Option Obj}:∀ x,Go (.dT k) z≠.own x:=by cases z<;>exact λ_ z=>nomatch z
def EK {k:List (lF×V)}{z:Option Obj}:∀ x,Go (.dK k) z≠.own x:=by cases z<;>exact λ_ z=>nomatch z
mutual
theorem RV.noO {K:ib}{S:Hp}:∀ {p:FV}{v:V},RV K S p v->RV K (noO S) p v
 | .non,v,h=>h
 | .bl b,v,h=>h
 | .int i,v,h=>h
 | .str _,v,h=>h
 | .shn _,v,h=>h
 | .tup ps,v,q1=>by let(a,xs,e,h1,h2):=q1;exact⟨a,xs,e,mF h1 (λ_ z=>nomatch z),RVs.noO h2⟩
 | .lst ps,v,q2=>by let(a,xs,e,h1,h2):=q2;exact⟨a,xs,e,mF h1 (λ_ z=>nomatch z),RVs.noO h2⟩
 | .dct ks vs,v,q3=>by let(a,xs,e,h0,h1,h2):=q3;exact⟨a,xs,e,h0,mF h1 (λ_ z=>nomatch z),RVs.noO h2⟩
 | .dci ks vs,v,q4=>by let(a,xs,e,h0,h1,h2):=q4;exact⟨a,xs,e,h0,mF h1 (λ_ z=>nomatch z),RVs.noO h2⟩
 | .dcz o ks vs,v,q5=>by let(a,xs,e,h0,h1,h2):=q5;exact⟨a,xs,e,h0,mF h1 (λ_ z=>nomatch z),RVs.noO h2⟩
 | .dcn z ks vs,v,q6=>by let(a,xs,e,h0,h1,h2):=q6;exact⟨a,xs,e,h0,mF h1 HQ,RVs.noO h2⟩
 | .obj _ _ _ _,v,q7=>by let(a,e,h):=q7;exact⟨a,e,mF h (λ_ z=>nomatch z)⟩
 | .adr _,v,h=>h
 | .shf C dx ns vs,v,q9=>by let(a,xs,e,h):=q9;exact⟨a,xs,e,mF h (λ_ z=>nomatch z)⟩
 | .dco z ks vs,v,q9=>by let(a,xs,e,h0,h1,h2):=q9;exact⟨a,xs,e,h0,mF h1 EK,RVs.noO h2⟩
 | .scr ns,v,q8=>by let(a,e,h):=q8;exact⟨a,e,h.elim (λq9=>by let(o,h):=q9;exact .inl ⟨o,mF h (λ_ z=>nomatch z)⟩) .inr⟩
theorem RVs.noO {K:ib}{S:Hp}:∀ {ps:List FV}{vs:List V},RVs K S ps vs->RVs K (noO S) ps vs
 | [],vs,h=>h
 | p :: ps,vs,q1=>by let(v,r,e,h1,h2):=q1;exact⟨v,r,e,RV.noO h1,RVs.noO h2⟩
end
def vW {S:Hp}:Same (noO S) S:=λ_ _ e=>(nE e).1
abbrev qJ (md:Md) (i:Nat):Bool:=(jX md i).w && md.all (λm=>Δ (m≠.ob))
section
variable {K:ib}{c:Cn}{md:Md}{L:jR}{σ:L2.St}{S H:Hp}{i:Nat}{fl:Str}{Ca:jP}
def Iv.shf (I:Iv K c md L σ S H)(m:qJ md i=Ω){C dx:jP}{ns:List (Str×Option jP)}{vs:List FV}(e:lk L i=Ψ (.shf C dx ns vs)):∃ a xs,σ[i]?=Ψ (Ψ (.ref a))/\H a=Ψ (.bag C dx (kD ns vs xs) (kB ns vs xs))/\Shd K S ns vs xs/\S a=Φ:=by
 let(a,e1,(h1,ps,xs,e2,h,r),_):=I.own i _ (Mo.w_imm (b2 m).1) ((kP _ _ _).mp e)
 exact⟨a,xs,e1,h,xp e2 r,h1⟩
def Iv.wshf (I:Iv K c md L σ S H)(m:qJ md i=Ω){v:FV}(e:lk L i=Ψ v){a:jP}(e1:σ[i]?=Ψ (Ψ (.ref a))){C dx:jP}{ns:List (Str×Option jP)}{vs:List FV}{xs:List V}(h:Shd K S ns vs xs):Iv K c md (L.set i (Ψ (.shf C dx ns vs))) σ S (kh H a (.bag C dx (kD ns vs xs) (kB ns vs xs))):=by
 let(ps,e2,r):=h.flat
 exact I.writeW (w:=.shf C dx ns vs) (b2 m).1 (qk (b2 m).2 i) ((kP _ _ _).mp e) e1 e2 r
def oH:∀ (ns:List (Str×Option jP))(vs:List FV)(xs:List V),(kD ns vs xs).length<=ns.length
 | [],_,_=>iK _
 | _ :: _,[],_=>iI _
 | (g,Φ) :: ns,v :: vs,xs=>Nat.succ_le_succ (oH ns vs (xs.drop 1))
 | (g,Ψ l) :: ns,v :: vs,xs=>Nat.succ_le_succ (oH ns vs (xs.drop (sT v)))
def mB {f:Str}:∀ (ns:List (Str×Option jP))(vs:List FV)(xs:List V),f ∉ ns.map (·.1)->(kD ns vs xs).lookup f=Φ
 | [],_,_,_=>rfl
 | _ :: _,[],_,_=>rfl
 | (g,Φ) :: ns,v :: vs,xs,h=>by
  let h:=not_or.mp λz=>h (gM.mpr z)
  show List.lookup f ((g,xs.headD .non) :: kD ns vs (xs.drop 1))=Φ
  rw[eG,beq_eq_false_iff_ne.mpr h.1]
  exact mB ns vs _ h.2
 | (g,Ψ l) :: ns,v :: vs,xs,h=>by
  let h:=not_or.mp λz=>h (gM.mpr z)
  show List.lookup f ((g,V.ref l) :: kD ns vs (xs.drop (sT v)))=Φ
  rw[eG,beq_eq_false_iff_ne.mpr h.1]
  exact mB ns vs _ h.2
def yU {o z:FV}(h:xN Ca fl o=Ψ z):∃ dx ns vs,o=.shf Ca dx ns vs/\pV fl ns vs=Ψ (Φ,z):=by
 cases o with
 | shf C dx ns vs =>
  let(y,h):=EH (show (if C=Ca then (pV fl ns vs).bind λp=>if p.1=Φ then Ψ p.2 else Φ else Φ)=Ψ z from h)
  let(p,e1,h):=lV h
  let(y2,h):=EH h
  cases h
  exact⟨dx,ns,vs,by rw[y],by rw[e1,<- y2]⟩
 | _=>cases h
def nr {o z:FV}(h:mS Ca fl o=Ψ z):∃ dx ns vs l,o=.shf Ca dx ns vs/\pV fl ns vs=Ψ (Ψ l,z):=by
 cases o with
 | shf C dx ns vs =>
  let(y,h):=EH (show (if C=Ca then (pV fl ns vs).bind λp=>if p.1.isSome then Ψ p.2 else Φ else Φ)=Ψ z from h)
  let(p,e1,h):=lV h
  let(y2,h):=EH h
  let(q,w):=p
  cases q with
  | none=>cases y2
  | some l=>cases h;exact⟨dx,ns,vs,l,by rw[y],e1⟩
 | _=>cases h
def xK {v:FV}{ps:List FV}(ys:List V)(e:oV v=Ψ ps):tN (lI v ys)=BB v ys/\zQ v=Ψ ps:=by
 cases v with
 | lst xs=>exact⟨rfl,e⟩
 | dco z ks us=>cases z<;>exact⟨rfl,e⟩
 | _=>cases e
def n6 (I:Iv K c md L σ S H){a C dx l:jP}{ns:List (Str×Option jP)}{vs:List FV}{xs:List V}{v:FV}(hs:S a=Φ)(h:Shd K S ns vs xs)(e:pV fl ns vs=Ψ (Ψ l,v))(B:Bag H a C dx (kD ns vs xs) (kB ns vs xs)):Same (noO S) (mf H a C dx (kD ns vs xs) (kB ns vs xs))/\RH K (noO S) (mf H a C dx (kD ns vs xs) (kB ns vs xs)) v (.ref l):=by
 exact⟨λb u e1=>?_,?_⟩
 ·let(e2,n):=nE e1
  let e3:=I.sub b u e2
  rcases kO B b with z|⟨g,m,_,e4⟩|⟨_,_,e4⟩
  ·rw[z,hs] at e2;cases e2
  ·rw[e4] at e3;cases e3;exact absurd rfl (n a)
  ·rw[e4];exact e3
 ·let(_,ps,ys,e1,r,hm):=h.rdo e
  let(g1,g2):=xK ys e1
  exact .inr ⟨l,rfl,?_,ps,ys,g2,by rw[B.opl hm,g1],RVs.noO r⟩
  cases e4:noO S l with
  | none=>rfl
  | some u =>
   let(e5,n):=nE e4
   have:=I.sub l u e5
   rw[B.gso _ hm] at this;cases this
   exact absurd rfl (n a)
end
abbrev kb (call:CW) (f i:Nat)(Ca:jP)(m:Str)(as:AW):EW:=λL Q=>wp (lk L i) λo=>Lb Ca m o/\km call f i as L Q
abbrev sj (call:CW) (f:Nat)(Ca:jP):EW:=λL Q=>∀ dx,call f [.shf Ca dx [] []] λz=>z.1=.non/\Q z.2 L
section
variable {X:Cx}{C:CC}{n:Nat}{sp:ib->Nat->Sp}{fr:Bool}{a b:Expr}{e ea eb:EW}{pos p px p2 apos:Pos}{i f k:Nat}{nx fl cn m:Str}{Ca:jP}{call:CW}{as:AW}
variable {K:ib}{c:Cn}{md:Md}{L:jR}{σ:L2.St}{S H:Hp}
def Nk (G:Good X C n sp)(h:C.nm i nx=Ω)(m:qJ C.md i=Ω)(hf:Δ ((Ca,fl)∈C.fl)=Ω):FE X C (.Attribute (.Name nx p) fl pos) (wL i Ca fl):=PE.imp (mr (ki G h)) λσ H Q q1=>by
 let(c,L,S,Q0,I,h,k):=q1
 let(o,e,h):=kq h
 let(z,e2,q):=kq h
 let(dx,ns,vs,rfl,e3):=yU e2
 let(l,xs,e1,hh,sd,_):=I.shf m e
 let(g1,g2):=G.fls _ (de hf)
 let(x,e4,r):=sd.rd e3
 exact⟨l,_,dx,_,_,x,e1,hh,g1,g2,e4,k z L q x S H r I (Same.refl S)⟩
def Nj (G:Good X C n sp)(hs:mL b=Ξ)(h:C.nm i nx=Ω)(m:qJ C.md i=Ω)(hf:Δ ((Ca,fl)∈C.fl)=Ω)(hb:FE X C b eb):FE X C (.Subscript (.Attribute (.Name nx px) fl p2) b pos) (pb i Ca fl eb):=PE.imp (Bw (X:=X.nox) (by have:=G.room.units;show X.A.units+1<cLine;lia) (mr (ki G h)) hb (pH hs)) λσ H Q q1=>by
 let(c,L,S,Q0,I,h,k):=q1
 let(o,e,h):=kq h
 let(d,e2,h):=kq h
 let(dx,ns,vs,l,rfl,e3):=nr e2
 let(a,xs,e1,hh,sd,sn):=I.shf m e
 let(g1,g2):=G.fls _ (de hf)
 exact⟨a,_,dx,_,_,.ref l,e1,hh,g1,g2,(sd.rdo e3).1,c,L,S,_,I,h,λw L2 hw y S2 H2 r2 I2 s2=>?_⟩
 let(o1,e4,rfl,hw):=kq hw
 let(z,e5,q):=kq hw
 let(a',xs',e1',hh',sd',sn'):=I2.shf m e4
 rw[e1] at e1';cases e1'
 exact⟨l,a,_,dx,_,_,rfl,hh',λB=>?_⟩
 let(hs',rd):=n6 I2 sn' sd' e3 B
 let(l',u,e6,g,r):=wN hs' rd (.inl (RV.noO r2)) e5
 cases e6
 exact⟨u,g,k z L2 q u S2 H2 (r.mono vW) I2 s2⟩
def MV (G:Good X C n sp)(h:C.nm i nx=Ω)(mo:qJ C.md i=Ω)(hf:Δ ((Ca,fl)∈C.fl)=Ω)(hc:nI a=Ξ)(ha:FE X C a ea):FS X C fr (.Assign [.Attribute (.Name nx p) fl px] a pos) (ym i Ca fl ea):=by
 exact PS.imp (uI (ki G h) ha (lK hc)) λD σ H ⟨c,L,S,Q0,I,h,k⟩=>⟨c,L,S,_,I,h,λv L1 q x S1 H1 r1 I1 s1=>?_⟩
 let(o,e4,q):=kq q
 let(o2,e5,q):=kq q
 cases o with
 | shf C' dx ns vs =>
  let((y,hl),e6):=EH (show (if C'=Ca/\ns.length<1000 then (if fl∈ns.map (·.1) then (pV fl ns vs).bind λp=>if p.1=Φ then Ψ (FV.shf C' dx ns (pc fl v ns vs)) else Φ else Ψ (.shf C' dx (ns++[(fl,Φ)]) (vs++[v]))) else Φ)=Ψ o2 from e5)
  subst y
  let(g1,g2):=G.fls _ (de hf)
  let(a,xs,e1,hh,sd,sn):=I1.shf mo e4
  exact⟨a,_,dx,_,_,e1,hh,g1,g2,Nat.lt_of_le_of_lt (oH ns vs xs) hl,λB _ nf=>Fm B nf _ ?_⟩
  by_cases hm:fl∈ns.map (·.1)
  ·rw[if_pos hm] at e6
   let(p',e7,e8):=lV e6
   let(e9,e8):=EH e8
   cases e8
   let(xs',h1,h2,h3):=sd.put (v:=p'.2) (by rw[e7,<- e9]) r1
   rw[<- h2,<- h3]
   exact k .next _ q σ S1 _ (I1.wshf mo e4 e1 h1) s1
  ·rw[if_neg hm] at e6
   cases e6
   let(xs',h1,h2,h3):=(sd.new hm).1 r1
   rw[<- h2,<- h3]
   exact k .next _ q σ S1 _ (I1.wshf mo e4 e1 h1) s1
 | _=>cases e5
def yh {w:FV}{ps:List FV}{ys:List V}{D:Ends}{Q0:FFl->jR->Prop}(G:Good X C n sp)(hf:Δ ((Ca,fl)∈C.fl)=Ω)(mo:qJ C.md i=Ω)(I:Iv X.K c C.md L σ S H)(ew:oV w=Ψ ps)(hz:∀ o u,tN (lI w ys)≠.frz o u)(r:RVs X.K S ps ys)(h:rB i Ca fl w L Q0)(k:∀ L',Q0 .next L'->∀ H',Iv X.K c C.md L' σ S H'->D.nx σ H'):∀ p0,H p0=Φ->∃ a C dx fs gs,σ[i]?=Ψ (Ψ (.ref a))/\kh H p0 (tN (lI w ys)) a=Ψ (.bag C dx fs gs)/\Cls X.K C/\NoAttr X.K C fl/\fs.length<1000/\(Bag (kh H p0 (tN (lI w ys))) a C dx fs gs->(∀ b o u,X.nox.H₀ b=Ψ (.frz o u)->kh H p0 (tN (lI w ys)) b=Ψ (.frz o u))->oY X.nox gs->ClS X.nox a C dx (D.nx σ) (kh (mf (kh H p0 (tN (lI w ys))) a C dx fs gs) a (.ins C dx (lS fl (.ref p0) fs)))):=by
 intro p0 hp
 let(o,e,h):=kq h
 cases o with
 | shf C' dx ns vs =>
  let(rfl,hl,hm,q):=h
  let(g1,g2):=G.fls _ (de hf)
  let(a,xs,e1,hh,sd,sn):=I.shf mo e
  let na:a≠p0:=λz=>by rw[z,hp] at hh;cases hh
  exact⟨a,_,dx,_,_,e1,by rw[jT na];exact hh,g1,g2,Nat.lt_of_le_of_lt (oH ns vs xs) hl,λB fz nf=>?_⟩
  let B0:Bag H a C' dx (kD ns vs xs) (kB ns vs xs):=by
   let nn:∀ {b x},kh H p0 (tN (lI w ys)) b=Ψ (.own x)->H b=Ψ (.own x):=λ{b x} e=>by
    by_cases z:b=p0
    ·rw[z,jV] at e;exact absurd (fo e) ((uY _).1 x)
    ·rwa [jT z] at e
   exact⟨hh,nn B.dxo,λg hg=>nn (B.gso g hg),B.nd,B.ax⟩
  rw[<- (yx B0 (tN (lI w ys)) hp).1]
  let(e6,B6):=Ef B0 hp (lS fl (.ref p0) (kD ns vs xs)) (lI w ys)
  let(xs',h1,h2,h3):=(sd.new hm).2 (l:=p0) ew r
  exact⟨_,_,_,e6,B6,λl hl' o u z=>?_,?_⟩
  ·rw[List.map_append] at hl'
   rcases fA.mp hl' with y|y
   ·exact nf l y o u z
   ·let y:l=p0:=cO.mp y
    have:=fz l o u z
    rw[y,jV] at this
    exact hz o u (fo this)
  ·rw[<- h2,<- h3]
   exact k _ (q p0) _ ((I.lay hp (.own a)).wshf mo e e1 h1)
 | _=>exact h.elim
def Ln (G:Good X C n sp)(h:C.nm i nx=Ω)(mo:qJ C.md i=Ω)(hf:Δ ((Ca,fl)∈C.fl)=Ω):FS X C fr (.Assign [.Attribute (.Name nx p) fl px] (.Dict [] [] p2) pos) (rB i Ca fl (.dco Φ [] [])) :=
 PS.imp (uI (ki G h) Bv (lK rfl)) λD σ H q1=>by
  let(c,L,S,Q0,I,h,k):=q1
  exact λp0 hp=>yh (w:=.dco Φ [] []) (ps:=[]) (ys:=[]) G hf mo I rfl (λ_ _ z=>nomatch z) rfl h (λL' q H' I'=>k .next L' q σ S H' I' (Same.refl S)) p0 hp
def Lm (G:Good X C n sp)(h:C.nm i nx=Ω)(mo:qJ C.md i=Ω)(hf:Δ ((Ca,fl)∈C.fl)=Ω):FS X C fr (.Assign [.Attribute (.Name nx p) fl px] (.List [] p2) pos) (rB i Ca fl (.lst [])) :=
 PS.imp (uI (ki G h) (xx kF) (lK rfl)) λD σ H q1=>by
  let(c,L,S,Q0,I,h,k):=q1
  exact⟨iI _,λp0 hp=>yh (w:=.lst []) (ps:=[]) (ys:=[]) G hf mo I rfl (λ_ _ z=>nomatch z) rfl h (λL' q H' I'=>k .next L' q σ S H' I' (Same.refl S)) p0 hp⟩
def MU (G:Good X C n sp)(h:C.nm i nx=Ω)(mo:qJ C.md i=Ω)(hf:Δ ((Ca,fl)∈C.fl)=Ω)(hc:(!nI a && !mL b)=Ω)(ha:FE X C a ea)(hb:FE X C b eb):FS X C fr (.Assign [.Subscript (.Attribute (.Name nx px) fl p2) b p] a pos) (yk i Ca fl eb ea):=by
 let hc:=b2 hc
 exact PS.imp (Bi (X:=X.nox) (by have:=G.room.units;show X.A.units+1<cLine;lia) (mr (ki (pos:=px) G h)) hb ha (lK (nb hc.1))) λD σ H q1=>?_
 let(c,L,S,Q0,I,h,k):=q1
 exact⟨c,L,S,_,I,h,λv L1 q x S1 H1 r1 I1 s1=>?_⟩
 let(o,e,q):=kq q
 let(d0,e2,q):=kq q
 let(dx,ns,vs,l,rfl,e3):=nr e2
 let(a',xs,e1,hh,sd,sn):=I1.shf mo e
 let(g1,g2):=G.fls _ (de hf)
 exact⟨a',_,dx,_,_,.ref l,e1,hh,g1,g2,(sd.rdo e3).1,c,L1,S1,_,I1,q,λw L2 q y S2 H2 r2 I2 s2=>?_⟩
 let(o1,e4,rfl,q):=kq q
 let(d,e5,q):=kq q
 let(d1,e6,q):=kq q
 let(o2,e7,q):=kq q
 rw[e2] at e5;cases e5
 let(a2,xs2,e1',hh2,sd2,sn2):=I2.shf mo e4
 rw[e1] at e1';cases e1'
 exact⟨l,a',_,dx,_,_,rfl,hh2,λB nf=>?_⟩
 let e7:(if Ca=Ca then Ψ (FV.shf Ca dx ns (pc fl d1 ns vs)) else Φ)=Ψ o2:=e7
 rw[if_pos rfl] at e7;cases e7
 let(_,ps,ys,f1,f2,hm):=sd2.rdo e3
 let hbl:=kM
 cases d0 with
 | dco zz ks us =>
  cases zz with
  | some o=>cases e6
  | none =>
  let(kk,f3,e6):=lV e6
  let(hb',rfl):=ou e6
  let(hl,rfl):=ou f1
  rw[pJ r2 f3]
  let hu:ks.length=ys.length:=by rw[hl,f2.length]
  let(p1,p2):=vJ (ks:=ks) (k:=kk) f2 (r1.mono s2)
  let(xs3,h1,h2,h3):=sd2.puto B.ndg e3 (w:=.dco Φ (k6 ks us kk v).1 (k6 ks us kk v).2) (if_pos (vK ks _ kk v hl).1) p2
  exact⟨_,.k (k:=oK kk) (B.opl hm) (by simp;lia),?_⟩
  have:=zd (X:=X.nox) (Q:=D.nx σ) B nf (.dk (oW ((ks.map oK).zip ys) (oK kk) x)) hm ?_
  ·exact this
  ·rw[vH ks ys kk x hu,<- p1,<- h2]
   let e8:lI (.dco Φ (k6 ks us kk v).1 (k6 ks us kk v).2) (k6 ks ys kk x).2=.dk (((k6 ks us kk v).1.map oK).zip (k6 ks ys kk x).2):=rfl
   rw[<- e8,<- h3]
   exact k .next _ q σ S2 _ (I2.wshf mo e4 e1 h1) (s1.trans s2)
 | dci _ _=>cases f1
 | _=>cases e6
def CO {a:Expr}{xs:List Expr}(G:Good X C n sp)(he:sp X.K (C.fns.length+k)=tq X.K call Ω Ξ (C.fns.length+k))(hk:C.ms[k]?=Ψ (cn,Ca,m))(hm:(m == ("__init__":Str))=Ξ)(h:C.nm i nx=Ω)(mo:qJ C.md i=Ω)(hl:oG apos pos=Ω)(hs:kE (a :: xs)=Ω)(hn:Δ ((a :: xs).length<30)=Ω)(ha:FA X C (a :: xs) as):FE X C (.Call (.Attribute (.Name nx p) m apos) (a :: xs) [] pos) (kb call (C.fns.length+k) i Ca m as):=by
 let(fa,fd,ps,h1,h2,_,h4,h5,h6):=G.mts k cn Ca m hk
 let hs':=b2 (show (!j9 a && kE xs)=Ω from hs)
 let(pl,hev):=oP (nx:=nx) (p:=p) (m:=m) (env:=X.env) hl (wE (pos:=pos) hs hn)
 exact PE.imp (Bt (X:=X.nox) (ki G h) h2 (h4 λz=>by rw[z] at hm;simp at hm) h6 G.room.toRoom h5 tI ha (jU (nb hs'.1)) (mU hs'.2) hev) λσ H Q ⟨c,L,S,Q0,I,h,kk⟩=>?_
 let(o,e,ho,hc9):=kq h
 cases o with
 | shf C' dx ns vs =>
  let(rfl,hl):=ho
  let(l,xs',e1,hh,_,_):=I.shf mo e
  have:=sJ (fr:=Ξ) (Q:=Q) I (b2 mo).1 (qk (b2 mo).2) hc9 λv L' x H1 S' H' q r I' s' _=>kk v L' q x S' H' r I' s'
  let(x,e2,q):=this
  rw[e1] at e2;cases e2
  exact⟨l,dx,_,_,e1,hh,mB ns vs xs' hl,?_⟩
  rw[he]
  exact q
 | _=>exact ho.elim
def Af (G:Good X C n sp)(he:sp X.K (C.fns.length+k)=tq X.K call Ω Ξ (C.fns.length+k))(hk:C.ms[k]?=Ψ (cn,Ca,m))(hm:(m == ("__init__":Str))=Ξ)(h:C.nm i nx=Ω)(mo:qJ C.md i=Ω)(hl:oG apos pos=Ω):FE X C (.Call (.Attribute (.Name nx p) m apos) [] [] pos) (kb call (C.fns.length+k) i Ca m jW):=by
 let(fa,fd,ps,h1,h2,_,h4,h5,h6):=G.mts k cn Ca m hk
 let(pl,hev):=oP (nx:=nx) (p:=p) (m:=m) (env:=X.env) (es:=[]) hl rfl
 exact PE.imp (tH (X:=X.nox) (ki G h) h2 (h4 λz=>by rw[z] at hm;simp at hm) h6 G.room.toRoom h5 tI hev) λσ H Q ⟨c,L,S,Q0,I,h,kk⟩=>?_
 let(o,e,ho,hc9):=kq h
 cases o with
 | shf C' dx ns vs =>
  let(rfl,hl):=ho
  let(l,xs',e1,hh,_,_):=I.shf mo e
  exact⟨l,dx,_,_,e1,hh,mB ns vs xs' hl,?_⟩
  rw[he]
  have:=sJ (fr:=Ξ) (Q:=Q) I (b2 mo).1 (qk (b2 mo).2) hc9 λv L' x H1 S' H' q r I' s' _=>kk v L' q x S' H' r I' s'
  let(x,e2,c2,L2,S2,Q2,I2,h2,k2):=this
  rw[e1] at e2;cases e2
  exact k2 [] L2 h2 [] S2 H rfl I2 (Same.refl S2)
 | _=>exact ho.elim
def BP {Q:VK}{f:Nat}{Q1:FV->jR->Prop}(I:Iv K c md L σ S H)(h:∀ dx,call f [.shf Ca dx [] []] λz=>z.1=.non/\Q1 z.2 L)
  (k:∀ v,Q1 v L->∀ a S' H',OwnAt K S' H' a v->nR c md L σ a->Iv K c md L σ S' H'->Same S S'->Q (.ref a) H'):∀ x dx,H x=Φ->H dx=Φ->dx≠x->x=dx+1->tq K call Ω Ξ f [.ref x] (kh (kh H dx (.own x)) x (.bag Ca dx [] [])) (λv H2=>v=.non/\Q (.ref x) H2) E0:=by
 intro x dx hx hd ne _
 let hx1:kh H dx (.own x) x=Φ:=by rw[jT (jp ne)];exact hx
 let I1:=(I.lay hd (.own x)).lay hx1 (.bag Ca dx [] [])
 exact⟨S,[.shf Ca dx [] []],_,I1.sub,⟨_,[],x,[],rfl,rfl,⟨I.sn hx,[],[],rfl,jV,rfl⟩,rfl⟩,h dx,λz q y S' H' kp r=>?_⟩
 let(e1,q):=q
 let r:RV K S' z.1 y:=r
 rw[e1] at r
 exact⟨r,?_⟩
 let fx:=I.fresh hx
 let old:∀ {b u},H b=Ψ u->b≠x/\b≠dx:=λ{b u} e=>⟨(λz=>by rw[z,hx] at e;cases e),(λz=>by rw[z,hd] at e;cases e)⟩
 let I2:Iv K c md L σ S' H':=I.go3 kp.same kp.sub (λa o e=>?_) λa o e=>?_
 ·exact k z.2 q x S' H' (kp.back x rfl) fx I2 kp.same
 ·rcases kp.grow a o e with y|y|y
  ·exact .inl y
  ·exact .inr (.inl ?_)
   by_cases z1:a=x
   ·rw[z1];exact hx
   ·rw[jT z1] at y
    by_cases z2:a=dx
    ·rw[z2];exact hd
    ·rwa [jT z2] at y
  ·exact .inr (.inr y)
 ·let(n1,n2):=old e
  exact kp.keep a o (by rw[jT n1,jT n2];exact e) λz=>n1 (by cases z;rfl)
def CL (G:Good X C n sp)(he:sp X.K (C.fns.length+k)=tq X.K call Ω Ξ (C.fns.length+k))(hk:C.ms[k]?=Ψ (cn,Ca,("__init__":Str)))(hg:C.gl cn=Ω)(hd:(cn == ("__debug__":Str))=Ξ):FF X C (.Call (.Name cn p) [] [] pos) (sj call (C.fns.length+k) Ca):=by
 let(fa,fd,ps,h1,h2,h3,h4,h5,h6):=G.mts k cn Ca _ hk
 exact PE.imp (zN (X:=X.nox) (h3 rfl) h6 G.room (G.gl hg) h1 h5 tI hd) λσ H Q q1=>?_;let(c,L,S,Q0,I,h,kk):=q1
 rw[he]
 exact BP I h λv qv a S' H' o fr I' s'=>kk v L qv a S' H' o fr I' s'
end
end Kq
namespace Kq
open PySem PySem.Spec PyProof.Rows L2 PySem.W
inductive rSortK (X:Cx) (m:Nat)(xs:List V)(H:Hp)(Q:VK):Prop
 | mk (a:jP)(kvs:List (lF×V))(ns:List Int)(_:xs=[.ref a])(_:Rd H a (.dK kvs))(_:kvs.map (·.1)=ns.map Sum.inl)(_:ns.length<=m)(_:∀ p (ms:List Int),H p=Φ->ms.Perm ns->ms.Pairwise (·<=·)->Q (.ref p) (kh H p (.lst (ms.map V.int)))):rSortK X m xs H Q
def yK {kvs:List (lF×V)}{vs:List (lF×jF)}(r:KV kvs vs):vs.map (·.1)=kvs.map (·.1):=by
 induction r with
 | nil=>rfl
 | cons h _ ih=>rw[gN,gN,ih,h.1]
def Fs {X:Cx}(hc:X.calm=Ω){m:Nat}(hm:m<=100000)(S:Do X.prog X.w m):kN X (.builtin "sorted") (rSortK X m):=by
 rintro Z9 s σ H xs us Q I r ⟨a,kvs,ns,rfl,ha,hk,hb,k⟩
 let(u,rfl,ru):=vals1 r
 cases (show u=Value.ref a from ru)
 let(z,lo,ws,rel,d0):=tS I.hok ha
 let(ep,dd):=d0.dictAt
 let hkeys:ws.map (·.1)=ns.map Sum.inl:=(yK rel).trans hk
 let hlen:ws.length=ns.length:=by have:=congrArg iL hkeys;simpa using this
 exact Calls.call_function_entry kind_sorted plain_sorted entry_sorted (args_sorted1 _) ?_
 unfold jt.«sorted»
 exact iR (m:=checkCount "sorted" 1 1 _) (iO (iR (kdu_collect (kdl_dict (knd:=kH X.prog X.w) (kvs:=ws) (ep:=ep) lo) (I.ok.hd hc) dd (by rw[iE];lia) λh1 tk Z8 k1 hacc=>?_)))
 let(hsz,hit):=hacc
 let hi:js Z8.toList ns:=by
  have:∀ (l:List jF)(ns:List Int),l.length=ns.length->(∀ (i:Nat)(v:jF),l[i]?=Ψ v->∃ n:Int,ns[i]?=Ψ n/\∃ t,v=Value.int n t)->js l ns:=by
   intro l
   induction l with
   | nil=>intro ns e _;cases ns with|nil=>exact .nil|cons=>simp at e
   | cons v l ih =>
    intro ns e h
    cases ns with
    | nil=>simp at e
    | cons n ns =>
     let(n',e1,t,e2):=h 0 v rfl
     cases e1
     rw[e2]
     exact .cons n t (ih ns (by simpa using e) λi v hv=>h (i+1) v hv)
  exact this _ _ (by rw[cz,hsz,hlen]) λi v hv=>?_
  let hv:Z8[i]?=Ψ v:=by rw[<- hv,bN]
  let(kk,x,e1,e2):=hit i v hv
  let e3:(ws.map (·.1))[i]?=Ψ kk:=by rw[dJ,e1];rfl
  rw[hkeys,dJ] at e3
  cases e4:ns[i]? with
  | none=>rw[e4] at e3;cases e3
  | some n =>
   rw[e4] at e3
   cases e3
   exact⟨n,rfl,?_⟩
   rw[rJ] at e2
   rcases kJ e2 with⟨j,t,y1,y2⟩|⟨y,t,y1,y2⟩|⟨y1,y2⟩
   ·cases y1;exact⟨t,y2⟩
   ·cases y1
   ·cases y1
 generalize hvs:Z8.toList=vs at hi
 let hl:vs.length<=m:=by rw[<- hvs,cz,hsz,hlen];exact hb
 exact iR (gw ?_ (by rw[iE];lia))
 let hoL:(h1.push (seqObj "list" vs.toArray 0)).get? h1.objs.size=Ψ (seqObj "list" vs.toArray 0):=cw _ rfl
 let old:∀ b o,s.heap.get? b=Ψ o->b≠h1.objs.size:=λb o e=>ii (iy (k1 b o e))
 show wpAny _ _ _ _ _ { s with heap:=h1.push (seqObj "list" vs.toArray 0),toks:=tk }
 exact iR (gx (dY slot_list_sort ⟨_,hoL,rfl⟩ entry_list_sort (S _ _ { s with heap:=h1.push (seqObj "list" vs.toArray 0),toks:=tk } _ _ vs _ _ hoL hi hl λus ms h' c tk' i1 i2 i3 i4 i5=>⟨_,rfl,?_⟩) (args_list_sort _)))
 let kp:∀ b o,s.heap.get? b=Ψ o->h'.get? b=Ψ o:=λb o e=>i5 b o (old b o e) (bx _ (k1 b o e))
 let(I2,hD):=wv (a:=h1.objs.size) (o:=.lst (ms.map V.int)) (t':=tk') I kp old ⟨by rw[fE,i2.length_eq,iE];lia,us,c,Ge i1,i4⟩
 exact iO ⟨_,rfl,.ref h1.objs.size,_,I2,rfl,k _ ms hD i2 i3⟩
abbrev B9:FV->Option (List Int)
 | .dco _ ks _=>ol id ks
 | _=>Φ
abbrev C8:FV->Option FV
 | .dco _ ks vs=>Ψ (.dco Φ ks vs)
 | _=>Φ
abbrev va (m i:Nat)(Ca:jP)(f:Str):EW:=λL Q=>wp (lk L i) λo=>wp (mS Ca f o) λd=>wp (B9 d) λns=>ns.length<=m/\∀ ms:List Int,ms.Perm ns->ms.Pairwise (·<=·)->Q (.lst (ms.map .int)) L
abbrev vb (i:Nat)(Ca:jP)(f:Str):EW:=λL Q=>wp (lk L i) λo=>wp (mS Ca f o) λd=>wp (C8 d) λz=>Q z L
abbrev CZ (i:Nat)(Ca:jP)(f:Str)(e:EW):EW:=λL Q=>wp (lk L i) λo=>wp (mS Ca f o) λd=>wp (oo d) λ_=>e L λv L1=>wp (lk L1 i) λo1=>o1=o/\wp (tf d v) λd1=>wp (qN Ca f d1 o1) λo2=>Q .non (L1.set i (Ψ o2))
inductive rCopyK (xs:List V)(H:Hp)(Q:VK):Prop
 | mk (a:jP)(kvs:List (lF×V))(_:xs=[.ref a])(_:Rd H a (.dK kvs))(_:∀ p,H p=Φ->Q (.ref p) (kh H p (.dK kvs))):rCopyK xs H Q
def Ft {X:Cx}:kN X (.type "dict") rCopyK:=by
 rintro Z9 s σ H xs us Q I r ⟨a,kvs,rfl,ha,k⟩
 let(u,rfl,ru):=vals1 r
 cases (show u=Value.ref a from ru)
 exact C6 I ha λp s' hp I'=>⟨.ref p,_,I',rfl,k p hp⟩
def yG:∀ {ks:List (Option Int)}{ns:List Int},ol id ks=Ψ ns->ks=ns.map Ψ
 | [],ns,h=>by cases h;rfl
 | k :: ks,ns,h=>by
  let(n,e1,h):=lV h
  let(r,e2,rfl):=oX h
  rw[yG e2,show k=Ψ n from e1];rfl
section
variable {X:Cx}{Z9:List (jP×Obj)}{σ:L2.St}{H:Hp}{s:jw}
def Hi {o e:Expr}{es:List Expr}{to:TE}{t:TA}{name:Str}{apos Z1:Pos}{T id:String}{r:V->List V->Hp->VK->Prop}(pa:PlainAttrs T)(slot:Slot T name id)(hty:typeOf (.builtin id)=pure (.type "method_descriptor"))(hm:J5 X id r)(ho:PE X o to)(ha:PA X (e :: es) t)
  (hbase:attributeBase o name X.env (eval o X.env)=eval o X.env)
  (hfew:((backTo Z1 (starEach (e :: es) X.env)).all (λx=>!x.1) && (backToKw Z1 (keywordEach [] X.env)).all (λx=>x.1.isSome) && Δ ((e :: es).length+([]:List Keyword).length+(if ([]:List Keyword).isEmpty then 0 else 1)<30))=Ω)
  (hline:(apos.endLine == Z1.line)=Ω)(hs:starEach (e :: es) X.env=(Ξ,eval e X.env) :: starEach es X.env)(hplain:(backTo Z1 (starEach es X.env)).any (·.1)=Ξ) :
  PE X (.Call (.Attribute o name apos) (e :: es) [] Z1) (λσ H Q=>to σ H λx H1=>(∃ a C dx fs gs,H1 a=Ψ (.bag C dx fs gs)/\(Bag H1 a C dx fs gs->Mp X.K T x (mf H1 a C dx fs gs)))/\t σ H1 λxs H2=>∃ a C dx fs gs,H2 a=Ψ (.bag C dx fs gs)/\(Bag H2 a C dx fs gs->oY X gs->r x xs (mf H2 a C dx fs gs) λv H3=>ClS X a C dx (Q v) H3)):=by
 intro Z9 s σ H Q I h
 exact wpAny_Call_method_late hbase hfew hline rfl (ko (ho Z9 s σ H _ I h) λv s1 ⟨x,H1,I1,r1,⟨a,C,dx,fs,gs,h1,ty⟩,q1⟩=>?_)
 let(t1,t2):=AF (k8 I1 h1) r1 (ty (lQ I1 h1))
 exact⟨T,id,pa,slot,hty,t1,t2,?_⟩
 let hA:=ha Z1 Z9 s1 σ H1 _ I1 q1
 rw[hs] at hA ⊢
 exact Calls.callWith_builtin (by show (Ξ || (backTo Z1 (starEach es X.env)).any (·.1))=Ξ;rw[hplain]<;>rfl) (Calls.evalArgs_plain ?_)
 exact ko hA λus s2 q2=>?_
 let(vs,H2,I2,r2,a,C,dx,fs,gs,h2,q2):=q2
 let B:=lQ I2 h2
 exact ko (hm Z9 s2 σ _ x vs v us _ (k8 I2 h2) r1 r2 (q2 B (sW I2 B))) λu s' h=>xP h
end
section
variable {X:Cx}{C:CC}{n:Nat}{sp:ib->Nat->Sp}{fr:Bool}{a b:Expr}{e ea:EW}{pos p px p2 apos Z1:Pos}{i k:Nat}{nx fl:Str}{Ca:jP}
variable {c:Cn}{md:Md}{L:jR}{σ:L2.St}{S H:Hp}
def oj {a C dx:jP}{fs:List (Str×V)}{gs:List (jP×GO)}(B:Bag H a C dx fs gs){p:jP}(h:mf H a C dx fs gs p=Φ):H p=Φ:=by
 rcases kO B p with y|⟨zs,_,y,_⟩|⟨_,_,y⟩
 ·rw[y,ml] at h;cases h
 ·rw[y] at h;cases h
 ·rw[<- y];exact h
def Lw (G:Good X C n sp)(hg:C.gl (hW "dict")=Ω)(h:C.nm i nx=Ω)(mo:qJ C.md i=Ω)(hf:Δ ((Ca,fl)∈C.fl)=Ω):FE X C (.Call (.Name (hW "dict") p) [.Attribute (.Name nx px) fl apos] [] pos) (vb i Ca fl) :=
 PE.imp (qf (Gx (Ft (X:=X.nox))) (G.gl hg) (G.blt "dict" (·)) (by nofun) (ka (mr (ki G h)) kF (jU rfl)) (by nofun) (by nofun) (jU rfl) rfl) λσ H Q q1=>by
  let(c,L,S,Q0,I,h,k):=q1
  let(o,e,h):=kq h
  let(d,e2,h):=kq h
  let(z,e3,q):=kq h
  let(dx,nms,vs,l,rfl,e4):=nr e2
  let(a,xs,e1,hh,sd,sn):=I.shf mo e
  let(g1,g2):=G.fls _ (de hf)
  exact⟨a,_,dx,_,_,.ref l,e1,hh,g1,g2,(sd.rdo e4).1,a,_,dx,_,_,hh,λB nf=>?_⟩
  let(hs',rd):=n6 I sn sd e4 B
  cases d with
  | dco zz ks us =>
   cases e3
   let(l',ys,ee,hl2,h1,h2):=rd.dco hs'
   cases ee
   exact⟨l,_,rfl,uH h1,λp hp=>?_⟩
   exact ze B nf _ (oj B hp) ?_
   let hp:=oj B hp
   exact k _ L q _ _ _ ⟨p,ys,rfl,hl2,jV,(h2.mono vW).mono (kI (I.sn hp))⟩ (I.new hp _) (kI (I.sn hp))
  | _=>cases e3
def MX (G:Good X C n sp)(h:C.nm i nx=Ω)(mo:qJ C.md i=Ω)(hf:Δ ((Ca,fl)∈C.fl)=Ω)(ha:FE X C a ea):FS X C fr (.AugAssign (.Attribute (.Name nx p) fl px) .Add a pos) (yn i Ca fl ea):=by
 exact PS.imp (DW (ki G h) ha (Ci (X:=X.nox))) λD σ H q1=>?_;let(c,L,S,Q0,I,h,k):=q1
 let(o,e,h1):=kq h
 let(z,e2,h2):=kq h1
 let(dx,ns,vs,rfl,e3):=yU e2
 let(l,xs,e1,hh,sd,_):=I.shf mo e
 let(g1,g2):=G.fls _ (de hf)
 let(v,e4,r):=sd.rd e3
 exact⟨l,_,dx,_,_,v,e1,hh,g1,g2,e4,c,L,S,_,I,h2,λw L1 q y S1 H1 r1 I1 s1=>?_⟩
 let(o1,e6,rfl,q):=kq q
 let(a,e7,qa):=kq q
 let(b,e8,qb):=kq qa
 let(o2,e9,qc):=kq qb
 cases kS e7
 cases kS e8
 cases (show v=V.int a from r)
 cases (show y=V.int b from r1)
 let(l',xs',e1',hh',sd',_):=I1.shf mo e6
 rw[e1] at e1';cases e1'
 let((_,hl),e9):=EH (show (if Ca=Ca/\ns.length<1000 then (if fl∈ns.map (·.1) then (pV fl ns vs).bind λp=>if p.1=Φ then Ψ (FV.shf Ca dx ns (pc fl (.int (a+b)) ns vs)) else Φ else Ψ (.shf Ca dx (ns++[(fl,Φ)]) (vs++[.int (a+b)]))) else Φ)=Ψ o2 from e9)
 exact⟨a,b,rfl,rfl,_,_,hh',Nat.lt_of_le_of_lt (oH ns vs xs') hl,?_⟩
 by_cases hm:fl∈ns.map (·.1)
 ·rw[if_pos hm,e3,Option.bind_some,if_pos rfl] at e9
  cases e9
  let(xs3,h1,h2,h3):=sd'.put e3 (w:=.int (a+b)) (x:=.int (a+b)) rfl
  rw[<- h2,<- h3]
  exact k .next _ qc σ S1 _ (I1.wshf mo e6 e1 h1) s1
 ·rw[if_neg hm] at e9
  cases e9
  let(xs3,h1,h2,h3):=(sd'.new hm).1 (w:=.int (a+b)) (x:=.int (a+b)) rfl
  rw[<- h2,<- h3]
  exact k .next _ qc σ S1 _ (I1.wshf mo e6 e1 h1) s1
def Nl (G:Good X C n sp)(h:C.nm i nx=Ω)(mo:qJ C.md i=Ω)(hf:Δ ((Ca,fl)∈C.fl)=Ω)(hl:oG apos Z1=Ω)(hs:j9 a=Ξ)(ha:FE X C a ea):FE X C (.Call (.Attribute (.Attribute (.Name nx p) fl p2) (hW "append") apos) [a] [] Z1) (CZ i Ca fl ea):=by
 exact PE.imp (Hi bc PySem.F.slot_list_append PySem.F.type_list_append oO (mr (ki G h)) (ka ha kF (jU hs)) rfl (by rw[jU hs];rfl) hl (jU hs) rfl) λσ H Q q1=>?_
 let(c,L,S,Q0,I,h,k):=q1
 let(o,e,h1):=kq h
 let(d,e2,h2):=kq h1
 let(dx,ns,vs,l,rfl,e3):=nr e2
 let(a,xs,e1,hh,sd,sn):=I.shf mo e
 let(g1,g2):=G.fls _ (de hf)
 let(r1,ps,ys,f1,f2,hm):=sd.rdo e3
 let(us,e5,h2):=kq h2
 cases d with
 | lst us' =>
  cases e5
  cases f1
  exact⟨a,_,dx,_,_,.ref l,e1,hh,g1,g2,r1,⟨a,_,dx,_,_,hh,λB=>.inl ⟨rfl,ys,SqL.of (B.opl hm)⟩⟩,c,L,S,_,I,h2,λv L1 q x S1 H1 rx I1 s1=>?_⟩
  let(o1,e4,rfl,q):=kq q
  let(d1,e6,q):=kq q
  let(o2,e7,q):=kq q
  let(hb,rfl):=ou (show (if ps.length<big then Ψ (FV.lst (ps++[v])) else Φ)=Ψ d1 from e6)
  let e7:(if Ca=Ca then Ψ (FV.shf Ca dx ns (pc fl (.lst (ps++[v])) ns vs)) else Φ)=Ψ o2:=e7
  rw[if_pos rfl] at e7;cases e7
  let(a',xs',e1',hh',sd',sn'):=I1.shf mo e4
  rw[e1] at e1';cases e1'
  let(_,ps',ys',f1',f2',hm'):=sd'.rdo e3
  cases f1'
  exact⟨a,_,_,_,_,hh',λB nf=>?_⟩
  let hbl:=kM
  let(xs3,h3,h4,h5):=sd'.puto B.ndg e3 (w:=.lst (ps++[v])) rfl (f2'.append (RVs.one rx))
  exact⟨l,ys',x,rfl,rfl,B.opl hm',by rw[<- f2'.length];lia,?_⟩
  have:=zd (X:=X.nox) (Q:=Q .non) B nf (.lst (ys'++[x])) hm' ?_
  ·exact this
  ·rw[<- h4]
   let e8:lI (.lst (ps++[v])) (ys'++[x])=.lst (ys'++[x]):=rfl
   rw[<- e8,<- h5]
   exact k .non _ q .non S1 _ rfl (I1.wshf mo e4 e1 h3) s1
 | _=>cases e5
end
end Kq
namespace Kq
open PySem PySem.Spec PyProof.Rows L2
abbrev vc (call:CW) (f i:Nat)(Ca:jP)(fl:Str)(as:AW):EW:=λL Q=>wp (lk L i) λo=>wp (mS Ca fl o) λd=>as L λxs L1=>wp (lk L1 i) λo1=>o1=o/\call f (d :: xs) λz=>(oV z.2).isSome=Ω/\wp (qN Ca fl z.2 o) λo2=>Q z.1 (L1.set i (Ψ o2))
abbrev DQ (H':Hp)(a C dx:jP)(fs:List (Str×V))(gs gs':List (jP×GO)):Hp:=λb=>if b=a then Ψ (.bag C dx fs gs') else match gs.lookup b with
 | some _=>Ψ (.own a)
 | none=>H' b
abbrev JK (S S':Hp):Hp:=λb=>match S b with
 | some o=>Ψ o
 | none=>noO S' b
def HS (g:GO):ox (tN g)=Ξ:=by cases g<;>rfl
def Shd.mono {K:ib}{S S':Hp}(hs:Same S S'){ns:List (Str×Option jP)}{vs:List FV}{xs:List V}(h:Shd K S ns vs xs):Shd K S' ns vs xs:=by
 induction h with
 | nil=>exact .nil
 | imm r _ ih=>exact .imm (r.mono hs) ih
 | own e r _ ih=>exact .own e (r.mono hs) ih
section
variable {X:Cx}{K:ib}{c:Cn}{md:Md}{L:jR}{σ:L2.St}{S H S' H':Hp}{i:Nat}{fl:Str}
def Di (I:Iv K c md L σ S H)(mo:qJ md i=Ω){C dx:jP}{ns:List (Str×Option jP)}{vs:List FV}(e:lk L i=Ψ (.shf C dx ns vs)){a l:jP}(e1:σ[i]?=Ψ (Ψ (.ref a))){xs:List V}(sd:Shd K S ns vs xs)(sn:S a=Φ){d w:FV}(e3:pV fl ns vs=Ψ (Ψ l,d))(B:Bag H a C dx (kD ns vs xs) (kB ns vs xs))(kp:Kept K (noO S) (mf H a C dx (kD ns vs xs) (kB ns vs xs)) S' H' (Ψ l) w)(hw:(oV w).isSome=Ω) :
  ∃ H3 fs3 gs3,H'=mf H3 a C dx fs3 gs3/\Bag H3 a C dx fs3 gs3/\(oY X (kB ns vs xs)->oY X gs3)/\∃ S3,Same (noO S') S3/\Same S S3/\Iv K c md (L.set i (Ψ (.shf C dx ns (pc fl w ns vs)))) σ S3 H3:=by
 let(_,ps0,ys0,_,_,hm):=sd.rdo e3
 let(o1,ps,ys,e4,o2,o3):=kp.back l rfl
 let(ps',hw'):=aT.mp hw
 let(g1,g2):=xK ys hw'
 rw[e4] at g2;cases g2
 let la:l≠a:=B.ne hm
 let kk:∀ {b u},mf H a C dx (kD ns vs xs) (kB ns vs xs) b=Ψ u->b≠l->H' b=Ψ u:=λ{b u} z n=>kp.keep b u z λy=>n (fo y).symm
 -- nothing that stands is what it owns
 let notS:∀ {b u},S' b=Ψ u->b≠a/\(kB ns vs xs).lookup b=Φ:=λ{b u} z=>by
  rcases kO B b with y|⟨g,m,y,y2⟩|⟨n1,n2,_⟩
  ·exfalso
   rcases kp.grow b u z with t|t|t
   ·rw[y] at t;have:=(nE t).1;rw[sn] at this;cases this
   ·rw[y,ml] at t;cases t
   ·let h2:=kp.sub b u z
    let h3:=kk (b:=b) (by rw[y];exact ml) (by rw[y];exact jp la)
    rw[h3] at h2;cases h2;cases t
  ·exfalso
   by_cases bl:b=l
   ·rw[bl,o1] at z;cases z
   ·rcases kp.grow b u z with t|t|t
    ·let t2:=nE t
     have:=I.sub b u t2.1
     rw[y2] at this;cases this
     exact t2.2 _ rfl
    ·rw[y] at t;cases t
    ·let h2:=kp.sub b u z
     let h3:=kk y bl
     rw[h3] at h2;cases h2
     rw[HS] at t;cases t
  ·exact⟨n1,n2⟩
 let sS:Same S (JK S S'):=λb o z=>by show (match S b with|some o=>Ψ o|none=>noO S' b)=_;rw[z]
 let sN:Same (noO S') (JK S S'):=λb o z=>by
  let(z1,z2):=nE z
  show (match S b with|some o=>Ψ o|none=>noO S' b)=_
  cases t:S b with
  | none=>exact z
  | some u =>
   by_cases own:∃ x,u=.own x
   ·let(x,rfl):=own
    let(n1,n2):=notS z1
    let h1:=I.sub b _ t
    let h2:=kk (by rw[Gd n1 n2];exact h1) (λy=>by rw[y,o1] at z1;cases z1)
    rw[kp.sub b o z1] at h2;cases h2
    exact absurd rfl (z2 x)
   ·have:=kp.same b u (mF t λx y=>own ⟨x,y⟩)
    rw[z1] at this;exact this.symm
 let inS:∀ {b o},JK S S' b=Ψ o->S b=Ψ o ∨ S b=Φ/\S' b=Ψ o:=λ{b o} z=>by
  let z:(match S b with|some o=>Ψ o|none=>noO S' b)=Ψ o:=z
  cases t:S b with
  | none=>rw[t] at z;exact .inr ⟨rfl,(nE z).1⟩
  | some u=>rw[t] at z;exact .inl z
 let(xs3,h1,h2,h3):=(sd.mono sS).puto B.ndg e3 hw' ((RVs.noO o3).mono sN)
 let gs3:=n9 l (lI w ys) (kB ns vs xs)
 let H3E:H'=mf (DQ H' a C dx (kD ns vs xs) (kB ns vs xs) (k7 (kB ns vs xs) l (lI w ys))) a C dx (kD ns vs xs) (k7 (kB ns vs xs) l (lI w ys)):=by
  funext b
  unfold mf
  by_cases ba:b=a
  ·rw[if_pos ba,ba];exact kk ml (jp la)
  ·rw[if_neg ba,oM]
   by_cases bl:b=l
   ·rw[if_pos bl,bl,nG B.ndg hm];exact o2.trans (congrArg Ψ g1.symm)
   ·rw[if_neg bl]
    cases t:(kB ns vs xs).lookup b with
    | some g=>exact kk (B.opl (pO t)) bl
    | none=>show H' b=(if b=a then _ else match (kB ns vs xs).lookup b with|some _=>_|none=>H' b);rw[if_neg ba,t]
 let inG:∀ g∈kB ns vs xs,DQ H' a C dx (kD ns vs xs) (kB ns vs xs) (k7 (kB ns vs xs) l (lI w ys)) g.1=Ψ (.own a):=λg hg=>by
  unfold DQ
  rw[if_neg (B.ne hg)]
  have:(kB ns vs xs).lookup g.1=Ψ g.2:=nG B.ndg hg
  rw[this]
 let dxa:dx≠a:=λz=>(fv.mp B.nd).1 (by rw[z];exact cQ)
 let dxg:(kB ns vs xs).lookup dx=Φ:=by
  cases t:(kB ns vs xs).lookup dx with
  | none=>rfl
  | some g=>exact absurd (ir.mpr ⟨_,pO t,rfl⟩) (fv.mp (fv.mp B.nd).2).1
 let B3:Bag (DQ H' a C dx (kD ns vs xs) (kB ns vs xs) (k7 (kB ns vs xs) l (lI w ys))) a C dx (kD ns vs xs) (k7 (kB ns vs xs) l (lI w ys)):=by
  exact⟨if_pos rfl,?_,λg hg=>?_,by rw[gs3];exact B.nd,B.ax⟩
  ·unfold DQ
   rw[if_neg dxa,dxg]
   exact kk B.dxn λz=>by rw[z] at dxg;rw[nG B.ndg hm] at dxg;cases dxg
  ·have:g.1∈(kB ns vs xs).map (·.1):=by rw[<- gs3];exact ir.mpr ⟨g,hg,rfl⟩
   let(g',hg',e5):=ir.mp this
   rw[<- e5];exact inG g' hg'
 exact⟨_,_,_,H3E,B3,vV,JK S S',sN,sS,?_⟩
 let out:∀ {b},b≠a->(kB ns vs xs).lookup b=Φ->DQ H' a C dx (kD ns vs xs) (kB ns vs xs) (k7 (kB ns vs xs) l (lI w ys)) b=H' b:=λ{b} n1 n2=>by
  unfold DQ
  rw[if_neg n1,n2]
 let old:∀ b o,H b=Ψ o->b≠a->DQ H' a C dx (kD ns vs xs) (kB ns vs xs) (k7 (kB ns vs xs) l (lI w ys)) b=Ψ o:=λb o z n=>by
  rcases kO B b with y|⟨g,m,_,y2⟩|⟨n1,n2,y⟩
  ·exact absurd y n
  ·rw[y2] at z;cases z;exact inG _ m
  ·rw[out n1 n2]
   exact kk (by rw[y];exact z) λt=>by rw[t,nG B.ndg hm] at n2;cases n2
 let sa:JK S S' a=Φ:=by
  cases t:JK S S' a with
  | none=>rfl
  | some u =>
   rcases inS t with t|⟨_,t⟩
   ·rw[sn] at t;cases t
   ·exact absurd rfl (notS t).1
 let(ps3,f1,f2):=h1.flat
 exact I.back4 (b2 mo).1 ((kP _ _ _).mp e) e1 sS (λb o z=>?_) (λb o z=>?_) old ⟨sa,ps3,xs3,f1,?_,f2⟩ λ_ _ _ _ _ _ _ z=>absurd z (qk (b2 mo).2 i)
 ·rcases inS z with t|⟨_,t⟩
  ·exact old b o (I.sub b o t) λy=>by rw[y,sn] at t;cases t
  ·let(n1,n2):=notS t
   rw[out n1 n2];exact kp.sub b o t
 ·rcases inS z with t|⟨t0,t⟩
  ·exact .inl t
  ·rcases kp.grow b o t with y|y|y
   ·rw[(nE y).1] at t0;cases t0
   ·exact .inr (.inl (oj B y))
   ·exact .inr (.inr y)
 ·show DQ H' a C dx (kD ns vs xs) (kB ns vs xs) (k7 (kB ns vs xs) l (lI w ys)) a=Ψ (.bag C dx (kD ns (pc fl w ns vs) xs3) (kB ns (pc fl w ns vs) xs3))
  rw[h2,h3];exact if_pos rfl
end
section
variable {X:Cx}{C:CC}{n:Nat}{sp:ib->Nat->Sp}{a:Expr}{xs:List Expr}{e:EW}{pos p px p2:Pos}{i f k:Nat}{nx np fl:Str}{Ca:jP}{call:CW}{as:AW}
def Dd (G:Good X C n sp){t:TA}(hf:C.fns[f]?=Ψ np)(hg:C.gl np=Ω)(hd:(np == ("__debug__":Str))=Ξ)(hs:kE (a :: xs)=Ω)(ha:PA X.nox (a :: xs) t):PE X.nox (.Call (.Name np p) (a :: xs) [] pos) (λσ H Q=>t σ H λvs H1=>∃ a C dx fs gs,H1 a=Ψ (.bag C dx fs gs)/\(Bag H1 a C dx fs gs->oY X.nox gs->sp X.K f vs (mf H1 a C dx fs gs) (λv H2=>ClS X.nox a C dx (Q v) H2) E0)):=by
 intro Z9 s σ H Q I h
 let(fa,fd,ps,h1,h2,h3,h4):=G.fns f np hf
 let hs':=b2 (show (!j9 a && kE xs)=Ω from hs)
 exact cD (oR (X:=X.nox) I (G.gl hg) h1 ?_ hd)
 exact PySem.W.callWith_K (h₀:=X.nox.base) I.ok.mod.kin h2 (ko (ha pos Z9 s σ H _ I h) λus s1 q1=>?_) (jU (nb hs'.1)) (mU hs'.2)
 let(vs,H1,I1,r,a,C',dx,fs,gs,hh,q):=q1
 exact⟨I1.kIn,?_⟩
 let B:=lQ I1 hh
 exact ko (uD (X:=X.nox) h4 G.room.toRoom h3 .nil tI (k8 I1 hh) r (by rw[fH];exact q B (sW I1 B))) λu s' h=>xP h
def Ly (G:Good X C n sp)(e:sp X.K f=tq X.K call Ω Ξ f)(hf:C.fns[f]?=Ψ np)(hg:C.gl np=Ω)(hd:(np == ("__debug__":Str))=Ξ)(h:C.nm i nx=Ω)(mo:qJ C.md i=Ω)(hfl:Δ ((Ca,fl)∈C.fl)=Ω)(hs:kE xs=Ω)(ha:FA X C xs as):FE X C (.Call (.Name np p) (.Attribute (.Name nx px) fl p2 :: xs) [] pos) (vc call f i Ca fl as) :=
 PE.imp (Dd G hf hg hd (show (Ω && kE xs)=Ω by rw[hs];rfl) (ka (mr (ki G h)) ha rfl)) λσ H Q q1=>by
  let(c,L,S,Q0,I,h,k):=q1
  let(o,e0,h1):=kq h
  let(d,e2,h2):=kq h1
  let(dx,ns,vs,l,rfl,e3):=nr e2
  let(a,xs0,e1,hh,sd,sn):=I.shf mo e0
  let(g1,g2):=G.fls _ (de hfl)
  exact⟨a,_,dx,_,_,.ref l,e1,hh,g1,g2,(sd.rdo e3).1,c,L,S,_,I,h2,λus L1 hv zs S1 H1 r1 I1 s1=>?_⟩
  let(o1,e4,rfl,hc):=kq hv
  let(a',xs1,e1',hh1,sd1,sn1):=I1.shf mo e4
  rw[e1] at e1';cases e1'
  exact⟨a,_,dx,_,_,hh1,λB nf=>?_⟩
  rw[e]
  let(hs',rd):=n6 I1 sn1 sd1 e3 B
  let(_,ps,ys,f1,f2,hm):=sd1.rdo e3
  let(w1,w2):=xK ys f1
  let oa:OwnAt X.K (noO S1) (mf H1 a Ca dx (kD ns vs xs1) (kB ns vs xs1)) l d:=by
   exact⟨?_,ps,ys,w2,by rw[B.opl hm,w1],RVs.noO f2⟩
   cases t:noO S1 l with
   | none=>rfl
   | some u =>
    let(t1,t2):=nE t
    have:=I1.sub l u t1
    rw[B.gso _ hm] at this;cases this
    exact absurd rfl (t2 _)
  exact⟨noO S1,d :: us,_,hs',⟨d,us,l,zs,rfl,rfl,oa,RVs.noO r1⟩,hc,λz q x S' H' kp r=>?_⟩
  let(hw,q):=q
  let(o2,e5,q):=kq q
  let e5:(if Ca=Ca then Ψ (FV.shf Ca dx ns (pc fl z.2 ns vs)) else Φ)=Ψ o2:=e5
  rw[if_pos rfl] at e5;cases e5
  let(H3,fs3,gs3,h3,B3,n3,S3,s3,s4,I3):=Di (X:=X.nox) I1 mo e4 e1 sd1 sn1 e3 B kp hw
  let r:RV X.K S' z.1 x:=r
  exact⟨H3,fs3,gs3,h3,B3,n3 nf,k z.1 _ q x S3 H3 ((RV.noO r).mono s3) I3 (s1.trans s4)⟩
end
nonrec def LH (i:Nat)(Ca:jP)(f:Str)(L:jR)(Q:FV->jR->Prop):wL i Ca f L Q=(wp (lk L i) λo=>wp (xN Ca f o) λz=>Q z L):=propext Iff.rfl
nonrec def LG (i:Nat)(Ca:jP)(f:Str)(e:EW)(L:jR)(Q:FV->jR->Prop):pb i Ca f e L Q=(wp (lk L i) λo=>wp (mS Ca f o) λd=>e L λk L1=>wp (lk L1 i) λo1=>o1=o/\wp (xV d k) λz=>Q z L1):=propext Iff.rfl
nonrec def IT (i:Nat)(Ca:jP)(f:Str)(e:EW)(L:jR)(Q:FV->jR->Prop):qX i Ca f e L Q=(e L λk L1=>wp (lk L1 i) λo=>wp (mS Ca f o) λd=>wp (Hy k d) λz=>Q z L1):=propext Iff.rfl
nonrec def Kz (i:Nat)(Ca:jP)(f:Str)(e:EW)(L:jR)(Q:FFl->jR->Prop):ym i Ca f e L Q=(e L λv L1=>wp (lk L1 i) λo=>wp (xq Ca f v o) λo1=>Q .next (L1.set i (Ψ o1))):=propext Iff.rfl
nonrec def KA (i:Nat)(Ca:jP)(f:Str)(e:EW)(L:jR)(Q:FFl->jR->Prop):yn i Ca f e L Q=(wp (lk L i) λo=>wp (xN Ca f o) λz=>e L λw L1=>wp (lk L1 i) λo1=>o1=o/\wp (mG z) λa=>wp (mG w) λb=>wp (xq Ca f (.int (a+b)) o1) λo2=>Q .next (L1.set i (Ψ o2))):=propext Iff.rfl
nonrec def Ky (i:Nat)(Ca:jP)(f:Str)(w:FV)(L:jR)(Q:FFl->jR->Prop):rB i Ca f w L Q=(wp (lk L i) λo=>Hz Ca f w (λo1=>Q .next (L.set i (Ψ o1))) o):=propext Iff.rfl
nonrec def Kx (i:Nat)(Ca:jP)(f:Str)(ek ev:EW)(L:jR)(Q:FFl->jR->Prop):yk i Ca f ek ev L Q=(ev L λx L1=>wp (lk L1 i) λo=>wp (mS Ca f o) λ_=>ek L1 λj L2=>wp (lk L2 i) λo1=>o1=o/\wp (mS Ca f o1) λd=>wp (IU d j x) λd1=>wp (qN Ca f d1 o1) λo2=>Q .next (L2.set i (Ψ o2))):=propext Iff.rfl
nonrec def JU (call:CW) (f i:Nat)(Ca:jP)(m:Str)(as:AW)(L:jR)(Q:FV->jR->Prop):kb call f i Ca m as L Q=(wp (lk L i) λo=>Lb Ca m o/\km call f i as L Q):=propext Iff.rfl
nonrec def JV (call:CW) (f:Nat)(Ca:jP)(L:jR)(Q:FV->jR->Prop):sj call f Ca L Q=(∀ dx,call f [.shf Ca dx [] []] λz=>z.1=.non/\Q z.2 L):=propext Iff.rfl
nonrec def JR (m i:Nat)(Ca:jP)(f:Str)(L:jR)(Q:FV->jR->Prop):va m i Ca f L Q=(wp (lk L i) λo=>wp (mS Ca f o) λd=>wp (B9 d) λns=>ns.length<=m/\∀ ms:List Int,ms.Perm ns->ms.Pairwise (·<=·)->Q (.lst (ms.map .int)) L):=propext Iff.rfl
nonrec def JS (i:Nat)(Ca:jP)(f:Str)(L:jR)(Q:FV->jR->Prop):vb i Ca f L Q=(wp (lk L i) λo=>wp (mS Ca f o) λd=>wp (C8 d) λz=>Q z L):=propext Iff.rfl
nonrec def LI (i:Nat)(Ca:jP)(f:Str)(e:EW)(L:jR)(Q:FV->jR->Prop):CZ i Ca f e L Q=(wp (lk L i) λo=>wp (mS Ca f o) λd=>wp (oo d) λ_=>e L λv L1=>wp (lk L1 i) λo1=>o1=o/\wp (tf d v) λd1=>wp (qN Ca f d1 o1) λo2=>Q .non (L1.set i (Ψ o2))):=propext Iff.rfl
nonrec def JT (call:CW) (f i:Nat)(Ca:jP)(fl:Str)(as:AW)(L:jR)(Q:FV->jR->Prop):vc call f i Ca fl as L Q=(wp (lk L i) λo=>wp (mS Ca fl o) λd=>as L λxs L1=>wp (lk L1 i) λo1=>o1=o/\call f (d :: xs) λz=>(oV z.2).isSome=Ω/\wp (qN Ca fl z.2 o) λo2=>Q z.1 (L1.set i (Ψ o2))):=propext Iff.rfl
section
variable {X:Cx}{C:CC}{n:Nat}{sp:ib->Nat->Sp}{pos p apos:Pos}{i f:Nat}{nx:Str}{Ca:jP}{a:Expr}{xs:List Expr}{as:AW}{call:CW}{m cn:Str}
def JP (G:Good X C n sp)(hle:Δ (C.fns.length<=f)=Ω)(he:sp X.K f=tq X.K call Ω Ξ f)(hk:(C.ms[f-C.fns.length]?).map (·.2)=Ψ (Ca,m))(hm:(m == ("__init__":Str))=Ξ)(h:C.nm i nx=Ω)(mo:qJ C.md i=Ω)(hl:oG apos pos=Ω)(hs:(kE (a :: xs) && Δ ((a :: xs).length<30))=Ω)(ha:FA X C (a :: xs) as):FE X C (.Call (.Attribute (.Name nx p) m apos) (a :: xs) [] pos) (kb call f i Ca m as):=by
 let e:C.fns.length+(f-C.fns.length)=f:=by have:=de hle;lia
 let((cn,q2),hk,rfl):=oX hk
 have:=CO (call:=call) (p:=p) G (k:=f-C.fns.length) (by rw[e];exact he) hk hm h mo hl (b2 hs).1 (b2 hs).2 ha
 rwa [e] at this
def Ie (G:Good X C n sp)(hle:Δ (C.fns.length<=f)=Ω)(he:sp X.K f=tq X.K call Ω Ξ f)(hk:(C.ms[f-C.fns.length]?).map (·.2)=Ψ (Ca,m))(hm:(m == ("__init__":Str))=Ξ)(h:C.nm i nx=Ω)(mo:qJ C.md i=Ω)(hl:oG apos pos=Ω):FE X C (.Call (.Attribute (.Name nx p) m apos) [] [] pos) (kb call f i Ca m jW):=by
 let e:C.fns.length+(f-C.fns.length)=f:=by have:=de hle;lia
 let((cn,q2),hk,rfl):=oX hk
 have:=Af (call:=call) (p:=p) G (k:=f-C.fns.length) (by rw[e];exact he) hk hm h mo hl
 rwa [e] at this
def Ic (G:Good X C n sp)(hle:Δ (C.fns.length<=f)=Ω)(he:sp X.K f=tq X.K call Ω Ξ f)(hk:C.ms[f-C.fns.length]?=Ψ (cn,Ca,("__init__":Str)))(hg:C.gl cn=Ω)(hd:(cn == ("__debug__":Str))=Ξ):FF X C (.Call (.Name cn p) [] [] pos) (sj call f Ca):=by
 let e:C.fns.length+(f-C.fns.length)=f:=by have:=de hle;lia
 have:=CL (call:=call) (p:=p) (pos:=pos) G (k:=f-C.fns.length) (by rw[e];exact he) hk hg hd
 rwa [e] at this
end
section
variable {prog:jn}{w:jE}{A:jD}{E:jF->jw->Prop}{s:jw}
def ul {I:jP}{fp wr:List jP}{n:Nat}{P:Nat->jF->Prop}{St:Nat->jM->Prop}(W:Walks prog w A I fp wr (n+1) P St):Walks prog w A I fp wr n (λi=>P (i+1)) (λi=>St (i+1)) where
 sub:=W.sub
 frame:=λi=>W.frame (i+1)
 item:=λi s Q E hi st hQ=>W.item (i+1) s Q E (Nat.succ_lt_succ hi) st hQ
 done:=λs Q E st hQ=>W.done s Q E st hQ
 self:=λi=>W.self (i+1)
def pW {t:jP}{x:jF}{r:List jF}{Q:List jF->jw->Prop}(hh:A.in1.handled=Φ)(ht:s.heap.IsTuple t (x :: r).toArray)(hz:r.length<=sizeLine)
  (hQ:∀ h' D tk,(∀ b o,s.heap.get? b=Ψ o->h'.get? b=Ψ o)->(∀ b o,s.heap.get? b=Ψ o->b≠D)->h'.get? D=Ψ (seqObj "list" r.toArray 0)->Q [x,.ref D] { s with heap:=h',toks:=tk }):wpAny (model prog w) A (unpackItems (.ref t) 2 (Ψ 1)) Q E s:=by
 let hlt:t≠s.heap.objs.size:=by let(o,ho,_):=ht;exact ii (iy ho)
 unfold unpackItems
 exact iR ?_
 ·unfold notIterableAtAll
  exact iR (eU ht.typeIs F.slot_tuple_iter.lookup ?_)
  exact iO ?_
  simp![cV,if_false]
  exact iR (gx (cC ht ?_))
  exact iR (gx (wpAny_draw_tuple hlt 1 0 _ _ ⟨_,cw _ rfl,rfl,rfl⟩ (ht.push _) ∅ λh₁ hit₁ hs₁=>?_))
  let ht₁:h₁.IsTuple t (x :: r).toArray:=(ht.push _).extBut hs₁.extBut hlt
  let W:=(ul (n:=r.length) (Walks.tuple (prog:=prog) (w:=w) (A:=A.in1) hh s.heap.objs.size t hlt (x :: r).toArray)).toS
  rw[if_neg ∅]
  exact iR (gx (wpAny_collect_iter (.inr (.inr (.inr rfl))) W (λi s' st=>st.1.typeIs) ⟨hit₁,ht₁⟩ (λb hb=>?_) ∅ (λs' Z8 hm hacc=>?_) hz))
  ·rcases gM.mp hb with z|z
   ·rw[z];let(o,ho,_):=hit₁;exact iy ho
   ·rw[cO.mp z];let(o,ho,_):=ht₁;exact iy ho
  ·let hl:Z8.toList=r:=by
    let(a1,a2):=hacc
    exact List.ext_getElem (by simpa using a1) λi i1 i2=>?_
    let hi:i<Z8.size:=by simpa using i1
    have:=a2 i Z8[i] (by simp[hi])
    simp at this
    rw[aV i2] at this
    simpa using (fo this).symm
   rw[hl,Moved.eq_with hm]
   let kp:∀ b o,s.heap.get? b=Ψ o->s'.heap.get? b=Ψ o:=λb o e=>by
    let nb:b≠s.heap.objs.size:=ii (iy e)
    exact hm.heap b o (λz=>nb (cO.mp z)) (hs₁.extBut b o nb (bx _ e))
   show wpAny _ _ (if r.length<0 then _ else _) _ _ _
   rw[if_neg (fq _)]
   exact iR (gw ?_ ?_)
   ·show wpAny _ _ (pure ([x]++[Value.ref s'.heap.objs.size]++r.drop (r.length-0))) Q E { s with heap:=s'.heap.push (seqObj "list" (r.take (r.length-0)).toArray 0),toks:=s'.toks }
    rw[Nat.sub_zero,eE,List.drop_length,fH]
    exact iO (hQ _ s'.heap.objs.size _ (λb o e=>bx _ (kp b o e)) (λb o e=>ii (iy (kp b o e))) (cw _ rfl))
   ·show (r.take (r.length-0)).length<=sizeLine
    rw[Nat.sub_zero,eE];exact hz
end
inductive gStar (K:ib)(t:Du)(v:V)(σ:L2.St)(H:Hp)(Q:(L2.St->Hp->Prop)):Prop
 | mk (a:_)(x:_)(xs:_)(_:v=.ref a)(_:SqT K H a (x :: xs))(_:∀ p,H p=Φ->t [x,.ref p] σ (kh H p (.lst xs)) Q):gStar K t v σ H Q
def D2 {X:Cx}{pos:Pos}{es:List Expr}{k:Nat}{t:Du}(hc:X.calm=Ω)(h:GB X es t)
  (hn:(assignEach es X.env).length=2:=by rfl)(hst:(assignEach es X.env).findIdx? (·.1)=Ψ 1:=by rfl):PG X (.Tuple es k pos) (gStar X.K t):=by
 intro Z9 s σ H v u Q I r hw
 let(a,x,xs,e1,hq,hw):=hw
 subst e1
 cases r
 let(Z7,rv,ht,hz):=I.tuple hq
 cases rv with
 | @cons _ y _ ys r1 r2 =>
 let hz2:ys.length<=sizeLine:=by rw[<- r2.length];simp at hz;lia
 rw[arm_assign_Tuple]
 exact iR (gu ?_)
 unfold unpack
 rw[hn,hst]
 exact iR (gx (pW (I.ok.hd hc) ht hz2 λh' D tk kp old hD=>?_))
 let(I2,hp):=wv (a:=D) (o:=.lst xs) (t':=tk) I kp old ⟨by simp at hz;lia,ys,0,r2,hD⟩
 exact h Z9 _ σ _ [x,.ref D] [y,.ref D] Q I2 (.cons r1 (.cons rfl .nil)) (hw D hp)
abbrev A3 (i j:Nat)(e:EW):SW:=λL Q=>e L λv L1=>wp (qL v) λxs=>wp xs.head? λx=>Q .next ((L1.set i (Ψ x)).set j (Ψ (.lst xs.tail)))
section
variable {X:Cx}{C:CC}{n:Nat}{sp:ib->Nat->Sp}{fr:Bool}{a:Expr}{ea:EW}{pos p px p2 p3:Pos}{i j k:Nat}{nx ny:Str}
def Bq {e:Expr}{es:List Expr}{t:TG}{u:Du}(h1:PG X e t)(h2:GB X es u):GB X (.Starred e p :: es) (gCons t u):=by
 intro Z9 s σ H vs us Q I r h
 let(v,vr,e1,h):=h
 subst e1
 cases r with
 | cons r rr =>
  rw[show (assignEach (.Starred e p :: es) X.env).map (·.2)=assign e X.env :: (assignEach es X.env).map (·.2) from rfl]
  exact cF (ko (h1 Z9 s σ H _ _ _ I r h) λ_ s1 ⟨σ1,H1,I1,q1⟩=>?_)
  exact h2 Z9 s1 σ1 H1 _ _ Q I1 rr q1
def MT (G:Good X C n sp)(hi:C.tn i nx=Ω)(hj:C.tn j ny=Ω)(hm:([i,j].all λi=>Δ (jX C.md i=.imm))=Ω)(hn:NZ a=Ξ)(ha:FE X C a ea):FS X C fr (.Assign [.Tuple [.Name nx px,.Starred (.Name ny p2) p3] k p] a pos) (A3 i j ea):=by
 exact PS.imp (Bj (X:=X.nox) ha (D2 (X:=X.nox) G.calm (vQ (CI G hi) (Bq (CI G hj) yu) rfl) rfl rfl) (by cases a<;>rfl) (by cases a<;>first|rfl|(cases hn;done)) rfl) λD σ H q1=>?_
 let(c,L,S,Q0,I,h,kk):=q1
 exact⟨c,L,S,_,I,h,λv L1 q x S1 H1 r1 I1 s1=>?_⟩
 let(xs,e1,q):=kq q
 let(y,e2,q):=kq q
 cases nk e1
 cases xs with
 | nil=>cases e2
 | cons y' ys =>
  cases e2
  let(l,us,rfl,hl,u,r,rfl,ru,rr):=r1
  exact⟨l,u,r,rfl,.inl (.inl (I1.sub _ _ hl)),λp0 hp=>?_⟩
  let sm:=kI (o:=.lst r) (I1.sn hp)
  let I2:=I1.new hp (.lst r)
  let(σ',h1,I3,_):=pE (is:=[i,j]) (ps:=[y,.lst ys]) (vs:=[u,.ref p0]) hm I2 ⟨u,_,rfl,ru.mono sm,.ref p0,_,rfl,⟨p0,r,rfl,jV,rr.mono sm⟩,rfl⟩ rfl
  exact h1 _ (kk .next _ q σ' _ _ I3 (s1.trans sm))
end
nonrec def Kw (i j:Nat)(e:EW)(L:jR)(Q:FFl->jR->Prop):A3 i j e L Q=(e L λv L1=>wp (qL v) λxs=>wp xs.head? λx=>Q .next ((L1.set i (Ψ x)).set j (Ψ (.lst xs.tail)))):=propext Iff.rfl
nonrec def Oz (x:FV)(r:List FV)(Q:FV->Prop):wp (x :: r).head? Q=Q x:=propext Iff.rfl
end Kq
namespace Kq
open PySem PySem.Spec PySem.Calls PyProof.Rows
section
open L2
structure FlewX (P:jn)(w:jE)(Cn:jP)(fs:List jP)(H H':Hp)(s:jw)(ea:jP)(s':jw):Prop where
 os:s'.os=s.os
 bare:jv s'.gens
 un:Un fs [] H H' s.heap s'.heap
 hok:HOk P w H' s'.heap
 new:s.heap.get? ea=Φ
 hn:H' ea=Φ
 tr:∃ oe vs a0 T oT ts,s'.heap.get? ea=Ψ oe/\oe.cls=.ref Cn/\oe.data=.fields vs/\vs[0]?=Ψ a0/\vs[1]?=Ψ (.ref T)/\s.heap.get? T=Φ/\H' T=Φ/\T≠ea/\s'.heap.get? T=Ψ oT/\oT.data=.fields ts/\ts[3]?=Ψ .none
abbrev Aw (P:jn)(w:jE):Az:=λouter H s E e s'=>∃ ea Cn H',e=.ref ea/\FlewX P w Cn (mx outer) H H' s ea s'/\E (.ref Cn) Φ H'
section
variable {CX:Az}{P:jn}{w:jE}{K:ib}{mg:Str->Option jF}{base:jM}{N:List Str}{qu:Str}{sc:jG}{f Cn:jP}{cd:jF}{A:jD}{outer:List Env}{s0:jw}{H0:Hp}{E:XK}
def CB {env:Env}{b:jP}(h:b∈mx outer):b∈mx (env :: outer):=by
 let(env',he,ee):=cP.mp h
 exact cP.mpr ⟨env',bT _ he,ee⟩
def J9 {Z9:List (jP×Obj)}{σ:L2.St}{H2:Hp}{s3:jw}{h':jM}{ls:List jP}(I:Inv (nX CX P w K mg base N qu sc f cd A outer s0 H0 E) Z9 σ H2 s3)(hl:∀ b∈ls,s0.heap.get? b=Φ/\H2 b=Φ)
  (k:∀ b o,b ∉ ls->b ∉ mx (envOfC qu sc s0.heap.objs.size f cd :: outer)->s3.heap.get? b=Ψ o->h'.get? b=Ψ o)
  (up:∀ b o,b∈mx (envOfC qu sc s0.heap.objs.size f cd :: outer)->s3.heap.get? b=Ψ o->(∀ vs,o.data≠.fields vs)->∃ sl,h'.get? b=Ψ { o with slots:=sl }) :
  Un (mx outer) [] H0 H2 s0.heap h'/\HOk P w H2 h':=by
 let hst:=I.stack
 let ub:Un (mx outer) [] H0 H2 s0.heap s3.heap:=I.base
 let slot:∀ b o,b∈mx (envOfC qu sc s0.heap.objs.size f cd :: outer)->s3.heap.get? b=Ψ o->∃ sl,h'.get? b=Ψ { o with slots:=sl }:=λb o hb q=>by
  let(_,o',z,nf):=hst.mem hb
  rw[q] at z;cases z
  exact up b o hb q nf
 let ne:∀ b o,s0.heap.get? b=Ψ o->b ∉ mx outer->b ∉ mx (envOfC qu sc s0.heap.objs.size f cd :: outer):=λb o q hb z=>by
  rcases cP.mp z with⟨env,he,ee⟩
  rcases gM.mp he with r|r
  ·subst r
   let r:b=s0.heap.objs.size:=(fo ee).symm
   exact absurd (iy q) (by rw[r];exact gK _)
  ·exact hb (cP.mpr ⟨env,r,ee⟩)
 let nl:∀ b o,s0.heap.get? b=Ψ o->b ∉ ls:=λb o q z=>by have:=(hl b z).1;rw[this] at q;cases q
 exact⟨⟨λb o q n hb hx=>k b o (nl b o q) (ne b o q hb) (ub.keep b o q n hb hx),λb o q n hb hx=>?_,ub.free,λb o q hx=>?_,ub.tups,ub.frzs,ub.tbls⟩,
  HOk.but (ls:=ls++mx (envOfC qu sc s0.heap.objs.size f cd :: outer)) I.hok (λb hb=>?_) λb u hb e=>k b u (λz=>hb (bU _ z)) (λz=>hb (bH _ z)) e⟩
 ·let(sl,r):=ub.slot b o q n hb hx
  let(sl2,r2):=slot b _ (CB hb) r
  exact⟨sl2,r2⟩
 ·let(o',r):=ub.there b o q hx
  by_cases hb:b∈mx (envOfC qu sc s0.heap.objs.size f cd :: outer)
  ·let(sl,z):=slot b o' hb r;exact⟨_,z⟩
  ·exact⟨o',k b o' (nl b o q) hb r⟩
 ·rcases fA.mp hb with z|z
  ·exact (hl b z).2
  ·exact I.stkFree b z
def Et {Z9:List (jP×Obj)}{σ:L2.St}{H1:Hp}{s2:jw}{h':jM}{e:jP}{args:List jF}(I:Inv (nX (Aw P w) P w K mg base N qu sc f cd A outer s0 H0 E) Z9 σ H1 s2)(hx:Heap.MadeExcOf s2.heap h' e (.ref Cn) args)(q:E (.ref Cn) Φ H1) :
  (nX (Aw P w) P w K mg base N qu sc f cd A outer s0 H0 E).xe (.ref e) { s2 with heap:=h' }:=by
 show wpAny (model P w) (A.deeper (envOfC qu sc s0.heap.objs.size f cd)) (leaving (envOfC qu sc s0.heap.objs.size f cd) (.ref e)) _ _ _
 let hst:=I.stack
 let hl:=PySem.W.funFrames_hide (as:=mx (envOfC qu sc s0.heap.objs.size f cd :: outer)) hst λenv he a ea=>cP.mpr ⟨env,he,ea⟩
 exact wpAny_leaves_madeW (base:=PySem.W.hideAll s2.heap (mx (envOfC qu sc s0.heap.objs.size f cd :: outer))) (outer:=outer) (h:=s2.heap) (L:=s0.heap.objs.size) (s:={ s2 with heap:=h' }) I.ok.frames rfl (λb o q=>PySem.W.of_hideAll _ q) hl hx λh2 t fly tup tn up=>⟨e,Cn,H1,rfl,?_,q⟩
 let(k1,k2,k3,oe,vs,T,oT,ts,e1,(e2,e3),e4,e5,e6,e7,e8,e9,e10):=fly
 let hT:s2.heap.get? T=Φ:=by
  cases r:s2.heap.get? T with
  | none=>rfl
  | some o =>
   by_cases hb:T∈mx (envOfC qu sc s0.heap.objs.size f cd :: outer)
   ·let(_,o2,z,nf):=hst.mem hb
    let(sl,z2):=up T o2 (hx.keeps T o2 z) nf
    rw[e8] at z2;cases z2
    exact absurd e9 (nf ts)
   ·rw[PySem.W.hideAll_get _ r hb] at e6;cases e6
 let fre:∀ b,s2.heap.get? b=Φ->s0.heap.get? b=Φ:=λb z=>by
  cases q:s0.heap.get? b with
  | none=>rfl
  | some o=>let(o',r):=I.base.there b o q eF;rw[z] at r;cases r
 let(u,hk):=J9 (ls:=[]) (h':=h2) I (λb z=>absurd z eF) (λb o _ hb q=>k1 b o (PySem.W.hideAll_get _ q hb)) λb o hb q nf=>up b o (hx.keeps b o q) nf
 exact⟨I.os,I.bare,u,hk,fre e hx.new,HOk.non I.hok hx.new,oe,vs,.ref t,T,oT,ts,e1,e2,e4,e3,e5,fre T hT,HOk.non I.hok hT,e7,e8,e9,e10⟩
def Es {Z9:List (jP×Obj)}{σ:L2.St}{H1 H2:Hp}{s2 s3:jw}{ea:jP}(I:Inv (nX (Aw P w) P w K mg base N qu sc f cd A outer s0 H0 E) Z9 σ H1 s2)(Fl:FlewX P w Cn (mx (envOfC qu sc s0.heap.objs.size f cd :: outer)) H1 H2 s2 ea s3)(q:E (.ref Cn) Φ H2) :
  (nX (Aw P w) P w K mg base N qu sc f cd A outer s0 H0 E).xe (.ref ea) s3:=by
 let(oe,vs,a0,T,oT,ts,t1,t2,t3,t4,t5,t6,t6',t7,t8,t9,t10):=Fl.tr
 let I3:Inv (nX (Aw P w) P w K mg base N qu sc f cd A outer s0 H0 E) Z9 σ H2 s3:=I.call' (ch:=[]) Fl.os Fl.un Fl.hok Fl.bare (λb hb=>absurd hb eF)
 let fly:Heap.FlyingW (PySem.W.hideAll s3.heap (ea :: T :: mx (envOfC qu sc s0.heap.objs.size f cd :: outer))) (envOfC qu sc s0.heap.objs.size f cd :: outer) ea (.ref Cn) a0 s3.heap :=
  ⟨λb o q=>PySem.W.of_hideAll _ q,PySem.W.hideAll_none _ cQ,PySem.W.funFrames_hide I3.stack λenv he a ha=>bT _ (bT _ (cP.mpr ⟨env,he,ha⟩)),oe,vs,T,oT,ts,t1,⟨t2,t4⟩,t3,t5,PySem.W.hideAll_none _ (bT _ cQ),t7,t8,t9,t10⟩
 show wpAny (model P w) (A.deeper (envOfC qu sc s0.heap.objs.size f cd)) (leaving (envOfC qu sc s0.heap.objs.size f cd) (.ref ea)) _ _ _
 exact wpAny_leaves_onW (L:=s0.heap.objs.size) I.ok.frames rfl fly λh' f2 up=>⟨ea,Cn,H2,rfl,?_,q⟩
 let(k1,k2,k3,oe',vs',T',oT',ts',e1,(e2,e3),e4,e5,e6,e7,e8,e9,e10):=f2
 let fre:∀ b,s2.heap.get? b=Φ->s0.heap.get? b=Φ:=λb z=>by
  cases q:s0.heap.get? b with
  | none=>rfl
  | some o=>let(o',r):=I.base.there b o q eF;rw[z] at r;cases r
 let fre3:∀ b,s3.heap.get? b=Φ->s0.heap.get? b=Φ:=λb z=>by
  cases q:s0.heap.get? b with
  | none=>rfl
  | some o=>let(o',r):=I3.base.there b o q eF;rw[z] at r;cases r
 let hls:∀ b∈[ea,T],s0.heap.get? b=Φ/\H2 b=Φ:=λb hb=>by
  rcases gM.mp hb with z|z
  ·rw[z];exact⟨fre _ Fl.new,Fl.hn⟩
  ·rw[cO.mp z];exact⟨fre _ t6,t6'⟩
 let nin:∀ b,b ∉ [ea,T]->b ∉ mx (envOfC qu sc s0.heap.objs.size f cd :: outer)->b ∉ ea :: T :: mx (envOfC qu sc s0.heap.objs.size f cd :: outer):=λb hl hb z=>by
  rcases gM.mp z with z|z
  ·exact hl (by rw[z];exact cQ)
  ·rcases gM.mp z with z|z
   ·exact hl (by rw[z];exact bT _ cQ)
   ·exact hb z
 let hT:s0.heap.get? T'=Φ/\H2 T'=Φ:=by
  cases r:s3.heap.get? T' with
  | none=>exact⟨fre3 _ r,HOk.non I3.hok r⟩
  | some o =>
   by_cases hb:T'∈mx (envOfC qu sc s0.heap.objs.size f cd :: outer)
   ·let(_,o2,z,nf):=I3.stack.mem hb
    let(sl,z2):=up T' o2 z nf
    rw[e8] at z2;cases z2
    exact absurd e9 (nf ts')
   ·by_cases hT:T'∈[ea,T]
    ·exact hls _ hT
    ·rw[PySem.W.hideAll_get _ r (nin _ hT hb)] at e6;cases e6
 let(u,hk):=J9 (ls:=[ea,T]) (h':=h') I3 hls (λb o hl hb q=>k1 b o (PySem.W.hideAll_get _ q (nin b hl hb))) λb o hb q nf=>up b o q nf
 exact⟨I3.os,I3.bare,u,hk,fre _ Fl.new,Fl.hn,oe',vs',a0,T',oT',ts',e1,e2,e4,e3,e5,hT.1,hT.2,e7,e8,e9,e10⟩
end
end
end Kq
namespace Kq
open PySem PySem.Spec PySem.Calls PyProof.Rows L2
noncomputable abbrev FZ:=jP->L2.St->Hp->Prop
structure XP (X:Cx)(Z9:List (jP×Obj))(Ex:FZ):Prop where
 fl:∀ σ H s ea Cn H' s',Inv X Z9 σ H s->FlewX X.prog X.w Cn (mx X.stack) H H' s ea s'->Ex Cn σ H'->X.xe (.ref ea) s'
structure XR (X:Cx)(Z9:List (jP×Obj))(Ex:FZ):Prop where
 rz:∀ σ H s h' e Cn args,Inv X Z9 σ H s->Heap.MadeExcOf s.heap h' e (.ref Cn) args->Ex Cn σ H->X.xe (.ref e) { s with heap:=h' }
abbrev PX (X:Cx)(b:Bool)(x:List jL)(t:FZ->L2.St->Hp->Prop):Prop:=∀ Z9 s σ H Ex,XP X Z9 Ex->(b=Ω->XR X Z9 Ex)->Inv X Z9 σ H s->t Ex σ H->wpAny (model X.prog X.w) X.A (execs x X.env) (λ_ _=>False) X.xe s
abbrev PXe (X:Cx)(x:Expr)(t:FZ->L2.St->Hp->Prop):Prop:=∀ Z9 s σ H Ex,XP X Z9 Ex->Inv X Z9 σ H s->t Ex σ H->wpAny (model X.prog X.w) X.A (eval x X.env) (λ_ _=>False) X.xe s
abbrev XQ (Ex:FZ)(σ:L2.St)(H:Hp)(v:FV):Prop:=∃ cl,v=.adr cl/\Ex cl σ H
abbrev XF (Ex:FZ)(σ:L2.St)(H:Hp):FFl->Prop
 | .ret v=>XQ Ex σ H v
 | _=>False
inductive lx (K:ib)(md:Md)(s:SW)(Ex:FZ)(σ:L2.St)(H:Hp):Prop
 | mk (c:_)(L:_)(S:_)(Q0:_)(_:Iv K c md L σ S H)(_:s L Q0)(_:∀ fl L',Q0 fl L'->∀ σ' S' H',Iv K c md L' σ' S' H'->Same S S'->XF Ex σ' H' fl):lx K md s Ex σ H
inductive lxe (K:ib)(md:Md)(e:EW)(Ex:FZ)(σ:L2.St)(H:Hp):Prop
 | mk (c:_)(L:_)(S:_)(Q0:_)(_:Iv K c md L σ S H)(_:e L Q0)(_:∀ v L',Q0 v L'->∀ S' H',Iv K c md L' σ S' H'->Same S S'->XQ Ex σ H' v):lxe K md e Ex σ H
abbrev FX (X:Cx)(C:CC)(b:Bool)(x:List jL)(s:SW):Prop:=PX X b x (lx X.K C.md s)
abbrev Rk (X:Cx)(C:CC)(x:Expr)(e:EW):Prop:=PXe X x (lxe X.K C.md e)
abbrev zC (K:ib)(call:CW) (f:Nat):Sp:=λvs H _ E=>∃ S args Q0,Same S H/\ArgsOk K S H args vs Ω/\call f args Q0/\∀ z,Q0 z->∀ S' H',Kept K S H S' H' (ql vs Ω) z.2->∃ cl,z.1=.adr cl/\E (.ref cl) Φ H'
structure XM (X:Cx) (n:Nat)(call:CW) (off:Nat)(ms:List (jP×Str)):Prop where
 ok:∀ (j:Nat)(Ca:jP)(m:Str),ms[j]?=Ψ (Ca,m)->∃ fa fd ps,Cls X.K Ca/\Meth X.K Ca m fa/\Binds X.K fd ps []/\FnOk X.prog X.w X.K X.mg X.base (Aw X.prog X.w) n fa fd ps (zC X.K call (off+j))
section
variable {X:Cx}{Z9:List (jP×Obj)}{σ:L2.St}{H H':Hp}{s:jw}
def wG {s':jw}{Cn ea T:jP}{h5:jM}(I:Inv X Z9 σ H s)(F:FlewX X.prog X.w Cn (mx X.stack) H H' s ea s')(hT:s.heap.get? T=Φ)(hHT:H' T=Φ)(k:(PySem.W.hideAll s'.heap (ea :: T :: mx X.stack)).StaysIn h5)(up:s'.heap.UpToSlots h5) (t:Nat):Inv X Z9 σ H' { s' with heap:=h5,toks:=t }:=by
 let I1:Inv X Z9 σ H' s':=I.call' (ch:=[]) F.os F.un F.hok F.bare (λb hb=>absurd hb eF)
 let keep:∀ b o,b ∉ ea :: T :: mx X.stack->s'.heap.get? b=Ψ o->h5.get? b=Ψ o:=λb o hb q=>k b o (PySem.W.hideAll_get _ q hb)
 let ne:∀ b o,s.heap.get? b=Ψ o->b ∉ mx X.stack->b ∉ ea :: T :: mx X.stack:=λb o q hb z=>by
  rcases gM.mp z with z|z
  ·rw[z,F.new] at q;cases q
  ·rcases gM.mp z with z|z
   ·rw[z,hT] at q;cases q
   ·exact hb z
 let slot:∀ b o,b∈mx X.stack->s'.heap.get? b=Ψ o->∃ sl,h5.get? b=Ψ { o with slots:=sl }:=λb o hb q=>by
  let(_,o',z,nf):=I1.stack.mem hb
  rw[q] at z;cases z
  exact up b o q nf
 exact I.call' (ch:=[]) (s':={ s' with heap:=h5,toks:=t }) F.os ⟨λb o q n hb hx=>?_,λb o q n hb hx=>?_,F.un.free,λb o q hx=>?_,F.un.tups,F.un.frzs,F.un.tbls⟩ (HOk.but F.hok (λb hb=>?_) keep) F.bare (λb hb=>absurd hb eF)
 ·exact keep b o (ne b o q hb) (F.un.keep b o q n hb hx)
 ·let(sl,z):=F.un.slot b o q n hb hx
  let(sl2,z2):=slot b _ hb z
  exact⟨sl2,z2⟩
 ·let(o',z):=F.un.there b o q hx
  by_cases hb:b∈mx X.stack
  ·let(sl,z2):=slot b o' hb z;exact⟨_,z2⟩
  ·exact⟨o',keep b o' (ne b o q hb) z⟩
 ·rcases gM.mp hb with z|z
  ·rw[z];exact F.hn
  ·rcases gM.mp z with z|z
   ·rw[z];exact hHT
   ·exact I1.stkFree b z
variable {s1 s2:jw}{j k:Nat}{cx en kx:Str}{Cn Ck ea:jP}{p3 p4 px kp hpos:Pos}{Q:Flow->jw->Prop}{E:jF->jw->Prop}
def En (I:Inv X Z9 σ H s)(h:s.heap.get? ea=Φ):ea≠0:=λz=>by
 let(mb,(o,_,_,e,_),_):=I.ok.mod.blt
 have:=I.bk _ _ e
 rw[z] at h
 rw[show (0:jP)=builtinsNs from rfl,this] at h;cases h
def La (at_:AtDef X)(I1:Inv X Z9 σ H s1)(Fl:FlewX X.prog X.w Cn (mx X.stack) H H' s1 ea s2)(hg:Gl X kx)(hmg:X.mg kx=Ψ (.ref Ck))(hd:(kx == ("__debug__":Str))=Ξ)(hex:PySem.W.exmOne X.K (.ref Cn) (.ref Ck)=Ψ Ω)
  (hN:X.N.Nodup)(hj:X.N[j]?=Ψ cx)(hlj:X.env.scope.names.lookup cx=Ψ .local)(hk:X.N[k]?=Ψ en)(hlk:X.env.scope.names.lookup en=Ψ .local)(hd1:(en == ("__debug__":Str))=Ξ)(hd2:(en == ("__classdict__":Str))=Ξ)
  (hQ:∀ s9 oe,oe.cls=.ref Cn->ea≠0->Inv (Cx.at X X.A X.calm ((ea,oe) :: X.pn) X.xe) Z9 (((σ.set k (Ψ (.ref ea))).set j (Ψ (.ref ea))).set k Φ) H' s9->Q .next s9) :
  wpAny (model X.prog X.w) X.A (noteFrame (.ref ea) X.env) (λ_ s₂=>wpAny (model X.prog X.w) X.A (setFlight (.ref ea) Φ) (λ_ s₃=>wpAny (model X.prog X.w) X.A (handleBy (.ref ea) X.env [.ExceptHandler (Ψ (.Name kx kp)) (Ψ en) [.Assign [.Name cx px] (.Name en p3) p4] hpos]) Q E s₃) E s₂) E s2:=by
 let(oe,vs,a0,T,oT,ts,t1,t2,t3,t4,t5,t6,hHT,t7,t8,t9,t10):=Fl.tr
 let I2:Inv X Z9 σ H' s2:=I1.call' (ch:=[]) Fl.os Fl.un Fl.hok Fl.bare (λb hb=>absurd hb eF)
 let fly:Heap.FlyingW (PySem.W.hideAll s2.heap (ea :: T :: mx X.stack)) (X.env :: X.outer) ea (.ref Cn) a0 s2.heap:=by
  exact⟨λb o q=>PySem.W.of_hideAll _ q,PySem.W.hideAll_none _ cQ,?_,oe,vs,T,oT,ts,t1,⟨t2,t4⟩,t3,t5,PySem.W.hideAll_none _ (bT _ cQ),t7,t8,t9,t10⟩
  let z:=PySem.W.funFrames_hide (as:=ea :: T :: mx X.stack) I2.stack λenv he a ha=>bT _ (bT _ (cP.mpr ⟨env,he,ha⟩))
  rw[at_.stk] at z ⊢
  exact z
 exact wpAny_looks_onW (L:=X.env.locals) (I1.ok.frames.trans (by rw[at_.stk])) at_.fr fly λh4 held up4=>?_
 exact wpAny_landsW held λh5 fly5 up5=>?_
 let I5:Inv X Z9 σ H' { s2 with heap:=h5 }:=wG I1 Fl t6 hHT fly5.1 (up4.trans up5) s2.toks
 let(ob5,ho5,hc5):=fly5.there
 exact wpAny_handleBy_cons (codeAny_handlers_test (oR (X:=Cx.at X (X.A.mark (Ψ (.ref ea))) Ξ X.pn X.xe) (uV I5 rfl (λz=>nomatch z) λq hq=>I5.pin q (bU _ hq)) hg hmg ?_ hd)) (by intro q;cases q)
 exact (PySem.W.exm_one (K:=X.K) (h:=h5) I5.kIn (hc5 ▸ (PySem.W.Looks.ld ho5).andThen .now) hex).at ?_
 exact codeAny_handlers_suite_as (lands_againW fly5 λh6 fly6 up6=>?_)
 let I6:Inv X Z9 σ H' { s2 with heap:=h6 }:=wG I1 Fl t6 hHT fly6.1 ((up4.trans up5).trans up6) s2.toks
 let(o6,v6,ho6,hc6,hd6,_):=fly6.first
 let pn:∀ q∈(ea,o6) :: X.pn,h6.get? q.1=Ψ q.2/\H' q.1=Φ/\q.1≠X.env.locals/\q.1 ∉ X.fs/\∀ v,q.2.data≠.cell v:=λq hq=>by
  rcases gM.mp hq with z|z
  ·subst z
   exact⟨ho6,Fl.hn,λz=>?_,λz=>?_,λv z=>?_⟩
   ·let(_,(o,_,_,q,_),_):=I1.loc
    let z:ea=X.env.locals:=z
    rw[<- z,Fl.new] at q;cases q
   ·let(_,o,q,_):=I1.funs.mem z
    let q:s1.heap.get? ea=Ψ o:=q
    rw[Fl.new] at q;cases q
   ·rw[hd6] at z;cases z
  ·exact I6.pin q (bU _ z)
 exact mT (X:=Cx.at X (X.A.mark (Ψ (.ref ea))) Ξ ((ea,o6) :: X.pn) λ_ _=>False) (v:=.ref ea) (uV I6 rfl (λz=>nomatch z) pn) hN hk (.inl hlk) rfl (λs7 I7=>?_) (.inr hlk)
 let ps:PSs (Cx.at X (X.A.mark (Ψ (.ref ea))) Ξ ((ea,o6) :: X.pn) λ_ _=>False) [.Assign [.Name cx px] (.Name en p3) p4] _:=yr (Bh hN hj (.inl hlj) (uL hk (.inl hlk) hd1 hd2) rfl (.inr hlj))
 let kl:k<σ.length:=by rw[I1.len];exact (aI.mp hk).1
 exact iP (ps Z9 s7 _ H' { nx:=λσ' H2=>σ'=(σ.set k (Ψ (.ref ea))).set j (Ψ (.ref ea))/\H2=H',rt:=λ_ _=>False } I7 ⟨.ref ea,bu kl,rfl,rfl⟩) (λf s8 hs=>?_) λ_ _ z=>z.elim
 cases f with
 | next =>
  let(σ',H2,I8,rfl,rfl):=hs
  let I8':Inv (Cx.at X X.A X.calm ((ea,o6) :: X.pn) X.xe) Z9 ((σ.set k (Ψ (.ref ea))).set j (Ψ (.ref ea))) H2 s8:=uV I8 rfl I1.ok.hd λq hq=>I8.pin q (bU _ hq)
  exact EN (X:=Cx.at X X.A X.calm ((ea,o6) :: X.pn) X.xe) I8' hN hk hlk λs9 I9=>hQ s9 o6 hc6 (En I1 Fl.new) I9
 | ret v=>let(_,_,_,_,_,q):=hs;exact q.elim
 | brk=>let(_,_,_,q):=hs;exact q.elim
 | cont=>let(_,_,_,q):=hs;exact q.elim
end
abbrev My:SW:=λ_ _=>False
structure XCl (X:Cx)(x:Str)(Cn:jP):Prop where
 a:X.mg x=Ψ (.ref Cn)
 e:PySem.W.excIn X.K Cn bmV "ValueError.__new__" = Ω
section
variable {X:Cx}{C:CC}{n:Nat}{sp:ib->Nat->Sp}{b:Bool}{x a c:Expr}{e:EW}{es:List Expr}{xs rest xa xb:List jL}{s r:SW}{t:BW}{as:AW}{i f off:Nat}{call:CW}{ms:List (jP×Str)}{Ca Cn:jP}{m nx:Str}{pos p apos:Pos}
def lO (Z:XM X n call off ms)(G:Good X C n sp)(hle:Δ (off<=f)=Ω)(hk:ms[f-off]?=Ψ (Ca,m))(h:C.nm i nx=Ω)(mo:qJ C.md i=Ω)(hl:oG apos pos=Ω)(hs:(kE (a :: es) && Δ ((a :: es).length<30))=Ω)(ha:FA X C (a :: es) as) :
  Rk X C (.Call (.Attribute (.Name nx p) m apos) (a :: es) [] pos) (kb call f i Ca m as):=by
 let(fa,fd,ps,h2,h4,h5,h6):=Z.ok (f-off) Ca m hk
 rw[Nat.add_sub_of_le (de hle)] at h6
 let hs1:=b2 hs
 let hs':=b2 (show (!j9 a && kE es)=Ω from hs1.1)
 let(pl,hev):=oP (nx:=nx) (p:=p) (m:=m) (env:=X.env) hl (wE (pos:=pos) hs1.1 hs1.2)
 rintro Z9 s σ H Ex hP I ⟨c,L,S,Q0,I0,h1,kk⟩
 let(o,e,ho,hc9):=kq h1
 cases o with
 | shf C' dx ns vs =>
  let(rfl,hl):=ho
  let(l,xs',e1,hh,_,_):=I0.shf mo e
  exact PySem.W.methodCall_KW (pl:=pl) (ko ((ki G h).nox Z9 s σ H (λx H1=>x=.ref l/\H1=H) I ⟨_,e1,rfl,rfl⟩) λu s1 ⟨x,H1,I1,rx,ex,eh⟩=>?_) hev
  subst ex;subst eh
  obtain rfl:u=Value.ref l:=rx
  exact pj (k8 I1 hh) ml h2 h4 (mB ns vs xs' hl) ?_
  let(v0,e0,hc9):=kq hc9
  let mi:=Mo.w_imm (b2 mo).1
  exact PySem.W.callWith_K (first:=[.ref l]) (h₀:=X.base) I1.ok.mod.kin h4.kp (iP (ha pos Z9 s1 σ H1 (λvs H2=>zC X.K call f (.ref l :: vs) H2 (λ_ _=>False) λcls _ H'=>∃ cl,cls=.ref cl/\Ex cl σ H') (I1.wish _) ⟨c,L,S,_,I0,hc9,λvs1 L1 hv us S1 H2 r1 I2 s1'=>?_⟩) (λus s2 q=>?_) λ_ _ z=>z.elim) (jU (nb hs'.1)) (mU hs'.2)
  ·let(v1,e2,q):=kq hv
   let e2:=(kP _ _ _).mp e2
   let(l',f1,o,_):=I2.own i v1 mi e2
   rw[e1] at f1;cases f1
   exact⟨S1,v1 :: vs1,_,I2.sub,⟨v1,vs1,l,us,rfl,rfl,o,r1⟩,q,λz q S' H' kp=>?_⟩
   let I3:=I2.back4 (b2 mo).1 e2 e1 kp.same kp.sub kp.grow (λb o e n=>kp.keep b o e λz=>n (by cases z;rfl)) (kp.back l rfl) λ_ _ _ _ _ _ _ z=>absurd z (qk (b2 mo).2 i)
   let(cl,e5,q5):=kk _ _ q S' H' I3 (s1'.trans kp.same)
   exact⟨cl,e5,cl,rfl,q5⟩
  ·let(vs,H2,I2,r,q):=q
   let I2:=I2.unwish
   let r2:Vals (V.ref l :: vs) (Value.ref l :: us):=.cons rfl r
   let hlen:(Value.ref l :: us++[]).length=ps.length:=by
    let e:=r2.length
    rw[h6.len _ _ _ _ q] at e
    rw[fH];exact e.symm
   let hbb:=h5 _ (Value.ref l :: us) I2.kIn hlen
   rw[fH] at hbb
   exact⟨I2.kIn,wpAny_call (hG (h6.run X.A X.stack s2 H2 ⟨.ref l :: us,[]⟩ (.ref l :: us) (.ref l :: vs) _ _ G.room.toRoom I2.env0 hbb r2 q) λr s' hq=>?_)⟩
   cases r with
   | ok f =>
    cases f with
    | ret u=>let(_,_,_,_,_,_,_,q):=hq;exact q.elim
    | next=>exact i9 hq
    | brk=>exact i9 hq
    | cont=>exact i9 hq
   | error e =>
    let(ea,Cn,H',rfl,Fl,cl,e7,q):=hq
    cases e7
    exact hP.fl σ H2 s2 ea Cn H' s' I2 Fl q
 | _=>exact ho.elim
def xF {K:ib}{md:Md}{e:EW}{Ex:FZ}{σ:L2.St}{H:Hp}(h:lx K md (kf e) Ex σ H):lxe K md e Ex σ H:=by
 let(c,L,S,Q0,I,h,k):=h
 exact⟨c,L,S,_,I,h,λv L' q S' H' I' s'=>k (.ret v) L' q σ S' H' I' s'⟩
def xL (hc:nI a=Ξ)(h:Rk X C a e):FX X C b (.Expr a pos :: rest) (kf e):=λZ9 s σ H Ex hP _ I q =>
 dX (wpAny_Expr_any (iP (h Z9 s σ H Ex hP I (xF q)) (λ_ _ z=>z.elim) λ_ _ z=>z) I.quiet (lK hc))
def Cu {tg fe:Expr}(h:Rk X C (.Call fe es [] p) e):FX X C b (.Assign [tg] (.Call fe es [] p) pos :: rest) (kf e):=λZ9 s σ H Ex hP _ I q =>
 dX (wpAny_Assign_stores (iP (h Z9 s σ H Ex hP I (xF q)) (λ_ _ z=>z.elim) λ_ _ z=>z) (vt rfl) (by cases tg<;>rfl))
def Lk (hc:FB X C c t)(ha:FX X C b xa s)(hb:FX X C b xb r):FX X C b (.If c xa xb pos :: rest) (my t s r):=by
 rintro Z9 s0 σ H Ex hP hR I ⟨c0,L,S,Q0,I0,h,k⟩
 exact dX (wpAny_If (iP (hc Z9 s0 σ H (λd H1=>if d=Ω then lx X.K C.md s Ex σ H1 else lx X.K C.md r Ex σ H1) (I.wish _) ⟨c0,L,S,_,I0,h,λv L1 q S1 H1 I1 s1=>?_⟩) (λd s1 ⟨H1,I1,q1⟩=>?_) λ_ _ z=>z.elim))
 ·cases v with
  | true=>rw[if_pos rfl] at q ⊢;exact⟨c0,L1,S1,_,I1,q,λfl L2 q σ2 S2 H2 I2 s2=>k fl L2 q σ2 S2 H2 I2 (s1.trans s2)⟩
  | false=>rw[if_neg cU] at q ⊢;exact⟨c0,L1,S1,_,I1,q,λfl L2 q σ2 S2 H2 I2 s2=>k fl L2 q σ2 S2 H2 I2 (s1.trans s2)⟩
 ·cases d with
  | true=>rw[if_pos rfl] at q1;exact iP (ha Z9 s1 σ H1 Ex hP hR I1.unwish q1) (λ_ _ z=>z.elim) λ_ _ z=>z
  | false=>rw[if_neg cU] at q1;exact iP (hb Z9 s1 σ H1 Ex hP hR I1.unwish q1) (λ_ _ z=>z.elim) λ_ _ z=>z
def fx_no:FX X C b xs My:=by
 rintro Z9 s0 σ H Ex hP hR I ⟨c0,L,S,Q0,I0,h,k⟩
 exact h.elim
end
noncomputable abbrev Dp:=jR->(jR->Prop)->Prop
abbrev PQ (e:Dp)(cl:jP):EW:=λL Q=>e L λL1=>Q (.adr cl) L1
inductive lmz (K:ib)(md:Md)(e:Dp)(σ:L2.St)(H:Hp)(Q:Hp->Prop):Prop
 | mk (c:_)(L:_)(S:_)(Q0:_)(_:Iv K c md L σ S H)(_:e L Q0)(_:∀ L',Q0 L'->∀ S' H',Iv K c md L' σ S' H'->Same S S'->Q H'):lmz K md e σ H Q
abbrev FMz (X:Cx)(C:CC)(a:Expr)(e:Dp):Prop:=PE X.nox a (λσ H Q=>lmz X.K C.md e σ H λH'=>∀ x,Q x H')
abbrev FJ (X:Cx)(C:CC)(es:List Expr) (n:Nat)(e:Dp):Prop:=∀ (Z8:Str)(Z9:List (jP×Obj))(s:jw)(σ:L2.St)(H:Hp)(Q:Hp->Prop),Z8.length+n<=1000->Inv X.nox Z9 σ H s->lmz X.K C.md e σ H Q ->
 wpAny (model X.prog X.w) X.A (joinParts Z8 (evalEach es X.env)) (EP X.nox Z9 σ λ_ H'=>Q H') (λ_ _=>False) s
abbrev HZ:FV->Option Int
 | .int i=>if -(2 ^ 150)<i/\i<2 ^ 150 then Ψ i else Φ
 | _=>Φ
abbrev HC:Dp:=λL Q=>Q L
abbrev HD (e:EW)(m:Dp):Dp:=λL Q=>e L λv L1=>wp (HZ v) λ_=>m L1 Q
section
variable {X:Cx}{C:CC}{n k:Nat}{sp:ib->Nat->Sp}{Cn:jP}{cn:Str}{em:Dp}{np Z1:Pos}{rest:List jL}{a:Expr}{ea:EW}{es:List Expr}{m:Dp}{z:Str}{pos p:Pos}
def OM:FJ X C [] 0 HC:=by
 rintro Z8 Z9 s σ H Q hn I ⟨c,L,S,Q0,I0,h,k⟩
 exact joinParts_nil ⟨.str Z8,H,I.tok _,⟨_,rfl⟩,k L h S H I0 (Same.refl S)⟩ ?_
 have:=iE;lia
def ON {j}(h:FJ X C es n m):FJ X C (.Constant (.str z) j p :: es) (z.length+n) m:=by
 intro Z8 Z9 s σ H Q hn I q
 exact joinParts_cons (ko (Bs (X:=X.nox) Z9 s σ H (λx H1=>x=.str z/\H1=H) I ⟨rfl,rfl⟩) λu s1 ⟨x,H1,I1,r,e,eh⟩=>?_)
 subst e;subst eh
 let(t,rfl):=r
 let e:(Z8++z).length=Z8.length+z.length:=strLen_append ..
 refine⟨by have:=iE;lia,h (Z8++z) Z9 s1 σ H1 Q ⋯ I1 q⟩
def OO (ha:FE X C a ea)(h:FJ X C es n m):FJ X C (.FormattedValue a (-1) Φ pos :: es) (160+n) (HD ea m):=by
 rintro Z8 Z9 s σ H Q hn I ⟨c,L,S,Q0,I0,hh,kk⟩
 exact joinParts_cons (FormattedValue_plain (ko (ha Z9 s σ H (λx H1=>∃ i,x=.int i/\-(2 ^ 150)<i/\i<2 ^ 150/\lmz X.K C.md m σ H1 Q) I ⟨c,L,S,_,I0,hh,λv L1 q x S1 H1 r1 I1 s1=>?_⟩) λu s1 ⟨x,H1,I1,r,i,e,l1,l2,q⟩=>?_))
 ·let(i,e,q9):=kq q
  clear q
  let q9:m L1 Q0:=q9
  cases v with
  | int i' =>
   let((h1,h2),e):=EH (show (if -(2 ^ 150)<i'/\i'<2 ^ 150 then Ψ i' else Φ)=Ψ i from e)
   exact⟨i',r1,h1,h2,c,L1,S1,_,I1,q9,λL' q S' H' I' s'=>kk L' q S' H' I' (s1.trans s')⟩
  | _=>cases e
 ·subst e
  let(t,rfl):=r
  let lg:i.natAbs.log2<150:=by
   by_cases z:i.natAbs=0
   ·rw[z];decide
   ·exact (Nat.log2_lt z).mpr ⋯
  let e2:=int_text_length_le (k:=150) (·) lg
  exact formatField_int_small (Nat.lt_trans lg (·)) ?_
  let e3:(hW (toString i)).length<=151:=by rw[bD];exact e2
  let e:(Z8++hW (toString i)).length=Z8.length+(hW (toString i)).length:=strLen_append ..
  refine⟨by have:=iE;lia,h _ Z9 _ σ H1 Q ⋯ (I1.tok _) q⟩
def EY {v1 v2:Expr}(h:FJ X C (v1 :: v2 :: es) n m)(hn:Δ (n<=1000)=Ω):FMz X C (.JoinedStr (v1 :: v2 :: es) pos) m:=by
 rintro Z9 s σ H Q I q
 exact JoinedStr_many (iP (h Str.empty Z9 s σ H (λH'=>∀ x,Q x H') (by have:Str.empty.length=0:=rfl;have:=de hn;lia) I q) (λu s1 q=>?_) λ_ _ z=>z)
 let(v,H',I',r,q):=q
 exact⟨v,H',I',r,q v⟩
def Ct (W:XCl X cn Cn)(G:Good X C n sp)(hg:C.gl cn=Ω)(hd:(cn == ("__debug__":Str))=Ξ)(hs:j9 a=Ξ)(hm:FMz X C a em):FX X C Ω (.Raise (Ψ (.Call (.Name cn np) [a] [] Z1)) Φ pos :: rest) (kf (PQ em Cn)):=by
 rintro Z9 s σ H Ex hP hR I q
 let(c,L,S,Q0,I0,h,k):=xF q
 let(bm,N,nm,qn,b0,hdc,sn,sub,ab,col,dd,k0,k1,k2,k3,k5,mN,hC,hN,hni,TL):=E8 I.mod.kin W.e
 refine dX (wpAny_Raise_call_subT (C:=Cn) (nm:=nm) (q:=qn) (N:=N) (bs:=b0) (bm:=bm) (hdct:=hdc) (sn:=sn) (sub:=sub) (ab:=ab) (col:=col) (dd:=dd) (k0:=k0) (k1:=k1) (k2:=k2) (k3:=k3) (k5:=k5)
  F.excBase_ValueError (mN:=mN) (TL.hasType F.excBase_ValueError.hasBase) (I.ok.hd G.calm) (mU (xs:=[a]) (by show (!j9 a && Ω)=Ω;rw[hs];rfl)) hni (oR I (G.gl hg) W.a ⟨rfl,?_⟩ hd))
 let pa:PA X.nox [a] _:=ka (te:=λσ H Q=>lmz X.K C.md em σ H λH'=>∀ x,Q x H') hm kF (jU hs)
 rw[jU hs]
 let pa:=pa Z1 Z9 s σ H (λvs H1=>Ex Cn σ H1/\vs.length<=sizeLine) (I.wish _) ⟨c,L,S,_,I0,h,λL1 q S1 H1 I1 s1 x=>by
  let(cl,e5,q5):=k _ _ q S1 H1 I1 s1
  cases e5
  exact⟨q5,by show 1<=sizeLine;decide⟩⟩
 rw[jU hs] at pa
 exact Calls.evalArgs_plain (iP pa (λus s2 q=>?_) λ_ _ y=>y.elim)
 let(vs,H1,I1,r,e,ln):=q
 let I1:=I1.unwish
 exact⟨rfl,by rw[<- r.length];exact ln,I1.bk _ _ hC,hN.keeps I1.bk,TL.keeps I1.bk,λh' e' hx=>(hR rfl).rz σ H1 s2 h' e' Cn _ I1 hx e⟩
end
structure CapF (K:ib)(mg:Str->Option jF)(kx n1 n2 n3 nV:Str)(ws:List (jP×String))(w1 w2 w3:String):Prop where
 k:∃ Ck,mg kx=Ψ (.ref Ck)/\∀ p∈ws,PySem.W.exmOne K (.ref p.1) (.ref Ck)=Ψ Ω
 c:∃ C1 C2 C3,mg n1=Ψ (.ref C1)/\mg n2=Ψ (.ref C2)/\mg n3=Ψ (.ref C3)/\∀ p∈ws,∃ b1 b2 b3,fX K (.ref p.1) (.ref C1)=Ψ b1/\fX K (.ref p.1) (.ref C2)=Ψ b2/\fX K (.ref p.1) (.ref C3)=Ψ b3/\Dc w1 w2 w3 b1 b2 b3=Ψ p.2
 b:mg nV=Φ
 v:∀ p∈ws,fX K (.ref p.1) (.type "ValueError")=Ψ Ω
 x:∀ p∈ws,XCls K p.1
abbrev vd (j:Nat)(d:jP)(b:Bool):EW:=λL Q=>wp (lk L j) λv=>v=.adr d/\Q (.bl b) L
abbrev GW (i j k q:Nat)(ws:List (jP×String))(sN sX:SW):SW:=λL Q =>
 (jY sN (jY (my (ke (kG lz (jQ j))) (kf (jQ i)) lB) rC) L Q) ∨
 (sX L λfl L1=>∃ cl w,fl=.ret (.adr cl)/\(cl,w)∈ws/\∀ d bs,Q (.ret (.str w)) ((((L1.set k Φ).set j (Ψ (.adr d))).set k Φ).set q (Ψ bs)))
section
variable {X:Cx}{C:CC}{n:Nat}{sp:ib->Nat->Sp}{fr:Bool}{j q:Nat}
def ER {body:List jL}{s:SW}{h0:ExceptHandler}{hs:List ExceptHandler}{pos:Pos}(h:sO X C fr body s):FS X C fr (.Try body (h0 :: hs) [] [] pos) s:=by
 intro Z9 s0 σ H D I hq
 exact wpAny_Try_except (iP (h Z9 s0 σ H D I hq) (λf s1 q=>?_) λ_ _ z=>z.elim)
 cases f with
 | next=>exact eX q
 | ret v=>exact q
 | brk=>exact q
 | cont=>exact q
def Good.at (G:Good X C n sp){pn:List (jP×Obj)}{E:jF->jw->Prop}:Good (Cx.at X X.A X.calm pn E) C n sp:=⟨G.N,G.sc,G.kind,G.nd,G.calm,G.fn,G.room,G.fns,G.blt,G.mts,G.fls⟩
def Good.wish (G:Good X C n sp){E:jF->jw->Prop}:Good (X.wish E) C n sp:=⟨G.N,G.sc,G.kind,G.nd,G.calm,G.fn,G.room,G.fns,G.blt,G.mts,G.fls⟩
def Ig {ea d Cn Cb:jP}{oe:Obj}{b:Bool}{cx nb':Str}{q1 q2 q3 q4:Pos}(G:Good X C n sp)(xc:XCls X.K Cn)(hoe:oe.cls=.ref Cn)(hd:ea=d+1)(h:C.nm j cx=Ω)(m:jX C.md j=.imm)(hg:(C.gl nb' && C.gl (hW "isinstance"))=Ω)(hdb:(nb' == ("__debug__":Str))=Ξ)(hm:X.mg nb'=Ψ (.ref Cb))(hk:fX X.K (.ref Cn) (.ref Cb)=Ψ b) :
  FE (Cx.at X X.A X.calm ((ea,oe) :: X.pn) X.xe) C (qO cx nb' q1 q2 q3 q4) (vd j d b):=by
 let hg:=b2 hg
 let G':Good (Cx.at X X.A X.calm ((ea,oe) :: X.pn) X.xe) C n sp:=G.at
 exact PE.imp (mE (X:=(Cx.at X X.A X.calm ((ea,oe) :: X.pn) X.xe).nox) (p:=q1) (pos:=q4) (Gy (X:=X.nox) (ea:=ea) hoe xc) (G'.gl hg.2) (G.blt "isinstance" (·)) (by nofun) (ka (ki G' h) (ka (D7 (pos:=q3) (v:=.ref Cb) (G'.gl hg.1) hm rfl hdb) kF rfl) rfl) (by nofun) (by nofun) rfl rfl) λσ H Q ⟨c,L,S,Q0,I,hh,kk⟩=>?_
 let(v,e,rfl,qq):=kq hh
 let(x,e1,r):=I.imm j _ m ((kP _ _ _).mp e)
 let r:x=.ref (d+1):=r
 subst r;subst hd
 exact⟨.ref (d+1),e1,.ref Cb,.ref Cb,b,rfl,λu r=>r,hk,kk _ _ qq (.bl b) S H rfl I (Same.refl S)⟩
def E3 {ea d Cn:jP}{oe:Obj}{b:Bool}{cx nb':Str}{T:String}{q1 q2 q3 q4:Pos}(G:Good X C n sp)(xc:XCls X.K Cn)(hoe:oe.cls=.ref Cn)(hd:ea=d+1)(h:C.nm j cx=Ω)(m:jX C.md j=.imm)(hg:(C.gl nb' && C.gl (hW "isinstance"))=Ω)(hdb:(nb' == ("__debug__":Str))=Ξ)(hm:X.mg nb'=Φ)(hT:bootBuiltins nb'=Ψ (.type T))(hn2:(nb' == ("__name__":Str))=Ξ)(hk:fX X.K (.ref Cn) (.type T)=Ψ b) :
  FE (Cx.at X X.A X.calm ((ea,oe) :: X.pn) X.xe) C (qO cx nb' q1 q2 q3 q4) (vd j d b):=by
 let hg:=b2 hg
 let G':Good (Cx.at X X.A X.calm ((ea,oe) :: X.pn) X.xe) C n sp:=G.at
 exact PE.imp (mE (X:=(Cx.at X X.A X.calm ((ea,oe) :: X.pn) X.xe).nox) (p:=q1) (pos:=q4) (Gy (X:=X.nox) (ea:=ea) hoe xc) (G'.gl hg.2) (G.blt "isinstance" (·)) (by nofun) (ka (ki G' h) (ka (uN (pos:=q3) (v:=.ty T) (G'.gl hg.1) hm hT rfl (λz=>by rw[z] at hn2;simp at hn2) hdb) kF rfl) rfl) (by nofun) (by nofun) rfl rfl) λσ H Q ⟨c,L,S,Q0,I,hh,kk⟩=>?_
 let(v,e,rfl,qq):=kq hh
 let(x,e1,r):=I.imm j _ m ((kP _ _ _).mp e)
 let r:x=.ref (d+1):=r
 subst r;subst hd
 exact⟨.ref (d+1),e1,.type T,.ty T,b,rfl,λu r=>r,hk,kk _ _ qq (.bl b) S H rfl I (Same.refl S)⟩
end
abbrev Kr (i j q:Nat)(d:jP)(b1 b2 b3:Bool)(w1 w2 w3:String):SW :=
 jY (my (ke (kG lz (jQ j))) (kf (jQ i)) lB) (jY (kg (m7 (jS (vd j d b1) (jS (vd j d b2) (jS (vd j d b3) jW)))) (.nm q))
  (jY (my (Ax (ke (j0 yD (Ai su q (eC (.bl Ω))) (eC (.int 1)))) (pv (ke (vd j d Ω)))) (kf (eC (.str "other"))) lB)
   (kf (j0 lH (m7 (jS (eC (.str w1)) (jS (eC (.str w2)) (jS (eC (.str w3)) jW)))) (Ai rV q (eC (.bl Ω)))))))
def Gj {L:jR}{q:Nat}{v:Option FV}(h:q<L.length):lk (L.set q v) q=v:=by
 cases v with
 | some v=>exact (kP _ _ _).mpr (by rw[bu h])
 | none =>
  cases e:lk (L.set q Φ) q with
  | none=>rfl
  | some w=>have:=(kP _ _ _).mp e;rw[bu h] at this;cases this
def BR {L:jR}{q j:Nat}{v:Option FV}(h:j≠q):lk (L.set q v) j=lk L j:=by
 cases e:lk L j with
 | some w=>exact (kP _ _ _).mpr (by rw[bV (jp h)];exact (kP _ _ _).mp e)
 | none =>
  cases e2:lk (L.set q v) j with
  | none=>rfl
  | some w=>have:=(kP _ _ _).mp e2;rw[bV (jp h)] at this;rw[(kP _ _ _).mpr this] at e;cases e
def Fk {w1 w2 w3 w:String}{b1 b2 b3:Bool}(h:Dc w1 w2 w3 b1 b2 b3=Ψ w):su (.lst [.bl b1,.bl b2,.bl b3]) (.bl Ω)=Ψ (.int 1)/\∃ k:Nat,rV (.lst [.bl b1,.bl b2,.bl b3]) (.bl Ω)=Ψ (.int k)/\lH (.lst [.str w1,.str w2,.str w3]) (.int k)=Ψ (.str w):=by
 cases b1<;>cases b2<;>cases b3<;>first|(cases h;done)|(cases h;exact⟨by kernel_rfl!,0,by kernel_rfl!,by kernel_rfl!⟩)|(cases h;exact⟨by kernel_rfl!,1,by kernel_rfl!,by kernel_rfl!⟩)|(cases h;exact⟨by kernel_rfl!,2,by kernel_rfl!,by kernel_rfl!⟩)
def wZ {α:Type}{r:Option α}{x:α}{Q:α->Prop}(h:r=Ψ x)(q:Q x):wp r Q:=by rw[h];exact q
def uW {c A B:Prop} [Decidable c] (h:¬ c):(if c then A else B)↔B:=by rw[if_neg h]
def GM {i j q:Nat}{d:jP}{b1 b2 b3:Bool}{w1 w2 w3 w:String}{L:jR}{Q:FFl->jR->Prop}(hj:lk L j=Ψ (.adr d))(hq:q<L.length)(hn:j≠q)(hw:Dc w1 w2 w3 b1 b2 b3=Ψ w)(h:Q (.ret (.str w)) (L.set q (Ψ (.lst [.bl b1,.bl b2,.bl b3])))):Kr i j q d b1 b2 b3 w1 w2 w3 L Q:=by
 let(c1,k,c2,c3):=Fk hw
 let l1:lk (L.set q (Ψ (.lst [.bl b1,.bl b2,.bl b3]))) q=Ψ (.lst [.bl b1,.bl b2,.bl b3]):=Gj hq
 let l2:lk (L.set q (Ψ (.lst [.bl b1,.bl b2,.bl b3]))) j=Ψ (.adr d):=(BR hn).trans hj
 let e1:nq (.bl Ξ)=Ψ Ξ:=rfl
 let e2:yD (.int 1) (.int 1)=Ψ (.bl Ξ):=by kernel_rfl!
 let e3:oo (.lst [.bl b1,.bl b2,.bl b3])=Ψ [.bl b1,.bl b2,.bl b3]:=rfl
 let e4:nq (.bl Ω)=Ψ Ω:=rfl
 let n3:∀ a b c:FV,[a,b,c].length<=big:=λ_ _ _=>by show 3<=100000;decide
 let a1:∀ (b:Bool)(M:jR)(R:FV->jR->Prop),lk M j=Ψ (.adr d)->R (.bl b) M->vd j d b M R:=λb M R h1 h2=>wZ h1 ⟨rfl,h2⟩
 exact wZ (r:=lk L j) hj (wZ (r:=lz (.adr d)) rfl (wZ (r:=nq (.bl Ξ)) rfl ?_))
 exact (uW cU).mpr ?_
 simp![lB,L0,jY,kg,m7,jS,jW,my,Ax,pv,ke,kf,j0,Ai,eC]
 exact a1 b1 L _ hj ?_
 exact a1 b2 L _ hj ?_
 exact a1 b3 L _ hj ?_
 exact⟨n3 _ _ _,?_⟩
 exact wZ (r:=lk (L.set q (Ψ (.lst [.bl b1,.bl b2,.bl b3]))) q) l1 (wZ (r:=oo (.lst [.bl b1,.bl b2,.bl b3])) rfl ?_)
 exact wZ (r:=lk (L.set q (Ψ (.lst [.bl b1,.bl b2,.bl b3]))) q) l1 (wZ (r:=su (.lst [.bl b1,.bl b2,.bl b3]) (.bl Ω)) c1 ?_)
 exact wZ (r:=yD (.int 1) (.int 1)) e2 (wZ (r:=nq (.bl Ξ)) rfl ?_)
 exact (uW cU).mpr ?_
 exact a1 Ω _ _ l2 ?_
 exact wZ (r:=nq (.bl Ω)) rfl ?_
 exact (uW cU).mpr ?_
 exact⟨n3 _ _ _,?_⟩
 exact wZ (r:=lk (L.set q (Ψ (.lst [.bl b1,.bl b2,.bl b3]))) q) l1 (wZ (r:=oo (.lst [.bl b1,.bl b2,.bl b3])) rfl ?_)
 exact wZ (r:=lk (L.set q (Ψ (.lst [.bl b1,.bl b2,.bl b3]))) q) l1 (wZ (r:=rV (.lst [.bl b1,.bl b2,.bl b3]) (.bl Ω)) c2 ?_)
 exact wZ (r:=lH (.lst [.str w1,.str w2,.str w3]) (.int k)) c3 h
section
variable {X:Cx}{C:CC}{n:Nat}{sp:ib->Nat->Sp}{i j q:Nat}{w1 w2 w3:String}{nF cx nT n1 n2 n3 nV:Str}
 {j1 j2 j3 j4 j5 j6 j7 j8:Nat}{tpos kp px p3 p4 hpos p5 p6 p7 p8 p9 p10 p11 p12 p13 p14 p15 p16 p17 p18 p19 p20 p21 p22 p23 p24 p25 p26 p27 p28 p29 p30 p31 p32 p33 p34 p35 p36 p37 p38 p39 p40 p41 p42 p43 p44 p45 p46 p47 p48 p49 p50:Pos}
def EQ {ea d Cn C1 C2 C3 : jP} {oe : Obj} {t1 t2 t3 : Bool} (G : Good X C n sp) (xc : XCls X.K Cn) (hoe : oe.cls = .ref Cn) (hd : ea = d + 1)
    (nm:(C.nm i nF && (C.nm j cx && (C.nm q nT && C.tn q nT)))=Ω) (hm:(Δ (jX C.md i=.imm) && (Δ (jX C.md j=.imm) && Δ (jX C.md q=.imm)))=Ω)
    (hg:(C.gl n1 && (C.gl n2 && (C.gl n3 && (C.gl nV && C.gl (hW "isinstance")))))=Ω) (hdb:(!(n1 == ("__debug__":Str)) && (!(n2 == ("__debug__":Str)) && (!(n3 == ("__debug__":Str)) && !(nV == ("__debug__":Str)))))=Ω)
    (m1:X.mg n1=Ψ (.ref C1)) (m2:X.mg n2=Ψ (.ref C2)) (m3:X.mg n3=Ψ (.ref C3)) (mV:X.mg nV=Φ) (hT:bootBuiltins nV=Ψ (.type "ValueError")) (hn2:(nV == ("__name__":Str))=Ξ) (hl:(oG p27 p29 && oG p46 p48)=Ω)
    (k1:fX X.K (.ref Cn) (.ref C1)=Ψ t1) (k2:fX X.K (.ref Cn) (.ref C2)=Ψ t2) (k3:fX X.K (.ref Cn) (.ref C3)=Ψ t3) (kV:fX X.K (.ref Cn) (.type "ValueError")=Ψ Ω) :
    sO (Cx.at X X.A X.calm ((ea,oe) :: X.pn) X.xe) C Ξ
      [.If (.Compare (.Name cx p5) [.Is] [.Constant .none j1 p6] p7) [.Return (Ψ (.Name nF p8)) p9] [] p10,
       .Assign [.Name nT p11] (.List [qO cx n1 p12 p13 p14 p15, qO cx n2 p16 p17 p18 p19, qO cx n3 p20 p21 p22 p23] p24) p25,
       .If (.BoolOp .Or [.Compare (.Call (.Attribute (.Name nT p26) (hW "count") p27) [.Constant (.bool Ω) j2 p28] [] p29) [.NotEq] [.Constant (.int 1) j3 p30] p31, .UnaryOp .Not (qO cx nV p32 p33 p34 p35) p36] p37) [.Return (Ψ (.Constant (.str (hW "other")) j4 p38)) p39] [] p40,
       .Return (Ψ (.Subscript (.List [.Constant (.str (hW w1)) j5 p41, .Constant (.str (hW w2)) j6 p42, .Constant (.str (hW w3)) j7 p43] p44) (.Call (.Attribute (.Name nT p45) (hW "index") p46) [.Constant (.bool Ω) j8 p47] [] p48) p49)) p50]
      (Kr i j q d t1 t2 t3 w1 w2 w3):=by
  let nm:=b2 nm;let nm2:=b2 nm.2;let nm3:=b2 nm2.2
  let hm:=b2 hm;let hm2:=b2 hm.2
  let g1:=b2 hg;let g2:=b2 g1.2;let g3:=b2 g2.2;let g4:=b2 g3.2
  let d1:=b2 hdb;let d2:=b2 d1.2;let d3:=b2 d2.2
  let hl:=b2 hl
  let G':Good (Cx.at X X.A X.calm ((ea,oe) :: X.pn) X.xe) C n sp:=G.at
  let is:∀ {nb':Str} {Cb:jP} {b:Bool} {q1 q2 q3 q4:Pos},C.gl nb'=Ω->(nb' == ("__debug__":Str))=Ξ->X.mg nb'=Ψ (.ref Cb)->fX X.K (.ref Cn) (.ref Cb)=Ψ b->FE (Cx.at X X.A X.calm ((ea,oe) :: X.pn) X.xe) C (qO cx nb' q1 q2 q3 q4) (vd j d b):=λh1 h2 h3 h4 =>
    Ig G xc hoe hd nm2.1 (de hm2.1) (by rw[h1,g4.2];rfl) h2 h3 h4
  let isV:∀ {q1 q2 q3 q4:Pos},FE (Cx.at X X.A X.calm ((ea,oe) :: X.pn) X.xe) C (qO cx nV q1 q2 q3 q4) (vd j d Ω):=E3 G xc hoe hd nm2.1 (de hm2.1) (by rw[g4.1,g4.2];rfl) (nb d3.2) mV hT hn2 kV
  exact kc (CA (CT (rY (u5 G' nm2.1 (de hm2.1)))) (lG (u3 (u5 G' nm.1 (de hm.1)))) xM) ?_
  exact kc (HW G' nm3.2 (de hm2.2) rfl (CP (oS rfl (is g1.1 (nb d1.1) m1 k1) (oS rfl (is g2.1 (nb d2.1) m2 k2) (oS rfl (is g3.1 (nb d3.1) m3 k3) CU))))) ?_
  exact kc (CA (Pt (Ll (LB G' (Ah G' nm3.1 hl.1 rfl (rY Gq)) (rY Ih)) (HV (IQ (IP rfl (rY isV)))))) (lG (u3 u6)) xM) ?_
  exact lG (u3 (Lx rfl (CP (oS rfl u6 (oS rfl u6 (oS rfl u6 CU)))) (rY (Ag G' nm3.1 hl.2 rfl (rY Gq)))))
end
section
variable {X:Cx}{C:CC}{n:Nat}{sp:ib->Nat->Sp}{i j k q off:Nat}{call:CW}{ms:List (jP×Str)}{body:List jL}{sN sX:SW}{ws:List (jP×String)}{w1 w2 w3:String}{nF cx en nT kx n1 n2 n3 nV:Str}
 {j1 j2 j3 j4 j5 j6 j7 j8:Nat}{tpos kp px p3 p4 hpos p5 p6 p7 p8 p9 p10 p11 p12 p13 p14 p15 p16 p17 p18 p19 p20 p21 p22 p23 p24 p25 p26 p27 p28 p29 p30 p31 p32 p33 p34 p35 p36 p37 p38 p39 p40 p41 p42 p43 p44 p45 p46 p47 p48 p49 p50:Pos}
def mz {xs:List jL}{fr:Bool}:sO X C fr xs rC:=λZ9 s σ H D I q1=>by let(c,L,S,Q0,_,h,_):=q1;exact h.elim
def HX (at_ : AtDef X) (F : CapF X.K X.mg kx n1 n2 n3 nV ws w1 w2 w3) (Z : XM X n call off ms) (G : Good X C n sp)
    (nm:(C.nm i nF && (C.nm j cx && (C.nm q nT && (C.tn q nT && C.nm k en))))=Ω) (hm:(Δ (jX C.md i=.imm) && (Δ (jX C.md j=.imm) && (Δ (jX C.md q=.imm) && (Δ (jX C.md k=.imm) && (!Δ (j=k) && !Δ (j=q))))))=Ω)
    (hll:(Δ (C.sc.lookup cx=Ψ .local) && Δ (C.sc.lookup en=Ψ .local))=Ω)
    (hg:(C.gl kx && (C.gl n1 && (C.gl n2 && (C.gl n3 && (C.gl nV && C.gl (hW "isinstance"))))))=Ω) (hdb:(!(kx == ("__debug__":Str)) && (!(n1 == ("__debug__":Str)) && (!(n2 == ("__debug__":Str)) && (!(n3 == ("__debug__":Str)) && !(nV == ("__debug__":Str))))))=Ω)
    (hT:bootBuiltins nV=Ψ (.type "ValueError")) (hn2:(nV == ("__name__":Str))=Ξ) (hl:(oG p27 p29 && oG p46 p48)=Ω)
    (hN:sO X C Ξ body sN) (hX:∀ X':Cx,XM X' n call off ms->Good X' C n sp->FX X' C Ξ body sX) :
    sO X C Ξ (.Try body [.ExceptHandler (Ψ (.Name kx kp)) (Ψ en) [.Assign [.Name cx px] (.Name en p3) p4] hpos] [] [] tpos ::
      [.If (.Compare (.Name cx p5) [.Is] [.Constant .none j1 p6] p7) [.Return (Ψ (.Name nF p8)) p9] [] p10,
       .Assign [.Name nT p11] (.List [qO cx n1 p12 p13 p14 p15, qO cx n2 p16 p17 p18 p19, qO cx n3 p20 p21 p22 p23] p24) p25,
       .If (.BoolOp .Or [.Compare (.Call (.Attribute (.Name nT p26) (hW "count") p27) [.Constant (.bool Ω) j2 p28] [] p29) [.NotEq] [.Constant (.int 1) j3 p30] p31, .UnaryOp .Not (qO cx nV p32 p33 p34 p35) p36] p37) [.Return (Ψ (.Constant (.str (hW "other")) j4 p38)) p39] [] p40,
       .Return (Ψ (.Subscript (.List [.Constant (.str (hW w1)) j5 p41, .Constant (.str (hW w2)) j6 p42, .Constant (.str (hW w3)) j7 p43] p44) (.Call (.Attribute (.Name nT p45) (hW "index") p46) [.Constant (.bool Ω) j8 p47] [] p48) p49)) p50])
      (GW i j k q ws sN sX):=by
  let nm1:=b2 nm;let nm2:=b2 nm1.2;let nm3:=b2 nm2.2;let nm4:=b2 nm3.2
  let hm1:=b2 hm;let hm2:=b2 hm1.2;let hm3:=b2 hm2.2;let hm4:=b2 hm3.2;let hm5:=b2 hm4.2
  let hll:=b2 hll
  let hg:=b2 hg
  let hd:=b2 hdb
  let hj1:=b2 nm2.1;let hj2:=b2 hj1.1;let hj3:=b2 hj2.1
  let hk1:=b2 nm4.2;let hk2:=b2 hk1.1;let hk3:=b2 hk2.1
  let hq1:=b2 nm3.1;let hq2:=b2 hq1.1;let hq3:=b2 hq2.1
  let jk:j≠k:=by have:=nb hm5.1;simpa using this
  let jq:j≠q:=by have:=nb hm5.2;simpa using this
  let eN:X.N=C.N:=G.N
  let eS:X.env.scope.names=C.sc:=G.sc
  let(Ck,f1,f2):=F.k
  let(C1,C2,C3,m1,m2,m3,f3):=F.c
  rintro Z9 s σ H D I ⟨c,L,S,Q0,I0,h,kk⟩
  rcases h with h|h
  · exact (kc (ER hN) (kc (CA (CT (rY (u5 G nm2.1 (de hm2.1)))) (lG (u3 (u5 G nm1.1 (de hm1.1)))) xM) mz):sO X C Ξ _ _) Z9 s σ H D I ⟨c,L,S,Q0,I0,h,kk⟩
  · exact dX (wpAny_Try_except ?_)
    let run:∀ Xe,FX (X.wish Xe) C Ξ body sX:=λXe=>hX (X.wish Xe) ⟨Z.ok⟩ G.wish
    let key:∀ Xe:jF->jw->Prop,XP (X.wish Xe) Z9 (λcl σ' H'=>∃ w L1 S1,(cl,w)∈ws/\Iv X.K c C.md L1 σ' S1 H'/\Same S S1/\∀ d bs,Q0 (.ret (.str w)) ((((L1.set k Φ).set j (Ψ (.adr d))).set k Φ).set q (Ψ bs)))->wpAny (model X.prog X.w) X.A (execs body X.env) (λ_ _=>False) Xe s:=λXe hP =>
      run Xe Z9 s σ H _ hP (λz=>nomatch z) (I.unwish.wish Xe) ⟨c,L,S,_,I0,h,λfl L1 q1 σ1 S1 H1 I1 s1=>by
        obtain ⟨cl, w, rfl, hw, qq⟩ := q1
        exact ⟨cl, rfl, w, L1, S1, hw, I1, s1, qq⟩⟩
    exact iP (key _ ?_) (λ_ _ z=>z.elim) (λe s' z=>z)
    · exact⟨λσ1 H1 s1 ea Cn H' s' I1 Fl q1=>?_⟩
      let(w,L1,S1,hw,Iv1,sm,qq):=q1
      let(t1,t2,t3,k1,k2,k3,hcap):=f3 _ hw
      exact La (X:=X.nox) (j:=j) (k:=k) ⟨at_.stk,at_.fr⟩ (I1.unwish.wish _) Fl (G.gl hg.1) f1 (nb hd.1) (f2 _ hw) (by show X.N.Nodup;rw[eN];exact G.nd) (by show X.N[j]?=_;rw[eN];exact de hj3.1) (by show X.env.scope.names.lookup cx=_;rw[eS];exact de hll.1) (by show X.N[k]?=_;rw[eN];exact de hk3.1) (by show X.env.scope.names.lookup en=_;rw[eS];exact de hll.2) (nb hk2.2) (nb hk1.2) λs9 oe hoe nz I9=>?_
      obtain⟨d,hd9⟩:∃ d,ea=d+1:=⟨ea-1,(Nat.succ_pred_eq_of_pos (Nat.pos_of_ne_zero nz)).symm⟩
      let hg':(C.gl n1 && (C.gl n2 && (C.gl n3 && (C.gl nV && C.gl (hW "isinstance")))))=Ω:=hg.2
      let suf:=EQ (X:=X.nox) (i:=i) (j:=j) (q:=q) (w1:=w1) (w2:=w2) (w3:=w3) (p5:=p5) (p6:=p6) (p7:=p7) (p8:=p8) (p9:=p9) (p10:=p10) (p11:=p11) (p12:=p12) (p13:=p13) (p14:=p14) (p15:=p15) (p16:=p16) (p17:=p17) (p18:=p18) (p19:=p19) (p20:=p20) (p21:=p21) (p22:=p22) (p23:=p23) (p24:=p24) (p25:=p25) (p26:=p26) (p28:=p28) (p30:=p30) (p31:=p31) (p32:=p32) (p33:=p33) (p34:=p34) (p35:=p35) (p36:=p36) (p37:=p37) (p38:=p38) (p39:=p39) (p40:=p40) (p41:=p41) (p42:=p42) (p43:=p43) (p44:=p44) (p45:=p45) (p47:=p47) (p49:=p49) (p50:=p50) (j1:=j1) (j2:=j2) (j3:=j3) (j4:=j4) (j5:=j5) (j6:=j6) (j7:=j7) (j8:=j8)
        (G.wish) (F.x _ hw) hoe hd9 (nF := nF) (cx := cx) (nT := nT) (by rw [nm1.1, nm2.1, nm3.1, nm4.1]; rfl) (by rw [hm1.1, hm2.1, hm3.1]; rfl) hg' hd.2 m1 m2 m3 F.b hT hn2 hl k1 k2 k3 (F.v _ hw)
      let J1:=Iv1.blankO (de hm4.1) (Ψ (.ref ea))
      let ni:∀ a,c.P0=Ψ a->j≠0:=λa e z=>by
        have := (J1.lent a e).1
        rw [<- z, de hm2.1] at this; exact this rfl
      let J2:=J1.set (i:=j) (v:=.adr d) (x:=.ref ea) ni (by rw[de hm2.1];exact λz=>nomatch z) (.inl ⟨de hm2.1,by rw[hd9];rfl⟩)
      let J3:=J2.blankO (de hm4.1) Φ
      let lj:j<L1.length:=by
        have e1 : σ1.length = X.N.length := I1.len
        rw [Iv1.len, e1, eN]; exact (aI.mp (de hj3.1)).1
      let lq:q<L1.length:=by
        have e1 : σ1.length = X.N.length := I1.len
        rw [Iv1.len, e1, eN]; exact (aI.mp (de hq3.1)).1
      exact iP (suf Z9 s9 _ H' D I9 ⟨c,_,S1,Q0,J3,GM (by rw[BR jk,Gj (by rw[fB];exact lj)]) (by rw[fB,fB,fB];exact lq) jq hcap (qq d _),λfl L' q2 σ' S' H2 I' s2=>kk fl L' q2 σ' S' H2 I' (sm.trans s2)⟩) (λf s2 hs=>?_) λ_ _ z=>z
      let back:∀ {σ':L2.St} {H2:Hp},Inv (Cx.at X.nox X.nox.A X.nox.calm ((ea,oe) :: X.nox.pn) X.nox.xe).nox Z9 σ' H2 s2->Inv X.nox Z9 σ' H2 s2:=λI8=>uV (X:=(Cx.at X.nox X.nox.A X.nox.calm ((ea,oe) :: X.nox.pn) X.nox.xe).nox) (A:=X.A) (cm:=X.calm) (pn:=X.pn) (E:=λ_ _=>False) I8 rfl I8.ok.hd λq hq=>I8.pin q (bU _ (bT _ hq))
      cases f with
      | next=>let(σ',H2,I8,z):=hs;exact⟨σ',H2,back I8,z⟩
      | brk=>let(σ',H2,I8,z):=hs;exact⟨σ',H2,back I8,z⟩
      | cont=>let(σ',H2,I8,z):=hs;exact⟨σ',H2,back I8,z⟩
      | ret u=>let(v,σ',H2,I8,r,z):=hs;exact⟨v,σ',H2,back I8,r,z⟩
end
end Kq
namespace Kq
open PySem PySem.Spec PyProof.Rows L2
section
variable {P:jn}{w:jE}{K:ib}{mg:Str->Option jF}{base:jM}{tb:List FD}{fns:Fns}
def r6 {PX:Cx->Prop}{off:Nat}{xs:List (jP×Str)}{d f:Nat}{fa:jP}{fdd:jm}{df:Df}{fd:FD}{nm qu:Str}(hP:∀ N qu sc f cd A outer s H E,PX (nX w9 P w K mg base N qu sc f cd A outer s H E))(F:Fun K nm qu df.st fa fdd)(hf:tb[f]?=Ψ fd)(hok:df.ok fd.np fd.ns fd.io=Ω)
  (hb:∀ X call n,PX X->XM X n call off xs->Good X (df.cc fns) n (tw tb call)->sO X (df.cc fns) fd.fr (ku df.st) (fd.body call))
  (xok:∀ (j:Nat)(Ca:jP)(m:Str),xs[j]?=Ψ (Ca,m)->∃ fa fd ps,Cls K Ca/\Meth K Ca m fa/\Binds K fd ps []/\FnOk P w K mg base (Aw P w) (d+1) fa fd ps (zC K (callW tb d) (off+j)))
  (fnsOk:∀ (f:Nat)(x:Str),fns.f[f]?=Ψ x->∃ fa fd ps,mg x=Ψ (.ref fa)/\fY K (.ref fa)=Ω/\Binds K fd ps []/\FnOk P w K mg base w9 (d+1) fa fd ps (spT K tb (callW tb d) f))
  (blt:∀ b∈bltNames,mg (hW b)=Φ)(mtsOk:∀ (k:Nat)(c:Str)(Ca:jP)(m:Str),fns.ms[k]?=Ψ (c,Ca,m)->MtOk P w K mg base (d+1) (spT K tb (callW tb d) (fns.f.length+k)) c Ca m)(fl:∀ p∈fns.fl,Cls K p.1/\NoAttr K p.1 p.2):FnOk P w K mg base w9 (d+2) fa fdd df.ps (spT K tb (callW tb (d+1)) f):=by
 let(S,hnp,hns,hmd):=Df.sc hok
 let e0:spT K tb (callW tb (d+1)) f=tq K (callW tb (d+1)) fd.io fd.fr f:=by unfold spT;rw[hf]
 let run:∀ {args:List FV}{Q:FV×FV->Prop},callW tb (d+1) f args Q->args.length=fd.np/\fd.body (callW tb d) (args.map Ψ++gf (fd.ns-fd.np) Φ) (qw fd.io fd.fr Q):=λ{args Q} h=>by
  let h:(match tb[f]? with
   | none=>False
   | some fd=>args.length=fd.np/\fd.body (callW tb d) (args.map Ψ++gf (fd.ns-fd.np) Φ) (qw fd.io fd.fr Q)):=h
  rw[hf] at h;exact h
 rw[e0]
 exact F.ok S (λvs H Q E h=>?_) (λcdv A outer s H vs Q E hr h=>?_)
 ·let(S0,args,Q0,_,ao,hc,_):=h
  rw[<- ao.len,(run hc).1,hnp]
 ·let(S0,args,Q0,hs,ao,hc,k):=h
  let(hl,hc):=run hc
  let G:Good (nX w9 P w K mg base df.N qu (kr df.st) fa cdv A outer s H E) (df.cc fns) (d+1) (tw tb (callW tb d)) :=
   ⟨rfl,rfl,S.kind,S.nd,rfl,λ_ _=>rfl,hr,fnsOk,blt,mtsOk,fl⟩
  exact⟨_,hb _ _ _ (hP ..) ⟨xok⟩ G,_,_,S0,_,wo ao hs hl hns hmd,hc,λfl L' q σ' S' H' I s'=>?_⟩
  let kp:∀ w,(fd.io=Ω->lk L' 0=Ψ w)->Kept K S0 H S' H' (ql vs fd.io) w:=λw hw=>⟨s',I.sub,I.grow,λa o e n=>I.frame a o e n (λ_=>eF),λa e=>by
   let hio:fd.io=Ω:=by
    cases z:fd.io with
    | true=>rfl
    | false=>rw[z] at e;cases e
   let(m0,e1,v,e2):=I.lent a e
   let(b,e3,o,_):=I.own 0 v m0 e2
   rw[e1] at e3;cases e3
   have:=(kP _ _ _).mp (hw hio)
   rw[e2] at this;cases this
   exact o⟩
  let fin:∀ v x,qw fd.io fd.fr Q0 (.ret v) L'->zj K S' H' H v x fd.fr->Q x H':=λv x q r=>by
   cases hio:fd.io with
   | true =>
    rw[hio] at q
    let(w,e1,q):=kq q
    exact k _ q x S' H' (kp w λ_=>e1) r
   | false =>
    rw[hio] at q
    exact k (v,.non) q x S' H' (kp .non λz=>by rw[hio] at z;cases z) r
  cases fl with
  | next =>
   cases hfr:fd.fr with
   | true=>rw[hfr] at q;exact q.elim
   | false=>rw[hfr] at q;exact fin .non .non (by rw[hfr];exact q) (by rw[hfr];exact rfl)
  | ret v =>
   intro x r
   exact fin v x q ?_
   cases hfr:fd.fr with
   | true=>rw[hfr] at r;exact r
   | false=>rw[hfr] at r;exact r
  | brk=>exact q.elim
  | cont=>exact q.elim
def CG {PX:Cx->Prop}{off:Nat}{xs:List (jP×Str)}{d f:Nat}{fa:jP}{fdd:jm}{df:Df}{fd:FD}{nm qu:Str}(hP:∀ N qu sc f cd A outer s H E,PX (nX (Aw P w) P w K mg base N qu sc f cd A outer s H E))(F:Fun K nm qu df.st fa fdd)(hf:tb[f]?=Ψ fd)(hok:df.ok fd.np fd.ns fd.io=Ω)(hio:fd.io=Ω)(hfr:fd.fr=Ξ)
  (hb:∀ X call n,PX X->XM X n call off xs->Good X (df.cc fns) n (tw tb call)->FX X (df.cc fns) Ω (ku df.st) (fd.body call))
  (xok:∀ (j:Nat)(Ca:jP)(m:Str),xs[j]?=Ψ (Ca,m)->∃ fa fd ps,Cls K Ca/\Meth K Ca m fa/\Binds K fd ps []/\FnOk P w K mg base (Aw P w) (d+1) fa fd ps (zC K (callW tb d) (off+j)))
  (fnsOk:∀ (f:Nat)(x:Str),fns.f[f]?=Ψ x->∃ fa fd ps,mg x=Ψ (.ref fa)/\fY K (.ref fa)=Ω/\Binds K fd ps []/\FnOk P w K mg base w9 (d+1) fa fd ps (spT K tb (callW tb d) f))
  (blt:∀ b∈bltNames,mg (hW b)=Φ)(mtsOk:∀ (k:Nat)(c:Str)(Ca:jP)(m:Str),fns.ms[k]?=Ψ (c,Ca,m)->MtOk P w K mg base (d+1) (spT K tb (callW tb d) (fns.f.length+k)) c Ca m)(fl:∀ p∈fns.fl,Cls K p.1/\NoAttr K p.1 p.2):FnOk P w K mg base (Aw P w) (d+2) fa fdd df.ps (zC K (callW tb (d+1)) f):=by
 let(S,hnp,hns,hmd):=Df.sc hok
 let run:∀ {args:List FV}{Q:FV×FV->Prop},callW tb (d+1) f args Q->args.length=fd.np/\fd.body (callW tb d) (args.map Ψ++gf (fd.ns-fd.np) Φ) (qw fd.io fd.fr Q):=λ{args Q} h=>by
  let h:(match tb[f]? with
   | none=>False
   | some fd=>args.length=fd.np/\fd.body (callW tb d) (args.map Ψ++gf (fd.ns-fd.np) Φ) (qw fd.io fd.fr Q)):=h
  rw[hf] at h;exact h
 let(oc,od,kV,doc,pm,an,cdv,ct,osl,rfl,lk',hcd):=F.ex
 exact Gp lk' hcd S (λvs H Q E h=>?_) λA outer s H vs Q E hr h=>?_
 ·let(S0,args,Q0,_,ao,hc,_):=h
  rw[<- ao.len,(run hc).1,hnp]
 ·let(S0,args,Q0,hs,ao,hc,k):=h
  let(hl,hc):=run hc
  let G:Good (nX (Aw P w) P w K mg base df.N qu (kr df.st) fa cdv A outer s H E) (df.cc fns) (d+1) (tw tb (callW tb d)) :=
   ⟨rfl,rfl,S.kind,S.nd,rfl,λ_ _=>rfl,hr,fnsOk,blt,mtsOk,fl⟩
  exact⟨λ_ σ H'=>lx K df.md (fd.body (callW tb d)) (λcl _ H'=>E (.ref cl) Φ H') σ H',λZ9 s1 σ1 H1 D I q=>iP (hb _ _ _ (hP ..) ⟨xok⟩ G Z9 s1 σ1 H1 _ ⟨λσ H s ea Cn H' s' I Fl e=>Es I Fl e⟩ (λ_=>⟨λσ H s h' e Cn args I hx q=>Et I hx q⟩) I q) (λ_ _ z=>z.elim) λ_ _ z=>z,?_⟩
  exact⟨_,_,S0,_,wo (by rw[hio];exact ao) hs hl hns hmd,hc,λfl L' q σ' S' H' I s'=>?_⟩
  let kp:∀ w,lk L' 0=Ψ w->Kept K S0 H S' H' (ql vs Ω) w:=λw hw=>⟨s',I.sub,I.grow,λa o e n=>I.frame a o e (by rw[hio];exact n) (λ_=>eF),λa e=>by
   let(m0,e1,v,e2):=I.lent a (by rw[hio];exact e)
   let(b,e3,o,_):=I.own 0 v m0 e2
   rw[e1] at e3;cases e3
   have:=(kP _ _ _).mp hw
   rw[e2] at this;cases this
   exact o⟩
  rw[hio,hfr] at q
  cases fl with
  | next =>
   let(w,e1,q):=kq q
   let(cl,e,_):=k _ q S' H' (kp w e1)
   cases e
  | ret v =>
   let(w,e1,q):=kq q
   exact k _ q S' H' (kp w e1)
  | brk=>exact q.elim
  | cont=>exact q.elim
def wY {PX:Cx->Prop}{off:Nat}{xs:List (jP×Str)}(hP:∀ CX N qu sc f cd A outer s H E,PX (nX CX P w K mg base N qu sc f cd A outer s H E))(blt:∀ b∈bltNames,mg (hW b)=Φ)(fl:∀ p∈fns.fl,Cls K p.1/\NoAttr K p.1 p.2)
  (D:∀ (f:Nat)(x:Str),fns.f[f]?=Ψ x->∃ df fd fa fdd,tb[f]?=Ψ fd/\Df.ok df fd.np fd.ns fd.io=Ω/\(∀ X call n,PX X->XM X n call off xs->Good X (df.cc fns) n (tw tb call)->sO X (df.cc fns) fd.fr (ku df.st) (fd.body call))/\Fun K (hW df.name) (hW df.name) df.st fa fdd/\mg x=Ψ (.ref fa)/\Binds K fdd df.ps [])
  (DM:∀ (k:Nat)(c:Str)(Ca:jP)(m:Str),fns.ms[k]?=Ψ (c,Ca,m)->∃ df fd fa fdd nm qu,tb[fns.f.length+k]?=Ψ fd/\Df.ok df fd.np fd.ns fd.io=Ω/\(∀ X call n,PX X->XM X n call off xs->Good X (df.cc fns) n (tw tb call)->sO X (df.cc fns) fd.fr (ku df.st) (fd.body call))/\Fun K nm qu df.st fa fdd/\mg c=Ψ (.ref Ca)/\Cls K Ca/\(m=("__init__":Str)->Mk K Ca fa)/\(m≠("__init__":Str)->Meth K Ca m fa)/\Binds K fdd df.ps [])
  (DX:∀ (j:Nat)(Ca:jP)(m:Str),xs[j]?=Ψ (Ca,m)->∃ df fd fa fdd nm qu,tb[off+j]?=Ψ fd/\Df.ok df fd.np fd.ns fd.io=Ω/\fd.io=Ω/\fd.fr=Ξ/\(∀ X call n,PX X->XM X n call off xs->Good X (df.cc fns) n (tw tb call)->FX X (df.cc fns) Ω (ku df.st) (fd.body call))/\Fun K nm qu df.st fa fdd/\Cls K Ca/\Meth K Ca m fa/\Binds K fdd df.ps []) :
  ∀ d:Nat,(∀ (f:Nat)(x:Str),fns.f[f]?=Ψ x->∃ fa fd ps,mg x=Ψ (.ref fa)/\fY K (.ref fa)=Ω/\Binds K fd ps []/\FnOk P w K mg base w9 (d+1) fa fd ps (spT K tb (callW tb d) f))/\(∀ (k:Nat)(c:Str)(Ca:jP)(m:Str),fns.ms[k]?=Ψ (c,Ca,m)->MtOk P w K mg base (d+1) (spT K tb (callW tb d) (fns.f.length+k)) c Ca m) /\
   ∀ (j:Nat)(Ca:jP)(m:Str),xs[j]?=Ψ (Ca,m)->∃ fa fd ps,Cls K Ca/\Meth K Ca m fa/\Binds K fd ps []/\FnOk P w K mg base (Aw P w) (d+1) fa fd ps (zC K (callW tb d) (off+j))
 | 0=>by
  let no:∀ {f fd} vs H Q E,tb[f]?=Ψ fd->¬ spT K tb (callW tb 0) f vs H Q E:=λvs H Q E h1 z=>by
   unfold spT at z
   rw[h1] at z
   let(_,_,_,_,_,k,_):=z
   exact k
  exact⟨λf x h=>?_,λk c Ca m h=>?_,λj Ca m h=>?_⟩
  ·let(df,fd,fa,fdd,h1,h2,h6,h3,h4,h5):=D f x h
   exact⟨fa,fdd,df.ps,h4,h3.kp,h5,λvs H Q E z=>absurd z (no vs H Q E h1),λA outer s H args us vs Q E _ _ _ _ z=>absurd z (no vs H Q E h1)⟩
  ·let(df,fd,fa,fdd,nm,qu,h1,h2,h6,h3,h4,h5,h7,h8,h9):=DM k c Ca m h
   exact⟨fa,fdd,df.ps,h4,h5,h7,h8,h9,λvs H Q E z=>absurd z (no vs H Q E h1),λA outer s H args us vs Q E _ _ _ _ z=>absurd z (no vs H Q E h1)⟩
  ·let(df,fd,fa,fdd,nm,qu,h1,h2,h3,h4,h5,h6,h7,h8,h9):=DX j Ca m h
   exact⟨fa,fdd,df.ps,h7,h8,h9,λvs H Q E z=>?_,λA outer s H args us vs Q E _ _ _ _ z=>?_⟩
   ·let(_,_,_,_,_,k,_):=z;exact i9 k
   ·let(_,_,_,_,_,k,_):=z;exact i9 k
 | d+1=>by
  let(r1,r2,r3):=wY hP blt fl D DM DX d
  exact⟨λf x h=>?_,λk c Ca m h=>?_,λj Ca m h=>?_⟩
  ·let(df,fd,fa,fdd,h1,h2,h6,h3,h4,h5):=D f x h
   exact⟨fa,fdd,df.ps,h4,h3.kp,h5,r6 (hP w9) h3 h1 h2 h6 r3 r1 blt r2 fl⟩
  ·let(df,fd,fa,fdd,nm,qu,h1,h2,h6,h3,h4,h5,h7,h8,h9):=DM k c Ca m h
   exact⟨fa,fdd,df.ps,h4,h5,h7,h8,h9,r6 (hP w9) h3 h1 h2 h6 r3 r1 blt r2 fl⟩
  ·let(df,fd,fa,fdd,nm,qu,h1,h2,h3,h4,h5,h6,h7,h8,h9):=DX j Ca m h
   exact⟨fa,fdd,df.ps,h7,h8,h9,CG (hP (Aw P w)) h6 h1 h2 h3 h4 h5 r3 r1 blt r2 fl⟩
end
def uz {PX:Cx->Prop}{off:Nat}{xs:List (jP×Str)}{C:CC}{tb:List FD}{fr:Bool}{b:List jL}{s:CW->SW}(h:∀ X call n,Good X C n (tw tb call)->sO X C fr b (s call)):∀ X call n,PX X->XM X n call off xs->Good X C n (tw tb call)->sO X C fr b (s call):=λX c n _ _ G=>h X c n G
section
variable {X:Cx}{Z9:List (jP×Obj)}{σ:L2.St}{H:Hp}{s:jw}{a C dx l:jP}{fs:List (Str×V)}{gs gs':List (jP×GO)}
def wx (I:Inv X Z9 σ H s)(h:H a=Ψ (.bag C dx fs gs))(e1:gs'.map (·.1)=gs.map (·.1))(ok:∀ g∈gs',GoOk X.prog X.w s.heap g.1 g.2):Inv X Z9 σ (kh H a (.bag C dx fs gs')) s:=by
 let(g1,g2,nd,z,e,mm,ls):=(show ObjOk X.prog X.w H s.heap a (.bag C dx fs gs) from I.hok a _ h)
 let ne:∀ {b:jP}{u:HO},H b=Ψ u->u≠.bag C dx fs gs->b≠a:=λe8 n z=>by subst z;rw[h] at e8;exact n (fo e8).symm
 let ow:∀ b c,H b=Ψ (.own c)->kh H a (.bag C dx fs gs') b=Ψ (.own c):=λb c e=>by rw[jT (ne e (λz=>nomatch z))];exact e
 let tu:∀ b xs,H b=Ψ (.tup xs)->kh H a (.bag C dx fs gs') b=Ψ (.tup xs):=λb xs e=>by rw[jT (ne e (λz=>nomatch z))];exact e
 exact I.un (t':=s.toks) (h':=s.heap) ⟨λb o' e _ _ _=>e,λb o' e _ _ _=>⟨o'.slots,e⟩,λb o' e n _=>?_,λb o' e _=>⟨o',e⟩,tu,λb o' u e=>?_,λb ps e=>?_⟩ λb u e9=>?_
 ·rw[jT (λz=>by subst z;rw[h] at n;cases n)];exact n
 ·rw[jT (ne e (λz=>nomatch z))];exact e
 ·exact⟨#[],by rw[jT (ne e (λz=>nomatch z)),Array.append_empty];exact e⟩
 ·by_cases y:b=a
  ·subst y
   rw[jV] at e9;cases e9
   exact⟨⟨ow _ _ g1.1,g1.2⟩,λg hg=>?_,by rw[e1];exact nd,z,e,mm,ok⟩
   have:g.1∈gs.map (·.1):=by rw[<- e1];exact ir.mpr ⟨g,hg,rfl⟩
   let(g',hg',e2):=ir.mp this
   rw[<- e2]
   exact ow _ _ (g2 g' hg')
  ·rw[jT y] at e9
   exact (I.hok b u e9).stay (λ_ _ _ q=>q) (λc e=>ow c b e) tu
def oh (I:Inv X Z9 σ H s)(h:H a=Ψ (.bag C dx fs gs)):∀ g∈gs,GoOk X.prog X.w s.heap g.1 g.2:=by
 let(_,_,_,_,_,_,ls):=(show ObjOk X.prog X.w H s.heap a (.bag C dx fs gs) from I.hok a _ h)
 exact ls
def tF (gs:List (jP×GO))(l:jP)(g:GO):(k7 gs l g).map (·.1)=gs.map (·.1):=by
 unfold k7
 rw[iw]
 exact cq λp _=>?_
 show (if p.1=l then (l,g) else p).1=p.1
 by_cases h:p.1=l
 ·rw[if_pos h];exact h.symm
 ·rw[if_neg h]
def vL {g:GO}{p:jP×GO}(h:p∈k7 gs l g):p=(l,g) ∨ p∈gs:=by
 unfold k7 at h
 let(q,hq,e):=ir.mp h
 by_cases z:q.1=l
 ·rw[if_pos z] at e;exact .inl e.symm
 ·rw[if_neg z] at e;exact .inr (e ▸ hq)
def EG {kvs:List (lF×V)}(I:Inv X Z9 σ H s)(h:H a=Ψ (.bag C dx fs gs))(hm:(l,GO.dk kvs)∈gs):∃ o,s.heap.get? l=Ψ o/\Inv X Z9 σ (kh H a (.bag C dx fs (k7 gs l (.fdk o kvs)))) s:=by
 let ok:=oh I h
 let(z,y,vs,r,d):=(show kvs.length<=sizeLine/\(l == sysModules)=Ξ/\∃ vs,KV kvs vs/\s.heap.DictOf (kH X.prog X.w) l vs from ok _ hm)
 let(o,es,ep,e,q):=id d
 exact⟨o,e,wx I h (tF ..) λg hg=>?_⟩
 rcases vL hg with rfl|hg
 ·exact⟨e,z,y,vs,r,d⟩
 ·exact ok g hg
def EF {kvs:List (lF×V)}{o:Obj}(I:Inv X Z9 σ H s)(h:H a=Ψ (.bag C dx fs gs))(hm:(l,GO.fdk o kvs)∈gs):Inv X Z9 σ (kh H a (.bag C dx fs (k7 gs l (.dk kvs)))) s:=by
 let ok:=oh I h
 exact wx I h (tF ..) λg hg=>?_
 rcases vL hg with rfl|hg
 ·let(_,q):=(show s.heap.get? l=Ψ o/\_ from ok _ hm)
  exact q
 ·exact ok g hg
abbrev Rg (a l:jP)(o:Obj)(ks:List lF):It :=
 ⟨λi H=>(∃ C dx fs gs kvs,H a=Ψ (.bag C dx fs gs)/\(l,GO.fdk o kvs)∈gs)/\i<ks.length,λi H v H'=>H'=H/\∃ k,ks[i]?=Ψ k/\v=kV k,λi H=>(∃ C dx fs gs kvs,H a=Ψ (.bag C dx fs gs)/\(l,GO.fdk o kvs)∈gs)/\ks.length<=i⟩
structure EntK (o:Obj)(ks:List lF)(es:Array jf) (ep:Nat):Prop where
 ex:o.ExactDict
 dat:o.data=.dict es ep
 sz:es.size=ks.length
 key:∀ (i:Nat)(hi:i<es.size) k,ks[i]?=Ψ k->RelV (kV k) es[i].key
def zP {P:jn}{w:jE}:∀ {es:List jf}{vs:List (lF×jF)},Pairs (kH P w) es vs->∀ (i:Nat) e k,es[i]?=Ψ e->(vs.map (·.1))[i]?=Ψ k->RelV (kV k) e.key:=by
 intro es vs h
 induction h with
 | nil=>intro i e k h;simp at h
 | @cons e0 kv es kvs h1 h2 h3 ih =>
  intro i e k e1 e2
  cases i with
  | zero =>
   simp at e1 e2;subst e1;subst e2
   rw[rJ] at h1
   rcases kJ h1 with⟨j,t,y1,y2⟩|⟨y,t,y1,y2⟩|⟨y1,y2⟩
   ·rw[y1,y2];exact⟨t,rfl⟩
   ·rw[y1,y2];exact⟨t,rfl⟩
   ·rw[y1,y2];exact rfl
  | succ i=>simp at e1 e2;exact ih i e k (by simpa using e1) (by simpa using e2)
def E9 {o:Obj}{kvs:List (lF×V)}{h:jM}{P:jn}{w:jE}(x:GoOk P w h l (.fdk o kvs)):h.get? l=Ψ o/\(l == sysModules)=Ξ/\∃ es ep,EntK o (kvs.map (·.1)) es ep:=by
 let(e0,z,y,vs,r,o',es,ep,e,c,dd,kk,pp,nd):=x
 rw[e0] at e;cases e
 let hl:=pp.length
 let hk:=yK r
 exact⟨e0,y,es,ep,c,dd,?_,λi hi k hk'=>?_⟩
 ·have:vs.length=kvs.length:=by have:=congrArg iL hk;simpa using this
  rw[fE,<- this,<- hl,cz]
 ·exact zP pp i es[i] k (by rw[bN];exact aP hi) (by rw[hk];exact hk')
def GE {P:jn}{w:jE}{K:ib}{tg:Expr}{o:Obj}{ks:List lF}{es:Array jf}{ep:Nat}(a l it:jP)(ek:EntK o ks es ep):Turn P w K tg (Rg a l o ks) [it] it (λi h=>h.IsKeyIter it l i es.size ep) where
 mem:=∅
 obj:=λi h st b hb=>by
  let e:b=it:=by simpa using hb
  subst e
  let(o,e,c,d):=st
  exact⟨o,e,λv z=>by rw[d] at z;cases z⟩
 keep:=λi h h' st k=>st.at λo e=>k it ∅ o e
 item:=by
  intro X hP hw hK hc i Z9 s σ H E I hf st hg
  subst hP hw hK
  let((C,dx,fs,gs,kvs,h,hm),hi):=hg
  let(e0,_):=(show s.heap.get? l=Ψ o/\_ from oh I h _ hm)
  let(f0,g1,g2,g3,g4,g5):=hf it ∅
  let hi':i<es.size:=by rw[ek.sz];exact hi
  exact BH st ⟨o,e0,ek.ex,ek.dat⟩ hi' λh' st' sb=>?_
  let I1:Inv X Z9 σ H { s with heap:=h' }:=I.turned (t':=s.toks) (λb o hb e=>(sb.2 b hb).trans e) f0 g1 g3 g4 g5
  let(o2,e,c,d):=id st'
  refine⟨_,rfl,wA (s:={ s with heap:=h' }) e c d (·) ⟨kV ks[i],H,I1,ek.key i hi' ks[i] (by simp[hi]),⟨rfl,ks[i],by simp[hi],rfl⟩,st',λb hb=>(hf b hb).1⟩⟩
 done:=by
  intro X hP hw hK hc i Z9 s σ H E I hf st hg
  subst hP hw hK
  let((C,dx,fs,gs,kvs,h,hm),hi):=hg
  let(e0,_):=(show s.heap.get? l=Ψ o/\_ from oh I h _ hm)
  let(f0,g1,g2,g3,g4,g5):=hf it ∅
  exact Fa (I.ok.hd hc) st ⟨o,e0,ek.ex,ek.dat⟩ (by rw[ek.sz];exact hi) λh' eb=>⟨rfl,I.turned (t':=s.toks) (λb o hb e=>eb b o hb e) f0 g1 g3 g4 g5⟩
 self:=λ_ _ _ _ _ st h=>wpAny_pyIter_keyiter st h
def Bp {tg it:Expr}{te:TE}(h:PE X it te):PI X tg it (λσ H R=>te σ H λv H1=>∃ l a C dx fs gs kvs,v=.ref l/\H1 a=Ψ (.bag C dx fs gs)/\(l,GO.dk kvs)∈gs/\(Bag H1 a C dx fs gs->∀ o,R (Rg a l o (kvs.map (·.1))) (kh H1 a (.bag C dx fs (k7 gs l (.fdk o kvs)))))):=by
 intro Z9 s σ H R I hh
 exact ko (h Z9 s σ H _ I hh) λv s1 q1=>?_;let(x,H1,I1,r1,l,a,C,dx,fs,gs,kvs,e,hb,hm,q):=q1
 subst e
 cases r1
 let(o,e0,I2):=EG I1 hb hm
 let hb2:kh H1 a (.bag C dx fs (k7 gs l (.fdk o kvs))) a=Ψ (.bag C dx fs (k7 gs l (.fdk o kvs))):=jV
 let hm2:(l,GO.fdk o kvs)∈k7 gs l (.fdk o kvs):=ir.mpr ⟨_,hm,if_pos rfl⟩
 let(_,y,es,ep,ek):=E9 (oh I2 hb2 _ hm2)
 exact Cd y ⟨o,e0,ek.ex,ek.dat⟩ ?_
 exact⟨s1.heap.objs.size,[s1.heap.objs.size],_,_,_,rfl,I2.kept (t':=s1.toks) λb o e=>bx _ e,GE a l _ ek,⟨_,cw _ rfl,rfl,rfl⟩,λb hb=>?_,q (lQ I1 hb) o⟩
 let e:b=s1.heap.objs.size:=by simpa using hb
 subst e
 exact I2.fpOk (iK _) (I2.hok.fresh (iK _))
end
abbrev Bk (Ca:jP)(f:Str):FV->Option (jP×FV)
 | .shf C _ ns vs=>if C=Ca then (pV f ns vs).bind λp=>p.1.map λl=>(l,p.2) else Φ
 | _=>Φ
abbrev ES (i:Nat)(Ca:jP)(f:Str)(l:jP)(ob:Obj)(ks:List (Option Int))(L:jR):Prop:=wp (lk L i) λv=>wp (Bk Ca f v) λd=>∃ vs,d=(l,.dco (Ψ ob) ks vs)
abbrev pk (P:jR->Prop) (n m:Nat)(tg:Tg)(t:BW)(e:EW):List FV->List FV->jR->(List FV->jR->Prop)->Prop
 | [],Z8,L,Q=>P L/\Q Z8 L
 | x :: xs,Z8,L,Q=>P L/\gW tg x (L++gf m Φ) λL1=>t L1 λb L2=>if b=Ω then e L2 λv L3=>pk P n m tg t e xs (Z8++[v]) (L3.take n) Q else pk P n m tg t e xs Z8 (L2.take n) Q
abbrev Ka (i:Nat)(Ca:jP)(f:Str)(Q:jR->Prop)(L:jR):Prop:=wp (lk L i) λv=>wp (Bk Ca f v) λd=>match d.2 with
 | .dco _ ks vs=>wp (qN Ca f (.dco Φ ks vs) v) λv1=>Q (L.set i (Ψ v1))
 | _=>False
abbrev xT (i:Nat)(Ca:jP)(f:Str) (n m:Nat)(tg:Tg)(t:BW)(e:EW):EW:=λL Q=>wp (lk L i) λv=>wp (Bk Ca f v) λd=>match d.2 with
 | .dco Φ ks vs=>L.length=n/\ks.length<=big/\∀ ob,wp (qN Ca f (.dco (Ψ ob) ks vs) v) λv1=>pk (ES i Ca f d.1 ob ks) n m tg t e (ks.map oF) [] (L.set i (Ψ v1)) λys L2=>Ka i Ca f (λL3=>Q (.lst ys) L3) L2
 | _=>False
section
variable {X:Cx}{C:CC}{n:Nat}{sp:ib->Nat->Sp}{K:ib}{c:Cn}{md:Md}{L:jR}{σ:L2.St}{S H:Hp}
def Am {α β:Type}{J:It}{xs:List FV}{n m:Nat}{tg:Tg}{t:BW}{QH:Hp->Prop}{fr:β->Cn}{P:α->β->Hp->Prop}{N:α->Nat}{Cm:List FV->α->jR->Prop}{em:α->jR->(α->jR->Prop)->Prop}{eh:L2.St->Hp->(Hp->Prop)->Prop}{a0:α}{b0:β}
  (I:Iv K (fr b0) md L σ S H)(hJ:∀ (i:Nat)(a:α)(L1:jR)(S1 H1:Hp),Iv K c md L1 σ S1 H1->Same S S1->Cm (xs.drop i) a L1->(xs[i]?=Φ->J.stop i H1)/\∀ p,xs[i]?=Ψ p->J.go i H1/\∀ v H',J.yld i H1 v H'->∃ S',Same S1 S'/\(∀ c md L σ,Iv K c md L σ S1 H1->Iv K c md L σ S' H')/\RV K S' p v)(hL:L.length=n)(hmd:md.length<=n)(ht:l8 md tg=Ω)(hg:mR n tg=Ω)(p0:P a0 b0 S)(n0:N a0=0)(h:Cm xs a0 L)
  (hU:∀ a b L σ S H,Iv K (fr b) md L σ S H->P a b S->Iv K c md L σ S H)(hP:∀ a b S S',P a b S->Same S S'->P a b S')
  (hC:∀ x xs a L,Cm (x :: xs) a L->gW tg x (L++gf m Φ) λL1=>t L1 λb L2=>if b=Ω then em a L2 (λa' L4=>Cm xs a' (L4.take n)) else Cm xs a (L2.take n))
  (hE:∀ a b L3 σ2 S3 H3 K' Z,N a<xs.length->Iv K (fr b) md L3 σ2 S3 H3->P a b S3->em a L3 K'->(∀ a' b' L4 S4 H4,K' a' L4->Iv K (fr b') md L4 σ2 S4 H4->P a' b' S4->Same S3 S4->N a'<=N a+1->Z H4)->eh σ2 H3 Z)
  (k:∀ a b L' S' H',Cm [] a L'->Iv K (fr b) md L' σ S' H'->P a b S'->Same S S'->QH H') :
  ∃ W:Nat->Nat->Hp->Prop,(∃ m,W 0 m H)/\∀ i j H,W i j H ->
   (J.stop i H/\QH H) ∨ (J.go i H/\∀ x H',J.yld i H x H'->gT K tg x (σ++gf m Φ) H' λσ2 H2=>Wk (σ++gf m Φ) σ2/\lb K md t σ2 H2 λb H3 =>
    if b=Ω then eh σ2 H3 λH4=>∃ m',m'<j/\W (i+1) m' H4 else ∃ m',m'<j/\W (i+1) m' H3):=by
 let hl:σ.length=n:=by rw[<- I.len];exact hL
 exact⟨λi j H1=>∃ L S1 a b,j=(xs.drop i).length/\Iv K (fr b) md L σ S1 H1/\P a b S1/\Same S S1/\L.length=n/\N a<=i/\Cm (xs.drop i) a L,⟨_,L,S,a0,b0,rfl,I,p0,Same.refl S,hL,ip n0,by rw[gj];exact h⟩,?_⟩
 rintro i j H1 ⟨L,S1,a,b,rfl,I,r,s,hL,hps,hc⟩
 let(j1,j2):=hJ i a L S1 H1 (hU _ _ _ _ _ _ I r) s hc
 cases hd:xs.drop i with
 | nil =>
  left
  rw[hd] at hc
  exact⟨j1 (aJ.mpr (bW.mp hd)),k a b L S1 H1 hc I r s⟩
 | cons p rest =>
  right
  rw[hd] at hc
  let hi:xs[i]?=Ψ p:=by
   have:=congrArg (·[0]?) hd
   simpa using this
  let hd':xs.drop (i+1)=rest:=by
   have:=congrArg jb hd
   simpa[ge] using this
  let hix:i<xs.length:=(aI.mp hi).1
  let(go,yl):=j2 p hi
  exact⟨go,λx H2 y=>?_⟩
  let(S2,s2,tr,rx):=yl x H2 y
  let I2:=(tr _ _ _ _ I).more m
  let(σ2,L2,gq,q2,I2,len2,far):=qr ht I2 rx (hC _ _ _ _ hc)
  let l2:n<=σ2.length:=by rw[len2,cR,hl];lia
  let far':∀ q,q<n->σ2[q]?=σ[q]?:=λq hq=>by rw[far n hg q hq,aK (by rw[hl];exact hq)]
  exact gq _ ⟨⟨len2,λq v hv=>?_⟩,?_⟩
  ·let hq:q<n:=by
    by_cases h:q<σ.length
    ·rw[<- hl];exact h
    ·rw[az ⋯,bh] at hv
     split at hv<;>cases hv
   rw[far n hg q hq];exact hv
  ·exact⟨_,L2,S2,_,I2,q2,λb1 L3 hb3 S3 H3 I3 s3=>?_⟩
   let ln:∀ {c':Cn}{L4:jR}{S4 H4:Hp},Iv K c' md L4 σ2 S4 H4->(L4.take n).length=n:=λI4=>by rw[eI,I4.len];lia
   show ite _ _ _
   cases b1 with
   | false =>
    rw[if_neg cU] at hb3 ⊢
    exact⟨rest.length,∅,L3.take n,S3,a,b,by rw[hd'],I3.take hmd hl l2 far',hP _ _ _ _ r (s2.trans s3),s.trans (s2.trans s3),ln I3,⋯,by rw[hd'];exact hb3⟩
   | true =>
    rw[if_pos rfl] at hb3 ⊢
    exact hE a b L3 σ2 S3 H3 _ _ ⋯ I3 (hP _ _ _ _ r (s2.trans s3)) hb3 λa' b' L4 S4 H4 hv I4 r4 s4 n4=>⟨rest.length,∅,L4.take n,S4,a',b',by rw[hd'],I4.take hmd hl l2 far',r4,s.trans (s2.trans (s3.trans s4)),ln I4,⋯,by rw[hd'];exact hv⟩
def uJ {Ca:jP}{f:Str}{v:FV}{d:jP×FV}(h:Bk Ca f v=Ψ d):∃ dx ns vs,v=.shf Ca dx ns vs/\pV f ns vs=Ψ (Ψ d.1,d.2):=by
 cases v with
 | shf C dx ns vs =>
  let(y,h):=EH (show (if C=Ca then (pV f ns vs).bind λp=>p.1.map λl=>(l,p.2) else Φ)=Ψ d from h)
  let(p,e1,h):=lV h
  let(q,w):=p
  cases q with
  | none=>cases h
  | some l=>cases h;exact⟨dx,ns,vs,by rw[y],e1⟩
 | _=>cases h
def Al {J:It}{xs:List FV}{n m:Nat}{tg:Tg}{t:BW}{e:EW}{Q:VK}{Q1:List FV->jR->Prop}{PL:jR->Prop}(I:Iv K c md L σ S H)(hJ:∀ (i:Nat)(L1:jR)(S1 H1:Hp),Iv K c md L1 σ S1 H1->Same S S1->PL L1->(xs[i]?=Φ->J.stop i H1)/\∀ p,xs[i]?=Ψ p->J.go i H1/\∀ v H',J.yld i H1 v H'->∃ S',Same S1 S'/\(∀ c md L σ,Iv K c md L σ S1 H1->Iv K c md L σ S' H')/\RV K S' p v)(hL:L.length=n)(hmd:md.length<=n)(ht:l8 md tg=Ω)(hg:mR n tg=Ω)(hb:xs.length<=big)(h:pk PL n m tg t e xs [] L Q1)
  (k:∀ Z8 ps L' S' H',H Z8=Φ->PL L'->Q1 ps L'->OwnAt K S' H' Z8 (.lst ps)->nR c md L' σ Z8->Iv K c md L' σ S' H'->Same S S'->Q (.ref Z8) H') :
  ∀ Z8,H Z8=Φ->∃ W:Nat->Nat->Hp->Prop,(∃ m,W 0 m (kh H Z8 (.lst [])))/\∀ i j H,W i j H ->
   (J.stop i H/\Q (.ref Z8) H) ∨ (J.go i H/\∀ x H',J.yld i H x H'->gT K tg x (σ++gf m Φ) H' λσ2 H2=>Wk (σ++gf m Φ) σ2/\lb K md t σ2 H2 λb H3 =>
    if b=Ω then Nx (lv K md e) Z8 σ2 H3 λH4=>∃ m',m'<j/\W (i+1) m' H4 else ∃ m',m'<j/\W (i+1) m' H3):=by
 intro Z8 hacc
 let h0:=I.h0 hacc
 let hp:∀ p∈c.pr,p.1≠Z8:=(I.fresh hacc).2.1
 let hz:=I.fzp
 let hbl:=kM
 exact Am (fr:=λus=>{ c with pr:=(Z8,.lst us) :: c.pr }) (P:=λps us S=>RVs K S ps us) (N:=iL) (Cm:=λxs ps L=>pk PL n m tg t e xs ps L Q1) (em:=λps L3 K'=>e L3 λv L4=>K' (ps++[v]) L4) (a0:=[]) (b0:=[]) ((I.lay hacc _).prot jV (I.sn hacc) λj w hm hj=>(I.fresh hacc).2.2 j w (Mo.w_imm hm) hj) (λi a L1 S1 H1 I1 s1 hc=>hJ i L1 S1 H1 I1 s1 ?_) hL hmd ht hg rfl rfl h (λ_ _ _ _ _ _ I _=>I.unprot hz) (λ_ _ _ _ r s=>r.mono s) (λ_ _ _ _ h=>h.2) (λps us L3 σ2 S3 H3 K' Z hn I3 r hv kz=>?_) λps us L' S' H' q I' r s'=>?_
 ·cases e9:xs.drop i with
  | nil=>rw[e9] at hc;exact hc.1
  | cons _ _=>rw[e9] at hc;exact hc.1
 ·exact⟨_,L3,S3,_,I3,hv,λv L4 hv u S4 H4 r4 I4 s4=>?_⟩
  let lr:=r.length
  exact⟨us,(I4.prs (Z8,.lst us) cQ).1,⋯,kz _ (us++[u]) L4 S4 _ hv (I4.regrow h0 hp hz) ((r.mono s4).append (RVs.one r4)) s4 ∅⟩
 ·let(g1,g2,f):=I'.newPr h0 hp hz
  exact k Z8 ps L' S' H' hacc q.1 q.2 ⟨g2,ps,us,rfl,g1,r⟩ f (I'.unprot hz) s'
def D5 {e:Expr}{t:TE}(h:PE X e t):PE X e (λσ H Q=>t σ H λv H2=>∃ a C dx fs gs l o kvs,H2 a=Ψ (.bag C dx fs gs)/\(l,GO.fdk o kvs)∈gs/\(Bag H2 a C dx fs gs->Q v (kh H2 a (.bag C dx fs (k7 gs l (.dk kvs)))))):=by
 intro Z9 s σ H Q I q
 exact ko (h Z9 s σ H _ I q) λu s1 q1=>?_
 let(v,H2,I2,r,a,C,dx,fs,gs,l,o,kvs,hb,hm,q):=q1
 exact⟨v,_,EF I2 hb hm,r,q (lQ I2 hb)⟩
def Hw {S1:Hp}(k:Option Int):RV K S1 (oF k) (kV (oK k)):=by cases k<;>rfl
variable {scope:jG}{own:List Str}{Z4 Z0:Expr}{Z5:List Expr}{tg:Tg}{t:BW}{e:EW}{nn m i:Nat}{nx fl:Str}{Ca:jP}{px p2 pos:Pos}
structure CompSOk (X:Cx)(C:CC) (n:Nat)(sp:ib->Nat->Sp)(scope:jG)(own:List Str)(Z4 Z0:Expr)(Z5:List Expr) (nn m:Nat)(tg:Tg)(t:BW)(e:EW):Prop where
 st:(C.scOk scope own && Δ (C.N.length=nn) && Δ (own.length=m) && Δ (C.md.length<=nn) && l8 C.md tg && mR nn tg)=Ω
 tg:∀ X',Good X' (C.sub scope own C.md) n sp->FG X' Z0 tg
 ts:∀ X',Good X' (C.sub scope own C.md) n sp->J6 X' (C.sub scope own C.md) Z5 t
 el:∀ X',Good X' (C.sub scope own C.md) n sp->FE X' (C.sub scope own C.md) Z4 e
def CM (G:Good X C n sp)(hn:C.nm i nx=Ω)(mo:qJ C.md i=Ω)(hf:Δ ((Ca,fl)∈C.fl)=Ω)(h:CompSOk X C n sp scope own Z4 Z0 Z5 nn m tg t e):FF X C (.ListComp Z4 [⟨Z0,.Attribute (.Name nx px) fl p2,Z5,0⟩] scope pos) (xT i Ca fl nn m tg t e):=by
 let h0:=b2 h.st;let h1:=b2 h0.1;let h2:=b2 h1.1;let h3:=b2 h2.1;let h4:=b2 h3.1
 let(s1,s2):=G.sub h4.1 C.md
 let blk:∀ fp D s H,PG (lD X scope own fp D s H) Z0 (gT X.K tg)/\PTs (lD X scope own fp D s H) Z5 (lb X.K C.md t)/\PE (lD X scope own fp D s H) Z4 (lv X.K C.md e):=λfp D s H=>⟨h.tg _ (s2 fp D s H),h.ts _ (s2 fp D s H),h.el _ (s2 fp D s H)⟩
 exact PE.imp (D5 (uM G.calm s1 (Bp (mr (ki (pos:=px) G hn))) blk (qt rfl))) λσ H Q q1=>?_
 let(c,L,S,Q0,I,hh,k):=q1
 let(v,e0,hh):=kq hh
 let(d,e2,hh):=kq hh
 let(l,d):=d
 let(dx,ns,vs,rfl,e3):=uJ e2
 cases d with
 | dco z ks us =>
  cases z with
  | some o=>exact hh.elim
  | none =>
   let(hl,hb,hh):=hh
   let(a,xs,e1,hB,sd,sn):=I.shf mo e0
   let(g1,g2):=G.fls _ (de hf)
   let(lkf,ps,ys,f1,f2,hm):=sd.rdo e3
   let(hlk,rfl):=ou f1
   let hly:ks.length=ys.length:=by rw[hlk,f2.length]
   exact⟨a,_,dx,_,_,.ref l,e1,hB,g1,g2,lkf,l,a,_,dx,_,_,_,rfl,hB,hm,λB o=>?_⟩
   let(v1,e4,hc):=kq (hh o)
   let e4:(if Ca=Ca then Ψ (FV.shf Ca dx ns (pc fl (.dco (Ψ o) ks us) ns vs)) else Φ)=Ψ v1:=e4
   rw[if_pos rfl] at e4;cases e4
   let(xs3,p1,p2,p3):=sd.puto B.ndg e3 (w:=.dco (Ψ o) ks us) (if_pos hlk) f2
   let I1:=I.wshf (dx:=dx) (C:=Ca) mo e0 e1 p1
   rw[p2,p3] at I1
   let I1:Iv X.K c C.md _ σ S (kh H a (.bag Ca dx (kD ns vs xs) (k7 (kB ns vs xs) l (.fdk o ((ks.map oK).zip ys))))):=I1
   let ek:((ks.map oK).zip ys).map (·.1)=ks.map oK:=List.map_fst_zip (by rw[fE];lia)
   rw[ek,de h3.2]
   let look:∀ {L1:jR}{S1 H1:Hp},Iv X.K c C.md L1 σ S1 H1->ES i Ca fl l o ks L1->∃ dx' ns' vs1 us' xs',lk L1 i=Ψ (.shf Ca dx' ns' vs1)/\pV fl ns' vs1=Ψ (Ψ l,.dco (Ψ o) ks us')/\H1 a=Ψ (.bag Ca dx' (kD ns' vs1 xs') (kB ns' vs1 xs'))/\Shd X.K S1 ns' vs1 xs':=λ{L1 S1 H1} J1 hp=>by
    let(v',e5,hp):=kq hp
    let(d',e6,hp):=kq hp
    let(us',rfl):=hp
    let(dx',ns',vs1,rfl,e7):=uJ e6
    let(a',xs',e8,hB',sd',_):=J1.shf mo e5
    rw[e1] at e8;cases e8
    exact⟨dx',ns',vs1,us',xs',e5,e7,hB',sd'⟩
   exact Al (J:=Rg a l o (ks.map oK)) (Q:=λv H2=>∃ a C dx fs gs l o kvs,H2 a=Ψ (.bag C dx fs gs)/\(l,GO.fdk o kvs)∈gs/\(Bag H2 a C dx fs gs->Q v (kh H2 a (.bag C dx fs (k7 gs l (.dk kvs)))))) (PL:=ES i Ca fl l o ks) I1 (λi' L1 S1 H1 J1 s1 hp=>?_) (by rw[fB];exact hl) (de h2.2) h1.2 h0.2 (by rw[fE];exact hb) hc λZ8 ps L' S' H' hn hp q oa fr I' s'=>?_
   ·let(dx',ns',vs1,us',xs',e5,e7,hB',sd'):=look J1 hp
    let(_,ps',ys',f1',f2',hm'):=sd'.rdo e7
    let bg:∃ C dx fs gs kvs,H1 a=Ψ (.bag C dx fs gs)/\(l,GO.fdk o kvs)∈gs:=⟨_,_,_,_,_,hB',hm'⟩
    exact⟨λe=>⟨bg,?_⟩,λp ep=>?_⟩
    ·have:=aJ.mp e
     rw[fE] at this ⊢;exact this
    ·rw[dJ] at ep
     let(k',ek',rfl):=bq.mp ep
     exact⟨⟨bg,by rw[fE];exact (aI.mp ek').1⟩,λv H2 ⟨eh,k2,ek2,ev⟩=>?_⟩
     subst eh;subst ev
     rw[dJ,ek'] at ek2
     cases ek2
     exact⟨S1,Same.refl S1,λ_ _ _ _ J=>J,Hw k'⟩
   ·let(dx',ns',vs1,us',xs',e5,e7,hB',sd'):=look I' hp
    let(_,ps',ys',f1',f2',hm'):=sd'.rdo e7
    let(hlk',rfl):=ou f1'
    exact⟨a,Ca,dx',_,_,l,o,_,hB',hm',λB2=>?_⟩
    let(xs4,r1,r2,r3):=sd'.puto B2.ndg e7 (w:=.dco Φ ks us') (if_pos hlk') f2'
    let I4:=I'.wshf (dx:=dx') (C:=Ca) mo e5 e1 r1
    rw[r2,r3] at I4
    let(v',e9,q):=kq q
    rw[e5] at e9;cases e9
    let(d',e10,q):=kq q
    let(dx2,ns2,vs2,e11,e12):=uJ e10
    cases e11
    rw[e7] at e12
    let(l',d'):=d'
    cases e12
    let(v4,e13,q):=kq (show wp (qN Ca fl (.dco Φ ks us') (.shf Ca dx' ns' vs1)) _ from q)
    let e13:(if Ca=Ca then Ψ (FV.shf Ca dx' ns' (pc fl (.dco Φ ks us') ns' vs1)) else Φ)=Ψ v4:=e13
    rw[if_pos rfl] at e13;cases e13
    let na:Z8≠a:=λz=>by
     let(_,ps9,xs9,e14,e15,_):=oa
     rw[z,hB'] at e15;cases e14;cases e15
    exact k _ _ q Z8 S' _ ?_ ⟨fr.1,fr.2.1,λj w hm9 hj=>?_⟩ I4 s'
    ·let(t1,ps9,xs9,e14,e15,e16):=oa
     exact⟨t1,ps9,xs9,e14,by rw[jT na];exact e15,e16⟩
    ·by_cases z:j=i
     ·subst z;rw[e1];exact λy=>na (by cases y;rfl)
     ·rw[bV (jp z)] at hj;exact fr.2.2 j w hm9 hj
 | _=>exact hh.elim
end
def Fo {K:ib}{C1 C2 C3:jP}{w1 w2 w3:String}{p:jP×String}(h:Fp K C1 C2 C3 w1 w2 w3 p=Ω):∃ b1 b2 b3,fX K (.ref p.1) (.ref C1)=Ψ b1/\fX K (.ref p.1) (.ref C2)=Ψ b2/\fX K (.ref p.1) (.ref C3)=Ψ b3/\Dc w1 w2 w3 b1 b2 b3=Ψ p.2:=by
 unfold Fp at h
 split at h
 ·split at h
  ·split at h
   ·exact⟨_,_,_,by assumption,by assumption,by assumption,of_decide_eq_true h⟩
   ·cases h
  ·cases h
 ·cases h
def CapF.of {K:ib}{mg:Str->Option jF}{Ck C1 C2 C3:jP}{kx n1 n2 n3 nV:Str}{ws:List (jP×String)}{w1 w2 w3:String}(h:LQ Ck C1 C2 C3 kx n1 n2 n3 nV ws w1 w2 w3 K mg=Ω):CapF K mg kx n1 n2 n3 nV ws w1 w2 w3:=by
 let h1:=b2 h;let h2:=b2 h1.2;let h3:=b2 h2.2;let h4:=b2 h3.2;let h5:=b2 h4.2
 let ha:=eO.mp h5.2
 let g:∀ p∈ws,PySem.W.exmOne K (.ref p.1) (.ref Ck)=Ψ Ω/\Fp K C1 C2 C3 w1 w2 w3 p=Ω/\fX K (.ref p.1) (.type "ValueError")=Ψ Ω/\XCls K p.1:=λp hp=>by
  let h:=b2 (ha p hp);let h2:=b2 h.2;let h3:=b2 h2.2
  exact⟨qV h.1,h2.1,qV h3.1,XCls.of h3.2⟩
 exact⟨⟨Ck,qj h1.1,λp hp=>(g p hp).1⟩,⟨C1,C2,C3,qj h2.1,qj h3.1,qj h4.1,λp hp=>Fo (g p hp).2.1⟩,Option.isNone_iff_eq_none.mp h5.1,λp hp=>(g p hp).2.2.1,λp hp=>(g p hp).2.2.2⟩
def XCl.of {X:Cx}{cn:Str}{Cn:jP}(h:GC cn Cn X.K X.mg=Ω):XCl X cn Cn:=⟨qj (b2 h).1,(b2 h).2⟩
nonrec def Of (L:jR)(Q:FFl->jR->Prop):My L Q=False:=propext Iff.rfl
nonrec def PP (e:Dp)(cl:jP)(L:jR)(Q:FV->jR->Prop):PQ e cl L Q=(e L λL1=>Q (.adr cl) L1):=propext Iff.rfl
nonrec def MI (L:jR)(Q:jR->Prop):HC L Q=Q L:=propext Iff.rfl
nonrec def MJ (e:EW)(m:Dp)(L:jR)(Q:jR->Prop):HD e m L Q=(e L λv L1=>wp (HZ v) λ_=>m L1 Q):=propext Iff.rfl
nonrec def MD (i j k q:Nat)(ws:List (jP×String))(sN sX:SW)(L:jR)(Q:FFl->jR->Prop):GW i j k q ws sN sX L Q=((jY sN (jY (my (ke (kG lz (jQ j))) (kf (jQ i)) lB) rC) L Q) ∨
 (sX L λfl L1=>∃ cl w,fl=.ret (.adr cl)/\(cl,w)∈ws/\∀ d bs,Q (.ret (.str w)) ((((L1.set k Φ).set j (Ψ (.adr d))).set k Φ).set q (Ψ bs)))):=propext Iff.rfl
def tZ {α:Type}{P:jR->Prop}{tg:Tg}{n m:Nat}{e:EW}{f:α->FV}{g:α->FV}{Q:List FV->jR->Prop}{L:jR}(hP:P L):∀ (xs:List α)(Z8:List FV),
  (∀ x∈xs,∀ K:FV->jR->Prop,K (g x) L->gW tg (f x) (L++gf m Φ) λL1=>e L1 λv L3=>K v (L3.take n))->Q (Z8++xs.map g) L->pk P n m tg lp e (xs.map f) Z8 L Q
 | [],Z8,_,E=>⟨hP,by simpa using E⟩
 | x :: xs,Z8,B,E=>⟨hP,B x cQ (λv L'=>pk P n m tg lp e (xs.map f) (Z8++[v]) L' Q) (tZ hP xs (Z8++[g x]) (λy hy=>B y (bT _ hy)) (by simpa using E))⟩
end Kq
namespace Kq
open PySem PySem.Spec PyProof.Rows L2 PySem.W
section
variable {X:Cx}{C:CC}{n:Nat}{sp:ib->Nat->Sp}{fr:Bool}{a b:Expr}{e:EW}{pos p px apos:Pos}{i f k:Nat}{nx fl cn m:Str}{Ca:jP}{call:CW}{xs:List Expr}
variable {K:ib}{c:Cn}{md:Md}{L:jR}{σ:L2.St}{S H:Hp}
def CJ {m:Nat}(hm:m<=100000)(Sr:Do X.prog X.w m)(G:Good X C n sp)(hg:C.gl (hW "sorted")=Ω)(h:C.nm i nx=Ω)(mo:qJ C.md i=Ω)(hf:Δ ((Ca,fl)∈C.fl)=Ω):FF X C (.Call (.Name (hW "sorted") p) [.Attribute (.Name nx px) fl apos] [] pos) (va m i Ca fl) :=
 PE.imp (mE (Gx (Fs (X:=X.nox) G.calm hm Sr)) (G.gl hg) (G.blt "sorted" (·)) (by nofun) (ka (mr (ki G h)) kF (jU rfl)) (by nofun) (by nofun) (jU rfl) rfl) λσ H Q q1=>by
  let(c,L,S,Q0,I,h,k):=q1
  let(o,e,h):=kq h
  let(d,e2,h):=kq h
  let(ns,e3,hl,q):=kq h
  let(dx,nms,vs,l,rfl,e4):=nr e2
  let(a,xs,e1,hh,sd,sn):=I.shf mo e
  let(g1,g2):=G.fls _ (de hf)
  exact⟨a,_,dx,_,_,.ref l,e1,hh,g1,g2,(sd.rdo e4).1,a,_,dx,_,_,hh,λB nf=>?_⟩
  let(hs',rd):=n6 I sn sd e4 B
  cases d with
  | dco zz ks us =>
   let(l',ys,ee,hl2,h1,h2):=rd.dco hs'
   cases ee
   let hk:=yG e3
   exact⟨l,_,ns,rfl,uH h1,?_,hl,λp ms hp hp1 hp2=>?_⟩
   ·rw[List.map_fst_zip (by rw[fE];rw[hl2,h2.length];exact iK _),hk,iw];rfl
   ·exact ze B nf _ (oj B hp) ?_
    let hp:=oj B hp
    exact k _ L (q ms hp1 hp2) p S _ ⟨I.sn hp,_,_,rfl,jV,RVs.ns ms⟩ (I.fresh hp) (I.lay hp _) (Same.refl S)
  | _=>cases e3
def Ae (G:Good X C n sp)(he:sp X.K (C.fns.length+k)=tq X.K call Ω Ω (C.fns.length+k))(hk:C.ms[k]?=Ψ (cn,Ca,m))(hm:(m == ("__init__":Str))=Ξ)(h:C.nm i nx=Ω)(mo:qJ C.md i=Ω)(hl:oG apos pos=Ω)  :FF X C (.Call (.Attribute (.Name nx p) m apos) [] [] pos) (kb call (C.fns.length+k) i Ca m jW):=by
 let(fa,fd,ps,h1,h2,_,h4,h5,h6):=G.mts k cn Ca m hk
 let(pl,hev):=oP (nx:=nx) (p:=p) (m:=m) (env:=X.env) (es:=[]) hl rfl
 exact PE.imp (tH (X:=X.nox) (ki G h) h2 (h4 λz=>by rw[z] at hm;simp at hm) h6 G.room.toRoom h5 tI hev) λσ H Q ⟨c,L,S,Q0,I,h,kk⟩=>?_
 let(o,e,ho,hc9):=kq h
 cases o with
 | shf C' dx ns vs =>
  let(rfl,hl):=ho
  let(l,xs',e1,hh,_,_):=I.shf mo e
  exact⟨l,dx,_,_,e1,hh,mB ns vs xs' hl,?_⟩
  rw[he]
  have:=sJ (fr:=Ω) (Q:=Q) I (b2 mo).1 (qk (b2 mo).2) hc9 λv L' x H1 S' H' q r I' s' fs=>by
   let(b,rfl,ob,hn):=r
   exact kk v L' q b S' H' ob (fs b hn) I' s'
  let(x,e2,c2,L2,S2,Q2,I2,h2,k2):=this
  rw[e1] at e2;cases e2
  exact k2 [] L2 h2 [] S2 H rfl I2 (Same.refl S2)
 | _=>exact ho.elim
def Ib (G:Good X C n sp)(hle:Δ (C.fns.length<=f)=Ω)(he:sp X.K f=tq X.K call Ω Ω f)(hk:(C.ms[f-C.fns.length]?).map (·.2)=Ψ (Ca,m))(hm:(m == ("__init__":Str))=Ξ)(h:C.nm i nx=Ω)(mo:qJ C.md i=Ω)(hl:oG apos pos=Ω):FF X C (.Call (.Attribute (.Name nx p) m apos) [] [] pos) (kb call f i Ca m jW):=by
 let e:C.fns.length+(f-C.fns.length)=f:=by have:=de hle;lia
 let((cn,q2),hk,rfl):=oX hk
 have:=Ae (call:=call) (p:=p) G (k:=f-C.fns.length) (by rw[e];exact he) hk hm h mo hl
 rwa [e] at this
def Ia (G:Good X C n sp)(hg:C.gl (hW "sorted")=Ω)(h:C.nm i nx=Ω)(mo:qJ C.md i=Ω)(hf:Δ ((Ca,fl)∈C.fl)=Ω):FF X C (.Call (.Name (hW "sorted") p) [.Attribute (.Name nx px) fl apos] [] pos) (va 63 i Ca fl):=CJ (·) (DI _ _) G hg h mo hf
end
end Kq
namespace L2
open PySem PySem.Spec PyProof.Rows
abbrev PF (tk tv:TE):jP->St->Hp->(Hp->Prop)->Prop:=λZ8 σ H K=>tk σ H λy H4=>tv σ H4 λv H5=>∃ kvs k,H5 Z8=Ψ (.dK kvs)/\y=kV k/\kvs.length<sizeLine/\K (kh H5 Z8 (.dK (oW kvs k v)))
abbrev xk (wi:TI)(g:TG)(tt:TT)(tk tv:TE) (own:Nat):TE:=uv wi g tt (PF tk tv) (λ_=>.dK []) own
section
variable {X:Cx}{kx vx tg Z6:Expr}{Z5:List Expr}{scope:jG}{own:List Str}{pos:Pos}{wi:TI}{g:TG}{tt:TT}{tk tv:TE}
def wV:CKind X (.DictComp kx vx [⟨tg,Z6,Z5,0⟩] scope pos) tg Z6 Z5 scope newDict { cls:=.type "dict",data:=.dict #[] } (λ_=>.dK []) (u9 kx vx) :=
 ⟨λ_ _ _=>rfl,λ_ _ _ _=>rfl,λ_ _ _=>rfl,λ_ _=>rfl,codeAny_compStart_dict,λq=>db q,λ{_ _ _ s} I=>I.laid (a:=s.heap.objs.size) (o:=.dK []) (t':=s.toks) (λ_ _ q=>bx _ q) (iK _) (wM s.heap I.big),λ_=>by rw[arm_eval_DictComp];rfl,rfl⟩
def tG {Y:Cx}(hk:PE Y kx tk)(hv:PE Y vx tv):Ma Y (u9 kx vx) (PF tk tv):=by
 intro Z9 s σ H Z8 c K I q
 unfold u9
 exact iR (iR (ko (hk _ s σ H _ I q) λky s11 ⟨v11,H11,I11,r11,q11⟩=>iR (gx (ko (hv _ s11 σ H11 _ I11 q11) λy s12 ⟨v12,H12,I12,r12,kvs,k,hys,hyb,hz,kk⟩=>iR (gu (gx ?_))))))
 subst hyb
 let(z,hd,vs,rel,dd):=Gv I12.hok hys
 let hz':vs.length<=sizeLine:=by rw[<- rel.length];exact z
 let hl:(oW kvs k v12).length<=sizeLine:=by have:=or kvs k v12;lia
 exact wpAny_dictSet_pairs (hsz:=hz') (wn r11) dd λh' dd' hs=>?_
 let he:∃ q,h'.get? Z8=Ψ q:=let ⟨q,_,_,hq,_⟩:=dd';⟨q,hq⟩
 exact iO ⟨rfl,_,vf I12 (by rw[hys];exact True.intro) hs he (xU hl hd (rel.put k r12) dd'),kk⟩
def Bx (hc:X.calm=Ω)(SC:CScope X scope own)(hi:PI X.nox tg Z6 wi)
  (Z3:∀ fp C s H,PG (lD X scope own fp C s H) tg g/\PTs (lD X scope own fp C s H) Z5 tt/\PE (lD X scope own fp C s H) kx tk/\PE (lD X scope own fp C s H) vx tv)
  (hs:∀ x,foldedSetIterable Z6 X.env x=pure x:=by intro _;rfl) :
  PE X.nox (.DictComp kx vx [⟨tg,Z6,Z5,0⟩] scope pos) (xk wi g tt tk tv own.length) :=
 vT hc SC wV hi (λfp C s H=>let ⟨a,b,c,d⟩:=Z3 fp C s H;⟨a,b,tG c d⟩) hs
def vM {i:Nat}{x:Str}{px:Pos}{spos:Pos}(hc:X.calm=Ω)(SC:CScope X scope own)(hN:X.N.Nodup)(hx:X.N[i]?=Ψ x)(hl:X.env.scope.names.lookup x=Ψ .local)(hi:PI X.nox tg Z6 wi)
  (Z3:∀ fp C s H,PG (lD X scope own fp C s H) tg g/\PTs (lD X scope own fp C s H) Z5 tt/\PE (lD X scope own fp C s H) kx tk/\PE (lD X scope own fp C s H) vx tv)
  (hsw:swapsWith (.DictComp kx vx [⟨tg,Z6,Z5,0⟩] scope pos) (Ψ (.Name x px)) spos.line X.env=pure Ω)
  (hs:∀ x,foldedSetIterable Z6 X.env x=pure x:=by intro _;rfl) :
  PS X.nox (.Assign [.Name x px] (.DictComp kx vx [⟨tg,Z6,Z5,0⟩] scope pos) spos) (qM (xk wi g tt tk tv own.length) (mq i)) :=
 qD hc SC wV hN hx hl hi (λfp C s H=>let ⟨a,b,c,d⟩:=Z3 fp C s H;⟨a,b,tG c d⟩) hsw hs
end
end L2
namespace Kq
open PySem PySem.Spec PyProof.Rows L2
abbrev oB (n m:Nat)(tg:Tg)(t:BW)(ek ev:EW):List FV->List (Option Int)->List FV->jR->(List (Option Int)->List FV->jR->Prop)->Prop
 | [],ks,vs,L,Q=>Q ks vs L
 | x :: xs,ks,vs,L,Q=>gW tg x (L++gf m Φ) λL1=>t L1 λb L2=>if b=Ω then ek L2 λkx L3=>wp (qh kx) λk=>ev L3 λv L4=>oB n m tg t ek ev xs (k6 ks vs k v).1 (k6 ks vs k v).2 (L4.take n) Q else oB n m tg t ek ev xs ks vs (L2.take n) Q
abbrev ve (n m:Nat)(it:AW)(tg:Tg)(t:BW)(ek ev:EW):EW:=λL Q=>it L λxs L1=>L1.length=n/\xs.length<=big/\oB n m tg t ek ev xs [] [] L1 λks vs L2=>Q (.dco Φ ks vs) L2
nonrec def JW (n m:Nat)(it:AW)(tg:Tg)(t:BW)(ek ev:EW)(L:jR)(Q:FV->jR->Prop):ve n m it tg t ek ev L Q=(it L λxs L1=>L1.length=n/\xs.length<=big/\oB n m tg t ek ev xs [] [] L1 λks vs L2=>Q (.dco Φ ks vs) L2):=propext Iff.rfl
section
variable {K:ib}{c:Cn}{md:Md}{L:jR}{σ:L2.St}{S H:Hp}
def An {J:It}{xs:List FV}{n m:Nat}{tg:Tg}{t:BW}{ek ev:EW}{Q:VK}{Q1:List (Option Int)->List FV->jR->Prop}(I:Iv K c md L σ S H)(hJ:Ay K c md J xs S)(hL:L.length=n)(hmd:md.length<=n)(ht:l8 md tg=Ω)(hg:mR n tg=Ω)(hb:xs.length<=big)(h:oB n m tg t ek ev xs [] [] L Q1)
  (k:∀ Z8 ks vs us L' S' H',H Z8=Φ->Q1 ks vs L'->S' Z8=Φ->H' Z8=Ψ (.dK ((ks.map oK).zip us))->ks.length=vs.length->RVs K S' vs us->nR c md L' σ Z8->Iv K c md L' σ S' H'->Same S S'->Q (.ref Z8) H') :
  ∀ Z8,H Z8=Φ->∃ W:Nat->Nat->Hp->Prop,(∃ m,W 0 m (kh H Z8 (.dK [])))/\∀ i j H,W i j H ->
   (J.stop i H/\Q (.ref Z8) H) ∨ (J.go i H/\∀ x H',J.yld i H x H'->gT K tg x (σ++gf m Φ) H' λσ2 H2=>Wk (σ++gf m Φ) σ2/\lb K md t σ2 H2 λb H3 =>
    if b=Ω then PF (lv K md ek) (lv K md ev) Z8 σ2 H3 λH4=>∃ m',m'<j/\W (i+1) m' H4 else ∃ m',m'<j/\W (i+1) m' H3):=by
 intro Z8 hacc
 let h0:=I.h0 hacc
 let hp:∀ p∈c.pr,p.1≠Z8:=(I.fresh hacc).2.1
 let hz:=I.fzp
 let hbl:=kM
 exact tV (α:=List (Option Int)×List FV) (β:=List (Option Int)×List V) (fr:=λb=>{ c with pr:=(Z8,.dK ((b.1.map oK).zip b.2)) :: c.pr }) (P:=λa b S=>a.1=b.1/\a.1.length=a.2.length/\RVs K S a.2 b.2) (N:=λa=>a.1.length) (Cm:=λxs a L=>oB n m tg t ek ev xs a.1 a.2 L Q1) (em:=λa L3 K'=>ek L3 λkx L4=>wp (qh kx) λk=>ev L4 λv L5=>K' (k6 a.1 a.2 k v) L5) (a0:=([],[])) (b0:=([],[])) ((I.lay hacc _).prot jV (I.sn hacc) λj w hm hj=>(I.fresh hacc).2.2 j w (Mo.w_imm hm) hj) hJ hL hmd ht hg ⟨rfl,rfl,rfl⟩ rfl h (λ_ _ _ _ _ _ I _=>I.unprot hz) (λ_ _ _ _ ⟨e,l,r⟩ s=>⟨e,l,r.mono s⟩) (λ_ _ _ _ h=>h) (λ⟨ks,vs⟩ ⟨ks',us⟩ L3 σ2 S3 H3 K' Z hn I3 ⟨e,hkl,r⟩ hv kz=>?_) λ⟨ks,vs⟩ ⟨ks',us⟩ L' S' H' q I' ⟨e,hkl,r⟩ s'=>?_
 ·cases (show ks=ks' from e)
  dsimp only at hn hkl r
  exact⟨_,L3,S3,_,I3,hv,λkx L4 hk u S4 H4 r4 I4 s4=>?_⟩
  let(kk,e2,hk2):=kq hk
  let hu:=pJ r4 e2
  exact⟨_,L4,S4,_,I4,hk2,λv L5 hv u2 S5 H5 r5 I5 s5=>?_⟩
  let lr:=r.length
  let(pe,pr):=vJ (ks:=ks) (k:=kk) (r.mono (s4.trans s5)) r5
  let(pl1,pl2):=vK ks vs kk v hkl
  exact⟨_,oK kk,(I5.prs (Z8,_) cQ).1,hu,by rw[List.length_zip,fE];dsimp only;lia,?_⟩
  rw[vH ks us kk u2 ⋯]
  exact kz _ (k6 ks us kk u2) L5 S5 _ hv (I5.regrow h0 hp hz) ⟨pe,pl1,pr⟩ (s4.trans s5) pl2
 ·cases (show ks=ks' from e)
  let(g1,g2,f):=I'.newPr h0 hp hz
  exact k Z8 ks vs us L' S' H' hacc q g2 g1 hkl r f (I'.unprot hz) s'
end
section
variable {X:Cx}{C:CC}{n:Nat}{sp:ib->Nat->Sp}{pos p px:Pos}{scope:jG}{own:List Str}{kx vx Z0 Z6:Expr}{Z5:List Expr}{it:AW}{tg:Tg}{t:BW}{ek ev:EW}{nn m i:Nat}{md':Md}{nx:Str}{fr:Bool}
def tz (G:Good X C n sp)(h:CompOk X C n sp scope own kx Z0 Z6 Z5 nn m md' it tg t ek){σ:L2.St}{H:Hp}{Q:VK}(hq:lf X.K C.md (ve nn m it tg t ek ev) σ H Q):xk (li X.K C.md md' it) (gT X.K tg) (lb X.K md' t) (lv X.K md' ek) (lv X.K md' ev) own.length σ H Q:=by
 let h0:=b2 h.st;let h1:=b2 h0.1;let h2:=b2 h1.1;let h3:=b2 h2.1;let h4:=b2 h3.1;let h5:=b2 h4.1;let h6:=b2 h5.1
 let(c,L,S,Q0,I,hh,k):=hq
 exact⟨c,L,S,_,I,hh,λxs L1 hx J c' S1 H1 I1 un e0 hJ s1=>?_⟩
 let(hl,hb,hc):=hx
 rw[de h5.2]
 exact An I1 hJ hl (de h4.2) h2.2 h1.2 hb hc λZ8 ks vs us L' S' H' hn q g1 g2 g3 g4 fr I' s'=>k _ L' q Z8 S' H' ⟨g1,vs,us,if_pos g3,g2,g4⟩ ⟨by rw[<- e0];exact fr.1,((un _ _ _ _ I1).fresh hn).2.1,λj w hm=>fr.2.2 j w (pM h3.2 j hm)⟩ (un _ _ _ _ I') (s1.trans s')
def Au (G:Good X C n sp)(h:CompOk X C n sp scope own kx Z0 Z6 Z5 nn m md' it tg t ek)(hv:∀ X',Good X' (C.sub scope own md') n sp->FE X' (C.sub scope own md') vx ev):CScope X scope own/\(∀ fp D s H,PG (lD X scope own fp D s H) Z0 (gT X.K tg)/\PTs (lD X scope own fp D s H) Z5 (lb X.K md' t)/\PE (lD X scope own fp D s H) kx (lv X.K md' ek)/\PE (lD X scope own fp D s H) vx (lv X.K md' ev))/\∀ v,foldedSetIterable Z6 X.env v=pure v:=by
 let h0:=b2 h.st;let h1:=b2 h0.1;let h2:=b2 h1.1;let h3:=b2 h2.1;let h4:=b2 h3.1;let h5:=b2 h4.1;let h6:=b2 h5.1
 let(s1,s2):=G.sub h6.1 md'
 exact⟨s1,λfp D s H=>⟨h.tg _ (s2 fp D s H),h.ts _ (s2 fp D s H),h.el _ (s2 fp D s H),hv _ (s2 fp D s H)⟩,qt (nb h0.2)⟩
def AO {gs:List gS}{x:Str}{n:Nat}{env:Env}(hk:env.scope.kind=.function) :
  swapsWith (.DictComp kx vx gs scope p) (Ψ (.Name x px)) n env=pure (Δ (env.scope.names.lookup x=Ψ .local) && (px.line == p.line) && !(scope.names.any λ(n,k)=>n == x && (k == .local || k == .cell))):=by
 let hb:env.blockKind=.function:=by unfold gQ;rw[hk];rfl
 have:(env.kindOf x == Ψ .local)=Δ (env.scope.names.lookup x=Ψ .local):=by
  rw[fL];simp[Env.kindOf]
 unfold swapsWith
 simp![hb,this]
 rfl
def Cw (G:Good X C n sp)(ht:C.tn i nx=Ω)(hm:jX C.md i=.imm)(h:CompOk X C n sp scope own kx Z0 Z6 Z5 nn m md' it tg t ek)(hv:∀ X',Good X' (C.sub scope own md') n sp->FE X' (C.sub scope own md') vx ev):FS X C fr (.Assign [.Name nx px] (.DictComp kx vx [⟨Z0,Z6,Z5,0⟩] scope p) pos) (kg (ve nn m it tg t ek ev) (.nm i)):=by
 let hsw:swapsWith (.DictComp kx vx [⟨Z0,Z6,Z5,0⟩] scope p) (Ψ (.Name nx px)) pos.line X.env=pure (JH C nx px scope p):=by rw[AO G.kind,G.sc];rfl
 let(s1,s2,s3):=Au G h hv
 cases hb:JH C nx px scope p with
 | false =>
  rw[hb] at hsw
  exact q0 hm (λσ H Q q=>tz G h q) (vO G ht hsw (Bx G.calm s1 h.it s2 s3))
 | true =>
  rw[hb] at hsw
  let hlo:X.env.scope.names.lookup nx=Ψ .local:=by
   rw[G.sc]
   let hb:=b2 hb
   exact de (b2 hb.1).1
  exact q0 hm (λσ H Q q=>tz G h q) (vM G.calm s1 G.nd' (G.ix (b2 ht).1) hlo h.it s2 hsw s3)
end
section
variable {X:Cx}{C:CC}{n:Nat}{sp:ib->Nat->Sp}{a:Expr}{e ea:EW}{pos px p2:Pos}{i k:Nat}{nx fl m:Str}{Ca:jP}
def JQ (G:Good X C n sp)(h:C.nm i nx=Ω)(m:qJ C.md i=Ω)(hf:Δ ((Ca,fl)∈C.fl)=Ω)(ha:FE X C a ea):FB X C (.Compare a [.NotIn] [.Attribute (.Name nx px) fl p2] pos) (ke (qX i Ca fl ea)):=PT.imp (xr (xy (X:=X.nox) (by have:=G.room.units;show X.A.units+1<cLine;lia) ha (mr (ki G h))) rfl) λσ H Q q1=>by
 let(c,L,S,Q0,I,h,k):=q1
 exact⟨c,L,S,_,I,h,λw L2 hw y S2 H2 r2 I2 s2=>?_⟩
 let(o,e,h):=kq hw
 let(d,e2,h):=kq h
 let(z,e5,q):=kq h
 let(dx,ns,vs,l,rfl,e3):=nr e2
 let(a,xs,e1,hh,sd,sn):=I2.shf m e
 let(g1,g2):=G.fls _ (de hf)
 exact⟨a,_,dx,_,_,.ref l,e1,hh,g1,g2,(sd.rdo e3).1,l,a,_,dx,_,_,rfl,hh,λB=>?_⟩
 let(hs',rd):=n6 I2 sn sd e3 B
 cases d with
 | dco zz ks vs =>
  let(kk,e6,e7):=lV e5
  cases e7
  let(l',us,ee,hl,h1,h2):=rd.dco hs'
  cases ee
  exact⟨nK ks us kk,by rw[pJ r2 e6,<- pQ];exact .inl ⟨_,_,uH h1,rfl,rfl⟩,?_⟩
  have:(nK ks us kk).isSome=Δ (kk∈ks):=by rw[fL,rX kk (by rw[hl,h2.length])];simp
  rw[this]
  exact⟨_,rfl,k _ L2 q S2 H2 I2 s2⟩
 | _=>cases e5
end
end Kq
set_option maxRecDepth 10000
set_option maxHeartbeats 1000000
namespace Kq
abbrev Q4 (call:CW):SW:=vC (ke (eC (.bl Ω))) lB
abbrev Q3 (call:CW):SW:=jY (kg (m7 jW) (.nm 2)) (jY (pd (nJ (jQ 1)) (.nm 3) (my (ke (j0 nW (j0 lH (jQ 3) (eC (.int 0))) (eC (.str "keep")))) (pf (oz E7 2 (sZ (jQ 0) (kX (j0 lH (jQ 3) (eC (.int 1)))) (kX (j0 kC (j0 lH (jQ 3) (eC (.int 1))) (j0 lH (jQ 3) (eC (.int 2)))))))) (pf (oz E7 2 (j0 lH (jQ 3) (eC (.int 1))))))) (kf (kG mC (jQ 2))))
abbrev LY (call:CW):SW:=kf (j0 kC (eC (.int 1)) (kG lC (jQ 0)))
abbrev NM (call:CW):SW:=kf (j0 kC (eC (.int 1)) (kG vy (lU 1 1 (nJ (jQ 0)) (.nm 1) lp (Fd (ke (j0 nW (j0 lH (jQ 1) (eC (.int 0))) (eC (.str "keep")))) (eC (.int 2)) (j0 kC (eC (.int 1)) (kG lC (j0 lH (jQ 1) (eC (.int 1)))))))))
abbrev QZ (call:CW):SW:=jY (kg (kT call 5 (jS (jQ 0) (jS (jQ 1) jW))) (.nm 2)) (jY (kg (m7 jW) (.nm 3)) (jY (kg (eC (.int 0)) (.nm 4)) (jY (vC (ke (j0 Dt (jQ 4) (kG lC (jQ 1)))) (jY (kg (PU (kT call 6 (jS (jQ 0) (jS (jQ 1) (jS (jQ 2) (jS (jQ 4) jW))))) (kT call 7 (jS (jQ 1) (jS (jQ 2) (jS (jQ 4) jW))))) (.nm 5)) (jY (pf (oz tf 3 (jQ 5))) (zG (x6 λi j=>i+j) 4 (kT call 8 (jS (jQ 5) jW)))))) (kf (kG mC (jQ 3))))))
abbrev QY (call:CW):SW:=jY (kg (j0 (oQ pi) (m7 (jS (eC (.int 0)) jW)) (j0 kC (kG lC (jQ 1)) (eC (.int 1)))) (.nm 2)) (jY (kg (j0 pi (m7 (jS (eC (.int 0)) jW)) (kG lC (jQ 0))) (.nm 3)) (jY (kg (eC (.int 0)) (.nm 4)) (jY (pd (Co (kG lC (jQ 1))) (.nm 5) (jY (kg (j0 kC (sZ (jQ 3) (kX (eC (.int 1))) lM) (m7 (jS (eC (.int 0)) jW))) (.nm 6)) (jY (kg (lU 8 2 (EJ (jQ 0) (jQ 6)) (.tp [8,9]) lp (Fd (ke (j0 nW (jQ 8) (j0 lH (jQ 1) (jQ 5)))) (j0 kC (jQ 9) (eC (.int 1))) (eC (.int 0)))) (.nm 3)) (jY (vD 2 (jQ 5) (j0 kC (eC (.int 2)) (jQ 4))) (jY (kg (j0 we (jQ 3) (eC (.int 0))) (.nm 7)) (jY (my (ke (j0 HR (jQ 7) (eC (.int 0)))) (vD 2 (jQ 5) (j0 tL (mh lH 2 (jQ 5)) (j0 kC (eC (.int 2)) (mh lH 2 (j0 kC (jQ 5) (jQ 7)))))) lB) (kg (j0 tL (mh lH 2 (jQ 5)) (j0 kC (eC (.int 1)) (jQ 4))) (.nm 4)))))))) (kf (jQ 2)))))
abbrev QX (call:CW):SW:=jY (pd (wy (kG lC (jQ 0))) (.nm 4) (jY (kg (eC (.int 0)) (.nm 5)) (vC (Dj (ke (j0 Dt (j0 kC (jQ 4) (jQ 5)) (kG lC (jQ 0)))) (Dj (ke (j0 Dt (j0 kC (jQ 3) (jQ 5)) (kG lC (jQ 1)))) (ke (j0 nW (j0 lH (jQ 0) (j0 kC (jQ 4) (jQ 5))) (j0 lH (jQ 1) (j0 kC (jQ 3) (jQ 5))))))) (jY (zG (x6 λi j=>i+j) 5 (eC (.int 1))) (my (ke (j0 nW (j0 kC (eC (.int 2)) (j0 lH (jQ 2) (j0 kC (jQ 3) (jQ 5)))) (j0 lH (jQ 2) (jQ 3)))) (kf (nL (jS (eC (.str "keep")) (jS (jQ 4) (jS (jQ 5) jW))))) lB))))) (kf (eC .non))
abbrev QW (call:CW):SW:=jY (kg (eC (.int 1)) (.nm 3)) (jY (vC (ke (j0 yD (j0 kC (j0 kC (eC (.int 1)) (jQ 3)) (j0 lH (jQ 1) (j0 kC (jQ 2) (jQ 3)))) (j0 lH (jQ 1) (jQ 2)))) (zG (x6 λi j=>i+j) 3 (eC (.int 1)))) (kf (nL (jS (eC (.str "put")) (jS (sZ (jQ 0) (kX (jQ 2)) (kX (j0 kC (jQ 2) (jQ 3)))) jW)))))
abbrev NL (call:CW):SW:=kf (Fd (ke (j0 nW (j0 lH (jQ 0) (eC (.int 0))) (eC (.str "keep")))) (j0 lH (jQ 0) (eC (.int 2))) (kG lC (j0 lH (jQ 0) (eC (.int 1)))))
abbrev QV (call:CW):SW:=jY (kg (kG (DP .lst) (kG lC (jQ 0))) (.nm 1)) (jY (kg (lU 4 1 (nJ (jQ 0)) (.nm 4) lp (kT call 2 (jS (jQ 4) jW))) (.nm 2)) (jY (kg (sk 4 2 (nJ (jQ 1)) (.nm 4) lp (nJ (jQ 1)) (.nm 5) (ke (j0 yD (jQ 4) (jQ 5))) (nL (jS (jQ 4) (jS (jQ 5) (jS (kT call 3 (jS (kT call 4 (jS (j0 lH (jQ 0) (jQ 4)) (jS (j0 lH (jQ 0) (jQ 5)) jW))) jW)) jW))))) (.nm 3)) (kf (nL (jS (kG mC (jQ 2)) (jS (kG mC (jQ 3)) jW))))))
abbrev JA (call:CW):SW:=jY (kg (m7 (jS (jQ 1) jW)) (.nm 2)) (jY (kg (mh xV 0 (jQ 1)) (.nm 3)) (jY (vC (ke (kG pK (jQ 3))) (jY (pf (oz tf 2 (jQ 3))) (kg (mh xV 0 (jQ 3)) (.nm 3)))) (kf (kG A6 (jQ 2)))))
abbrev Jz (call:CW):SW:=jY (kg (j0 rH (j0 pi (j0 kC (j0 kC (j0 rH (jQ 0) (eC (.int 2147483629))) (j0 pi (j0 pi (jQ 1) (jQ 1)) (eC (.int 7919)))) (eC (.int 11))) (eC (.int 48271))) (eC (.int 2147483647))) (.nm 2)) (kf (j0 rH (j0 pi (jQ 2) (jQ 2)) (eC (.int 1999999973))))
abbrev Jy (call:CW):SW:=jY (kg (Fd (ke (j0 Dt (jQ 1) (kG lC (jQ 0)))) (j0 lH (jQ 0) (jQ 1)) (eC (.int 0))) (.nm 2)) (kf (m7 (jS (j0 pi (kG Dm (jQ 2)) (kG ut (j0 MP (kG Dm (jQ 2)) (j0 DY (eC (.int 10)) (eC (.int 18)))))) (jS (j0 kC (jQ 2) (j0 pi (eC (.int 1000003)) (jQ 1))) (jS (eC (.int 0)) jW)))))
abbrev FK (call:CW):SW:=jY (vD 0 (eC (.int 2)) (j0 kC (mh lH 0 (eC (.int 2))) (eC (.int 1)))) (jY (my (ke (j0 HR (mh lH 0 (eC (.int 0))) (eC (.int 0)))) (jY (kg (j0 rH (mh lH 0 (eC (.int 0))) (jQ 1)) (.nm 2)) (jY (vD 0 (eC (.int 0)) (j0 wI (mh lH 0 (eC (.int 0))) (jQ 1))) (kf (jQ 2)))) lB) (kf (j0 rH (j0 wI (kT call 11 (jS (kT call 11 (jS (mh lH 0 (eC (.int 1))) (jS (mh lH 0 (eC (.int 2))) jW))) (jS (j0 kC (mh lH 0 (eC (.int 2))) (eC (.int 64))) jW))) (eC (.int 64))) (jQ 1))))
abbrev Jx (call:CW):SW:=jY (kg (kG nH (Fc (jQ 0) lM (kX (jQ 1)))) (.nm 2)) (jY (pd (wz (Fc (jQ 0) (kX (jQ 1)) (kX (eC (.int 63))))) (.tp [3,4]) (vD 2 (j0 rH (jQ 3) (jQ 1)) (j0 kC (mh lH 2 (j0 rH (jQ 3) (jQ 1))) (j0 pi (jQ 4) (j0 kC (jQ 3) (eC (.int 2))))))) (kf (jQ 2)))
abbrev Jw (call:CW):SW:=jY (kg (j0 lH (m7 (jS (eC (.int 2)) (jS (eC (.int 3)) (jS (eC (.int 1000)) (jS (eC (.int 5)) jW))))) (km call 13 0 (jS (eC (.int 4)) jW))) (.nm 2)) (kf (kG mC (lU 3 1 (wy (jQ 1)) (.nm 3) lp (km call 13 0 (jS (jQ 2) jW)))))
abbrev Jv (call:CW):SW:=jY (kg (Fd (ke (j0 HR (km call 13 0 (jS (eC (.int 8)) jW)) (eC (.int 0)))) (km call 13 0 (jS (eC (.int 9)) jW)) (j0 kC (eC (.int 9)) (km call 13 0 (jS (eC (.int 16)) jW)))) (.nm 1)) (kf (km call 15 0 (jS (jQ 1) jW)))
abbrev Ju (call:CW):SW:=jY (kg (kG nH (jQ 1)) (.nm 2)) (jY (pd (wy (j0 kC (eC (.int 1)) (km call 13 0 (jS (eC (.int 3)) jW)))) (.nm 3) (jY (kg (km call 13 0 (jS (j0 kC (kG lC (jQ 2)) (eC (.int 1))) jW)) (.nm 4)) (jY (kg (j0 tL (kG lC (jQ 2)) (j0 kC (j0 kC (jQ 4) (eC (.int 1))) (km call 13 0 (jS (eC (.int 4)) jW)))) (.nm 5)) (jY (kg (sZ (jQ 2) (kX (jQ 4)) (kX (jQ 5))) (.nm 6)) (jY (kg (km call 13 0 (jS (j0 kC (kG lC (jQ 2)) (eC (.int 1))) jW)) (.nm 7)) (jY (kg (km call 13 0 (jS (eC (.int 5)) jW)) (.nm 8)) (my (ke (j0 nW (jQ 8) (eC (.int 0)))) (kg (j0 kC (j0 kC (sZ (jQ 2) lM (kX (jQ 4))) (kG nH (km call 15 0 (jS (j0 kC (eC (.int 1)) (km call 13 0 (jS (eC (.int 3)) jW))) jW)))) (sZ (jQ 2) (kX (jQ 4)) lM)) (.nm 2)) (my (ke (j0 nW (jQ 8) (eC (.int 1)))) (kg (j0 kC (sZ (jQ 2) lM (kX (jQ 4))) (sZ (jQ 2) (kX (jQ 5)) lM)) (.nm 2)) (my (ke (j0 nW (jQ 8) (eC (.int 2)))) (jY (kg (j0 kC (sZ (jQ 2) lM (kX (jQ 4))) (sZ (jQ 2) (kX (jQ 5)) lM)) (.nm 9)) (kg (j0 kC (j0 kC (sZ (jQ 9) lM (kX (jQ 7))) (jQ 6)) (sZ (jQ 9) (kX (jQ 7)) lM)) (.nm 2))) (my (ke (j0 nW (jQ 8) (eC (.int 3)))) (kg (j0 kC (j0 kC (sZ (jQ 2) lM (kX (jQ 7))) (jQ 6)) (sZ (jQ 2) (kX (jQ 7)) lM)) (.nm 2)) (kg (j0 kC (j0 kC (sZ (jQ 2) lM (kX (jQ 4))) (lU 10 1 (nJ (jQ 6)) (.nm 10) lp (j0 rH (j0 kC (jQ 10) (eC (.int 1))) (eC (.int 1000))))) (sZ (jQ 2) (kX (jQ 5)) lM)) (.nm 2)))))))))))) (kf (kG mC (sZ (jQ 2) lM (kX (eC (.int 24)))))))
abbrev Jt (call:CW):SW:=jY (kg (m7 jW) (.nm 2)) (jY (pd (wy (jQ 1)) (.nm 3) (jY (kg (km call 13 0 (jS (eC (.int 8)) jW)) (.nm 4)) (my (Ax (ke (j0 nW (jQ 3) (eC (.int 0)))) (ke (j0 nW (jQ 4) (eC (.int 0))))) (pf (oz tf 2 (km call 16 0 jW))) (my (ke (j0 nW (jQ 4) (eC (.int 1)))) (pf (oz tf 2 (mh lH 2 (km call 13 0 (jS (jQ 3) jW))))) (pf (oz tf 2 (km call 17 0 (jS (mh lH 2 (km call 13 0 (jS (jQ 3) jW))) jW)))))))) (kf (jQ 2)))
abbrev Js (call:CW):SW:=jY (my (ke (j0 nW (km call 13 0 (jS (eC (.int 8)) jW)) (eC (.int 0)))) (kf (j0 kC (eC (.int 7)) (km call 13 0 (jS (j0 DH (jQ 1) (eC (.int 6))) jW)))) lB) (kf (j0 lH (m7 (jS (eC (.int 0)) (jS (eC (.int 1)) (jS (eC (.int 2)) (jS (eC (.int 3)) (jS (eC (.int 4)) (jS (eC (.int 5)) (jS (eC (.int 6)) (jS (eC (.int 4)) (jS (eC (.int 5)) (jS (eC (.int 3)) jW))))))))))) (km call 13 0 (jS (eC (.int 10)) jW))))
abbrev Av (call:CW):SW:=jY (my (ke (kG (wq .list .tuple) (jQ 1))) (jY (my (Ax (ke (j0 yD (kG (mv .list) (jQ 0)) (kG (mv .list) (jQ 1)))) (ke (j0 yD (kG (mv .tuple) (jQ 0)) (kG (mv .tuple) (jQ 1))))) (kf (eC (.bl Ξ))) lB) (kf (qQ (j0 nW (kG lC (jQ 0)) (kG lC (jQ 1))) (kG Dl (lU 2 2 (EJ (jQ 0) (jQ 1)) (.tp [2,3]) lp (kT call 20 (jS (jQ 2) (jS (jQ 3) jW)))))))) lB) (jY (my (Ax (ke (kG lz (jQ 1))) (ke (kG (mv .str) (jQ 1)))) (kf (qQ (j0 nW (jQ 0) (jQ 1)) (j0 nW (kG (mv .str) (jQ 0)) (kG (mv .str) (jQ 1))))) lB) (jY (my (ke (kG (mv .bool) (jQ 1))) (kf (qQ (kG (mv .bool) (jQ 0)) (j0 nW (jQ 0) (jQ 1)))) lB) (kf (qQ (kG (mv .int) (jQ 0)) (qQ (kG Em (kG (mv .bool) (jQ 0))) (j0 nW (jQ 0) (jQ 1)))))))
abbrev FH (call:CW):SW:=jY (kg (eC .non) (.nm 3)) (jY (kg (eC .non) (.nm 4)) (GW 3 4 5 6 xY (my (ke (j0 nW (jQ 1) (eC (.str "rest")))) (kg (kb call 27 0 281 "rest" (jS (j0 lH (jQ 2) (eC (.int 0))) (jS (j0 lH (jQ 2) (eC (.int 1))) jW))) (.nm 3)) (my (ke (j0 nW (jQ 1) (eC (.str "fetch")))) (kg (kb call 28 0 281 "fetch" (jS (j0 lH (jQ 2) (eC (.int 0))) jW)) (.nm 3)) (my (ke (j0 nW (jQ 1) (eC (.str "forget")))) (kg (kb call 38 0 281 "forget" (jS (j0 lH (jQ 2) (eC (.int 0))) jW)) (.nm 3)) (my (ke (j0 nW (jQ 1) (eC (.str "on")))) (kg (kb call 30 0 281 "on_now" (jS (j0 lH (jQ 2) (eC (.int 0))) jW)) (.nm 3)) (kg (kb call 31 0 281 "way_now" (jS (j0 lH (jQ 2) (eC (.int 0))) jW)) (.nm 3)))))) (my (ke (j0 nW (jQ 1) (eC (.str "rest")))) My (my (ke (j0 nW (jQ 1) (eC (.str "fetch")))) (kf (kb call 49 0 281 "fetch" (jS (j0 lH (jQ 2) (eC (.int 0))) jW))) (my (ke (j0 nW (jQ 1) (eC (.str "forget")))) (kf (kb call 50 0 281 "forget" (jS (j0 lH (jQ 2) (eC (.int 0))) jW))) (my (ke (j0 nW (jQ 1) (eC (.str "on")))) (kf (kb call 48 0 281 "on_now" (jS (j0 lH (jQ 2) (eC (.int 0))) jW))) (kf (kb call 46 0 281 "way_now" (jS (j0 lH (jQ 2) (eC (.int 0))) jW)))))))))
abbrev Jr (call:CW):SW:=jY (kg (kG lC (jQ 1)) (.nm 2)) (jY (pd (wy (eC (.int 2))) (.nm 3) (jY (kg (kb call 29 0 281 "makes_now" jW) (.nm 4)) (jY (my (pv (ke (km call 24 4 (jS (kG (DP .lst) (jQ 2)) jW)))) (kf (eC (.bl Ξ))) lB) (pf (oz tf 4 (eC (.int 99))))))) (jY (my (pv (ke (kT call 20 (jS (kb call 36 0 281 "laying_now" jW) (jS (j0 pD (nL (jS (eC .non) jW)) (jQ 2)) jW))))) (kf (eC (.bl Ξ))) lB) (jY (my (pv (ke (kT call 20 (jS (kb call 33 0 281 "room_now" jW) (jS (kG vy (lU 7 1 (nJ (jQ 1)) (.nm 7) lp (j0 kC (eC (.int 1)) (kG lC (jQ 7))))) jW))))) (kf (eC (.bl Ξ))) lB) (jY (pd (nJ (nL (jS (kG HA (eC (.int 1))) (jS (jQ 2) (jS (eC (.int 40)) jW))))) (.nm 5) (pd (nJ (nL (jS (eC (.str "fetch")) (jS (eC (.str "forget")) (jS (eC (.str "on")) (jS (eC (.str "way")) jW)))))) (.nm 6) (my (ke (j0 yD (km call 21 0 (jS (jQ 6) (jS (nL (jS (jQ 5) jW)) jW))) (eC (.str "no make")))) (kf (eC (.bl Ξ))) lB))) (kf (eC (.bl Ω)))))))
abbrev Jq (call:CW):SW:=jY (kg (kT call 14 (jS (jQ 0) (jS (eC (.int 4)) jW))) (.nm 1)) (jY (pd (wy (j0 yF (eC (.int 2)) (kG lC (jQ 1)))) (.nm 2) (jY (kg (kT call 12 (jS (jQ 1) (jS (jQ 2) jW))) (.nm 3)) (jY (vD 3 (eC (.int 1)) (j0 kC (mh lH 3 (eC (.int 1))) (eC (.int 600)))) (jY (kg (km call 18 3 (jS (km call 19 3 (jS (eC (.int 12)) jW)) jW)) (.nm 4)) (jY (kg (kG AR (jQ 4)) (.nm 5)) (jY (kg (sj call 25 281) (.nm 6)) (jY (kg (eC (.int 0)) (.nm 7)) (jY (pd (wz (jQ 4)) (.tp [8,9]) (jY (my (Ax (pv (ke (kT call 20 (jS (kb call 26 6 281 "put" (jS (jQ 9) jW)) (jS (jQ 8) jW))))) (pv (ke (km call 22 6 (jS (sZ (jQ 4) lM (kX (j0 kC (jQ 8) (eC (.int 1))))) jW))))) (kf (eC (.bl Ξ))) lB) (jY (kg (km call 13 3 (jS (j0 kC (jQ 8) (eC (.int 1))) jW)) (.nm 10)) (jY (kg (j0 kC (j0 kC (jQ 7) (eC (.int 1))) (kG lC (j0 lH (jQ 4) (jQ 10)))) (.nm 7)) (jY (my (pv (ke (kT call 20 (jS (kb call 28 6 281 "fetch" (jS (jQ 10) jW)) (jS (nL (jS (j0 lH (jQ 4) (jQ 10)) (jS (j0 kC (eC (.int 1)) (kG lC (j0 lH (jQ 4) (jQ 10)))) jW))) jW))))) (kf (eC (.bl Ξ))) lB) (jY (kg (m7 (jS (kb call 34 6 281 "spent_now" jW) (jS (kb call 31 6 281 "way_now" (jS (jQ 10) jW)) (jS (kb call 30 6 281 "on_now" (jS (jQ 10) jW)) jW)))) (.nm 11)) (my (pv (ke (kT call 20 (jS (jQ 11) (jS (m7 (jS (jQ 7) (jS (nL (jS (jQ 10) jW)) (jS (eC .non) jW)))) jW))))) (kf (eC (.bl Ξ))) lB))))))) (jY (my (Ax (pv (ke (km call 22 6 (jS (jQ 4) jW)))) (Ax (ke (j0 yD (kG AR (jQ 4)) (jQ 5))) (pv (ke (kT call 20 (jS (kb call 34 6 281 "spent_now" jW) (jS (jQ 7) jW))))))) (kf (eC (.bl Ξ))) lB) (jY (kg (sZ (lU 15 1 (nJ (jQ 4)) (.nm 15) (ke (j0 HR (kG lC (jQ 15)) (eC (.int 4)))) (jQ 15)) lM (kX (eC (.int 1)))) (.nm 12)) (jY (pd (nJ (jQ 12)) (.nm 9) (jY (kg (nL (jS (kT call 1 (jS (jQ 9) (jS (j0 pD (nL (jS (nL (jS (eC (.str "keep")) (jS (eC (.int 0)) (jS (kG lC (jQ 9)) jW)))) jW)) (eC (.int 3))) jW))) (jS (sj call 25 281) jW))) (.tp [13,14])) (my (pv (ke (kT call 20 (jS (m7 (jS (kb call 26 14 281 "put" (jS (jQ 13) jW)) (jS (kb call 28 14 281 "fetch" (jS (eC (.int 0)) jW)) jW))) (jS (m7 (jS (eC (.int 0)) (jS (nL (jS (j0 pD (jQ 9) (eC (.int 3))) (jS (j0 kC (eC (.int 1)) (j0 pi (eC (.int 3)) (kG lC (jQ 9)))) jW))) jW))) jW))))) (kf (eC (.bl Ξ))) lB))) (my (Dj (ke (j0 Dt (kG lC (jQ 4)) (eC (.int 7)))) (ke (j0 Dt (kG vy (lU 15 1 (nJ (jQ 4)) (.nm 15) lp (kG lC (jQ 15)))) (eC (.int 40))))) (my (pv (ke (kT call 20 (jS (kb call 35 6 281 "stock_now" jW) (jS (kT call 9 (jS (jQ 4) jW)) jW))))) (kf (eC (.bl Ξ))) lB) lB)))))))))))) (kf (eC (.bl Ω))))
abbrev Jp (call:CW):SW:=jY (my (ke (kG (wq .list .tuple) (jQ 1))) (jY (my (Ax (ke (j0 yD (kG (mv .list) (jQ 0)) (kG (mv .list) (jQ 1)))) (ke (j0 yD (kG (mv .tuple) (jQ 0)) (kG (mv .tuple) (jQ 1))))) (kf (eC (.bl Ξ))) lB) (kf (qQ (j0 nW (kG lC (jQ 0)) (kG lC (jQ 1))) (kG Dl (lU 2 2 (Cj 0 (jQ 1)) (.tp [2,3]) lp (kT call 20 (jS (jQ 2) (jS (jQ 3) jW)))))))) lB) (jY (my (Ax (ke (kG lz (jQ 1))) (ke (kG (mv .str) (jQ 1)))) (kf (qQ (mh nW 0 (jQ 1)) (j0 nW (kG (mv .str) (jQ 0)) (kG (mv .str) (jQ 1))))) lB) (jY (my (ke (kG (mv .bool) (jQ 1))) (kf (qQ (kG (mv .bool) (jQ 0)) (mh nW 0 (jQ 1)))) lB) (kf (qQ (kG (mv .int) (jQ 0)) (qQ (kG Em (kG (mv .bool) (jQ 0))) (mh nW 0 (jQ 1)))))))
abbrev Jo (call:CW):SW:=jY (rB 0 281 "ons" (.dco Φ [] [])) (jY (rB 0 281 "kept" (.dco Φ [] [])) (jY (ym 0 281 "given" (eC (.int 0))) (jY (ym 0 281 "spent" (eC (.int 0))) (rB 0 281 "deeds" (.lst [])))))
abbrev Jn (call:CW):SW:=jY (pf (kb call 40 0 281 "begin" (jS (eC (.str "put")) jW))) (jY (kg (wL 0 281 "given") (.nm 2)) (jY (yn 0 281 "given" (eC (.int 1))) (jY (pf (kb call 42 0 281 "keep" (jS (jQ 2) (jS (eC .non) (jS (kG mC (jQ 1)) jW))))) (kf (jQ 2)))))
abbrev Jm (call:CW):SW:=rC
abbrev Jl (call:CW):SW:=jY (kg (kb call 32 0 281 "thing_now" (jS (jQ 1) jW)) (.nm 2)) (jY (kg (kG vy (lU 4 1 (nJ (vc call 10 0 281 "ons" (jS (jQ 1) jW))) (.nm 4) lp (kb call 43 0 281 "takes" (jS (jQ 4) jW)))) (.nm 3)) (jY (yn 0 281 "spent" (jQ 3)) (kf (nL (jS (jQ 2) (jS (jQ 3) jW))))))
abbrev FC (call:CW):SW:=kf (va 63 0 281 "ons")
abbrev Jk (call:CW):SW:=jY (pf (kb call 41 0 281 "look_for" (jS (jQ 1) jW))) (kf (pb 0 281 "ons" (jQ 1)))
abbrev Jj (call:CW):SW:=jY (pf (kb call 41 0 281 "look_for" (jS (jQ 1) jW))) (kf (vc call 10 0 281 "ons" (jS (jQ 1) jW)))
abbrev Ji (call:CW):SW:=jY (A3 2 3 (kb call 31 0 281 "way_now" (jS (jQ 1) jW))) (jY (kg (pb 0 281 "kept" (jQ 2)) (.nm 4)) (jY (pd (nJ (jQ 3)) (.nm 5) (kg (kT call 1 (jS (jQ 4) (jS (pb 0 281 "kept" (jQ 5)) jW))) (.nm 4))) (kf (jQ 4))))
abbrev Fz (call:CW):SW:=kf (kG vy (xT 0 281 "ons" 1 1 (.nm 1) lp (kb call 43 0 281 "takes" (jS (jQ 1) jW))))
abbrev Fy (call:CW):SW:=kf (wL 0 281 "spent")
abbrev Fx (call:CW):SW:=kf (kT call 9 (jS (lU 1 1 (nJ (kb call 29 0 281 "makes_now" jW)) (.nm 1) lp (kb call 32 0 281 "thing_now" (jS (jQ 1) jW))) jW))
abbrev Jh (call:CW):SW:=jY (kg (kb call 29 0 281 "makes_now" jW) (.nm 1)) (jY (kg (ve 3 2 (wz (jQ 1)) (.tp [3,4]) lp (jQ 4) (jQ 3)) (.nm 2)) (kf (kG mC (lU 3 1 (nJ (jQ 1)) (.nm 3) lp (Fd (ke (kG lz (pb 0 281 "ons" (jQ 3)))) (eC .non) (j0 lH (jQ 2) (pb 0 281 "ons" (jQ 3))))))))
abbrev Jg (call:CW):SW:=rC
abbrev Jf (call:CW):SW:=rC
abbrev Je (call:CW):SW:=rC
abbrev Fw (call:CW):SW:=pf (CZ 0 281 "deeds" (nL (jS (jQ 1) (jS (vb 0 281 "ons") (jS (vb 0 281 "kept") (jS (wL 0 281 "given") jW))))))
abbrev Fv (call:CW):SW:=my (ke (qX 0 281 "ons" (jQ 1))) rC lB
abbrev Jd (call:CW):SW:=jY (yk 0 281 "ons" (jQ 1) (jQ 2)) (yk 0 281 "kept" (jQ 1) (jQ 3))
abbrev Fu (call:CW):SW:=kf (Fd (ke (kG lz (pb 0 281 "ons" (jQ 1)))) (kT call 2 (jS (pb 0 281 "kept" (jQ 1)) jW)) (kT call 3 (jS (pb 0 281 "kept" (jQ 1)) jW)))
abbrev Jc (call:CW):SW:=rC
abbrev fd0:FD:=⟨1,1,Q4,Ξ,Ξ⟩
abbrev Ps:FD:=⟨2,4,Q3,Ξ,Ξ⟩
abbrev LA:FD:=⟨1,1,LY,Ξ,Ξ⟩
abbrev Pq:FD:=⟨1,1,NM,Ξ,Ξ⟩
abbrev Pm:FD:=⟨2,6,QZ,Ξ,Ξ⟩
abbrev Pk:FD:=⟨2,8,QY,Ξ,Ω⟩
abbrev Pj:FD:=⟨4,6,QX,Ξ,Ξ⟩
abbrev Pi:FD:=⟨3,4,QW,Ξ,Ξ⟩
abbrev Ph:FD:=⟨1,1,NL,Ξ,Ξ⟩
abbrev Pg:FD:=⟨1,4,QV,Ξ,Ξ⟩
abbrev IN:FD:=⟨2,4,JA,Ω,Ξ⟩
abbrev IM:FD:=⟨2,3,Jz,Ξ,Ξ⟩
abbrev IL:FD:=⟨2,3,Jy,Ξ,Ω⟩
abbrev E6:FD:=⟨2,3,FK,Ω,Ξ⟩
abbrev IK:FD:=⟨2,5,Jx,Ξ,Ω⟩
abbrev IJ:FD:=⟨2,3,Jw,Ω,Ξ⟩
abbrev II:FD:=⟨1,2,Jv,Ω,Ξ⟩
abbrev IH:FD:=⟨2,10,Ju,Ω,Ξ⟩
abbrev IG:FD:=⟨2,5,Jt,Ω,Ω⟩
abbrev IF:FD:=⟨2,2,Js,Ω,Ξ⟩
abbrev xO:FD:=⟨2,2,Av,Ξ,Ξ⟩
abbrev IE:FD:=⟨3,7,FH,Ω,Ξ⟩
abbrev ID:FD:=⟨2,7,Jr,Ω,Ξ⟩
abbrev IC:FD:=⟨1,15,Jq,Ξ,Ξ⟩
abbrev IB:FD:=⟨2,2,Jp,Ω,Ξ⟩
abbrev IA:FD:=⟨1,1,Jo,Ω,Ξ⟩
abbrev Iz:FD:=⟨2,3,Jn,Ω,Ξ⟩
abbrev Pr:FD:=⟨3,5,Jm,Ω,Ξ⟩
abbrev Iy:FD:=⟨2,4,Jl,Ω,Ξ⟩
abbrev Ix:FD:=⟨1,1,FC,Ω,Ω⟩
abbrev Iw:FD:=⟨2,2,Jk,Ω,Ξ⟩
abbrev Iu:FD:=⟨2,2,Jj,Ω,Ξ⟩
abbrev Ir:FD:=⟨2,6,Ji,Ω,Ξ⟩
abbrev Iq:FD:=⟨1,1,Fz,Ω,Ξ⟩
abbrev Ip:FD:=⟨1,1,Fy,Ω,Ξ⟩
abbrev Io:FD:=⟨1,1,Fx,Ω,Ξ⟩
abbrev Im:FD:=⟨1,3,Jh,Ω,Ξ⟩
abbrev Pp:FD:=⟨1,1,Jg,Ω,Ξ⟩
abbrev Po:FD:=⟨2,4,Jf,Ω,Ξ⟩
abbrev Pn:FD:=⟨1,1,Je,Ω,Ξ⟩
abbrev Il:FD:=⟨2,2,Fw,Ω,Ξ⟩
abbrev Ik:FD:=⟨2,2,Fv,Ω,Ξ⟩
abbrev Ij:FD:=⟨4,4,Jd,Ω,Ξ⟩
abbrev Ii:FD:=⟨2,2,Fu,Ω,Ξ⟩
abbrev Pl:FD:=⟨2,6,Jc,Ω,Ξ⟩
abbrev NK (call:CW):SW:=my (ke (qX 0 281 "ons" (jQ 1))) (kf (PQ (HD (jQ 1) HC) 96)) My
abbrev OG:FD:=⟨2,2,NK,Ω,Ξ⟩
abbrev NJ (call:CW):SW:=kf (kb call 45 0 281 "look_for" (jS (jQ 1) jW))
abbrev OF:FD:=⟨2,2,NJ,Ω,Ξ⟩
abbrev NI (call:CW):SW:=kf (kb call 46 0 281 "way_now" (jS (jQ 1) jW))
abbrev OE:FD:=⟨2,6,NI,Ω,Ξ⟩
abbrev NH (call:CW):SW:=kf (kb call 45 0 281 "look_for" (jS (jQ 1) jW))
abbrev OD:FD:=⟨2,2,NH,Ω,Ξ⟩
abbrev NF (call:CW):SW:=kf (kb call 47 0 281 "thing_now" (jS (jQ 1) jW))
abbrev OC:FD:=⟨2,4,NF,Ω,Ξ⟩
abbrev NE (call:CW):SW:=kf (kb call 45 0 281 "look_for" (jS (jQ 1) jW))
abbrev OB:FD:=⟨2,4,NE,Ω,Ξ⟩
abbrev tb:List FD:=[fd0,Ps,LA,Pq,Pm,Pk,Pj,Pi,Ph,Pg,IN,IM,IL,E6,IK,IJ,II,IH,IG,IF,xO,IE,ID,IC,IB,IA,Iz,Pr,Iy,Ix,Iw,Iu,Ir,Iq,Ip,Io,Im,Pp,Po,Pn,Il,Ik,Ij,Ii,Pl,OG,OF,OE,OD,OC,OB]
abbrev K8 (a k:Int):Int:=((a % 2147483629+k*k*7919+11)*48271 % 2147483647)*((a % 2147483629+k*k*7919+11)*48271 % 2147483647) % 1999999973
def zD (x:Int):small (x % 2147483647)=Ω:=by
 have:=Int.emod_nonneg x (show (2147483647:Int)≠0 by decide)
 have:=Int.emod_lt_of_pos x (show (0:Int)<2147483647 by decide)
 simp![small,decide_eq_true_eq];lia
def rj {i:Int}(h:0<=i)(h':i<2 ^ 60):small i=Ω:=by
 simp![small,decide_eq_true_eq];lia
def kZ {i:Int}(h:0<=i)(h':i<2 ^ 60):mJ i=Ω:=by
 simp![mJ,decide_eq_true_eq];lia
def HB (d:Nat) (a k:Int)(hk:small k=Ω)(Q:FV×FV->Prop):callW tb (d+1) 11 [.int a,.int k] Q↔Q (.int (K8 a k),.non):=by
 let h2:small 48271=Ω:=(·)
 let h3:small 7919=Ω:=(·)
 rw[sI (fd:=IM) rfl rfl]
 simp[IM,Jz,h2,h3,hk,zD,K8]
abbrev Lf (n:Int)(v:FV):Prop:=∃ a b c,v=.lst [.int a,.int b,.int c]/\0<=c/\c<=n
def Lf.mono {n m:Int}{v:FV}(h:Lf n v)(k:n<=m):Lf m v:=by
 let(a,b,c,h,h1,h2):=h
 exact⟨a,b,c,h,h1,⋯⟩
def kQ (d:Nat){many n:Int}{v:FV}{Q:FV×FV->Prop}(hs:Lf n v)(hn:n<1000000)(h1:0<many)(h2:many<1073741824)
  (q:∀ u v',0<=u->u<many->Lf (n+1) v'->Q (.int u,v')):callW tb (d+2) 13 [v,.int many] Q:=by
 let(a,b,c,rfl,h3,h4):=hs
 exact jZ (fd:=E6) rfl rfl ?_
 let s1:small (c+1)=Ω:=rj ⋯ ⋯
 let s2:small (c+1+64)=Ω:=rj ⋯ ⋯
 by_cases ha:0<a
 ·simp[E6,FK,ixN,ha,h1,h2]
  exact q _ _ (Int.emod_nonneg _ ⋯) (Int.emod_lt_of_pos _ h1) ⟨_,_,_,rfl,⋯,⋯⟩
 ·simp[E6,FK,ixN,ha,h1,h2,HB,s1,s2]
  exact q _ _ (Int.emod_nonneg _ ⋯) (Int.emod_lt_of_pos _ h1) ⟨_,_,_,rfl,⋯,⋯⟩
mutual
noncomputable def dF:D->FV
 | .non=>.non
 | .bl b=>.bl b
 | .int i=>.int i
 | .str x=>.str x
 | .tup xs=>.tup (dFs xs)
 | .lst xs=>.lst (dFs xs)
noncomputable def dFs:List D->List FV
 | []=>[]
 | x :: r=>dF x :: dFs r
end
def vg:∀ xs:List D,dFs xs=xs.map dF
 | []=>rfl
 | x :: r=>by show dF x :: dFs r=_;rw[vg r];rfl
mutual
noncomputable def C0:D->Nat
 | .tup xs=>deps xs+1
 | .lst xs=>deps xs+1
 | .non=>0|.bl _=>0|.int _=>0|.str _=>0
noncomputable def deps:List D->Nat
 | []=>0
 | x :: r=>max (C0 x) (deps r)
end
mutual
theorem Gs:∀ (x:D) (n:Nat),C0 x<n->fD n (dF x)=Ψ x
 | .non,0,h=>by lia
 | .non,n+1,h=>rfl
 | .bl _,0,h=>by lia
 | .bl _,n+1,h=>rfl
 | .int _,0,h=>by lia
 | .int _,n+1,h=>rfl
 | .str _,0,h=>by lia
 | .str _,n+1,h=>rfl
 | .tup xs,0,h=>by lia
 | .tup xs,n+1,h=>by show (ol (fD n) (dFs xs)).map _=_;rw[fDs_dF xs n (Nat.lt_of_succ_lt_succ h)];rfl
 | .lst xs,0,h=>by lia
 | .lst xs,n+1,h=>by show (ol (fD n) (dFs xs)).map _=_;rw[fDs_dF xs n (Nat.lt_of_succ_lt_succ h)];rfl
theorem fDs_dF:∀ (xs:List D) (n:Nat),deps xs<n->ol (fD n) (dFs xs)=Ψ xs
 | [],n,h=>rfl
 | x :: r,n,h=>by
  let h:max (C0 x) (deps r)<n:=h
  show ((fD n (dF x)).bind λy=>(ol (fD n) (dFs r)).map (y :: ·))=_
  rw[Gs x n ⋯,fDs_dF r n ⋯];rfl
end
abbrev Vl (k p:Nat)(x:FV):Prop:=∃ d,x=dF d/\C0 d<=p/\d.fit=Ω/\d.wt<=k
def Vl.mono {k k' p p':Nat}{x:FV}(h:Vl k p x)(hk:k<=k')(hp:p<=p'):Vl k' p' x:=by
 let(d,e,h1,h2,h3):=h
 exact⟨d,e,⋯,h2,⋯⟩
def Vl.all {k p:Nat}:∀ {xs:List FV},(∀ x∈xs,Vl k p x)->∃ ds:List D,xs=dFs ds/\deps ds<=p/\D.fits ds=Ω/\D.wts ds<=ds.length*(k+1)/\ds.length=xs.length
 | [],_=>⟨[],rfl,iI _,rfl,by simp[D.wts],rfl⟩
 | x :: r,h=>by
  let(d,e,h1,h2,h3):=h x (cQ ..)
  let(ds,e',h1',h2',h3',h4'):=Vl.all (xs:=r) λy hy=>h y (bT _ hy)
  exact⟨d :: ds,by rw[e,e'];rfl,Nat.max_le.mpr ⟨h1,h1'⟩,by show (_ && _)=Ω;rw[h2,h2'];rfl,?_,by simp[h4']⟩
  simp![D.wts,eK,Nat.add_mul,Nat.one_mul];lia
def Vl.tup {k p m:Nat}{xs:List FV}(h:∀ x∈xs,Vl k p x)(hl:xs.length<=m):Vl (m*(k+1)) (p+1) (.tup xs):=by
 let(ds,e,h1,h2,h3,h4):=Vl.all h
 exact⟨.tup ds,by rw[e];rfl,Nat.succ_le_succ ⋯,h2,?_⟩
 simp![D.wt]
 exact ik h3 (Nat.mul_le_mul_right _ ⋯)
def Vl.lst {k p m:Nat}{xs:List FV}(h:∀ x∈xs,Vl k p x)(hl:xs.length<=m):Vl (m*(k+1)) (p+1) (.lst xs):=by
 let(ds,e,h1,h2,h3,h4):=Vl.all h
 exact⟨.lst ds,by rw[e];rfl,Nat.succ_le_succ ⋯,h2,?_⟩
 simp![D.wt]
 exact ik h3 (Nat.mul_le_mul_right _ ⋯)
def Vl.int {i:Int}(h:-(2 ^ 40)<i)(h':i<2 ^ 40):Vl 41 0 (.int i):=⟨.int i,rfl,iK _,decide_eq_true ⋯,by simp![D.wt];rw[if_pos ⟨h,h'⟩];exact iK _⟩
def Vl.non:Vl 0 0 .non:=⟨.non,rfl,iK _,rfl,iK _⟩
def Fh (xs:List FV)(lo hi:Option Int):(lJ xs lo hi).length<=xs.length:=by
 unfold lJ;rw[eI,eJ];lia
def GN {k p:Nat}{x:FV}(h:Vl k p x)(hk:k<=big)(hp:p<40):∃ y,AR x=Ψ y/\∀ R:Bool->Prop,wp (wJ y y) R=R Ω:=by
 let(d,rfl,h1,h2,h3):=h
 let big':∀ e:D,C0 e<40->e.fit=Ω->e.wt<=big->(fD kU (dF e)).bind (λd=>if d.fit=Ω/\d.wt<=big then Ψ (FV.shn d) else Φ)=Ψ (.shn e):=λe h1 h2 h3=>by
  rw[Gs e kU h1]
  show (if e.fit=Ω/\e.wt<=big then Ψ (FV.shn e) else Φ)=_
  rw[if_pos ⟨h2,h3⟩]
 cases d with
 | non=>exact⟨_,rfl,λR=>∅⟩
 | bl b=>exact⟨_,rfl,λR=>∅⟩
 | str x=>exact⟨_,rfl,λR=>∅⟩
 | int i =>
  replace h2:=of_decide_eq_true h2
  exact⟨_,(show (if -(2 ^ 150)<i/\i<2 ^ 150 then Ψ (FV.str (toString i)) else Φ)=Ψ (.str (toString i)) by rw[if_pos h2]),λR=>∅⟩
 | tup xs=>exact⟨_,big' (.tup xs) ⋯ h2 ⋯,λR=>∅⟩
 | lst xs=>exact⟨_,big' (.lst xs) ⋯ h2 ⋯,λR=>∅⟩
def sr {α:Type}(xs:List α) (n:Nat):lJ xs (Ψ (n:Int)) Φ=xs.drop n:=by
 let h:sIx xs.length 0 (Ψ (n:Int))=min n xs.length:=by simp![sIx];rw[if_neg ⋯];simp
 unfold lJ
 rw[h]
 show (xs.drop (min n xs.length)).take (xs.length-min n xs.length)=_
 by_cases hn:n<=xs.length
 ·rw[Nat.min_eq_left hn,br ∅]
 ·rw[Nat.min_eq_right ⋯,bv (iK _),bv ⋯];simp
def vh {α:Type}(xs:List α) (n:Nat):lJ xs Φ (Ψ (n:Int))=xs.take n:=by
 let h:sIx xs.length xs.length (Ψ (n:Int))=min n xs.length:=by simp![sIx];rw[if_neg ⋯];simp
 unfold lJ
 rw[h]
 show (xs.drop 0).take (min n xs.length-0)=_
 rw[gj,Nat.sub_zero,List.take_eq_take_iff];lia
def uj:∀ xs:List D,xs.length<=D.wts xs
 | []=>iK _
 | x :: r=>by have:=uj r;simp![D.wts,eK];lia
def so {x:D}:∀ {xs:List D},x∈xs->C0 x<=deps xs
 | [],h=>by cases h
 | y :: r,h=>by
  simp![deps]
  rcases gM.mp h with rfl|h
  ·lia
  ·have:=so h;lia
def ui {x:D}:∀ {xs:List D},x∈xs->x.wt<=D.wts xs
 | [],h=>by cases h
 | y :: r,h=>by
  simp![D.wts]
  rcases gM.mp h with rfl|h
  ·lia
  ·have:=ui h;lia
abbrev Cel (xs:List FV):Prop:=∀ x∈xs,∃ i,x=.int i/\0<=i/\i<1000
def sD (d:Nat){m:Nat}{n:Int}{v:FV}{Q:FV×FV->Prop}(hs:Lf n v)(h0:0<=n)(hn:n<10000)(hm:m<=30)(q:∀ xs v',xs.length=m->Cel xs->Lf (n+1+m) v'->Q (.tup xs,v')):callW tb (d+3) 15 [v,.int m] Q:=by
 exact jZ (fd:=IJ) rfl rfl ?_
 simp[IJ,Jw,big]
 exact kQ d hs ⋯ (·) (·) λu v1 u0 u1 l1=>?_
 simp
 exact vo u0 u1 ?_
 intro f hf
 obtain⟨k,rfl,k0,k1⟩:∃ k:Int,f=.int k/\0<k/\k<=1000:=by
  simp at hf
  rcases hf with rfl|rfl|rfl|rfl<;>exact⟨_,rfl,(·),(·)⟩
 exact⟨kZ ⋯ ⋯,?_⟩
 rw[mQ]
 exact⟨by simp;lia,?_⟩
 exact tY (f:=λi:Nat=>FV.int i) (I:=λds Z8 L=>∃ v',L=[Ψ v',Ψ (.int m),Ψ (.int k)]/\Lf (n+1+ds.length) v'/\Z8.length=ds.length/\Cel Z8) (i7 m) (i7 m) [] [] _ rfl ⟨v1,rfl,by simpa using l1,rfl,by simp[Cel]⟩ ?_ ?_
 ·rintro ds x r Z8 L K e ⟨v',rfl,l3,hl,hv⟩ kk
  let hd:ds.length<=30:=by have:=congrArg iL e;simp at this;lia
  simp
  exact kQ d l3 ⋯ ⋯ ⋯ λw v2 w0 w1 l2=>?_
  simp
  exact kk _ _ ⟨v2,rfl,l2.mono (by simp;lia),by simp[hl],?_⟩
  intro z hz
  rcases fA.mp hz with hz|hz
  ·exact hv z hz
  ·simp at hz;exact⟨w,hz,w0,⋯⟩
 ·rintro ys L ⟨v',rfl,l3,hl,hv⟩
  simp at hl l3
  simp
  exact q ys v' hl hv l3
def AI (d:Nat){n:Int}{v:FV}{Q:FV×FV->Prop}(hs:Lf n v)(h0:0<=n)(hn:n<9000)(q:∀ xs v',xs.length<=24->Cel xs->Lf (n+30) v'->Q (.tup xs,v')):callW tb (d+4) 16 [v] Q:=by
 exact jZ (fd:=II) rfl rfl ?_
 simp[II,Jv,big]
 exact kQ (d+1) hs ⋯ (·) (·) λu v1 u0 u1 l1=>?_
 simp
 exact mX (λh=>?_) (λh=>?_)
 ·exact kQ (d+1) l1 ⋯ (·) (·) λw v2 w0 w1 l2=>?_
  simp
  let(m,rfl):=Int.eq_ofNat_of_zero_le w0
  exact sD d l2 ⋯ ⋯ ⋯ λxs v' hl hc l3=>q xs v' ⋯ hc (l3.mono ⋯)
 ·exact kQ (d+1) l1 ⋯ (·) (·) λw v2 w0 w1 l2=>?_
  simp
  let(m,rfl):=Int.eq_ofNat_of_zero_le w0
  rw[show (9+(m:Int))=((9+m:Nat):Int) by simp]
  exact sD d l2 ⋯ ⋯ ⋯ λxs v' hl hc l3=>q xs v' ⋯ hc (l3.mono (by simp;lia))
def oN:∀ xs:List FV,lT xs xs=xs.map λx=>.tup [x,x]
 | []=>rfl
 | x :: r=>by rw[gN,<- oN r];rfl
def DL:∀ (p d:Nat){x:D}{Q:FV×FV->Prop},C0 x<=p->p<39->x.wt<=big->Q (.bl Ω,.non)->callW tb (d+p+1) 20 [dF x,dF x] Q:=by
 intro p
 induction p with
 | zero =>
  intro d x Q hx hp hw q
  exact jZ (fd:=xO) rfl rfl ?_
  cases x with
  | tup xs=>simp[C0] at hx
  | lst xs=>simp[C0] at hx
  | _=>simp[xO,Av,dF];exact q
 | succ p ih =>
  intro d x Q hx hp hw q
  exact jZ (fd:=xO) rfl rfl ?_
  cases x with
  | tup xs =>
   simp![C0] at hx
   simp![D.wt] at hw
   let hl:=uj xs
   simp[xO,Av,dF]
   rw[oN,vg,iw]
   exact⟨by simp;lia,?_⟩
   exact kY (g:=λ_=>.bl Ω) xs [] (λx hx' K k=>?_) ?_
   ·have:=so hx'
    have:=ui hx'
    simp
    exact ih d ⋯ ⋯ ⋯ (by simpa using k)
   ·rw[fw,show (xs.map λ_=>FV.bl Ω)=xs.map λx=>FV.bl ((λ_=>Ω) x) from rfl,oU]
    simp
    rw[show (xs.all λ_=>Ω)=Ω by simp];exact q
  | lst xs =>
   simp![C0] at hx
   simp![D.wt] at hw
   let hl:=uj xs
   simp[xO,Av,dF]
   rw[oN,vg,iw]
   exact⟨by simp;lia,?_⟩
   exact kY (g:=λ_=>.bl Ω) xs [] (λx hx' K k=>?_) ?_
   ·have:=so hx'
    have:=ui hx'
    simp
    exact ih d ⋯ ⋯ ⋯ (by simpa using k)
   ·rw[fw,show (xs.map λ_=>FV.bl Ω)=xs.map λx=>FV.bl ((λ_=>Ω) x) from rfl,oU]
    simp
    rw[show (xs.all λ_=>Ω)=Ω by simp];exact q
  | _=>simp[xO,Av,dF];exact q
def nA (d:Nat){k p:Nat}{x:FV}{Q:FV×FV->Prop}(h:Vl k p x)(hp:p<39)(hk:k<=big)(q:Q (.bl Ω,.non)):callW tb (d+p+1) 20 [x,x] Q:=by
 let(e,rfl,h1,h2,h3):=h
 exact DL p d h1 hp ⋯ q
set_option genInjectivity true in
inductive Pz where|keep (a n:Nat)|put (xs:List Int)
set_option genInjectivity true in
inductive Cz where|keep (i:Nat)|put (x:Int)
abbrev Pz.enc:Pz->FV|.keep a n=>.tup [.str "keep",.int a,.int n]|.put xs=>.tup [.str "put",.tup (xs.map .int)]
abbrev Pz.ok:Pz->Prop|.keep _ n=>1<=n|.put xs=>xs≠[]
abbrev Pz.sz:Pz->Nat|.keep _ n=>n|.put xs=>xs.length
abbrev Pz.rows:Pz->List Cz|.keep a n=>(List.range' a n).map .keep|.put xs=>xs.map .put
abbrev lA (ps:List Pz):List Cz:=ps.flatMap Pz.rows
def Pz.rows_len (p:Pz):p.rows.length=p.sz:=by cases p<;>simp[Pz.rows,Pz.sz]
def Pz.ok_sz {p:Pz}(h:p.ok):1<=p.sz:=by
 cases p with
 | keep=>exact h
 | put xs=>cases xs with
  | nil=>exact absurd rfl h
  | cons=>simp[Pz.sz]
@[simp] theorem tD:lA []=[]:=rfl
@[simp] theorem nB (p:Pz)(ps:List Pz):lA (p :: ps)=p.rows++lA ps:=rfl
@[simp] theorem qd (ps qs:List Pz):lA (ps++qs)=lA ps++lA qs:=by simp[lA]
def zI {ps:List Pz}(h:∀ p∈ps,p.ok):ps.length<=(lA ps).length:=by
 induction ps with
 | nil=>simp
 | cons p r ih =>
  have:=ih λq hq=>h q (bT _ hq)
  have:=Pz.ok_sz (h p cQ)
  simp[Pz.rows_len];lia
abbrev Cz.ev (old:List Int):Cz->Int|.put x=>x|.keep i=>old.getD i 0
abbrev Cz.fine (n:Nat):Cz->Prop|.put x=>0<=x/\x<1000|.keep i=>i<n
def qo {α:Type}(d:α):∀ (n a:Nat)(own:List α),a+n<=own.length->(List.range' a n).map (λi=>own.getD i d)=(own.drop a).take n
 | 0,a,own,h=>by simp
 | n+1,a,own,h=>by
  rw[List.range'_succ,gN,qo d n (a+1) own ⋯,List.drop_eq_getElem_cons (show a<own.length by lia),List.take_succ_cons]
  simp[jc,aV (show a<own.length by lia)]
def yX {old:List Int}{a n:Nat}(h:a+n<=old.length):(Pz.keep a n).rows.map (Cz.ev old)=(old.drop a).take n:=by
 rw[<- qo 0 n a old h];simp[Pz.rows,Cz.ev,Function.comp_def]
def CV (old xs:List Int):(Pz.put xs).rows.map (Cz.ev old)=xs:=by
 simp[Pz.rows,Cz.ev,Function.comp_def]
def Ez {a n m:Nat}(hn:1<=n)(h:∀ c∈(Pz.keep a n).rows,c.fine m):a+n<=m:=by
 have:Cz.keep (a+(n-1))∈(Pz.keep a n).rows:=by
  simp![Pz.rows,ir]
  exact⟨_,List.mem_range'_1.mpr ⟨⋯,⋯⟩,rfl⟩
 have:=h _ this
 simp![Cz.fine] at this;lia
def qY {α:Type}(xs:List α) (i t:Nat):lJ xs (Ψ (i:Int)) (Ψ ((i:Int)+(t:Int)))=(xs.drop i).take t:=by
 let h1:sIx xs.length 0 (Ψ (i:Int))=min i xs.length:=by simp![sIx];rw[if_neg ⋯];simp
 let h2:sIx xs.length xs.length (Ψ ((i:Int)+(t:Int)))=min (i+t) xs.length:=by simp![sIx];rw[if_neg ⋯];congr 1
 unfold lJ
 rw[h1,h2]
 by_cases hi:i<=xs.length
 ·rw[Nat.min_eq_left hi,List.take_eq_take_iff,eJ];lia
 ·rw[Nat.min_eq_right (show xs.length<=i by lia),bv (iK _),bv ⋯];simp
def yH (d:Nat)(p:Pz)(Q:FV×FV->Prop):callW tb (d+1) 8 [p.enc] Q↔Q (.int p.sz,.non):=by
 rw[sI (fd:=Ph) rfl rfl]
 cases p<;>simp[Ph,NL,Pz.enc,Pz.sz]
abbrev Fine (n:Nat)(ps:List Pz):Prop:=(∀ p∈ps,p.ok)/\∀ c∈lA ps,c.fine n
def Fine.app {n:Nat}{ps qs:List Pz}(h:Fine n (ps++qs)):Fine n ps/\Fine n qs:=by
 let(h1,h2):=h
 rw[qd] at h2
 exact⟨⟨λp hp=>h1 p (bU _ hp),λc hc=>h2 c (bU _ hc)⟩,⟨λp hp=>h1 p (bH _ hp),λc hc=>h2 c (bH _ hc)⟩⟩
def Fine.cons {n:Nat}{p:Pz}{ps:List Pz}(h:Fine n (p :: ps)):p.ok/\(∀ c∈p.rows,c.fine n)/\Fine n ps:=by
 let(h1,h2):=h
 rw[nB] at h2
 exact⟨h1 p cQ,λc hc=>h2 c (bU _ hc),λp hp=>h1 p (bT _ hp),λc hc=>h2 c (bH _ hc)⟩
def Fine.keep {n a m:Nat}{ps:List Pz}(h:Fine n (.keep a m :: ps)):a+m<=n:=Ez h.cons.1 h.cons.2.1
def xX (d:Nat){old:List Int}{ps:List Pz}{Q:FV×FV->Prop}(hf:Fine old.length ps)(hb:(lA ps).length<=1000)(q:Q (.tup (((lA ps).map (Cz.ev old)).map .int),.non)):callW tb (d+1) 1 [.tup (old.map .int),.tup (ps.map Pz.enc)] Q:=by
 exact jZ (fd:=Ps) rfl rfl ?_
 simp[Ps,Q3,big]
 exact mH (f:=Pz.enc) (I:=λds L=>∃ a,L=[Ψ (.tup (old.map .int)),Ψ (.tup (ps.map Pz.enc)),Ψ (.lst (((lA ds).map (Cz.ev old)).map .int)),a]) ps ps [] _ rfl ⟨_,rfl⟩ ?_ ?_
 ·rintro ds x r L K e ⟨a,rfl⟩ k
  let hf':Fine old.length (ds++x :: r):=e ▸ hf
  let hlen:(lA ds).length+x.sz<=1000:=by rw[e] at hb;simp[Pz.rows_len] at hb;lia
  cases x with
  | keep a n =>
   let ha:=hf'.app.2.keep
   simp![Pz.sz] at hlen
   simp[Pz.enc,qY,big]
   exact⟨⋯,k _ ⟨Ψ (Pz.keep a n).enc,?_⟩⟩
   rw[qd,nB,tD,fH,List.map_append,yX ha]
   simp[Pz.enc,List.map_drop,List.map_take]
  | put xs =>
   simp![Pz.sz] at hlen
   simp[Pz.enc,big]
   exact⟨⋯,k _ ⟨Ψ (Pz.put xs).enc,?_⟩⟩
   rw[qd,nB,tD,fH,List.map_append,CV]
   simp[Pz.enc]
 ·rintro L ⟨a,rfl⟩
  simp
  simpa using q
def Cel.ints {xs:List FV}(h:Cel xs):∃ ns:List Int,xs=ns.map .int/\∀ n∈ns,0<=n/\n<1000:=by
 induction xs with
 | nil=>exact⟨[],rfl,∅⟩
 | cons x r ih =>
  let(i,rfl,h0,h1):=h x cQ
  let(ns,rfl,hn):=ih λy hy=>h y (bT _ hy)
  exact⟨i :: ns,rfl,?_⟩
  intro n hn'
  rcases gM.mp hn' with rfl|hn'
  ·exact⟨h0,h1⟩
  ·exact hn n hn'
abbrev nU:List Int->List Int->Nat
 | a :: r,x :: w=>if a=x then nU r w+1 else 0
 | _,_=>0
abbrev pU:List Int->List Int->Nat
 | [],_=>0
 | a :: r,w=>max (nU (a :: r) w) (pU r w)
abbrev Ds (old:List Int):List Int->List Nat×Nat
 | []=>([0],0)
 | x :: w =>
  let t:=Ds old w
  let s:=if pU old (x :: w)=0 then 2+t.2 else min (2+t.2) (2+t.1.getD (pU old (x :: w)-1) 0)
  (s :: t.1,min s (1+t.2))
abbrev sz (old w:List Int):Nat:=(Ds old w).1.headD 0
abbrev po (old w:List Int):Nat:=(Ds old w).2
def uR:∀ o w:List Int,nU o w<=o.length/\nU o w<=w.length
 | [],w=>by simp[nU]
 | a :: r,[]=>by simp[nU]
 | a :: r,x :: w=>by
  have:=uR r w
  simp![nU,eK];split<;>lia
def wj:∀ o w:List Int,o.take (nU o w)=w.take (nU o w)
 | [],w=>by simp[nU]
 | a :: r,[]=>by simp[nU]
 | a :: r,x :: w=>by
  simp![nU];split
  ·rename_i h;subst h;simp[wj r w]
  ·simp
def wm:∀ (m:Nat)(o w:List Int),m<=nU o w->(m<nU o w↔m<o.length/\m<w.length/\o[m]?=w[m]?)
 | m,[],w,h=>by simp[nU]
 | m,a :: r,[],h=>by simp[nU]
 | 0,a :: r,x :: w,h=>by simp![nU];split<;>simp_all
 | m+1,a :: r,x :: w,h=>by
  simp![nU] at h ⊢
  split at h
  ·rename_i e
   have:=wm m r w ⋯
   simp![e,if_true,eK,List.getElem?_cons_succ,Nat.add_lt_add_iff_right];exact this
  ·lia
def xG:∀ (old w:List Int),0<pU old w->∃ a,a<old.length/\pU old w=nU (old.drop a) w
 | [],w,h=>by simp[pU] at h
 | b :: r,w,h=>by
  simp![pU] at h ⊢
  by_cases hc:pU r w<=nU (b :: r) w
  ·exact⟨0,∅,by simp![gj];lia⟩
  ·let(a,h1,h2):=xG r w ⋯
   exact⟨a+1,by simp;lia,by simp![List.drop_succ_cons];lia⟩
def BQ (old w:List Int):pU old w<=w.length:=by
 by_cases h:0<pU old w
 ·obtain⟨a,-,e⟩:=xG old w h
  have:=(uR (old.drop a) w).2;lia
 ·lia
def yd (old:List Int):∀ w,(Ds old w).1.length=w.length+1
 | []=>rfl
 | x :: w=>by simp[Ds,yd old w]
def uw (old:List Int):∀ (w:List Int) (i:Nat),i<=w.length->(Ds old w).1[i]?=Ψ (sz old (w.drop i))
 | [],i,h=>by
  have:i=0:=by simpa using h
  subst this;rfl
 | x :: w,0,h=>by simp[sz,Ds]
 | x :: w,i+1,h=>by
  have:=uw old w i (by simpa using h)
  simpa[Ds] using this
def ux (old:List Int):sz old []=0:=rfl
def Bl (old:List Int):po old []=0:=rfl
def qR (old:List Int) (x:Int)(w:List Int):sz old (x :: w)=if pU old (x :: w)=0 then 2+po old w else min (2+po old w) (2+sz old ((x :: w).drop (pU old (x :: w)))):=by
 let hl:=BQ old (x :: w)
 simp![sz,Ds,List.headD_cons,po]
 by_cases h:pU old (x :: w)=0
 ·simp![h,if_true]
 ·simp![h,if_false]
  let e:=uw old w (pU old (x :: w)-1) (by simp at hl;lia)
  obtain⟨k,hk⟩:∃ k,pU old (x :: w)=k+1:=⟨pU old (x :: w)-1,⋯⟩
  rw[hk] at e ⊢
  simp![Nat.add_sub_cancel] at e ⊢
  simp[jc,e,sz]
def qT (old:List Int) (x:Int)(w:List Int):po old (x :: w)=min (sz old (x :: w)) (1+po old w):=rfl
def F8 (old:List Int):∀ (w:List Int) (j:Nat),j<=w.length->po old w<=j+sz old (w.drop j)
 | [],j,h=>by simp[Bl]
 | x :: w,0,h=>by rw[qT];simp![gj];lia
 | x :: w,j+1,h=>by
  have:=F8 old w j (by simpa using h)
  rw[qT,List.drop_succ_cons];lia
def F9 (old:List Int):∀ w:List Int,∃ j,j<=w.length/\po old w=j+sz old (w.drop j)
 | []=>⟨0,∅,rfl⟩
 | x :: w=>by
  let(j,h1,h2):=F9 old w
  rw[qT]
  by_cases h:sz old (x :: w)<=1+po old w
  ·exact⟨0,∅,by simp![gj];lia⟩
  ·exact⟨j+1,by simp;lia,by rw[List.drop_succ_cons];lia⟩
def GJ (old:List Int){w:List Int}{k:Nat}(h1:1<=k)(h2:k<=w.length):sz old w<=1+k+sz old (w.drop k):=by
 cases w with
 | nil=>simp at h2;lia
 | cons x w =>
  obtain⟨j,rfl⟩:∃ j,k=j+1:=⟨k-1,⋯⟩
  have:=F8 old w j (by simpa using h2)
  rw[qR,List.drop_succ_cons];split<;>lia
abbrev Pz.cost:Pz->Nat|.keep _ _=>2|.put xs=>1+xs.length
abbrev pS (ps:List Pz):Nat:=(ps.map Pz.cost).sum
@[simp] theorem JZ:pS []=0:=rfl
@[simp] theorem sv (p:Pz)(ps:List Pz):pS (p :: ps)=p.cost+pS ps:=by simp[pS]
abbrev n5 (P:Nat->Bool):Nat->Nat->Option Nat
 | 0,_=>Φ
 | n+1,i=>if P i=Ω then Ψ i else n5 P n (i+1)
def pY {P:Nat->Bool}{k:Nat}:∀ {n i:Nat},i<=k->k<i+n->(∀ j,i<=j->j<k->P j=Ξ)->P k=Ω->n5 P n i=Ψ k
 | 0,i,h1,h2,_,_=>by lia
 | n+1,i,h1,h2,h3,h4=>by
  by_cases e:i=k
  ·subst e;simp[n5,h4]
  ·rw[n5,h3 i (iK _) ⋯,if_neg cU]
   exact pY ⋯ ⋯ (λj hj hk=>h3 j ⋯ hk) h4
def pZ {P:Nat->Bool}:∀ {n i:Nat},(∀ j,i<=j->j<i+n->P j=Ξ)->n5 P n i=Φ
 | 0,i,_=>rfl
 | n+1,i,h=>by
  rw[n5,h i (iK _) ⋯,if_neg cU]
  exact pZ λj hj hk=>h j ⋯ ⋯
def mW {P:Nat->Bool}{k:Nat}:∀ {n i:Nat},n5 P n i=Ψ k->i<=k/\k<i+n/\P k=Ω/\∀ j,i<=j->j<k->P j=Ξ
 | 0,i,h=>by cases h
 | n+1,i,h=>by
  rw[n5] at h
  split at h
  ·rename_i hp;cases h
   exact⟨iK _,⋯,hp,λj h1 h2=>⋯⟩
  ·rename_i hp
   let(h1,h2,h3,h4):=mW h
   exact⟨⋯,⋯,h3,λj g1 g2=>?_⟩
   by_cases e:j=i
   ·subst e;simpa using hp
   ·exact h4 j ⋯ g2
def uA {P:Nat->Bool}{n i:Nat}(h:n5 P n i=Φ):∀ j,i<=j->j<i+n->P j=Ξ:=by
 intro j h1 h2
 cases hp:P j with
 | false=>rfl
 | true =>
  exfalso
  revert h
  have:∀ n i,i<=j->j<i+n->n5 P n i≠Φ:=by
   intro n
   induction n with
   | zero=>intro i h1 h2;lia
   | succ n ih =>
    intro i h1 h2
    rw[n5]
    split
    ·simp
    ·rename_i hq
     by_cases e:i=j
     ·subst e;exact absurd hp hq
     ·exact ih (i+1) ⋯ ⋯
  exact this n i h1 h2
abbrev HH (old w:List Int) (k:Nat):Bool:=2+sz old (w.drop (k+1)) == sz old w
abbrev HY (old w:List Int) (a:Nat):Option Nat:=n5 (HH old w) (nU (old.drop a) w) 0
abbrev fk (old w:List Int):Option Pz:=(n5 (λa=>(HY old w a).isSome) old.length 0).map λa=>.keep a ((HY old w a).getD 0+1)
abbrev G7 (old w:List Int) (k:Nat):Bool:=1+(k+1)+sz old (w.drop (k+1)) == sz old w
abbrev fp (old w:List Int):Nat:=(n5 (G7 old w) w.length 0).getD 0+1
abbrev mO (old w:List Int):Pz:=(fk old w).getD (.put (w.take (fp old w)))
abbrev BY (old:List Int):Nat->List Int->List Pz
 | 0,_=>[]
 | _+1,[]=>[]
 | n+1,x :: w=>mO old (x :: w) :: BY old n ((x :: w).drop (mO old (x :: w)).sz)
abbrev HG (old new:List Int):List Pz:=BY old new.length new
def Eu (old:List Int):∀ n,BY old n []=[]
 | 0=>rfl
 | n+1=>rfl
def E2 {old w:List Int}{p:Pz}(h:fk old w=Ψ p):∃ a k,p=.keep a (k+1)/\a<old.length/\k<nU (old.drop a) w/\2+sz old (w.drop (k+1))=sz old w:=by
 unfold fk at h
 cases e:n5 (λa=>(HY old w a).isSome) old.length 0 with
 | none=>rw[e] at h;cases h
 | some a =>
  rw[e] at h
  obtain⟨-,h2,h3,-⟩:=mW e
  cases e2:HY old w a with
  | none=>rw[e2] at h3;cases h3
  | some k =>
   obtain⟨-,g2,g3,-⟩:=mW e2
   exact⟨a,k,?_,⋯,⋯,by simpa[HH] using g3⟩
   simp![Option.map_some,e2,er,Option.some.injEq] at h
   exact h.symm
def EZ {old w:List Int}(h:fk old w=Φ):∀ a,a<old.length->∀ k,k<nU (old.drop a) w->2+sz old (w.drop (k+1))≠sz old w:=by
 intro a ha k hk e
 unfold fk at h
 let h:=uA (Option.map_eq_none_iff.mp h) a ⋯ ⋯
 let h:HY old w a=Φ:=by simpa using h
 have:=uA h k ⋯ ⋯
 simp[HH,e] at this
def Bc {old w:List Int}(hw:w≠[])(h:fk old w=Φ):∃ k,n5 (G7 old w) w.length 0=Ψ k:=by
 cases e:n5 (G7 old w) w.length 0 with
 | some k=>exact⟨k,rfl⟩
 | none =>
  exfalso
  let hn:=uA e
  cases w with
  | nil=>exact hw rfl
  | cons x w =>
   let e1:sz old (x :: w)=2+po old w:=by
    rw[qR]
    split
    ·rfl
    ·rename_i hL
     let(a,ha,e):=xG old (x :: w) ⋯
     have:=EZ h a ha (pU old (x :: w)-1) ⋯
     rw[show pU old (x :: w)-1+1=pU old (x :: w) by lia] at this
     let g:=qR old x w
     rw[if_neg hL] at g
     lia
   let(j,h1,h2):=F9 old w
   have:=hn j ⋯ (by simp;lia)
   simp[G7] at this
   lia
def wD {old w:List Int}(hw:w≠[]):(mO old w).ok/\1<=(mO old w).sz/\(mO old w).sz<=w.length/\(mO old w).cost+sz old (w.drop (mO old w).sz)=sz old w/\(∀ a k,mO old w=.keep a k->a+k<=old.length)/\(∀ xs,mO old w=.put xs->xs=w.take xs.length)/\(mO old w).rows.map (Cz.ev old)=w.take (mO old w).sz:=by
 unfold mO
 cases e:fk old w with
 | some p =>
  let(a,k,rfl,h1,h2,h3):=E2 e
  let hl:=uR (old.drop a) w
  let ht:=wj (old.drop a) w
  let hk:a+(k+1)<=old.length:=by have:=hl.1;simp at this;lia
  exact⟨by simp[Pz.ok],by simp[Pz.sz],by simp![er,Pz.sz];lia,by simpa[Pz.cost,Pz.sz] using h3,?_,?_,?_⟩
  ·intro a' k' e';simp![er,Pz.keep.injEq] at e';lia
  ·intro xs e';simp at e'
  ·simp![er]
   rw[yX hk]
   have:=congrArg (List.take (k+1)) ht
   rw[List.take_take,List.take_take,Nat.min_eq_left ⋯] at this
   exact this
 | none =>
  let(k,hk):=Bc hw e
  obtain⟨-,h2,h3,-⟩:=mW hk
  let hl:(w.take (k+1)).length=k+1:=by simp;lia
  simp![fp,hk,er,et]
  exact⟨?_,by simp![Pz.sz,hl];lia,by simp![Pz.sz,hl];lia,by simpa[Pz.cost,Pz.sz,hl,G7] using h3,?_,?_,?_⟩
  ·intro z;rw[z] at hl;simp at hl
  ·intro a k e;cases e
  ·intro xs e;cases e;rw[hl]
  ·rw[CV,Pz.sz,hl]
def ot (old:List Int):∀ (n:Nat)(w:List Int),w.length<=n->(∀ p∈BY old n w,p.ok/\∀ a k,p=.keep a k->a+k<=old.length)/\(lA (BY old n w)).map (Cz.ev old)=w/\pS (BY old n w)=sz old w
 | 0,w,h=>by
  have:w=[]:=aj ⋯
  subst this;simp[BY,ux]
 | n+1,[],h=>by simp[BY,ux]
 | n+1,x :: w,h=>by
  let(h1,h2,h3,h4,h5,h6,h7):=wD (old:=old) (w:=x :: w) ∅
  let(g1,g2,g3):=ot old n ((x :: w).drop (mO old (x :: w)).sz) (by simp at h ⊢;lia)
  simp![BY]
  exact⟨?_,?_,by rw[sv,g3,h4]⟩
  ·intro p hp
   rcases gM.mp hp with rfl|hp
   ·exact⟨h1,h5⟩
   ·exact g1 p hp
  ·rw[nB,List.map_append,g2,h7,bG]
def wF {tg:Tg}{b:SW}{I:Nat->jR->Prop}{Q:FFl->jR->Prop}:∀ (n:Nat)(L:jR),I n L ->
  (∀ j L (K:jR->Prop),j<n->I (j+1) L->(∀ L',I j L'->K L')->gW tg (.int (j:Int)) L λL1=>b L1 (qx K Q)) ->
  (∀ L,I 0 L->Q .next L)->u4 tg b (nQ ((n:Int)-1) n) L Q
 | 0,L,h,_,E=>E L h
 | n+1,L,h,B,E=>by
  let e:nQ (((n+1:Nat):Int)-1) (n+1)=.int (n:Int) :: nQ ((n:Int)-1) n:=by simp[nQ]
  rw[e]
  exact B n L _ ⋯ h λL' h'=>wF n L' h' (λj L K hj=>B j L K ⋯) E
abbrev lL:List Int->List Int->List Int
 | [],_=>[]
 | a :: r,w=>(nU (a :: r) w:Int) :: lL r w
abbrev sV:List Int->List Int->List (Int×Int)
 | [],_=>[]
 | a :: r,w=>(a,(nU r w:Int)) :: sV r w
def vE:∀ old:List Int,lL old []=gf old.length 0
 | []=>rfl
 | a :: r=>by simp[lL,nU,vE r,cp]
def vG (w:List Int):∀ old:List Int,(lL old w).length=old.length
 | []=>rfl
 | a :: r=>by simp[lL,vG w r]
def yt (w:List Int):∀ old:List Int,(sV old w).length=old.length
 | []=>rfl
 | a :: r=>by simp[sV,yt w r]
def tx (x:Int)(w:List Int):∀ old:List Int,(sV old w).map (λp=>if p.1=x then p.2+1 else 0)=lL old (x :: w)
 | []=>rfl
 | a :: r=>by
  simp![sV,lL,gN,tx x w r,nU]
  congr 1
  split<;>simp
def A5 (w:List Int):∀ old:List Int,lT (old.map .int) ((lJ (lL old w) (Ψ 1) Φ++[0]).map .int)=(sV old w).map λp=>FV.tup [.int p.1,.int p.2]:=by
 let cut1:∀ xs:List Int,lJ xs (Ψ 1) Φ=xs.drop 1:=λxs=>by simpa using sr xs 1
 intro old
 rw[cut1]
 induction old with
 | nil=>rfl
 | cons a r ih =>
  cases r with
  | nil=>simp[lL,sV,lT,nU]
  | cons b r =>
   simp![lL,sV,List.drop_succ_cons,gj,gN,eM,lT,List.zipWith_cons_cons] at ih ⊢
   rw[<- ih]
def vY (w:List Int):∀ (r:List Int) (b:Nat),nP (b:Int) (lL r w)=((max b (pU r w):Nat):Int)
 | [],b=>by simp[lL,nP,pU]
 | a :: r,b=>by
  simp![lL,nP,pU]
  have:(if (b:Int)<(nU (a :: r) w:Int) then (nU (a :: r) w:Int) else (b:Int))=((max b (nU (a :: r) w):Nat):Int):=by split<;>lia
  rw[this,vY w r];lia
def zT (old w:List Int):yE 0 (lL old w)=(pU old w:Int):=by
 cases old with
 | nil=>rfl
 | cons a r=>simp![lL,yE,pU];exact vY w r _
def yj (xs ys:List FV)(y v:FV) (j:Nat)(h:xs.length=j):(xs++y :: ys).set j v=xs++v :: ys:=by subst h;simp
abbrev sR (old w:List Int):List FV:=(Ds old w).1.map λn:Nat=>FV.int n
def DG (old w:List Int):(sR old w).length=w.length+1:=by simp[sR,yd]
def uy (old w:List Int){i:Nat}(h:i<=w.length):(sR old w)[i]?=Ψ (.int (sz old (w.drop i))):=by
 rw[sR,dJ,uw old w i h];rfl
def AN (old:List Int) (x:Int)(w:List Int):sR old (x :: w)=.int (sz old (x :: w)) :: sR old w:=rfl
def Fe {α:Type}{xs:List α}{j:Nat}(h:j<xs.length):xs.drop j=xs[j] :: xs.drop (j+1):=List.drop_eq_getElem_cons h
def vj {α β:Type}(f:α->β)(xs:List α)(lo hi:Option Int):lJ (xs.map f) lo hi=(lJ xs lo hi).map f:=by simp[lJ,List.map_drop,List.map_take]
def AX (d:Nat){old new:List Int}{Q:FV×FV->Prop}(ho:old.length<=1000)(hn:new.length<=1000)(q:Q (.lst (sR old new),.non)):callW tb (d+1) 5 [.tup (old.map .int),.tup (new.map .int)] Q:=by
 exact jZ (fd:=Pk) rfl rfl ?_
 simp[Pk,QY,big]
 exact⟨⋯,⋯,kZ ⋯ ⋯,?_⟩
 exact wF (I:=λp L=>∃ a b c,L=[Ψ (.tup (old.map .int)),Ψ (.tup (new.map .int)),Ψ (.lst (gf p (.int 0)++sR old (new.drop p))),Ψ (.lst ((lL old (new.drop p)).map .int)),Ψ (.int (po old (new.drop p))),a,b,c]) new.length _ ?_ ?_ ?_
 ·exact⟨Φ,Φ,Φ,?_⟩
  rw[bv (iK _),vE,Bl,show sR old []=[.int 0] from rfl,List.replicate_succ']
  simp
 ·rintro j L K hj ⟨a,b,c,rfl⟩ k
  let hd:=Fe hj
  let hx:(new.map FV.int)[j]?=Ψ (.int new[j]):=by rw[dJ,aV hj];rfl
  let hr:(lL old (new.drop (j+1))).length<=1000:=by rw[vG];exact ho
  rw[List.replicate_succ',dM,List.singleton_append]
  let hl:(gf j (FV.int 0)).length=j:=∅
  rw[hd,AN] at k
  let hw:(new.drop (j+1)).length+j+1=new.length:=by rw[eJ];lia
  let hlng:=BQ old (new[j] :: new.drop (j+1))
  let hsz:=qR old new[j] (new.drop (j+1))
  let hpo:=qT old new[j] (new.drop (j+1))
  generalize new.drop (j+1)=w at *
  generalize hB:gf j (FV.int 0)=B at *
  let cl:=Fh ((lL old w).map FV.int) (Ψ 1) Φ
  simp![fE] at cl
  simp[big]
  exact⟨⋯,?_⟩
  rw[show (FV.int 0:FV)=FV.int (0:Int) from rfl,vj,<- List.map_singleton,<- List.map_append,A5]
  exact⟨?_,?_⟩
  ·rw[fE,yt];lia
  exact kY (g:=λp=>.int (if p.1=new[j] then p.2+1 else 0)) (sV old w) [] (λp hp K k=>?_) ?_
  ·simp
   rw[lE rfl hx]
   simp
   exact mX (λh=>?_) (λh=>?_)
   ·simpa[h] using k
   ·simpa[h] using k
  ·let em:(sV old w).map (λp=>FV.int (if p.1=new[j] then p.2+1 else 0))=(lL old (new[j] :: w)).map .int:=by
    rw[<- tx,iw];rfl
   rw[fw,em]
   simp![eK] at hlng
   let hs1:=DG old w
   let hj0:j<(B++FV.int 0 :: sR old w).length:=by simp;lia
   let at0:∀ (v:FV)(Q:FV->Prop),wp (Dk (B++v :: sR old w) (j:Int)) Q↔Q v:=λv Q=>lE (n:=j) rfl (by rw[az ⋯,hl,Nat.sub_self];rfl)
   simp
   rw[xI rfl ⋯,yj _ _ _ _ _ hl,ints_map]
   simp![lu,zT]
   exact mX (λh=>?_) (λh=>?_)
   ·let h:0<pU old (new[j] :: w):=by lia
    obtain⟨m,hm⟩:∃ m,pU old (new[j] :: w)=m+1:=⟨pU old (new[j] :: w)-1,⋯⟩
    rw[at0,lE (n:=j+(m+1)) (v:=.int (sz old (w.drop m))) (by rw[hm];simp) (by
     rw[az ⋯,show j+(m+1)-B.length=m+1 by lia,List.getElem?_cons_succ]
     exact uy old w ⋯)]
    simp
    rw[xI rfl ⋯,yj _ _ _ _ _ hl,at0]
    simp
    rw[hm,if_neg ⋯,List.drop_succ_cons] at hsz
    let e1:(if sz old (w.drop m)<po old w then 2+(sz old (w.drop m):Int) else 2+(po old w:Int))=(sz old (new[j] :: w):Int):=by rw[hsz];split<;>lia
    rw[e1]
    let e2:(if 1+(po old w:Int)<(sz old (new[j] :: w):Int) then 1+(po old w:Int) else (sz old (new[j] :: w):Int))=(po old (new[j] :: w):Int):=by rw[hpo];split<;>lia
    rw[e2]
    exact k _ ⟨_,_,_,rfl⟩
   ·let h:pU old (new[j] :: w)=0:=by lia
    rw[at0]
    simp
    rw[if_pos h] at hsz
    let e2:1+(po old w:Int)=(po old (new[j] :: w):Int):=by rw[hpo];lia
    rw[e2,show (2+(po old w:Int))=(sz old (new[j] :: w):Int) by rw[hsz];simp]
    exact k _ ⟨_,_,_,rfl⟩
 ·rintro L ⟨a,b,c,rfl⟩
  simp
  simpa using q
def BN {xs:List Int}{i:Nat}(h:i<xs.length):(xs.map FV.int)[i]?=Ψ (.int xs[i]):=by rw[dJ,aV h];rfl
def CH (d:Nat){old new:List Int}{p:Nat}{Q:FV×FV->Prop}(ho:old.length<=1000)(hn:new.length<=1000)(hp:p<new.length)(q:Q (((fk old (new.drop p)).map Pz.enc).getD .non,.non)):callW tb (d+1) 6 [.tup (old.map .int),.tup (new.map .int),.lst (sR old new),.int p] Q:=by
 exact jZ (fd:=Pj) rfl rfl ?_
 simp[Pj,QX]
 exact⟨kZ ⋯ ⋯,?_⟩
 let hwl:(new.drop p).length=new.length-p:=eJ
 let hsz:∀ i,p+i<=new.length->(sR old new)[p+i]?=Ψ (.int (sz old ((new.drop p).drop i))):=λi hi=>by
  rw[uy old new hi,gk]
 let hnew:∀ i,p+i<new.length->new[p+i]?=(new.drop p)[i]?:=λi hi=>by rw[List.getElem?_drop]
 exact m5 (I:=λa L=>(∃ m,∃ e,L=[Ψ (.tup (old.map .int)),Ψ (.tup (new.map .int)),Ψ (.lst (sR old new)),Ψ (.int p),e,m])/\∀ b,b<a->HY old (new.drop p) b=Φ) old.length 0 _ ⟨⟨_,_,rfl⟩,λb hb=>⋯⟩ ?_ ?_
 ·rintro a L K-ha ⟨⟨m,e,rfl⟩,hno⟩ k
  simp
  let hll:=uR (old.drop a) (new.drop p)
  exact pz (m:=nU (old.drop a) (new.drop p)) (I:=λm L=>∃ k:Nat,L=[Ψ (.tup (old.map .int)),Ψ (.tup (new.map .int)),Ψ (.lst (sR old new)),Ψ (.int p),Ψ (.int a),Ψ (.int k)]/\k<=nU (old.drop a) (new.drop p)/\(∀ i,i<k->HH old (new.drop p) i=Ξ)/\m=nU (old.drop a) (new.drop p)-k) ?_ ⟨0,rfl,⋯,λi hi=>⋯,⋯⟩
  rintro m L K2 ⟨i,rfl,h1,h2,h3⟩ k2
  let hstep:=wm i (old.drop a) (new.drop p) h1
  simp![eJ] at hstep hll
  let hend:¬ i<nU (old.drop a) (new.drop p)->K [Ψ (.tup (old.map .int)),Ψ (.tup (new.map .int)),Ψ (.lst (sR old new)),Ψ (.int p),Ψ (.int a),Ψ (.int i)]:=λh=>by
   exact k _ ⟨⟨_,_,rfl⟩,λb hb=>?_⟩
   by_cases e:b=a
   ·subst e
    have:i=nU (old.drop b) (new.drop p):=⋯
    exact pZ λj _ hj=>h2 j ⋯
   ·exact hno b ⋯
  simp
  exact mX (λc1=>?_) (λc1=>hend ⋯)
  exact mX (λc2=>?_) (λc2=>hend ⋯)
  rw[lE (n:=a+i) ∅ (BN (show a+i<old.length by lia)),lE (n:=p+i) ∅ (BN (show p+i<new.length by lia))]
  simp
  let e1:(old.drop a)[i]?=Ψ (old[a+i]'⋯):=by rw[List.getElem?_drop,aV]
  let e2:(new.drop p)[i]?=Ψ (new[p+i]'⋯):=by rw[List.getElem?_drop,aV]
  rw[e1,e2] at hstep
  exact mX (λc3=>?_) (λc3=>hend (λz=>c3 (fo (hstep.mp z).2.2)))
  let hlt:=hstep.mpr ⟨⋯,⋯,by rw[c3]⟩
  rw[lE (n:=p+(i+1)) ∅ (hsz (i+1) ⋯)]
  simp![Gz]
  rw[lE (i:=(p:Int)) (n:=p+0) ∅ (hsz 0 ⋯)]
  simp
  exact mX (λc4=>?_) (λc4=>?_)
  ·let hk:HH old (new.drop p) i=Ω:=by
    simp![HH,beq_iff_eq,gk];lia
   let h5:HY old (new.drop p) a=Ψ i:=pY ⋯ ⋯ (λj _ hj=>h2 j hj) hk
   let h6:fk old (new.drop p)=Ψ (.keep a (i+1)):=by
    unfold fk
    rw[pY (k:=a) ⋯ ⋯ (λj _ hj=>by rw[hno j hj];rfl) (by rw[h5];rfl)]
    simp[h5]
   rw[h6] at q
   simpa[Pz.enc,big] using q
  ·exact k2 _ _ (show nU (old.drop a) (new.drop p)-(i+1)<m by lia) ⟨i+1,∅,⋯,λj hj=>?_,rfl⟩
   by_cases e:j=i
   ·subst e
    simp![HH,beq_eq_false_iff_ne,ne_eq,gk];lia
   ·exact h2 j ⋯
 ·rintro L ⟨⟨m,e,rfl⟩,hno⟩
  simp
  let h6:fk old (new.drop p)=Φ:=by
   unfold fk
   rw[pZ λj _ hj=>by rw[hno j ⋯];rfl];rfl
  rw[h6] at q
  exact q
def EU (d:Nat){old new:List Int}{p:Nat}{Q:FV×FV->Prop}(hn:new.length<=1000)(hp:p<new.length)(h:fk old (new.drop p)=Φ)(q:Q ((Pz.put ((new.drop p).take (fp old (new.drop p)))).enc,.non)):callW tb (d+1) 7 [.tup (new.map .int),.lst (sR old new),.int p] Q:=by
 exact jZ (fd:=Pi) rfl rfl ?_
 simp[Pi,QW]
 let hwl:(new.drop p).length=new.length-p:=eJ
 let hsz:∀ i,p+i<=new.length->(sR old new)[p+i]?=Ψ (.int (sz old ((new.drop p).drop i))):=λi hi=>by
  rw[uy old new hi,gk]
 let(k,hk):=Bc (old:=old) (w:=new.drop p) (by intro z;rw[z] at hwl;simp at hwl;lia) h
 obtain⟨-,g2,g3,g4⟩:=mW hk
 exact pz (m:=k) (I:=λm L=>∃ i:Nat,L=[Ψ (.tup (new.map .int)),Ψ (.lst (sR old new)),Ψ (.int p),Ψ (.int ((i+1:Nat):Int))]/\i<=k/\m=k-i) ?_ ⟨0,∅,⋯,⋯⟩
 rintro m L K ⟨i,rfl,h1,h2⟩ kk
 simp
 rw[lE (n:=p+(i+1)) ∅ (hsz (i+1) ⋯)]
 simp![Gz]
 rw[lE (i:=(p:Int)) (n:=p+0) ∅ (hsz 0 ⋯)]
 simp
 let hpt:G7 old (new.drop p) i=Δ (1+(i+1)+sz old (new.drop (p+(i+1)))=sz old (new.drop p)):=by
  rw[G7,gk];rfl
 exact mX (λc=>?_) (λc=>?_)
 ·let e:i=k:=by
   by_cases e:i=k
   ·exact e
   ·have:=g4 i ⋯ ⋯
    rw[hpt] at this
    simp at this
    lia
  subst e
  let e2:fp old (new.drop p)=i+1:=by rw[fp,hk];rfl
  rw[e2] at q
  let e3:(p:Int)+((i:Int)+1)=(p:Int)+((i+1:Nat):Int):=∅
  rw[e3,qY]
  simpa[Pz.enc,big,List.map_drop,List.map_take] using q
 ·let e:i≠k:=by
   rintro rfl
   rw[hpt] at g3
   simp at g3
   lia
  exact kk _ _ (show k-(i+1)<m by lia) ⟨i+1,∅,⋯,rfl⟩
def BV (d:Nat){old new:List Int}{Q:FV×FV->Prop}(ho:old.length<=1000)(hn:new.length<=1000)(q:Q (.tup ((HG old new).map Pz.enc),.non)):callW tb (d+2) 4 [.tup (old.map .int),.tup (new.map .int)] Q:=by
 exact jZ (fd:=Pm) rfl rfl ?_
 simp[Pm,QZ,big]
 exact AX d ho hn ?_
 simp
 exact pz (m:=new.length) (I:=λm L=>∃ (ps:List Pz) (p n:Nat),∃ a,L=[Ψ (.tup (old.map .int)),Ψ (.tup (new.map .int)),Ψ (.lst (sR old new)),Ψ (.lst (ps.map Pz.enc)),Ψ (.int p),a]/\p<=new.length/\m=new.length-p/\ps.length<=p/\new.length-p<=n/\ps++BY old n (new.drop p)=HG old new) ?_ ⟨[],0,new.length,_,rfl,⋯,⋯,∅,⋯,rfl⟩
 rintro m L K ⟨ps,p,n,a,rfl,h1,h2,h3,h4,h5⟩ k
 simp
 exact mX (λc=>?_) (λc=>?_)
 ·let hwl:(new.drop p).length=new.length-p:=eJ
  let hne:new.drop p≠[]:=by intro z;rw[z] at hwl;simp at hwl;lia
  obtain⟨s1,s2,s3,-⟩:=wD (old:=old) hne
  let fin:K [Ψ (.tup (old.map .int)),Ψ (.tup (new.map .int)),Ψ (.lst (sR old new)),Ψ (.lst ((ps++[mO old (new.drop p)]).map Pz.enc)),Ψ (.int ((p+(mO old (new.drop p)).sz:Nat):Int)),Ψ (mO old (new.drop p)).enc]:=by
   obtain⟨n',rfl⟩:∃ n',n=n'+1:=⟨n-1,⋯⟩
   exact k (new.length-(p+(mO old (new.drop p)).sz)) _ ⋯ ⟨_,_,n',_,rfl,⋯,rfl,by simp;lia,⋯,?_⟩
   rw[<- h5]
   cases e:new.drop p with
   | nil=>exact absurd e hne
   | cons x w =>
    rw[e] at hne
    simp![BY]
    rw[<- e,gk,dM];rfl
  exact CH d ho hn ⋯ ?_
  cases hf:fk old (new.drop p) with
  | some z =>
   let e1:mO old (new.drop p)=z:=by simp[mO,hf]
   rw[e1] at fin
   let ht:∀ R:Bool->Prop,wp (nq z.enc) R↔R Ω:=λR=>by cases z<;>simp[Pz.enc]
   simp[ht,yH,big]
   exact⟨⋯,by simpa using fin⟩
  | none =>
   let e1:mO old (new.drop p)=.put ((new.drop p).take (fp old (new.drop p))):=by simp[mO,hf]
   rw[e1] at fin
   simp
   exact EU d hn ⋯ hf ?_
   simp[yH,big]
   exact⟨⋯,by simpa using fin⟩
 ·let e:p=new.length:=by lia
  subst e
  rw[bv (iK _),Eu,fH] at h5
  rw[h5]
  exact q
def Cel.app {xs ys:List FV}(h:Cel xs)(g:Cel ys):Cel (xs++ys):=λx hx=>(fA.mp hx).elim (h x) (g x)
def Cel.take {xs:List FV}(h:Cel xs) (n:Nat):Cel (xs.take n):=λx hx=>h x (bQ hx)
def Cel.drop {xs:List FV}(h:Cel xs) (n:Nat):Cel (xs.drop n):=λx hx=>h x (List.mem_of_mem_drop hx)
def tU {α:Type}(xs:List α) (i t:Nat):lJ xs (Ψ ((i:Int)+(t:Int))) Φ=xs.drop (i+t):=by rw[<- sr];simp
def FU (d:Nat){n:Int}{v:FV}{xs:List FV}{Q:FV×FV->Prop}(hs:Lf n v)(h0:0<=n)(hn:n<9000)(hx:xs.length<=24)(hc:Cel xs)(q:∀ ys v',ys.length<=24->Cel ys->Lf (n+40) v'->Q (.tup ys,v')):callW tb (d+4) 17 [v,.tup xs] Q:=by
 exact jZ (fd:=IH) rfl rfl ?_
 simp[IH,Ju]
 exact kQ (d+1) hs ⋯ (·) (·) λu v1 u0 u1 l1=>?_
 simp
 exact⟨kZ ⋯ ⋯,?_⟩
 let(u,rfl):=Int.eq_ofNat_of_zero_le u0
 rw[show (1+(u:Int)).toNat=1+u by lia]
 exact m5 (I:=λj L=>∃ v' ys,∃ a b c e f g h,L=[Ψ v',Ψ (.tup xs),Ψ (.lst ys),a,b,c,e,f,g,h]/\ys.length<=24+4*j/\Cel ys/\Lf (n+1+12*j) v') (1+u) 0 _ ⟨v1,xs,_,_,_,_,_,_,_,rfl,⋯,hc,by simpa using l1⟩ ?_ ?_
 ·rintro j L K-hj ⟨v',ys,a,b,c,e,f,g,h,rfl,hl,hy,lf⟩ k
  let hj:j<3:=⋯
  simp
  exact kQ (d+1) lf ⋯ ⋯ ⋯ λa' v2 a0 a1 l2=>?_
  let(at',rfl):=Int.eq_ofNat_of_zero_le a0
  simp
  exact kQ (d+1) l2 ⋯ (·) (·) λc' v3 c0 c1 l3=>?_
  let(c',rfl):=Int.eq_ofNat_of_zero_le c0
  obtain⟨t,ht,ht2,he⟩:∃ t:Nat,t<=4/\at'+t<=ys.length/\(if (at':Int)+1+c'<(ys.length:Int) then (at':Int)+1+c' else (ys.length:Int))=(at':Int)+(t:Int):=by
   by_cases hh:(at':Int)+1+c'<(ys.length:Int)
   ·exact⟨1+c',⋯,⋯,by rw[if_pos hh];simp;lia⟩
   ·exact⟨ys.length-at',⋯,⋯,by rw[if_neg hh];lia⟩
  simp[he,qY]
  exact kQ (d+1) l3 ⋯ ⋯ ⋯ λt' v4 t0 t1 l4=>?_
  let(to,rfl):=Int.eq_ofNat_of_zero_le t0
  simp
  exact kQ (d+1) l4 ⋯ (·) (·) λw v5 w0 w1 l5=>?_
  simp[vh,sr,tU,big]
  exact mX (λhw=>?_) (λhw=>?_)
  ·exact kQ (d+1) l5 ⋯ (·) (·) λm v6 m0 m1 l6=>?_
   let(m,rfl):=Int.eq_ofNat_of_zero_le m0
   simp
   rw[show (1+(m:Int))=((1+m:Nat):Int) by simp]
   exact sD d l6 ⋯ ⋯ ⋯ λzs v7 hz hzc l7=>?_
   simp
   exact⟨⋯,⋯,k _ ⟨v7,_,_,_,_,_,_,_,_,rfl,by simp;lia,?_,l7.mono (by simp;lia)⟩⟩
   exact (hy.take _).app (hzc.app (hy.drop _))
  exact mX (λhw=>?_) (λhw=>?_)
  ·refine⟨⋯,k _ ⟨v5,_,_,_,_,_,_,_,_,rfl,by simp;lia,(hy.take _).app (hy.drop _),l5.mono (by simp;lia)⟩⟩
  exact mX (λhw=>?_) (λhw=>?_)
  ·exact⟨⋯,⋯,⋯,k _ ⟨v5,_,_,_,_,_,_,_,_,rfl,by simp;lia,?_,l5.mono (by simp;lia)⟩⟩
   exact (((hy.take _).app (hy.drop _)).take _).app (((hy.drop _).take _).app (((hy.take _).app (hy.drop _)).drop _))
  exact mX (λhw=>?_) (λhw=>?_)
  ·exact⟨⋯,⋯,k _ ⟨v5,_,_,_,_,_,_,_,_,rfl,by simp;lia,?_,l5.mono (by simp;lia)⟩⟩
   exact (hy.take _).app (((hy.drop _).take _).app (hy.drop _))
  ·exact⟨⋯,?_⟩
   let hb:=(hy.drop at').take t
   obtain⟨bs,hbs,hbb⟩:∃ bs:List Int,(ys.drop at').take t=bs.map .int/\bs.length<=4:=by
    let(bs,e,_):=hb.ints
    exact⟨bs,e,?_⟩
    have:=congrArg iL e
    simp at this;lia
   rw[hbs]
   exact kY (f:=FV.int) (g:=λi=>.int ((i+1) % 1000)) bs [] (λi hi K2 k2=>?_) ?_
   ·simp
    exact k2
   ·simp[big,tU]
    exact⟨⋯,⋯,k _ ⟨v5,_,_,_,_,_,_,_,_,rfl,by simp;lia,?_,l5.mono (by simp;lia)⟩⟩
    exact (hy.take _).app (Cel.app ?_ (hy.drop _))
    intro x hx
    obtain⟨i,-,rfl⟩:=ir.mp hx
    exact⟨_,rfl,Int.emod_nonneg _ ⋯,Int.emod_lt_of_pos _ ⋯⟩
 ·rintro L ⟨v',ys,a,b,c,e,f,g,h,rfl,hl,hy,lf⟩
  simp
  rw[show (24:Int)=((24:Nat):Int) from rfl,vh]
  exact q _ _ (by simp;lia) (hy.take _) (lf.mono (by simp;lia))
abbrev Th (x:FV):Prop:=∃ ys:List Int,x=.tup (ys.map .int)/\ys.length<=24/\∀ y∈ys,0<=y/\y<1000
def Th.of {ys:List FV}(h:Cel ys)(hl:ys.length<=24):Th (.tup ys):=by
 let(ns,rfl,hn):=h.ints
 exact⟨ns,rfl,by simpa using hl,hn⟩
def Th.cel {x:FV}(h:Th x):∃ ys,x=.tup ys/\Cel ys/\ys.length<=24:=by
 let(ns,rfl,h1,h2):=h
 exact⟨_,rfl,?_,by simpa using h1⟩
 intro x hx
 let(i,hi,rfl):=ir.mp hx
 exact⟨i,rfl,h2 i hi⟩
def zx (d:Nat){n:Int}{v:FV}{m:Nat}{Q:FV×FV->Prop}(hs:Lf n v)(h0:0<=n)(hn:n<5000)(hm:m<=12)(q:∀ xs v',xs.length=m->(∀ x∈xs,Th x)->Lf (n+50*m) v'->Q (.lst xs,v')):callW tb (d+5) 18 [v,.int m] Q:=by
 exact jZ (fd:=IG) rfl rfl ?_
 simp[IG,Jt]
 exact⟨kZ ⋯ ⋯,?_⟩
 exact m5 (I:=λj L=>∃ v' xs,∃ a b,L=[Ψ v',Ψ (.int m),Ψ (.lst xs),a,b]/\xs.length=j/\(∀ x∈xs,Th x)/\Lf (n+50*j) v') m 0 _ ⟨v,[],_,_,rfl,rfl,∅,by simpa using hs⟩ ?_ ?_
 ·rintro j L K-hj ⟨v',xs,a,b,rfl,hl,hx,lf⟩ k
  let k:∀ x v2,Th x->Lf (n+50*j+50) v2->∀ b,K [Ψ v2,Ψ (.int m),Ψ (.lst (xs++[x])),Ψ (.int j),b]:=λx v2 h1 h2 b=>by
   exact k _ ⟨v2,_,_,_,rfl,by simp[hl],?_,h2.mono (by simp;lia)⟩
   intro y hy
   rcases fA.mp hy with hy|hy
   ·exact hx y hy
   ·simp at hy;subst hy;exact h1
  simp
  exact kQ (d+2) lf ⋯ (·) (·) λw v2 w0 w1 l2=>?_
  simp[big]
  let new:callW tb (d+4) 16 [v2] λz=>xs.length<100000/\K [Ψ z.2,Ψ (.int m),Ψ (.lst (xs++[z.1])),Ψ (.int j),Ψ (.int w)] :=
   AI d l2 ⋯ ⋯ λos v3 ho hos l3=>⟨⋯,k _ _ (.of hos ho) (l3.mono ⋯) _⟩
  exact mX (λhj0=>new) (λhj0=>?_)
  exact mX (λhw=>new) (λhw=>?_)
  exact mX (λhw=>?_) (λhw=>?_)
  ·exact kQ (d+2) l2 ⋯ ⋯ ⋯ λu v3 u0 u1 l3=>?_
   simp
   refine vo u0 ⋯ λx hx'=>⟨⋯,k _ _ (hx x hx') (l3.mono ⋯) _⟩
  ·exact kQ (d+2) l2 ⋯ ⋯ ⋯ λu v3 u0 u1 l3=>?_
   simp
   exact vo u0 ⋯ λx hx'=>?_
   let(ys,rfl,hy,hyl):=(hx x hx').cel
   exact FU d l3 ⋯ ⋯ hyl hy λzs v4 hz hzc l4=>?_
   exact⟨⋯,k _ _ (.of hzc hz) (l4.mono ⋯) _⟩
 ·rintro L ⟨v',xs,a,b,rfl,hl,hx,lf⟩
  simp
  exact q xs v' ⋯ hx (by simpa using lf)
def BZ {old new:List Int}(h:∀ y∈new,0<=y/\y<1000):Fine old.length (HG old new):=by
 obtain⟨h1,h2,-⟩:=ot old new.length new (iK _)
 exact⟨λp hp=>(h1 p hp).1,λc hc=>?_⟩
 let(p,hp,hc'):=List.mem_flatMap.mp hc
 cases p with
 | keep a k =>
  have:=(h1 _ hp).2 a k rfl
  simp![Pz.rows,ir] at hc'
  let(i,hi,rfl):=hc'
  have:=List.mem_range'_1.mp hi
  simp![Cz.fine];lia
 | put xs =>
  simp![Pz.rows,ir] at hc'
  let(i,hi,rfl):=hc'
  have:i∈new:=by
   rw[<- h2]
   exact ir.mpr ⟨.put i,hc,rfl⟩
  exact h i this
def zX (old new:List Int):(lA (HG old new)).map (Cz.ev old)=new:=(ot old new.length new (iK _)).2.1
def B1 (old new:List Int):pS (HG old new)=sz old new:=(ot old new.length new (iK _)).2.2
def Ev (old new:List Int):(lA (HG old new)).length=new.length:=by
 have:=congrArg iL (zX old new);simpa using this
def tm:∀ ps:List Pz,((ps.map λp=>(p.cost:Int))).sum=(pS ps:Int)
 | []=>rfl
 | p :: r=>by rw[gN,List.sum_cons,tm r,sv];simp
def Fj (p:Pz):p.cost<=2+p.sz:=by cases p<;>simp![Pz.cost,Pz.sz]<;>lia
def C7 (d:Nat){ps:List Pz}{Q:FV×FV->Prop}(hok:∀ p∈ps,p.ok)(hb:(lA ps).length<=1000)(q:Q (.int (1+(pS ps:Int)),.non)):callW tb (d+1) 3 [.tup (ps.map Pz.enc)] Q:=by
 exact jZ (fd:=Pq) rfl rfl ?_
 let hl:=zI hok
 simp[Pq,NM,big]
 exact⟨⋯,?_⟩
 exact kY (f:=Pz.enc) (g:=λp=>.int (p.cost:Int)) ps [] (λp hp K k=>?_) ?_
 ·cases p<;>simpa[Pz.enc,Pz.cost] using k
 ·let hz:∀ p∈ps,p.sz<=1000:=λp hp=>by
   let(s,t,rfl):=List.append_of_mem hp
   simp[Pz.rows_len] at hb;lia
  let e:(ps.map λp=>FV.int (p.cost:Int))=(ps.map λp=>(p.cost:Int)).map .int:=∅
  rw[fw,e]
  simp![IS,LC,Ot,zA,l0,ints_map,lu]
  rw[me]
  exact⟨⟨by simp[big];lia,?_⟩,by rw[tm];exact q⟩
  rw[eO]
  intro x hx
  let(p,hp,rfl):=ir.mp hx
  have:=hz p hp
  have:=Fj p
  simp![oJ,decide_eq_true_eq];lia
def AB (d:Nat)(xs:List FV)(Q:FV×FV->Prop):callW tb (d+1) 2 [.tup xs] Q↔Q (.int (1+(xs.length:Int)),.non):=by
 rw[sI (fd:=LA) rfl rfl]
 simp[LA,LY]
def vU {α β:Type}(f:α->FV)(g:β->FV):∀ (xs:List α)(ys:List β),lT (xs.map f) (ys.map g)=(xs.zip ys).map λp=>.tup [f p.1,g p.2]
 | [],ys=>rfl
 | x :: xs,[]=>rfl
 | x :: xs,y :: ys=>by
  show FV.tup [f x,g y] :: lT (xs.map f) (ys.map g)=_
  rw[vU f g xs ys];rfl
noncomputable abbrev Mg:=Nat×Nat×Int
abbrev wK (c:Mg):FV:=.tup [.int c.1,.int c.2.1,.int c.2.2]
abbrev LD (ws:List Int)(cs:List Mg):FV:=.tup [.tup (ws.map .int),.tup (cs.map wK)]
abbrev kL (t:List Int):FV:=.tup (t.map .int)
abbrev GT (ts:List (List Int)):Prop:=∀ t∈ts,t.length<=24/\∀ y∈t,0<=y/\y<1000
def yc:∀ {xs:List FV},(∀ x∈xs,Th x)->∃ ts:List (List Int),xs=ts.map kL/\GT ts
 | [],_=>⟨[],rfl,λt h=>by simp at h⟩
 | x :: r,h=>by
  let(t,e,h1,h2):=h x ∅
  let(ts,e2,g):=yc (xs:=r) λy hy=>h y (bT _ hy)
  exact⟨t :: ts,by rw[e,e2];rfl,λu hu=>?_⟩
  rcases gM.mp hu with rfl|hu
  ·exact⟨h1,h2⟩
  ·exact g u hu
abbrev xW (ts:List (List Int)) (a b:Nat):Int:=1+(pS (HG (ts.getD a []) (ts.getD b [])):Int)
abbrev uE (ts:List (List Int)) (n a:Nat):List Mg:=((i7 n).filter λb=>Δ (a≠b)).map λb=>(a,b,xW ts a b)
abbrev LP (ts:List (List Int)) (n:Nat):List Mg:=(i7 n).flatMap (uE ts n)
abbrev NY (ts:List (List Int)):List Int:=ts.map λt=>1+(t.length:Int)
abbrev Ms (ts:List (List Int)):FV:=LD (NY ts) (LP ts ts.length)
def GT.get {ts:List (List Int)}(h:GT ts) (a:Nat):(ts.getD a []).length<=24/\∀ y∈ts.getD a [],0<=y/\y<1000:=by
 rw[jc]
 cases e:ts[a]? with
 | none=>exact⟨(·),λy hy=>by simp at hy⟩
 | some t=>exact h t (bR e)
def DN (ts:List (List Int)) (n a:Nat):(uE ts n a).length<=n:=by
 rw[uE,fE]
 have:=List.length_filter_le (λb=>Δ (a≠b)) (i7 n)
 rwa [dI] at this
def se (ts:List (List Int)) (n:Nat):∀ l:List Nat,(l.flatMap (uE ts n)).length<=n*l.length
 | []=>by simp
 | a :: r=>by
  have:=se ts n r
  have:=DN ts n a
  simp![List.flatMap_cons,cR,eK]
  rw[Nat.mul_add];lia
def Fn {ts:List (List Int)}{n:Nat}{c:Mg}(h:c∈LP ts n):c.1<n/\c.2.1<n/\c.1≠c.2.1/\c.2.2=xW ts c.1 c.2.1:=by
 let(a,ha,h):=List.mem_flatMap.mp h
 let(b,hb,rfl):=ir.mp h
 let(hb,hne):=fy.mp hb
 exact⟨gh.mp ha,gh.mp hb,of_decide_eq_true hne,rfl⟩
def Fi {ts:List (List Int)}(h:GT ts) (a b:Nat):1<=xW ts a b/\xW ts a b<1000:=by
 let h1:=B1 (ts.getD a []) (ts.getD b [])
 let h2:=(h.get b).1
 let h3:sz (ts.getD a []) (ts.getD b [])<=1+(ts.getD b []).length:=by
  by_cases e:(ts.getD b [])=[]
  ·rw[e,ux];lia
  ·let hl:1<=(ts.getD b []).length:=by
    cases hb:ts.getD b [] with
    | nil=>exact absurd hb e
    | cons x r=>simp
   have:=GJ (ts.getD a []) (w:=ts.getD b []) (k:=(ts.getD b []).length) hl (iK _)
   rw[List.drop_length,ux] at this
   lia
 unfold xW
 lia
def pP {ts:List (List Int)}{a:Nat}(h:a<ts.length)(Q:FV->Prop):wp (Dk (ts.map kL) (a:Int)) Q↔Q (kL (ts.getD a [])) :=
 lE rfl (by rw[dJ,aV h];simp[jc,h])
def rh (d:Nat){ts:List (List Int)}(h:GT ts)(hn:ts.length<=12){v:FV}(hv:v=.lst (ts.map kL) ∨ v=.tup (ts.map kL)){Q:FV×FV->Prop}(q:Q (Ms ts,.non)):callW tb (d+3) 9 [v] Q:=by
 let hq:lR v=Ψ (ts.map kL):=by rcases hv with rfl|rfl<;>rfl
 let hl:∀ R:FV->Prop,wp (lC v) R↔R (.int ts.length):=by
  intro R
  rcases hv with rfl|rfl<;>simp
 let hx:∀ (a:Nat)(R:FV->Prop),a<ts.length->(wp (lH v (.int a)) R↔R (kL (ts.getD a []))):=by
  intro a R ha
  rcases hv with rfl|rfl
  ·simp![Gk,Oe];exact pP ha R
  ·simp![Gk,Od];exact pP ha R
 clear hv
 exact jZ (fd:=Pg) rfl rfl ?_
 simp[Pg,QV]
 rw[hq,lu]
 simp![fE]
 exact⟨⟨kZ ⋯ ⋯,by simp![big];lia⟩,?_⟩
 rw[lu]
 exact⟨by simp[big];lia,?_⟩
 exact kY (f:=kL) (g:=λt=>.int (1+(t.length:Int))) ts [] (λt ht K k=>?_) ?_
 ·simp[kL,AB]
  simpa using k
 rw[fw,mQ]
 simp
 exact sx (f:=λi:Nat=>FV.int i) (I:=λds Z8 L=>L=[Ψ v,Ψ (.lst ((i7 ts.length).map λi:Nat=>FV.int i)),Ψ (.lst (ts.map λt=>.int (1+(t.length:Int)))),Φ]/\Z8=(ds.flatMap (uE ts ts.length)).map wK) (i7 ts.length) (i7 ts.length) [] [] _ rfl ⟨rfl,rfl⟩ ?_ ?_
 ·rintro ds a r Z8 L K e ⟨rfl,rfl⟩ k
  let ha:a<ts.length:=gh.mp (by rw[e];simp)
  let hds:ds.length<ts.length:=by have:=congrArg iL e;simp at this;lia
  let hal:=se ts ts.length ds
  let hal2:ts.length*ds.length<=12*12:=Nat.mul_le_mul hn ⋯
  let hA:((ds.flatMap (uE ts ts.length)).map wK).length<=144:=by rw[fE];lia
  let kk:∀ Z8 L',Z8=(ds.flatMap (uE ts ts.length)).map wK++(uE ts ts.length a).map wK->L'=[Ψ v,Ψ (.lst ((i7 ts.length).map λi:Nat=>FV.int i)),Ψ (.lst (ts.map λt=>.int (1+(t.length:Int)))),Φ]->K Z8 L':=λZ8 L' e1 e2=>k _ _ ⟨e2,by rw[e1];simp⟩
  clear k hal hal2
  generalize (ds.flatMap (uE ts ts.length)).map wK=A0 at hA kk ⊢
  simp
  exact⟨by simp![big];lia,?_⟩
  exact yQ (f:=λi:Nat=>FV.int i) (I:=λes Z8 L=>∃ y,L=[Ψ v,Ψ (.lst ((i7 ts.length).map λi:Nat=>FV.int i)),Ψ (.lst (ts.map λt=>.int (1+(t.length:Int)))),Φ,Ψ (.int a),y]/\Z8=A0++((es.filter λb=>Δ (a≠b)).map λb=>(a,b,xW ts a b)).map wK) (i7 ts.length) (i7 ts.length) [] _ _ rfl ⟨_,rfl,∅⟩ ?_ ?_
  ·rintro es b r' Z8 L K2 e2 ⟨y,rfl,rfl⟩ k2
   let hb:b<ts.length:=gh.mp (by rw[e2];simp)
   simp
   exact mX (λh1=>?_) (λh1=>?_)
   ·exact k2 _ _ ⟨_,rfl,?_⟩
    let hab:a=b:=⋯
    rw[List.filter_append,List.filter_cons_of_neg (by simp[hab])]
    simp
   ·let hab:a≠b:=by lia
    let ga:=h.get a
    let gb:=h.get b
    let hf:=BZ (old:=ts.getD a []) gb.2
    rw[hq,lu,pP ha,lu,pP hb]
    exact BV d ⋯ ⋯ ?_
    dsimp only
    exact C7 (d+1) (λp hp=>(ot _ _ _ (iK _)).1 p hp |>.1) (by rw[Ev];lia) ?_
    exact⟨(·),k2 _ _ ⟨_,rfl,?_⟩⟩
    rw[List.filter_append,List.filter_cons_of_pos (by simp[hab])]
    simp[wK,xW]
  ·rintro Z8 L ⟨y,rfl,rfl⟩
   exact kk _ _ rfl rfl
 ·rintro ys L ⟨rfl,rfl⟩
  simp
  exact⟨(·),?_⟩
  simpa[Ms,LD,NY,LP,Function.comp_def] using q
def GQ {ts:List (List Int)}(h:GT ts)(hn:ts.length<=12):Vl 40000 3 (Ms ts):=by
 let hcl:=se ts ts.length (i7 ts.length)
 rw[dI] at hcl
 have:ts.length*ts.length<=12*12:=Nat.mul_le_mul hn hn
 exact (Vl.tup (k:=18300) (p:=2) (m:=2) ?_ ∅).mono (·) (·)
 intro y hy
 simp![gM,eF,or_false] at hy
 rcases hy with rfl|rfl
 ·exact (Vl.tup (k:=41) (p:=0) (m:=30) ?_ (by simp[NY];lia)).mono (·) (·)
  intro z hz
  let(x,hx,rfl):=ir.mp hz
  let(t,ht,rfl):=ir.mp hx
  have:=(h t ht).1
  exact Vl.int ⋯ ⋯
 ·exact (Vl.tup (k:=126) (p:=1) (m:=144) ?_ (by rw[fE];show (LP ts ts.length).length<=144;unfold LP;lia)).mono (·) (·)
  intro z hz
  let(c,hx,rfl):=ir.mp hz
  let(h1,h2,h3,h4):=Fn hx
  have:=Fi h c.1 c.2.1
  exact (Vl.tup (k:=41) (p:=0) (m:=3) ?_ ∅).mono (·) (·)
  intro y hy
  simp![gM,eF,or_false] at hy
  rcases hy with rfl|rfl|rfl
  ·exact Vl.int ⋯ ⋯
  ·exact Vl.int ⋯ ⋯
  ·exact Vl.int ⋯ ⋯
def GG {ts:List (List Int)}(h:GT ts)(hn:ts.length<=12):Vl 13000 2 (.lst (ts.map kL)):=by
 exact (Vl.lst (k:=1008) (p:=1) (m:=12) ?_ (by simp;lia)).mono (·) (·)
 intro z hz
 let(t,ht,rfl):=ir.mp hz
 let(h1,h2):=h t ht
 exact (Vl.tup (k:=41) (p:=0) (m:=24) ?_ (by simp;lia)).mono (·) (·)
 intro y hy
 let(i,hi,rfl):=ir.mp hy
 have:=h2 i hi
 exact Vl.int ⋯ ⋯
noncomputable abbrev Sx:=PySem.Addr×PySem.Addr×PySem.Addr×PySem.Addr
abbrev nsF (a:Sx):List (PySem.Str×Option PySem.Addr):=[("ons",Ψ a.2.1),("kept",Ψ a.2.2.1),("given",Φ),("spent",Φ),("deeds",Ψ a.2.2.2)]
abbrev m9 (a:Sx)(A B g s D:FV):FV:=.shf 281 a.1 (nsF a) [A,B,g,s,D]
section
variable {a:Sx}{A B g s D w:FV}
@[scoped simp] theorem Mr:mS 281 "ons" (m9 a A B g s D)=Ψ A:=by kernel_rfl!
@[scoped simp] theorem Ks:mS 281 "kept" (m9 a A B g s D)=Ψ B:=by kernel_rfl!
@[scoped simp] theorem JI:mS 281 "deeds" (m9 a A B g s D)=Ψ D:=by kernel_rfl!
@[scoped simp] theorem JO:xN 281 "given" (m9 a A B g s D)=Ψ g:=by kernel_rfl!
@[scoped simp] theorem JN:xN 281 "spent" (m9 a A B g s D)=Ψ s:=by kernel_rfl!
@[scoped simp] theorem Mt:qN 281 "ons" w (m9 a A B g s D)=Ψ (m9 a w B g s D):=by kernel_rfl!
@[scoped simp] theorem Ku:qN 281 "kept" w (m9 a A B g s D)=Ψ (m9 a A w g s D):=by kernel_rfl!
@[scoped simp] theorem JJ:qN 281 "deeds" w (m9 a A B g s D)=Ψ (m9 a A B g s w):=by kernel_rfl!
@[scoped simp] theorem JM:xq 281 "given" w (m9 a A B g s D)=Ψ (m9 a A B w s D):=by kernel_rfl!
@[scoped simp] theorem JL:xq 281 "spent" w (m9 a A B g s D)=Ψ (m9 a A B g w D):=by kernel_rfl!
@[scoped simp] theorem MG:Bk 281 "ons" (m9 a A B g s D)=Ψ (a.2.1,A):=by kernel_rfl!
def k9 {m:PySem.Str}(h:m ∉ [("ons":PySem.Str),"kept","given","spent","deeds"]:=by nofun):Lb 281 m (m9 a A B g s D):=⟨rfl,h⟩
end
@[scoped simp] theorem QU {ks:List (Option Int)}{vs:List FV}{Q:FV->Prop}:wp (C8 (.dco Φ ks vs)) Q=Q (.dco Φ ks vs):=rfl
def Lo {k:Int}(hk:-(2 ^ 100)<k/\k<2 ^ 100){Q:Int->Prop}(q:Q k):wp (HZ (.int k)) Q:=by
 show wp (if -(2 ^ 150)<k/\k<2 ^ 150 then Ψ k else Φ) Q
 rw[if_pos ⋯];exact q
def Dh (d:Nat){a:Sx}{ks1 ks2:List (Option Int)}{v1 v2:List FV}{g s w:FV}{ds:List FV}{Q:FV×FV->Prop}(hb:ds.length<1000)(q:Q (.non,m9 a (.dco Φ ks1 v1) (.dco Φ ks2 v2) g s (.lst (ds++[.tup [w,.dco Φ ks1 v1,.dco Φ ks2 v2,g]])))):callW tb (d+1) 40 [m9 a (.dco Φ ks1 v1) (.dco Φ ks2 v2) g s (.lst ds),w] Q:=by
 exact jZ (fd:=Il) rfl rfl ?_
 simp[Il,Fw]
 exact⟨by simp[big],by unfold big;lia,q⟩
def rM (d:Nat){a:Sx}{ks:List (Option Int)}{v:List FV}{B g s D:FV}{k:Int}{Q:FV×FV->Prop}(h:Ψ k∈ks)(q:Q (.non,m9 a (.dco Φ ks v) B g s D)):callW tb (d+1) 41 [m9 a (.dco Φ ks v) B g s D,.int k] Q:=by
 exact jZ (fd:=Ik) rfl rfl ?_
 simp[Ik,Fv]
 exact⟨h,q⟩
def oq (d:Nat){a:Sx}{ks:List (Option Int)}{v:List FV}{B g s D:FV}{k:Int}{Q:FV×FV->Prop}(h:Ψ k ∉ ks)(hk:-(2 ^ 100)<k/\k<2 ^ 100)(q:Q (.adr 96,m9 a (.dco Φ ks v) B g s D)):callW tb (d+1) 45 [m9 a (.dco Φ ks v) B g s D,.int k] Q:=by
 exact jZ (fd:=OG) rfl rfl ?_
 simp[OG,NK]
 exact⟨h,Lo hk q⟩
def Ey (d:Nat){a:Sx}{ks1 ks2:List (Option Int)}{v1 v2:List FV}{g s D:FV}{k:Int}{w1 w2:FV}{Q:FV×FV->Prop}(h1:ks1.length<1000)(h2:ks2.length<1000)(q:Q (.non,m9 a (.dco Φ (k6 ks1 v1 (Ψ k) w1).1 (k6 ks1 v1 (Ψ k) w1).2) (.dco Φ (k6 ks2 v2 (Ψ k) w2).1 (k6 ks2 v2 (Ψ k) w2).2) g s D)):callW tb (d+1) 42 [m9 a (.dco Φ ks1 v1) (.dco Φ ks2 v2) g s D,.int k,w1,w2] Q:=by
 exact jZ (fd:=Ij) rfl rfl ?_
 simp[Ij,Jd]
 exact⟨by unfold big;lia,by unfold big;lia,q⟩
def uk (d:Nat){a:Sx}{ks:List (Option Int)}{v:List FV}{B g s D:FV}{k:Int}{Q:FV×FV->Prop}(h:Ψ k ∉ ks)(hk:-(2 ^ 100)<k/\k<2 ^ 100)(q:Q (.adr 96,m9 a (.dco Φ ks v) B g s D)):callW tb (d+2) 46 [m9 a (.dco Φ ks v) B g s D,.int k] Q:=by
 exact jZ (fd:=OF) rfl rfl ?_
 simp[OF,NJ]
 exact⟨k9,oq d h hk (by simpa using q)⟩
def zw (d:Nat){a:Sx}{ks:List (Option Int)}{v:List FV}{B g s D:FV}{k:Int}{Q:FV×FV->Prop}(h:Ψ k ∉ ks)(hk:-(2 ^ 100)<k/\k<2 ^ 100)(q:Q (.adr 96,m9 a (.dco Φ ks v) B g s D)):callW tb (d+3) 47 [m9 a (.dco Φ ks v) B g s D,.int k] Q:=by
 exact jZ (fd:=OE) rfl rfl ?_
 simp[OE,NI]
 exact⟨k9,uk d h hk (by simpa using q)⟩
def BE (d:Nat){a:Sx}{ks:List (Option Int)}{v:List FV}{B g s D:FV}{k:Int}{Q:FV×FV->Prop}(h:Ψ k ∉ ks)(hk:-(2 ^ 100)<k/\k<2 ^ 100)(q:Q (.adr 96,m9 a (.dco Φ ks v) B g s D)):callW tb (d+2) 48 [m9 a (.dco Φ ks v) B g s D,.int k] Q:=by
 exact jZ (fd:=OD) rfl rfl ?_
 simp[OD,NH]
 exact⟨k9,oq d h hk (by simpa using q)⟩
def tP (d:Nat){a:Sx}{ks:List (Option Int)}{v:List FV}{B g s D:FV}{k:Int}{Q:FV×FV->Prop}(h:Ψ k ∉ ks)(hk:-(2 ^ 100)<k/\k<2 ^ 100)(q:Q (.adr 96,m9 a (.dco Φ ks v) B g s D)):callW tb (d+4) 49 [m9 a (.dco Φ ks v) B g s D,.int k] Q:=by
 exact jZ (fd:=OC) rfl rfl ?_
 simp[OC,NF]
 exact⟨k9,zw d h hk (by simpa using q)⟩
def rZ (d:Nat){a:Sx}{ks:List (Option Int)}{v:List FV}{B g s D:FV}{k:Int}{Q:FV×FV->Prop}(h:Ψ k ∉ ks)(hk:-(2 ^ 100)<k/\k<2 ^ 100)(q:Q (.adr 96,m9 a (.dco Φ ks v) B g s D)):callW tb (d+2) 50 [m9 a (.dco Φ ks v) B g s D,.int k] Q:=by
 exact jZ (fd:=OB) rfl rfl ?_
 simp[OB,NE]
 exact⟨k9,oq d h hk (by simpa using q)⟩
abbrev kR (n:Nat):List (Option Int):=(i7 n).map λi:Nat=>Ψ (i:Int)
def uT (n:Nat):(kR n).length=n:=by simp[kR]
def EA (n:Nat):kR (n+1)=kR n++[Ψ (n:Int)]:=by simp[kR,List.range_succ]
def mem_kR {n:Nat}{x:Int}:Ψ x∈kR n↔0<=x/\x<n:=by
 simp![kR,ir,gh,Option.some.injEq]
 exact⟨λ⟨i,h,e⟩=>⋯,λh=>⟨x.toNat,⋯,⋯⟩⟩
def wB {α:Type}:∀ (n m:Nat)(vs:List α) (k:Nat),vs.length=n->nK ((List.range' m n).map λi:Nat=>Ψ (i:Int)) vs (Ψ ((m+k:Nat):Int))=vs[k]?
 | 0,m,[],k,_=>rfl
 | n+1,m,v :: r,0,h=>by rw[List.range'_succ,gN,tO,if_pos ∅];rfl
 | n+1,m,v :: r,k+1,h=>by
  rw[List.range'_succ,gN,tO,if_neg (by simp;lia)]
  let e:=wB n (m+1) r k (by simpa using h)
  rw[show m+(k+1)=m+1+k by lia];exact e
def Cs {α:Type}{n:Nat}{vs:List α}{k:Nat}(h:vs.length=n):nK (kR n) vs (Ψ (k:Int))=vs[k]?:=by
 let e:=wB n 0 vs k h
 rw[kR,List.range_eq_range']
 simpa using e
def Bb {n:Nat}{vs:List FV}{w:FV}:k6 (kR n) vs (Ψ (n:Int)) w=(kR (n+1),vs++[w]):=by
 let hk:Ψ (n:Int) ∉ kR n:=λh=>by have:=mem_kR.mp h;lia
 rw[EA];simp[k6,hk]
abbrev sP (ts:List (List Int)):FV:=.dco Φ (kR ts.length) (ts.map λ_=>.non)
abbrev yL (ts:List (List Int)):FV:=.dco Φ (kR ts.length) (ts.map kL)
abbrev sH (a:Sx)(ts:List (List Int)) (s:Nat)(D:List FV):FV:=m9 a (sP ts) (yL ts) (.int ts.length) (.int s) (.lst D)
def uZ {ts:List (List Int)}{k:Nat}(h:k<ts.length):nK (kR ts.length) (ts.map λ_=>FV.non) (Ψ (k:Int))=Ψ .non:=by
 rw[Cs ∅];simp[h]
def Cr {ts:List (List Int)}{k:Nat}(h:k<ts.length):nK (kR ts.length) (ts.map kL) (Ψ (k:Int))=Ψ (kL (ts.getD k [])):=by
 rw[Cs ∅];simp[h]
def n8 {t:List Int}{Q:List FV->Prop}:wp (lR (kL t)) Q=Q (t.map .int):=rfl
def Ba (d:Nat){a:Sx}{ts:List (List Int)}{s:Nat}{D:List FV}{t:List Int}{Q:FV×FV->Prop}(hb:D.length<1000)(hn:ts.length<100)(q:∀ w,Q (.int ts.length,sH a (ts++[t]) s (D++[w]))):callW tb (d+2) 26 [sH a ts s D,kL t] Q:=by
 exact jZ (fd:=Iz) rfl rfl ?_
 simp[Iz,Jn,sH,sP,yL]
 exact⟨k9,Dh d hb ?_⟩
 simp
 exact⟨k9,?_⟩
 rw[n8]
 exact Ey d (by rw[uT];lia) (by rw[uT];lia) ?_
 rw[Bb,Bb]
 have:=q (FV.tup [FV.str "put",FV.dco Φ (kR ts.length) (jl (λx=>FV.non) ts),FV.dco Φ (kR ts.length) (jl kL ts),FV.int ↑ts.length])
 simp[sH,sP,yL] at this
 exact this
def vp (d:Nat){zz:Option PySem.Obj}{a:Sx}{ts:List (List Int)}{s:Nat}{D:List FV}{k:Nat}{Q:FV×FV->Prop}(hk:k<ts.length)(ht:(ts.getD k []).length<=1000)(q:Q (.int (1+((ts.getD k []).length:Int)),m9 a (.dco zz (kR ts.length) (ts.map λ_=>.non)) (yL ts) (.int ts.length) (.int s) (.lst D))):callW tb (d+2) 43 [m9 a (.dco zz (kR ts.length) (ts.map λ_=>.non)) (yL ts) (.int ts.length) (.int s) (.lst D),.int k] Q:=by
 exact jZ (fd:=Ii) rfl rfl ?_
 simp[Ii,Fu,yL]
 rw[uZ hk]
 simp
 rw[Cr hk]
 simp
 exact jZ (fd:=LA) rfl rfl ?_
 simp[LA,LY,kL]
 simpa[yL] using q
def nD:1<=big:=(·)
def AD (d:Nat){ts:List (List Int)}{k:Nat}{Q:FV×FV->Prop}(hk:k<ts.length)(q:Q (.tup [.int k],sP ts)):callW tb (d+1) 10 [sP ts,.int k] Q:=by
 exact jZ (fd:=IN) rfl rfl ?_
 simp[IN,JA,sP]
 rw[uZ hk]
 simp
 exact⟨nD,pz (m:=0) (I:=λ_ L=>L=[Ψ (FV.dco Φ (kR ts.length) (jl (λx=>FV.non) ts)),Ψ (FV.int ↑k),Ψ (FV.lst [FV.int ↑k]),Ψ FV.non]) ?_ rfl⟩
 rintro m L K rfl k
 simp
 exact q
def yf {ts:List (List Int)}:(oV (sP ts)).isSome=Ω:=by simp[sP,oV,uT]
def Gi {ts:List (List Int)}{k:Nat}(h:k<ts.length):Ψ (k:Int)∈kR ts.length:=mem_kR.mpr ⋯
def K1 (d:Nat){a:Sx}{ts:List (List Int)}{s:Nat}{D:List FV}{k:Nat}{Q:FV×FV->Prop}(hk:k<ts.length)(q:Q (.non,sH a ts s D)):callW tb (d+2) 30 [sH a ts s D,.int k] Q:=by
 exact jZ (fd:=Iw) rfl rfl ?_
 simp[Iw,Jk,sH,sP,yL]
 exact⟨k9,rM d (Gi hk) ?_⟩
 simp
 rw[uZ hk]
 exact q
def x9 (d:Nat){a:Sx}{ts:List (List Int)}{s:Nat}{D:List FV}{k:Nat}{Q:FV×FV->Prop}(hk:k<ts.length)(q:Q (.tup [.int k],sH a ts s D)):callW tb (d+2) 31 [sH a ts s D,.int k] Q:=by
 exact jZ (fd:=Iu) rfl rfl ?_
 simp[Iu,Jj,sH,sP,yL]
 exact⟨k9,rM d (Gi hk) ?_⟩
 simp
 exact AD d hk ⟨yf,q⟩
def tj (d:Nat){a:Sx}{ts:List (List Int)}{s:Nat}{D:List FV}{k:Nat}{Q:FV×FV->Prop}(hk:k<ts.length)(q:Q (kL (ts.getD k []),sH a ts s D)):callW tb (d+3) 32 [sH a ts s D,.int k] Q:=by
 exact jZ (fd:=Ir) rfl rfl ?_
 simp[Ir,Ji]
 exact⟨k9,x9 d hk ?_⟩
 simp[sH,sP,yL]
 rw[Cr hk]
 simp[u4]
 simpa[sH,sP,yL] using q
def K5 (n:Nat):(kR n).map oF=(i7 n).map λi:Nat=>.int (i:Int):=by simp[kR,oF]
def zE (ts:List (List Int)):((i7 ts.length).map λi=>1+((ts.getD i []).length:Int))=ts.map λt=>1+(t.length:Int):=by
 apply List.ext_getElem ∅
 intro i h1 h2
 simp at h1
 simp[h1]
def xw {n:Nat}{ms:List Int}(h:ms.Perm ((i7 n).map λi:Nat=>(i:Int)))(h2:ms.Pairwise (·<=·)):ms=(i7 n).map λi:Nat=>(i:Int):=by
 exact h.eq_of_pairwise (le:=(·<=·)) (λa b _ _ h1 h2=>⋯) h2 ?_
 rw[List.pairwise_map]
 exact List.pairwise_lt_range.imp λh=>⋯
def getD_mem {α:Type}{d0:α}{ts:List α}{i:Nat}(h:i<ts.length):ts.getD i d0∈ts:=by
 rw[jc,aV h];exact eL h
def pC:2<=big:=(·)
def GL {ts:List (List Int)}{c:Nat}(h:∀ t∈ts,t.length<=c):(ts.map λt=>1+(t.length:Int)).sum<=(ts.length:Int)*(1+c):=by
 induction ts with
 | nil=>simp
 | cons t r ih =>
  let h1:=h t ∅
  let h2:=ih λu hu=>h u (bT _ hu)
  simp![gN,List.sum_cons,eK]
  have:((r.length+1:Nat):Int)*(1+c)=(r.length:Int)*(1+c)+(1+c):=by push_cast;rw[Int.add_mul];lia
  lia
def rT:∀ ns:List Int,mM (ns.map .int)=Ψ ns
 | []=>rfl
 | n :: r=>by
  have:=rT r
  show mM (.int n :: r.map .int)=_
  simp[mM,this]
def oI {ns:List Int}(hl:ns.length<=big)(hs:∀ x∈ns,oJ x=Ω):zA (ns.map .int)=Ψ ns.sum:=by
 unfold zA
 rw[rT]
 show (if _ then _ else _)=_
 rw[if_pos ⟨hl,eO.mpr hs⟩]
def nu {n:Int}(h1:-1000000<=n)(h2:n<=1000000):oJ n=Ω:=by
 unfold oJ;exact decide_eq_true ⟨⋯,⋯⟩
def DO (d:Nat){a:Sx}{ts:List (List Int)}{s:Nat}{D:List FV}{Q:FV×FV->Prop}(hn:ts.length<100)(ht:∀ t∈ts,t.length<=1000)(q:Q (.int (ts.map λt=>1+(t.length:Int)).sum,sH a ts s D)):callW tb (d+3) 33 [sH a ts s D] Q:=by
 exact jZ (fd:=Iq) rfl rfl ?_
 simp[Iq,Fz]
 simp[xT,sH,sP]
 exact⟨by rw[uT];unfold big;lia,λob=>?_⟩
 rw[K5]
 exact tZ (g:=λi:Nat=>.int (1+((ts.getD i []).length:Int))) ?_ _ [] (λi hi K k=>?_) ?_
 ·simp[ES]
 ·let hi:=gh.mp hi
  simp
  exact⟨k9,vp (d+1) hi (ht _ (getD_mem hi)) ?_⟩
  simpa using k
 ·let e:jl (λi:Nat=>FV.int (1+((ts.getD i []).length:Int))) (i7 ts.length)=(ts.map λt=>1+(t.length:Int)).map .int:=by
   rw[<- zE,iw];rfl
  let e2:=oI (ns:=ts.map λt=>1+(t.length:Int)) (by rw[fE];unfold big;lia) (λx hx=>by
   let(t,h,rfl):=ir.mp hx
   have:=ht t h
   exact nu ⋯ ⋯)
  rw[fw,e]
  simp![e2]
  simp[Ka]
  simpa[sP,sH] using q
def B8 (n:Nat)(v:List FV):B9 (.dco Φ (kR n) v)=Ψ ((i7 n).map λi:Nat=>(i:Int)):=by
 show ol id ((i7 n).map λi:Nat=>Ψ (i:Int))=_
 induction (i7 n) with
 | nil=>rfl
 | cons x r ih =>
  rw[gN,gN]
  simp[ol,ih]
def rK (d:Nat){a:Sx}{ts:List (List Int)}{s:Nat}{D:List FV}{Q:FV×FV->Prop}(hn:ts.length<60)(q:Q (.lst ((i7 ts.length).map λi:Nat=>.int (i:Int)),sH a ts s D)):callW tb (d+1) 29 [sH a ts s D] Q:=by
 exact jZ (fd:=Ix) rfl rfl ?_
 simp[Ix,FC,sH,sP,yL]
 rw[B8]
 simp
 exact⟨⋯,λms h1 h2=>?_⟩
 rw[xw h1 h2,iw]
 exact q
def vA (d:Nat){a:Sx}{ts:List (List Int)}{s:Nat}{D:List FV}{Q:FV×FV->Prop}(q:Q (.int s,sH a ts s D)):callW tb (d+1) 34 [sH a ts s D] Q:=by
 exact jZ (fd:=Ip) rfl rfl ?_
 simp[Ip,Fy,sH]
 exact q
def wH (d:Nat){a:Sx}{ts:List (List Int)}{s:Nat}{D:List FV}{k:Nat}{Q:FV×FV->Prop}(hk:k<ts.length)(ht:(ts.getD k []).length<=1000)(q:Q (.tup [kL (ts.getD k []),.int (1+((ts.getD k []).length:Int))],sH a ts (s+(1+(ts.getD k []).length)) D)):callW tb (d+4) 28 [sH a ts s D,.int k] Q:=by
 exact jZ (fd:=Iy) rfl rfl ?_
 simp[Iy,Jl]
 exact⟨k9,tj d hk ?_⟩
 simp[sH,sP]
 exact AD (d+2) hk ⟨yf,?_⟩
 simp
 exact⟨nD,?_⟩
 exact kY (f:=λi:Nat=>.int i) (g:=λi:Nat=>.int (1+((ts.getD i []).length:Int))) [k] [] (λi hi K k=>?_) ?_
 ·obtain rfl:=cO.mp hi
  simp
  exact⟨k9,vp (d+1) hk ht (by simpa[sP] using k)⟩
 ·let e:zA ([]++jl (λi:Nat=>FV.int (1+((ts.getD i []).length:Int))) [k])=Ψ (1+((ts.getD k []).length:Int)):=by
   let e:=oI (ns:=[1+((ts.getD k []).length:Int)]) nD λx hx=>by
    obtain rfl:=cO.mp hx
    exact nu ⋯ ⋯
   simpa using e
  rw[e]
  simp[pC]
  simpa[sH,sP,kL,Int.natCast_add] using q
def yp {C dx:PySem.Addr}{f:PySem.Str}{w:FV}{ns:List (PySem.Str×Option PySem.Addr)}{vs:List FV}(h:ns.length<1000)(h2:f ∉ ns.map (·.1)):xq C f w (.shf C dx ns vs)=Ψ (.shf C dx (ns++[(f,Φ)]) (vs++[w])):=by
 show (if C=C/\ns.length<1000 then _ else _)=_
 rw[if_pos ⟨rfl,h⟩,if_neg h2]
def uP {C dx:PySem.Addr}{f:PySem.Str}{w:FV}{ns:List (PySem.Str×Option PySem.Addr)}{vs:List FV}{Q:FV->Prop}(h:ns.length<1000)(h2:ns.map (·.1)=m)(h3:f ∉ m)(q:∀ l,Q (.shf C dx (ns++[(f,Ψ l)]) (vs++[w]))):Hz C f w Q (.shf C dx ns vs):=And.intro rfl ⟨h,h2 ▸ h3,q⟩
def yP (d:Nat)(dx:PySem.Addr){Q:FV×FV->Prop}(q:∀ a:Sx,Q (.non,m9 a (.dco Φ [] []) (.dco Φ [] []) (.int 0) (.int 0) (.lst []))):callW tb (d+1) 25 [.shf 281 dx [] []] Q:=by
 exact jZ (fd:=IA) rfl rfl ?_
 simp[IA,Jo]
 exact uP (m:=[]) (·) rfl (by nofun) λl1=>?_
 exact uP (m:=["ons"]) ∅ rfl (by nofun) λl2=>?_
 let e1:=yp (C:=281) (dx:=dx) (f:="given") (w:=.int 0) (ns:=[("ons",Ψ l1),("kept",Ψ l2)]) (vs:=[.dco Φ [] [],.dco Φ [] []]) ∅ (by show _ ∉ [("ons":PySem.Str),"kept"];nofun)
 let e2:=yp (C:=281) (dx:=dx) (f:="spent") (w:=.int 0) (ns:=[("ons",Ψ l1),("kept",Ψ l2),("given",Φ)]) (vs:=[.dco Φ [] [],.dco Φ [] [],.int 0]) ∅ (by show _ ∉ [("ons":PySem.Str),"kept","given"];nofun)
 simp![fw,eM] at e1 e2 ⊢
 rw[e1]
 rw[lu]
 rw[e2,lu]
 exact uP (m:=["ons","kept","given","spent"]) ∅ rfl (by nofun) λl3=>q (dx,l1,l2,l3)
def Er (d:Nat){N:Int}{v:FV}(hs:Lf N v)(hN:N<900000){Q:FV×FV->Prop}(q:∀ (n:Nat) v',n<=12->Lf (N+2) v'->Q (.int n,v')):callW tb (d+3) 19 [v,.int 12] Q:=by
 exact jZ (fd:=IF) rfl rfl ?_
 simp[IF,Js]
 exact kQ d hs ⋯ ⋯ ⋯ λu v' u0 u1 hv'=>?_
 simp
 exact mX (λg=>?_) λg=>?_
 ·exact kQ d hv' ⋯ ⋯ ⋯ λw v2 w0 w1 hv2=>?_
  simp
  have:=q (7+w).toNat v2 ⋯ (hv2.mono ⋯)
  rwa [show (((7+w).toNat:Nat):Int)=7+w by lia] at this
 ·exact⟨(·),?_⟩
  exact kQ d hv' ⋯ ⋯ ⋯ λw v2 w0 w1 hv2=>?_
  simp
  exact vo w0 (by simpa using w1) λx hx=>?_
  obtain⟨n,rfl,hn⟩:∃ n:Nat,x=.int n/\n<=12:=by
   simp at hx
   rcases hx with rfl|rfl|rfl|rfl|rfl|rfl|rfl|rfl|rfl|rfl
   ·exact⟨0,rfl,⋯⟩
   ·exact⟨1,rfl,⋯⟩
   ·exact⟨2,rfl,⋯⟩
   ·exact⟨3,rfl,⋯⟩
   ·exact⟨4,rfl,⋯⟩
   ·exact⟨5,rfl,⋯⟩
   ·exact⟨6,rfl,⋯⟩
   ·exact⟨4,rfl,⋯⟩
   ·exact⟨5,rfl,⋯⟩
   ·exact⟨3,rfl,⋯⟩
  exact q n v2 hn (hv2.mono ⋯)
def zB (d:Nat){a:Sx}{ts:List (List Int)}{s:Nat}{D:List FV}{Q:FV×FV->Prop}(h:GT ts)(hn:ts.length<=12)(q:Q (Ms ts,sH a ts s D)):callW tb (d+4) 35 [sH a ts s D] Q:=by
 exact jZ (fd:=Io) rfl rfl ?_
 simp[Io,Fx]
 exact⟨k9,rK (d+2) ⋯ ?_⟩
 simp
 exact⟨by unfold big;lia,?_⟩
 exact kY (f:=λi:Nat=>.int i) (g:=λi:Nat=>kL (ts.getD i [])) _ [] (λi hi K k=>?_) ?_
 ·simp
  exact⟨k9,tj d (gh.mp hi) (by simpa using k)⟩
 ·let e:(i7 ts.length).map (λi:Nat=>kL (ts.getD i []))=ts.map kL:=by
   apply List.ext_getElem ∅
   intro i h1 h2
   simp at h1
   simp[h1]
  rw[fw,e]
  simp
  exact rh d h hn (.inl rfl) (by simpa using q)
def ua {α:Type}{tg:Tg}{n m:Nat}{ek ev:EW}{f:α->FV}{Q:List (Option Int)->List FV->jR->Prop}{L:jR}:∀ (xs:List α)(ks:List (Option Int))(vs:List FV),
  (∀ x∈xs,∀ K:Option Int->FV->jR->Prop,(∀ k v,K k v L)->gW tg (f x) (L++gf m Φ) λL1=>ek L1 λkx L3=>wp (qh kx) λk=>ev L3 λv L4=>K k v (L4.take n))->(∀ ks vs,Q ks vs L)->oB n m tg lp ek ev (xs.map f) ks vs L Q
 | [],ks,vs,_,E=>E ks vs
 | x :: xs,ks,vs,B,E=>B x cQ (λk v L'=>oB n m tg lp ek ev (xs.map f) (k6 ks vs k v).1 (k6 ks vs k v).2 L' Q) λk v=>ua xs _ _ (λy hy=>B y (bT _ hy)) E
def qg {α:Type}{f g:α->FV}:∀ xs:List α,lT (xs.map f) (xs.map g)=xs.map λx=>.tup [f x,g x]
 | []=>rfl
 | x :: r=>by rw[gN,gN,gN,<- qg r];rfl
def tQ (ts:List (List Int)):ts.map kL=(i7 ts.length).map λi:Nat=>kL (ts.getD i []):=by
 apply List.ext_getElem ∅
 intro i h1 h2
 simp at h1
 simp[h1]
def zY (d:Nat){a:Sx}{ts:List (List Int)}{s:Nat}{D:List FV}{Q:FV×FV->Prop}(hn:ts.length<=12)(q:Q (.tup (gf ts.length .non),sH a ts s D)):callW tb (d+2) 36 [sH a ts s D] Q:=by
 exact jZ (fd:=Im) rfl rfl ?_
 simp[Im,Jh]
 exact⟨k9,rK d ⋯ ?_⟩
 simp
 rw[mQ,qg]
 exact⟨by simp;unfold big;lia,ua _ _ _ (λi hi K k=>?_) λks vs=>?_⟩
 ·simp
  exact k _ _
 ·simp
  exact⟨by unfold big;lia,?_⟩
  exact kY (f:=λi:Nat=>.int i) (g:=λ_=>.non) _ [] (λi hi K k=>?_) ?_
  ·simp[sH,sP]
   rw[uZ (gh.mp hi)]
   simpa[sH,sP] using k
  ·rw[fw,List.map_const',dI]
   simpa using q
def A2 (d:Nat){ms:List Int}{Q:FV×FV->Prop}(hl:ms.length<=100)(hs:∀ x∈ms,-(2 ^ 40)<x/\x<2 ^ 40)(q:Q (.bl Ω,.lst (ms.map .int))):callW tb (d+2) 24 [.lst (ms.map .int),.lst (ms.map .int)] Q:=by
 exact jZ (fd:=IB) rfl rfl ?_
 simp[IB,Jp]
 rw[oN,iw]
 exact⟨by rw[fE];unfold big;lia,?_⟩
 exact kY (g:=λ_=>.bl Ω) ms [] (λx hx K k=>?_) ?_
 ·simp
  exact nA (p:=0) (k:=41) d (.int (hs x hx).1 (hs x hx).2) (·) (·) (by simpa using k)
 ·rw[fw,show (ms.map λ_=>FV.bl Ω)=ms.map λx=>FV.bl ((λ_=>Ω) x) from rfl,oU]
  simp
  rw[show (ms.all λ_=>Ω)=Ω by simp];exact q
def Ap (d:Nat){a:Sx}{ts:List (List Int)}{s:Nat}{D:List FV}{k:Int}{w:String}{Q:FV×FV->Prop}(hw:w∈[("fetch":String),"forget","on","way"])(hk:Ψ k ∉ kR ts.length)(hb:-(2 ^ 100)<k/\k<2 ^ 100)(q:Q (.str "no make",sH a ts s D)):callW tb (d+5) 21 [sH a ts s D,.str w,.tup [.int k]] Q:=by
 exact jZ (fd:=IE) rfl rfl ?_
 simp[IE,FH]
 exact Or.inr ?_
 let q':∃ cl,FV.adr 96=FV.adr cl/\∃ x,(cl,x)∈xY/\∀ (bs:FV),Q (FV.str x,sH a ts s D):=⟨96,rfl,"no make",by simp[xY],λ_=>q⟩
 let q2:∃ cl,FFl.ret (FV.adr 96)=FFl.ret (FV.adr cl)/\∃ x,(cl,x)∈xY/\∀ (bs:FV),Q (FV.str x,sH a ts s D):=⟨96,rfl,"no make",by simp[xY],λ_=>q⟩
 simp at hw
 rcases hw with rfl|rfl|rfl|rfl
 ·exact⟨(·),by rw[if_pos rfl];first|exact⟨k9,tP d hk hb q'⟩|exact⟨k9,tP d hk hb q2⟩⟩
 ·exact⟨(·),by rw[if_neg (·),if_pos rfl];first|exact⟨k9,rZ (d+2) hk hb q'⟩|exact⟨k9,rZ (d+2) hk hb q2⟩⟩
 ·exact⟨(·),by rw[if_neg (·),if_neg (·),if_pos rfl];first|exact⟨k9,BE (d+2) hk hb q'⟩|exact⟨k9,BE (d+2) hk hb q2⟩⟩
 ·exact⟨(·),by rw[if_neg (·),if_neg (·),if_neg (·)];first|exact⟨k9,uk (d+2) hk hb q'⟩|exact⟨k9,uk (d+2) hk hb q2⟩⟩
def rA (d:Nat){i:Int}{Q:FV×FV->Prop}(h:-1000000<=i)(h':i<=1000000)(q:Q (.bl Ω,.non)):callW tb (d+1) 20 [.int i,.int i] Q:=nA (p:=0) (k:=41) d (.int ⋯ ⋯) (·) (·) q
def Fb {ts:List (List Int)}(h:GT ts){t:List Int}(ht:t∈ts):Vl 1008 1 (kL t):=by
 let(h1,h2):=h t ht
 exact (Vl.tup (k:=41) (p:=0) (m:=24) ?_ (by simp;lia)).mono (·) (·)
 intro y hy
 let(i,hi,rfl):=ir.mp hy
 have:=h2 i hi
 exact Vl.int ⋯ ⋯
def Hx {n:Nat}{k:Int}(h:k<0 ∨ (n:Int)<=k):Ψ k ∉ kR n:=λm=>by have:=mem_kR.mp m;lia
def GK {ts:List (List Int)}:0<=(ts.map λt=>1+(t.length:Int)).sum:=by
 induction ts with
 | nil=>simp
 | cons t r ih=>simp![gN,List.sum_cons];lia
def vB (d:Nat){a:Sx}{ts:List (List Int)}{s:Nat}{D:List FV}{Q:FV×FV->Prop}(hn:ts.length<=12)(h:GT ts)(q:Q (.bl Ω,sH a ts s D)):callW tb (d+6) 22 [sH a ts s D,.lst (ts.map kL)] Q:=by
 let hsum:=GL (ts:=ts) (c:=24) λt ht=>(h t ht).1
 let hnn:=GK (ts:=ts)
 exact jZ (fd:=ID) rfl rfl ?_
 simp[ID,Jr]
 exact⟨kZ ⋯ ⋯,?_⟩
 exact m5 (I:=λj L=>∃ b c,L=[Ψ (sH a ts s D),Ψ (.lst (ts.map kL)),Ψ (.int ts.length),b,c,Φ,Φ]) 2 0 _ ⟨_,_,rfl⟩ ?_ ?_
 ·rintro j L K-hj ⟨b,c,rfl⟩ k
  simp
  exact⟨k9,rK (d+4) ⋯ ?_⟩
  simp
  exact⟨⟨kZ ⋯ ⋯,by unfold big;lia⟩,?_⟩
  rw[mQ]
  let e:(i7 ts.length).map (λi:Nat=>FV.int (i:Int))=((i7 ts.length).map λi:Nat=>(i:Int)).map .int:=by rw[iw];rfl
  rw[e]
  exact A2 (d+3) (by simp;lia) (λx hx=>?_) ?_
  ·let(i,hi,rfl):=ir.mp hx
   have:=gh.mp hi
   lia
  ·simp
   refine⟨by unfold big;lia,k _ ⟨_,_,rfl⟩⟩
 ·rintro L ⟨b,c,rfl⟩
  simp
  exact⟨k9,zY (d+3) hn ⟨nD,?_⟩⟩
  simp
  exact⟨⟨⋯,by unfold big;lia⟩,?_⟩
  exact nA (p:=1) (k:=12) (d+3) ((Vl.tup (k:=0) (p:=0) (m:=12) (λx hx=>?_) (by simp;lia)).mono (·) (·)) (·) (·) ?_
  ·obtain rfl:=List.eq_of_mem_replicate hx;exact Vl.non
  simp
  exact⟨k9,DO (d+2) ⋯ (λt ht=>by have:=(h t ht).1;lia) ⟨by unfold big;lia,?_⟩⟩
  exact kY (f:=kL) (g:=λt=>.int (1+(t.length:Int))) ts [] (λt ht K k=>?_) ?_
  ·simp[kL]
   simpa using k
  let e:ts.map (λt=>FV.int (1+(t.length:Int)))=(ts.map λt=>1+(t.length:Int)).map .int:=by rw[iw];rfl
  let e2:=oI (ns:=ts.map λt=>1+(t.length:Int)) (by rw[fE];unfold big;lia) (λx hx=>by
   let(t,ht,rfl):=ir.mp hx
   have:=(h t ht).1
   exact nu ⋯ ⋯)
  rw[fw,e,e2,lu]
  exact rA (d+4) ⋯ ⋯ ?_
  simp
  exact⟨(·),?_⟩
  exact mH (f:=λk:Int=>FV.int k) (I:=λ_ L=>∃ e1 e2 e3 e4,L=[Ψ (sH a ts s D),Ψ (.lst (ts.map kL)),Ψ (.int ts.length),e1,e2,e3,e4]) [-1,(ts.length:Int),40] [-1,(ts.length:Int),40] [] _ rfl ⟨_,_,_,_,rfl⟩ ?_ ?_
  ·rintro ds k r L K e ⟨e1,e2,e3,e4,rfl⟩ kk
   let hk:k∈[-1,(ts.length:Int),40]:=by rw[e];simp
   let hk2:(k<0 ∨ (ts.length:Int)<=k)/\-100<k/\k<100:=by
    simp at hk;rcases hk with rfl|rfl|rfl<;>lia
   simp
   exact⟨(·),?_⟩
   exact mH (f:=λw:String=>FV.str w) (I:=λ_ L=>∃ e1 e2 e4,L=[Ψ (sH a ts s D),Ψ (.lst (ts.map kL)),Ψ (.int ts.length),e1,e2,Ψ (.int k),e4]) ["fetch","forget","on","way"] ["fetch","forget","on","way"] [] _ rfl ⟨_,_,_,rfl⟩ ?_ ?_
   ·rintro ds w r L K e ⟨e1,e2,e4,rfl⟩ kw
    let hw:w∈[("fetch":String),"forget","on","way"]:=by rw[e];simp
    simp
    exact⟨nD,Ap d hw (Hx hk2.1) ⋯ ?_⟩
    simp
    exact kw _ ⟨_,_,_,rfl⟩
   ·rintro L ⟨e1,e2,e4,rfl⟩
    exact kk _ ⟨_,_,_,_,rfl⟩
  ·rintro L ⟨e1,e2,e3,e4,rfl⟩
   simpa using q
def zc {α:Type}(xs:List α){i j:Nat}(h:i<=j):lJ xs (Ψ (i:Int)) (Ψ (j:Int))=(xs.drop i).take (j-i):=by
 obtain⟨t,rfl⟩:∃ t,j=i+t:=⟨j-i,⋯⟩
 rw[Nat.add_sub_cancel_left,<- qY];simp
def BU (d:Nat)(ns:List Int) (k:Nat){Q:FV×FV->Prop}(q:∀ v y,Lf 0 v->Q (v,y)):callW tb (d+1) 12 [.lst (ns.map .int),.int k] Q:=by
 exact jZ (fd:=IL) rfl rfl ?_
 let h1:small 1000003=Ω:=(·)
 let h2:small 0=Ω:=(·)
 let h4:small 10=Ω:=(·)
 let h5:∀ r:Bool,small (if r=Ω then 1 else 0)=Ω:=by intro r;cases r<;>decide
 simp[IL,Jy]
 split
 ·rename_i hk
  rw[lE rfl (show (ns.map FV.int)[k]?=Ψ (.int ns[k]) by simp[hk])]
  simp[h1,h4,h5,big]
  exact⟨.inr (by by_cases hh:1000000000000000000<=(if ns[k]<0 then -ns[k] else ns[k])<;>simp![hh,if_true,if_false]<;>decide),q _ _ ⟨_,_,_,rfl,⋯,⋯⟩⟩
 ·simp[h1,h2,h4,big]
  exact q _ _ ⟨_,_,_,rfl,⋯,⋯⟩
def CD (d:Nat)(ns:List Int){Q:FV×FV->Prop}(q:∀ ms:List Int,ms.length<=4->Q (.lst (ms.map .int),.non)):callW tb (d+1) 14 [.scr ns,.int 4] Q:=by
 exact jZ (fd:=IK) rfl rfl ?_
 simp[IK,Jx]
 rw[show ∀ Q:List FV->Prop,wp (lN (.scr ns)) Q↔Q (ns.map .int) from λ_=>Iff.rfl,show ∀ Q:List FV->Prop,wp (lN (.scr ns)) Q↔Q (ns.map .int) from λ_=>Iff.rfl]
 let c6:lJ ns Φ (Ψ 4)=ns.take 4:=(show lJ ns Φ (Ψ 4)=lJ ns (Ψ (0:Nat)) (Ψ (4:Nat)) by simp[lJ,sIx]).trans (zc ns (i:=0) (j:=4) ⋯)
 rw[vj,vj,show lJ ns (Ψ 4) (Ψ 63)=(ns.drop 4).take 59 from zc ns (i:=4) (j:=63) ⋯,c6,fE]
 rw[show lT (uo 0 ((ns.drop 4).take 59).length) (((ns.drop 4).take 59).map FV.int)=((i7 ((ns.drop 4).take 59).length).zip ((ns.drop 4).take 59)).map λp:Nat×Int=>FV.tup [.int p.1,.int p.2] by rw[mQ,vU]]
 exact mH (f:=λp:Nat×Int=>FV.tup [.int p.1,.int p.2]) (I:=λ_ L=>∃ (ms:List Int)(x y:Option FV),ms.length=(ns.take 4).length/\L=[Ψ (.scr ns),Ψ (.int 4),Ψ (.lst (ms.map .int)),x,y]) _ _ [] _ rfl ⟨ns.take 4,_,_,rfl,rfl⟩ (λdd c r L K e hI hK=>?_) λL hI=>?_
 ·let(ms,x,y,hl,rfl):=hI
  let hc:c∈(i7 ((ns.drop 4).take 59).length).zip ((ns.drop 4).take 59):=by rw[fw] at e;rw[e];simp
  let h1:c.1<((ns.drop 4).take 59).length:=gh.mp (fu hc).1
  let h2:c.1<59/\4<ns.length:=by simp at h1;lia
  let h6:ms.length=4:=by rw[hl];simp;lia
  obtain⟨j,hj,ej⟩:∃ j:Nat,j<4/\(c.1:Int) % 4=j:=⟨c.1 % 4,⋯,⋯⟩
  simp
  rw[ej,lE rfl (v:=.int (ms.getD j 0)) (by rw[dJ,aV ⋯];simp[show j<ms.length by lia])]
  exact⟨.inr (rj ⋯ ⋯),?_⟩
  simp
  rw[xI rfl ⋯,<- List.map_set]
  exact hK _ ⟨_,_,_,by rw[fB];exact hl,rfl⟩
 ·let(ms,x,y,hl,rfl):=hI
  simp
  exact q ms (by rw[hl];simp;lia)
def Cc (t:List Int):(Pz.keep 0 t.length).rows.map (Cz.ev t)=t:=by
 show ((List.range' 0 t.length).map Cz.keep).map (Cz.ev t)=t
 rw[iw]
 exact (qo 0 t.length 0 t ⋯).trans ∅
def Me {t:List Int}(h:1<=t.length)(_:∀ y∈t,0<=y/\y<1000):Fine t.length [.keep 0 t.length,.keep 0 t.length,.keep 0 t.length]/\(.tup (((lA [.keep 0 t.length,.keep 0 t.length,.keep 0 t.length]).map (Cz.ev t)).map .int):FV)=kL (t++t++t)/\(lA [Pz.keep 0 t.length,.keep 0 t.length,.keep 0 t.length]).length=3*t.length:=by
 exact⟨⟨λp hp=>?_,λc hc=>?_⟩,?_,?_⟩
 ·simp at hp;subst hp;exact h
 ·simp[lA,Pz.rows] at hc
  let(a,ha,rfl):=hc
  exact ha
 ·have:=Cc t
  simp![lA,List.flatMap_cons,List.flatMap_nil,List.map_append,this,kL]
  simp
 ·simp[lA,Pz.rows];lia
def e0S (a:Sx):m9 a (.dco Φ [] []) (.dco Φ [] []) (.int 0) (.int 0) (.lst [])=sH a [] 0 []:=by simp[sH,sP,yL,kR]
def A9 {n:Nat}{ds r:List Nat}{i:Nat}(e:i7 n=ds++i :: r):i=ds.length/\ds.length<n:=by
 let hl:n=ds.length+(r.length+1):=by simpa using congrArg iL e
 let h:(i7 n)[ds.length]?=Ψ i:=by rw[e];simp
 rw[List.getElem?_range ⋯] at h
 cases h;exact⟨rfl,⋯⟩
def AL {ts:List (List Int)}{j:Nat}(h:j<ts.length):ts.take j++[ts[j]?.getD []]=ts.take (j+1):=by
 rw[List.take_add_one,aV h];rfl
def GT.take {ts:List (List Int)}(h:GT ts) (n:Nat):GT (ts.take n):=λt ht=>h t (bQ ht)
def zy {ts:List (List Int)}{j u:Nat}(h:u<j):(ts.take j).getD u []=ts.getD u []:=by
 rw[jc,jc,List.getElem?_take];simp[h]
def law_val (ns:List Int):callW tb 14 23 [.scr ns] λz=>z.1=.bl Ω:=by
 exact jZ (fd:=IC) rfl rfl ?_
 simp[IC,Jq]
 exact CD 12 ns λms hms=>?_
 simp
 exact⟨by split<;>exact kZ ⋯ ⋯,?_⟩
 exact m5 (I:=λ_ L=>∃ c2 c3 c4 c5 c6 c7 c8 c9 c10 c11 c12 c13 c14,L=[Ψ (.scr ns),Ψ (.lst (ms.map .int)),c2,c3,c4,c5,c6,c7,c8,c9,c10,c11,c12,c13,c14]) _ 0 _ ⟨_,_,_,_,_,_,_,_,_,_,_,_,_,rfl⟩ ?_ ?_
 ·rintro k L K - - ⟨c2,c3,c4,c5,c6,c7,c8,c9,c10,c11,c12,c13,c14,rfl⟩ kk
  simp
  exact BU 12 ms k λv1 y l1=>?_
  let(a,b,c,rfl,l2,l3):=l1
  simp
  exact Er 10 (N:=0) ⟨a,b+600,c,rfl,l2,l3⟩ ⋯ λn v2 hn lv=>?_
  simp
  exact zx 8 lv ⋯ ⋯ hn λxs v3 hl hx lw=>?_
  let(ts,rfl,G):=yc hx
  let hl:ts.length=n:=by simpa using hl
  let(sy,ey,hy):=GN (GG G ⋯) (·) ⋯
  simp
  rw[ey,lu]
  intro dx
  exact yP 12 dx λaa=>⟨rfl,?_⟩
  rw[mQ,tQ ts,qg]
  exact mH (f:=λi:Nat=>FV.tup [.int i,kL (ts.getD i [])]) (I:=λds L=>∃ s v D c8 c9 c10 c11 c12 c13 c14,L=[Ψ (.scr ns),Ψ (.lst (ms.map .int)),Ψ (.int k),Ψ v,Ψ (.lst (ts.map kL)),Ψ sy,Ψ (sH aa (ts.take ds.length) s D),Ψ (.int s),c8,c9,c10,c11,c12,c13,c14]/\Lf (700+ds.length) v/\D.length=ds.length/\s<=25*ds.length) _ _ [] _ rfl ⟨0,v3,[],c8,c9,c10,c11,c12,c13,c14,by simp[sH,sP,yL,kR,tQ ts],lw.mono (by simp;lia),rfl,∅⟩ ?_ ?_
  ·rintro ds i r L K e ⟨s,v,D,c8,c9,c10,c11,c12,c13,c14,rfl,hv,hD,hs⟩ kj
   let(rfl,hj):=A9 e
   let hkj:∀ s v D c8 c9 c10 c11 c12 c13 c14,Lf (701+ds.length) v->D.length=ds.length+1->s<=25*(ds.length+1)->K [Ψ (.scr ns),Ψ (.lst (ms.map .int)),Ψ (.int k),Ψ v,Ψ (.lst (ts.map kL)),Ψ sy,Ψ (sH aa (ts.take (ds.length+1)) s D),Ψ (.int s),c8,c9,c10,c11,c12,c13,c14]:=λs v D c8 c9 c10 c11 c12 c13 c14 h1 h2 h3=>kj _ ⟨s,v,D,c8,c9,c10,c11,c12,c13,c14,∅,by simpa using h1.mono ⋯,by simpa using h2,by simpa using h3⟩
   generalize ds.length=j at *
   let htl:(ts.take j).length=j:=by rw[eI];lia
   simp
   exact⟨k9,Ba 11 ⋯ ⋯ λw=>?_⟩
   rw[htl,AL hj]
   exact rA 12 ⋯ ⋯ ?_
   simp
   rw[show ((j:Int)+1)=((j+1:Nat):Int) from rfl,vh,<- List.map_take]
   let hts:(ts.take (j+1)).length=j+1:=by rw[eI];lia
   exact vB 7 ⋯ (G.take _) ?_
   simp
   exact kQ 11 hv ⋯ ⋯ ⋯ λu v2 u0 u1 lv2=>?_
   let(u,rfl):=Int.eq_ofNat_of_zero_le u0
   let hu:u<j+1:=⋯
   let hg:=G.get u
   let hgt:(ts.take (j+1)).getD u []=ts.getD u []:=zy hu
   generalize ht:ts.getD u []=t at *
   let ix:∀ R:FV->Prop,wp (lH (FV.lst (ts.map kL)) (.int u)) R↔R (kL t):=λR=>by rw[<- ht];exact pP ⋯ R
   simp![ix,n8]
   exact⟨k9,wH 9 ⋯ (by rw[hgt];lia) ?_⟩
   rw[hgt]
   exact⟨pC,?_⟩
   rw[fE]
   exact nA (p:=2) (k:=2100) 10 ((Vl.tup (k:=1008) (p:=1) (m:=2) (λx hx=>?_) ∅).mono (·) (·)) (·) (·) ?_
   ·simp![gM,eF,or_false] at hx
    rcases hx with rfl|rfl
    ·exact Fb G (by rw[<- ht];exact getD_mem ⋯)
    ·exact (Vl.int ⋯ ⋯).mono (·) (·)
   simp
   exact⟨k9,vA 12 ⟨k9,x9 11 ⋯ ⟨k9,K1 11 ⋯ ⟨(·),nD,(·),?_⟩⟩⟩⟩
   dsimp only
   let es:(s:Int)+1+(t.length:Int)=((s+(1+t.length):Nat):Int):=⋯
   rw[es]
   exact nA (p:=2) (k:=200) 10 ((Vl.lst (k:=42) (p:=1) (m:=3) (λx hx=>?_) ∅).mono (·) (·)) (·) (·) ?_
   ·simp![gM,eF,or_false] at hx
    rcases hx with rfl|rfl|rfl
    ·exact (Vl.int ⋯ ⋯).mono (·) (·)
    ·exact (Vl.tup (k:=41) (p:=0) (m:=1) (λx hx=>?_) ∅).mono (·) (·)
     obtain rfl:=cO.mp hx
     exact Vl.int ⋯ ⋯
    ·exact Vl.non.mono (·) (·)
   simp
   exact hkj _ _ _ _ _ _ _ _ _ _ (lv2.mono ⋯) (by simp[hD]) ⋯
  ·rintro L ⟨s,v,D,c8,c9,c10,c11,c12,c13,c14,rfl,hv,hD,hs⟩
   let hs2:s<=25*ts.length:=by simpa using hs
   simp
   exact vB 7 ⋯ G ?_
   simp
   rw[ey,lu,hy]
   exact⟨rfl,k9,vA 12 (rA 12 ⋯ ⋯ ?_)⟩
   simp
   exact⟨by unfold big;lia,?_⟩
   exact oA (f:=kL) (g:=kL) (p:=λt=>Δ (4<t.length)) ts [] (λt ht K N k1 k2=>?_) ?_
   ·simp[n8]
    by_cases h4:4<t.length
    ·rw[if_pos ⋯];simpa using k1 (by simpa using h4)
    ·rw[if_neg ⋯];simpa using k2 (by simpa using h4)
   rw[fw,show (1:Int)=((1:Nat):Int) from rfl,vh,<- List.map_take]
   obtain⟨U,hU⟩:∃ U,U=(ts.filter λt=>Δ (4<t.length)).take 1:=⟨_,rfl⟩
   let hU2:∀ t∈U,t∈ts:=λt h=>by rw[hU] at h;exact (fy.mp (bQ h)).1
   let hU3:∀ t∈U,4<t.length:=λt h=>by rw[hU] at h;simpa using (fy.mp (bQ h)).2
   rw[<- hU]
   simp
   exact mH (f:=kL) (I:=λ_ L=>∃ c8 c9 c10 c11 c13 c14,L=[Ψ (.scr ns),Ψ (.lst (ms.map .int)),Ψ (.int k),Ψ v,Ψ (.lst (ts.map kL)),Ψ sy,Ψ (sH aa ts s D),Ψ (.int s),c8,c9,c10,c11,Ψ (.lst (U.map kL)),c13,c14]) U U [] _ rfl ⟨_,_,_,_,_,_,rfl⟩ ?_ ?_
   ·rintro ds t r L K e ⟨c8,c9,c10,c11,c13,c14,rfl⟩ kj
    let htU:t∈U:=by rw[e];simp
    let hg:=G t (hU2 t htU)
    let h4:=hU3 t htU
    simp[n8]
    exact⟨(·),nD,(·),?_⟩
    let h1:=Me (t:=t) ⋯ (λy hy=>hg.2 y hy)
    let hc:=xX (old:=t) (ps:=[.keep 0 t.length,.keep 0 t.length,.keep 0 t.length]) (Q:=λz=>∀ (dx:PySem.Addr),callW tb 13 25 [FV.shf 281 dx [] []] λz_1=>z_1.fst=FV.non/\2<=big/\Lb 281 "put" z_1.snd/\callW tb 13 26 [z_1.snd,z.fst] λz_2=>Lb 281 "fetch" z_2.snd/\callW tb 13 28 [z_2.snd,FV.int 0] λz_3=>2<=big/\wp (pD (kL t) (FV.int 3)) λz_4=>(small 3=Ω ∨ small t.length=Ω)/\2<=big/\callW tb 13 20 [FV.lst [z_2.fst,z_3.fst],FV.lst [FV.int 0,FV.tup [z_4,FV.int (1+3*t.length)]]] λz_5=>wp (nq z_5.fst) λb=>b=Ω/\K [Ψ (FV.scr ns),Ψ (FV.lst (jl FV.int ms)),Ψ (FV.int ↑k),Ψ v,Ψ (FV.lst (jl kL ts)),Ψ sy,Ψ (sH aa ts s D),Ψ (FV.int ↑s),c8,Ψ (kL t),c10,c11,Ψ (FV.lst (jl kL U)),Ψ z.fst,Ψ z_3.snd]) 12 h1.1 (by rw[h1.2.2];lia) ?_
    ·exact hc
    rw[h1.2.1]
    intro dx
    exact yP 12 dx λab=>⟨rfl,pC,k9,?_⟩
    rw[e0S]
    exact Ba 11 (t:=t++t++t) ∅ ∅ λw=>?_
    exact⟨k9,?_⟩
    exact wH 9 (k:=0) ∅ (by show (t++t++t).length<=1000;simp![cR];lia) ?_
    exact⟨pC,?_⟩
    let em:∀ R:FV->Prop,wp (pD (kL t) (FV.int 3)) R↔R (kL (t++t++t)):=λR=>by
     show wp (pD (.tup (t.map .int)) (.int 3)) R↔_
     rw[JB]
     have:(gf (3:Int).toNat (t.map FV.int)).flatten=(t++t++t).map .int:=by
      show (gf 3 (t.map FV.int)).flatten=_
      simp[gf]
     rw[this]
     exact⟨λh=>h.2,λh=>⟨⟨⋯,⋯,by rw[fE];show t.length*3<=big;unfold big;lia⟩,h⟩⟩
    rw[em]
    exact⟨.inl (·),pC,?_⟩
    let e3:(1:Int)+((([]++[t++t++t]:List (List Int)).getD 0 []).length:Int)=1+3*t.length:=by
     show (1:Int)+((t++t++t).length:Int)=_
     simp![cR];lia
    dsimp only
    rw[e3]
    exact nA (p:=3) (k:=12200) 9 ((Vl.lst (k:=6060) (p:=2) (m:=2) (λx hx=>?_) ∅).mono (·) (·)) (·) (·) ?_
    ·simp![gM,eF,or_false] at hx
     rcases hx with rfl|rfl
     ·exact (Vl.int (i:=0) (·) (·)).mono (·) (·)
     ·exact (Vl.tup (k:=3024) (p:=1) (m:=2) (λx hx=>?_) ∅).mono (·) (·)
      simp![gM,eF,or_false] at hx
      rcases hx with rfl|rfl
      ·exact (Vl.tup (k:=41) (p:=0) (m:=72) (λx hx=>?_) (by simp;lia)).mono (·) (·)
       obtain ⟨i,hi,rfl⟩:=ir.mp hx
       have:i∈t:=by simpa using hi
       have:=hg.2 i this
       exact Vl.int ⋯ ⋯
      ·exact (Vl.int ⋯ ⋯).mono (·) (·)
    exact⟨rfl,kj _ ⟨_,_,_,_,_,_,rfl⟩⟩
   ·rintro L ⟨c8,c9,c10,c11,c13,c14,rfl⟩
    simp
    let hk:∀ c2 c3 c4 c5 c6 c7 c8 c9 c10 c11 c12 c13 c14,K [Ψ (.scr ns),Ψ (.lst (ms.map .int)),c2,c3,c4,c5,c6,c7,c8,c9,c10,c11,c12,c13,c14]:=λc2 c3 c4 c5 c6 c7 c8 c9 c10 c11 c12 c13 c14=>kk _ ⟨c2,c3,c4,c5,c6,c7,c8,c9,c10,c11,c12,c13,c14,rfl⟩
    exact mX (λ_=>?_) λ_=>hk _ _ _ _ _ _ _ _ _ _ _ _ _
    exact⟨by unfold big;lia,kY (f:=kL) (g:=λt=>.int (t.length:Int)) ts [] (λt ht K k=>?_) ?_⟩
    ·simp[n8];simpa using k
    let e:ts.map (λt=>FV.int (t.length:Int))=(ts.map λt=>(t.length:Int)).map .int:=by rw[iw];rfl
    let e2:=oI (ns:=ts.map λt=>(t.length:Int)) (by rw[fE];unfold big;lia) (λx hx=>by
     let(t,ht,rfl):=ir.mp hx
     have:=(G t ht).1
     exact nu ⋯ ⋯)
    rw[fw,e,e2,lu]
    exact mX (λ_=>?_) λ_=>hk _ _ _ _ _ _ _ _ _ _ _ _ _
    simp
    refine⟨k9,zB 9 G ⋯ (rh 10 G ⋯ (.inl rfl) (nA (p:=3) (k:=40000) 9 (GQ G ⋯) (·) (·) ⟨rfl,hk _ _ _ _ _ _ _ _ _ _ _ _ _⟩))⟩
 ·rintro L ⟨c2,c3,c4,c5,c6,c7,c8,c9,c10,c11,c12,c13,c14,rfl⟩
  simp
end Kq
set_option maxRecDepth 100000
set_option maxHeartbeats 4000000
namespace Kq
open PySem PySem.Spec PyProof.Rows L2 PySem.W
abbrev d0:Df:=⟨"_wall",top 0,["k"],["k"],[]⟩
abbrev d1:Df:=⟨"changed",top 2,["old","change"],["old","change","cells","piece"],[.imm,.imm,.own]⟩
abbrev d2:Df:=⟨"whole_size",top 3,["thing"],["thing"],[]⟩
abbrev d3:Df:=⟨"change_size",top 4,["change"],["change"],[]⟩
abbrev d4:Df:=⟨"least_change",top 5,["old","new"],["old","new","sizes","pieces","place","piece"],[.imm,.imm,.imm,.own]⟩
abbrev d5:Df:=⟨"least_sizes",top 6,["old","new"],["old","new","sizes","runs","put_on","place","behind","longest"],[.imm,.imm,.own]⟩
abbrev d6:Df:=⟨"first_keep",top 7,["old","new","sizes","place"],["old","new","sizes","place","at","many"],[]⟩
abbrev d7:Df:=⟨"first_put",top 8,["new","sizes","place"],["new","sizes","place","many"],[]⟩
abbrev d8:Df:=⟨"made_by",top 9,["piece"],["piece"],[]⟩
abbrev d9:Df:=⟨"stock_of",top 16,["things"],["things","makes","wholes","changes"],[]⟩
abbrev QT:Df:=⟨"way",top 17,["laying","make"],["laying","make","makes","on"],[.own,.imm,.own]⟩
abbrev QS:Df:=⟨"_law_mix",top 21,["_law_cell","_law_k"],["_law_cell","_law_k","_law_m"],[]⟩
abbrev QR:Df:=⟨"_law_left",top 22,["_law_script","_law_k"],["_law_script","_law_k","_law_cell"],[]⟩
abbrev QQ:Df:=⟨"_law_pick",top 23,["_law_left_here","_law_many_here"],["_law_left_here","_law_many_here","_law_digit"],[.own]⟩
abbrev QP:Df:=⟨"_law_folded",top 24,["_law_script","_law_many_here"],["_law_script","_law_many_here","_law_cells_here","_law_k","_law_cell"],[.imm,.imm,.own]⟩
abbrev QO:Df:=⟨"_law_cells",top 25,["_law_left_here","_law_many_here"],["_law_left_here","_law_many_here","_law_few"],[.own]⟩
abbrev QN:Df:=⟨"_law_thing",top 26,["_law_left_here"],["_law_left_here","_law_many_here"],[.own]⟩
abbrev QM:Df:=⟨"_law_made_anew",top 27,["_law_left_here","_law_thing_here"],["_law_left_here","_law_thing_here","_law_cells_here","_law_turn","_law_at","_law_end","_law_block","_law_to","_law_way_drawn","_law_rest"],[.own]⟩
abbrev QL:Df:=⟨"_law_things",top 28,["_law_left_here","_law_many_here"],["_law_left_here","_law_many_here","_law_found","_law_k","_law_way_drawn"],[.own,.imm,.own]⟩
abbrev QK:Df:=⟨"_law_many",top 29,["_law_left_here","_law_most"],["_law_left_here","_law_most"],[.own]⟩
abbrev QJ:Df:=⟨"_law_same",top 30,["_law_found","_law_due"],["_law_found","_law_due"],[]⟩
abbrev d21:Df:=⟨"_law_caught",top 31,["_law_shelf","_law_word","_law_args"],["_law_shelf","_law_word","_law_args","_law_found","_law_caught_here","error","_law_fits"],[.own]⟩
abbrev QI:Df:=⟨"_law_shown",top 32,["_law_shelf","_law_things_here"],["_law_shelf","_law_things_here","_law_many_here","_law_turn","_law_found","_law_make","_law_word"],[.own,.imm,.imm,.imm,.own]⟩
abbrev d23:Df:=⟨"law",top 33,["_law_script"],["_law_script","_law_cells_here","_law_k","_law_left_here","_law_things_here","_law_kept","_law_shelf","_law_spent","_law_make","_law_thing_here","_law_asked","_law_found","_law_long","_law_told","_law_alone"],[.imm,.imm,.imm,.own,.imm,.imm,.own,.imm,.imm,.imm,.imm,.imm,.imm,.imm,.own]⟩
abbrev d24:Df:=⟨"_law_same",top 30,["_law_found","_law_due"],["_law_found","_law_due"],[.own]⟩
abbrev d25:Df:=⟨"__init__",nh 19 0,["self"],["self"],[.own]⟩
abbrev d26:Df:=⟨"put",nh 19 1,["self","thing"],["self","thing","make"],[.own]⟩
abbrev d27:Df:=⟨"rest",nh 19 2,["self","make","on"],["self","make","on","thing","base"],[.own]⟩
abbrev d28:Df:=⟨"fetch",nh 19 3,["self","make"],["self","make","thing","read"],[.own]⟩
abbrev d29:Df:=⟨"makes_now",nh 19 4,["self"],["self"],[.own]⟩
abbrev d30:Df:=⟨"on_now",nh 19 5,["self","make"],["self","make"],[.own]⟩
abbrev d31:Df:=⟨"way_now",nh 19 6,["self","make"],["self","make"],[.own]⟩
abbrev d32:Df:=⟨"thing_now",nh 19 7,["self","make"],["self","make","first","others","thing","passed"],[.own]⟩
abbrev d33:Df:=⟨"room_now",nh 19 8,["self"],["self"],[.own]⟩
abbrev d34:Df:=⟨"spent_now",nh 19 9,["self"],["self"],[.own]⟩
abbrev d35:Df:=⟨"stock_now",nh 19 10,["self"],["self"],[.own]⟩
abbrev d36:Df:=⟨"laying_now",nh 19 11,["self"],["self","makes","places"],[.own]⟩
abbrev d37:Df:=⟨"tidy",nh 19 12,["self"],["self"],[.own]⟩
abbrev d38:Df:=⟨"forget",nh 19 13,["self","make"],["self","make","straight","other"],[.own]⟩
abbrev d39:Df:=⟨"undo",nh 19 14,["self"],["self"],[.own]⟩
abbrev d40:Df:=⟨"begin",nh 19 15,["self","word"],["self","word"],[.own]⟩
abbrev d41:Df:=⟨"look_for",nh 19 16,["self","make"],["self","make"],[.own]⟩
abbrev d42:Df:=⟨"keep",nh 19 17,["self","make","on","kept"],["self","make","on","kept"],[.own]⟩
abbrev d43:Df:=⟨"takes",nh 19 18,["self","make"],["self","make"],[.own]⟩
abbrev d44:Df:=⟨"lay_least",nh 19 19,["self","make"],["self","make","thing","least","other","change"],[.own]⟩
abbrev fns:Fns:=⟨[hW "_wall",hW "changed",hW "whole_size",hW "change_size",hW "least_change",hW "least_sizes",hW "first_keep",hW "first_put",hW "made_by",hW "stock_of",hW "way",hW "_law_mix",hW "_law_left",hW "_law_pick",hW "_law_folded",hW "_law_cells",hW "_law_thing",hW "_law_made_anew",hW "_law_things",hW "_law_many",hW "_law_same",hW "_law_caught",hW "_law_shown",hW "law",hW "_law_same"],[(hW "Shelf",281,hW "__init__"),(hW "Shelf",281,hW "put"),(hW "Shelf",281,hW "rest"),(hW "Shelf",281,hW "fetch"),(hW "Shelf",281,hW "makes_now"),(hW "Shelf",281,hW "on_now"),(hW "Shelf",281,hW "way_now"),(hW "Shelf",281,hW "thing_now"),(hW "Shelf",281,hW "room_now"),(hW "Shelf",281,hW "spent_now"),(hW "Shelf",281,hW "stock_now"),(hW "Shelf",281,hW "laying_now"),(hW "Shelf",281,hW "tidy"),(hW "Shelf",281,hW "forget"),(hW "Shelf",281,hW "undo"),(hW "Shelf",281,hW "begin"),(hW "Shelf",281,hW "look_for"),(hW "Shelf",281,hW "keep"),(hW "Shelf",281,hW "takes"),(hW "Shelf",281,hW "lay_least")],[(281,hW "ons"),(281,hW "kept"),(281,hW "given"),(281,hW "spent"),(281,hW "deeds")]⟩
noncomputable abbrev DB (d:Df)(fr:Bool)(b:CW->SW):Prop:=∀ (X:Cx)(call:CW) (n:Nat),Good X (d.cc fns) n (tw tb call)->sO X (d.cc fns) fr (ku d.st) (b call)
local macro_rules | `(tactic| ac_rfl)=>do
 let g:=Lean.mkIdent `G
 let mut ts:Array (Lean.TSyntax ``Lean.Parser.Tactic.tacticSeq):=#[]
 for r in ("§u5 12210;oS 03110;Ih 00010;CU 00010;OL 11110;kc 02010;lG 01010;Pe 02010;HW 14310;u3 01010;Lx 03110;CA 03010;O6 13210;Lz 18710;M5 01010;CI 11110;Nu 16510;xM 00010;fb_eq 12010;O8 15410;u6 00010;JP 19810;fe_sl 03010;M6 00010;Gq 00010;MS 00010;OU 01010;CompOk.mk 05110;Lp 12110;O7 13210;M4 02110;IQ 01010;Pc 02010;MW 14310;O0 01010;CP 01010;O4 02010;Ls 13210;LB 12010;O5 02010;Ll 02010;Nj 15410;fe_if 03010;Nc 00010;O2 00010;HV 01010;fe_eq 12010;fb_lt 12010;Pb 15410;fg_tp 11010;fs_ix 15310;Cu 01010;OI 02010;OT 01010;OV 13210;Lk 03010;Ie 17710;fb_gt 02010;CT 01010;Ng 16510;OK 13210;Nm 15310;MY 12210;OH 02010;Ib 17710;Ni 02010;Pa 12110;Nk 13310;xL 02110;O9 15410;MQ 01010;Nd 13210;MR 01010;Nt 13210;Pf 13210;Nr 02010;OY 03010;Np 13210;Nq 16510;Pd 13210;O1 01010;fx_no 00010;Lu 13210;Ic 15510;Ln 13310;MV 15410;MX 14310;Ly 19810;Lw 14410;JQ 14310;MU 16410;M0 00010;fe_or 02010;OS 02010;Nn 14210;M8 01010;CompOk2.mk 09210;Nv 01010;Nh 13210;OZ 02010;fe_ge 02010;Lv 13210;Nf 13210;OX 02010;O3 01010;No 15310;Lr 18710;M3 14210;Lm 13310;Ia 14410;MT 15410;CompSOk.mk 04110;Nl 16510;OJ 00010;OM 00010;OO 02010;ON 01010;MZ 01010;rY 01010;IP 02110;Pt 01010;Ng 16511;Nd 13211;Ib 17711;Lr 18711;OQ 01000;OR 13200;Nb 13200;OP 15300;Na 13200;M9 15400;Ih 00000;u6 00000;Gq 00000;O2 00000".drop 1).toString.splitOn ";" do
  let [n,c]:=r.splitOn " " | continue
  let [a,k,s,w,e]:=c.toList.map λx=>x.toNat-48|continue
  let f:=Lean.mkIdent n.toName
  let mut as:Array Lean.Term:=if a=1 then #[g] else #[]
  for _ in [0:k] do as:=as.push (<- `(?_))
  let mut t <- if as.isEmpty then `(tactic| exact $f) else `(tactic| refine $f $as*)
  if w=1 then t <- `(tactic| with_reducible $t:tactic)
  if e=1 then t <- `(tactic| ((with_reducible exact m6 ?_); $t:tactic))
  for _ in [0:s] do t <- `(tactic| (($t:tactic); first | decide +kernel | rfl))
  ts:=ts.push (<- `(Lean.Parser.Tactic.tacticSeq| $t:tactic))
 ts:=ts.push (<- `(Lean.Parser.Tactic.tacticSeq| first | decide +kernel))
 `(tactic| repeat' first $[| $ts]*)
local macro_rules | `(tactic| ac_nf)=>do
 let g:=Lean.mkIdent `G
 `(tactic| (intro _ $g:ident; ac_rfl))
local macro_rules | `(tactic| eq_refl)=>do
 let g:=Lean.mkIdent `G
 `(tactic| (intro $g:ident; ac_rfl))
local macro_rules | `(tactic| exists $e)=>`(tactic| (refine $e; ac_rfl))
local macro_rules | `(tactic| exists $e,$g:ident)=>`(tactic| (intro X call n $g:ident; refine $e; ac_rfl))
structure PXt (X:Cx):Prop where
 «1»:AtDef X
 «2»:CapF X.K X.mg "KeepError" "NoMake" "Loop" "BadRow" "ValueError" xY "no make" "loop" "bad row"
 NoMake:GC "NoMake" 96 X.K X.mg=Ω
abbrev zp:List (jP×Str):=[(281,hW "look_for"),(281,hW "way_now"),(281,hW "thing_now"),(281,hW "on_now"),(281,hW "fetch"),(281,hW "forget")]
def db0:DB d0 Ξ Q4:=by
 delta Q4
 exists lG ?_,G
def db1:DB d1 Ξ Q3:=by
 exists kc ?_ ?_,G
 exists lZ G (md':=[.imm,.imm,.own]) ?_ ?_ ?_ ?_
 eq_refl
def db2:DB d2 Ξ LY:=by
 delta LY
 exists lG ?_,G
def db3:DB d3 Ξ NM:=by
 delta NM
 exists lG ?_,G
 exists m6 (lP G (own:=["piece"]) (md':=[]) ?_)
 ac_nf
 ac_nf
 ac_nf
def db4:DB d4 Ξ QZ:=by
 exists kc ?_ ?_,G
def db5:DB d5 Ω QY:=by
 exists kc ?_ ?_,G
 exists lZ G (md':=[.imm,.imm,.own]) ?_ ?_ ?_ ?_
 eq_refl
 exists yS G (own:=["cell","run"]) (md':=[.imm,.imm,.own]) ?_ ?_ ?_
 ac_nf
 ac_nf
 ac_nf
def db6:DB d6 Ξ QX:=by
 exists kc ?_ ?_,G
 exists lZ G (md':=[]) ?_ ?_ ?_ ?_
 eq_refl
def db7:DB d7 Ξ QW:=by
 exists kc ?_ ?_,G
def db8:DB d8 Ξ NL:=by
 delta NL
 exists lG ?_,G
def db9:DB d9 Ξ QV:=by
 exists kc ?_ ?_,G
 exists yS G (own:=["thing"]) (md':=[]) ?_ ?_ ?_
 ac_nf
 ac_nf
 ac_nf
 exists Cy G (own:=["a","b"]) (md':=[]) ?_ ?_ ?_
 ac_nf
 ac_nf
 ac_nf
 ac_nf
 ac_nf
 ac_nf
def QG:DB QT Ξ JA:=by
 exists kc ?_ ?_,G
def QF:DB QS Ξ Jz:=by
 exists kc ?_ ?_,G
def QE:DB QR Ω Jy:=by
 exists kc ?_ ?_,G
def QD:DB QQ Ξ FK:=by
 exists kc ?_ ?_,G
def QC:DB QP Ω Jx:=by
 exists kc ?_ ?_,G
 exists lZ G (md':=[.imm,.imm,.own]) ?_ ?_ ?_ ?_
 eq_refl
def QB:DB QO Ξ Jw:=by
 exists kc ?_ ?_,G
 exists m6 (lP G (own:=["_law_k"]) (md':=[.own]) ?_)
 ac_nf
 ac_nf
 ac_nf
def QA:DB QN Ξ Jv:=by
 exists kc ?_ ?_,G
def Qz:DB QM Ξ Ju:=by
 exists kc ?_ ?_,G
 exists lZ G (md':=[.own]) ?_ ?_ ?_ ?_
 eq_refl
 exists m6 (lP G (own:=["_law_cell"]) (md':=[.own]) ?_)
 ac_nf
 ac_nf
 ac_nf
def Qy:DB QL Ω Jt:=by
 exists kc ?_ ?_,G
 exists lZ G (md':=[.own,.imm,.own]) ?_ ?_ ?_ ?_
 eq_refl
def Qx:DB QK Ξ Js:=by
 exists kc ?_ ?_,G
def Qw:DB QJ Ξ Av:=by
 exists kc ?_ ?_,G
 exists m6 (lP G (own:=["_law_one","_law_other"]) (md':=[]) ?_)
 ac_nf
 ac_nf
 ac_nf
def Qv:∀ (X:Cx)(call:CW) (n:Nat),PXt X->XM X n call 45 zp->Good X (d21.cc fns) n (tw tb call)->sO X (d21.cc fns) Ξ (ku d21.st) (FH call):=by
 intro X call n W Z G
 delta FH
 exact kc ?_ ?_
 ac_rfl
 exists HX (off:=45) W.«1» W.«2» Z G ?_ ?_ ?_ ?_ ?_ (by rfl) ?_ ?_ ?_ ?_
 (intro _ Z G;ac_rfl)
 exists lO (off:=45) Z G ?_ ?_ ?_ ?_ ?_ ?_ ?_
 exists lO (off:=45) Z G ?_ ?_ ?_ ?_ ?_ ?_ ?_
 exists lO (off:=45) Z G ?_ ?_ ?_ ?_ ?_ ?_ ?_
 exists lO (off:=45) Z G ?_ ?_ ?_ ?_ ?_ ?_ ?_
def Qu:DB QI Ξ Jr:=by
 exists kc ?_ ?_,G
 exists lZ G (md':=[.own,.imm,.imm,.imm,.own]) ?_ ?_ ?_ ?_
 eq_refl
 exists m6 (lP G (own:=["_law_thing_here"]) (md':=[.own,.imm,.imm,.imm,.own]) ?_)
 ac_nf
 ac_nf
 ac_nf
 exists lZ G (md':=[.own,.imm,.imm,.imm,.own]) ?_ ?_ ?_ ?_
 eq_refl
 exists lZ G (md':=[.own,.imm,.imm,.imm,.own]) ?_ ?_ ?_ ?_
 eq_refl
def LN:DB d23 Ξ Jq:=by
 exists kc ?_ ?_,G
 exists lZ G (md':=[.imm,.imm,.imm,.own,.imm,.imm,.own,.imm,.imm,.imm,.imm,.imm,.imm,.imm,.own]) ?_ ?_ ?_ ?_
 eq_refl
 exists lZ G (md':=[.imm,.imm,.imm,.own,.imm,.imm,.own,.imm,.imm,.imm,.imm,.imm,.imm,.imm,.own]) ?_ ?_ ?_ ?_
 eq_refl
 exists m6 (lP G (own:=["_law_thing_here"]) (md':=[.imm,.imm,.imm,.own,.imm,.imm,.own,.imm,.imm,.imm,.imm,.imm,.imm,.imm,.own]) ?_)
 ac_nf
 ac_nf
 ac_nf
 exists lZ G (md':=[.imm,.imm,.imm,.own,.imm,.imm,.own,.imm,.imm,.imm,.imm,.imm,.imm,.imm,.own]) ?_ ?_ ?_ ?_
 eq_refl
 exists m6 (lP G (own:=["_law_thing_here"]) (md':=[.imm,.imm,.imm,.own,.imm,.imm,.own,.imm,.imm,.imm,.imm,.imm,.imm,.imm,.own]) ?_)
 ac_nf
 ac_nf
 ac_nf
def Qt:DB d24 Ξ Jp:=by
 exists kc ?_ ?_,G
 exists m6 (lP G (own:=["_law_one","_law_other"]) (md':=[.frz]) ?_)
 ac_nf
 ac_nf
 ac_nf
def Qs:DB d25 Ξ Jo:=by
 exists kc ?_ ?_,G
def Qr:DB d26 Ξ Jn:=by
 exists kc ?_ ?_,G
def Qq:DB d27 Ξ Jm:=by
 intro X call n G
 delta Jm
 exact mz
def Qp:DB d28 Ξ Jl:=by
 exists kc ?_ ?_,G
 exists m6 (lP G (own:=["passed"]) (md':=[.own]) ?_)
 ac_nf
 ac_nf
 ac_nf
def Qo:DB d29 Ω FC:=by
 delta FC
 exists lG ?_,G
def Qn:DB d30 Ξ Jk:=by
 exists kc ?_ ?_,G
def Qm:DB d31 Ξ Jj:=by
 exists kc ?_ ?_,G
def Ql:DB d32 Ξ Ji:=by
 exists kc ?_ ?_,G
 exists lZ G (md':=[.own]) ?_ ?_ ?_ ?_
 eq_refl
def Qk:DB d33 Ξ Fz:=by
 delta Fz
 exists lG ?_,G
 exists m6 (CM G (own:=["make"]) ?_ ?_ ?_ ?_)
 ac_nf
 ac_nf
 ac_nf
def Qj:DB d34 Ξ Fy:=by
 delta Fy
 exists lG ?_,G
def Qi:DB d35 Ξ Fx:=by
 delta Fx
 exists lG ?_,G
 exists m6 (lP G (own:=["make"]) (md':=[.own]) ?_)
 ac_nf
 ac_nf
 ac_nf
def Qh:DB d36 Ξ Jh:=by
 exists kc ?_ ?_,G
 exists Cw G (own:=["place","make"]) (md':=[.own]) ?_ ?_ ?_ ?_
 ac_nf
 ac_nf
 ac_nf
 ac_nf
 exists m6 (lP G (own:=["make"]) (md':=[.own]) ?_)
 ac_nf
 ac_nf
 ac_nf
def Qg:DB d37 Ξ Jg:=by
 intro X call n G
 delta Jg
 exact mz
def Qf:DB d38 Ξ Jf:=by
 intro X call n G
 delta Jf
 exact mz
def Qe:DB d39 Ξ Je:=by
 intro X call n G
 delta Je
 exact mz
def Qd:DB d40 Ξ Fw:=by
 delta Fw
 exists lG ?_,G
def Qc:DB d41 Ξ Fv:=by
 delta Fv
 exists lG ?_,G
def Qb:DB d42 Ξ Jd:=by
 exists kc ?_ ?_,G
def Qa:DB d43 Ξ Fu:=by
 delta Fu
 exists lG ?_,G
def P9:DB d44 Ξ Jc:=by
 intro X call n G
 delta Jc
 exact mz
def P8:∀ (X:Cx)(call:CW) (n:Nat),PXt X->XM X n call 45 zp->Good X (d41.cc fns) n (tw tb call)->FX X (d41.cc fns) Ω (ku d41.st) (NK call):=by
 intro X call n W Z G
 delta NK
 exact Lk ?_ ?_ ?_<;>ac_rfl
 exists Ct (np:=_) (XCl.of W.NoMake) G ?_ ?_ ?_ ?_
 exists EY (n:=(hW "there is no make ").length+(160+(0))) ?_ ?_
def P7:∀ (X:Cx)(call:CW) (n:Nat),PXt X->XM X n call 45 zp->Good X (d31.cc fns) n (tw tb call)->FX X (d31.cc fns) Ω (ku d31.st) (NJ call):=by
 intro X call n W Z G
 delta NJ
 exact xL rfl ?_
 exists lO (off:=45) Z G ?_ ?_ ?_ ?_ ?_ ?_ ?_
def P6:∀ (X:Cx)(call:CW) (n:Nat),PXt X->XM X n call 45 zp->Good X (d32.cc fns) n (tw tb call)->FX X (d32.cc fns) Ω (ku d32.st) (NI call):=by
 intro X call n W Z G
 delta NI
 exact Cu ?_
 exists lO (off:=45) Z G ?_ ?_ ?_ ?_ ?_ ?_ ?_
def P5:∀ (X:Cx)(call:CW) (n:Nat),PXt X->XM X n call 45 zp->Good X (d30.cc fns) n (tw tb call)->FX X (d30.cc fns) Ω (ku d30.st) (NH call):=by
 intro X call n W Z G
 delta NH
 exact xL rfl ?_
 exists lO (off:=45) Z G ?_ ?_ ?_ ?_ ?_ ?_ ?_
def P4:∀ (X:Cx)(call:CW) (n:Nat),PXt X->XM X n call 45 zp->Good X (d28.cc fns) n (tw tb call)->FX X (d28.cc fns) Ω (ku d28.st) (NF call):=by
 intro X call n W Z G
 delta NF
 exact Cu ?_
 exists lO (off:=45) Z G ?_ ?_ ?_ ?_ ?_ ?_ ?_
def P3:∀ (X:Cx)(call:CW) (n:Nat),PXt X->XM X n call 45 zp->Good X (d38.cc fns) n (tw tb call)->FX X (d38.cc fns) Ω (ku d38.st) (NE call):=by
 intro X call n W Z G
 delta NE
 exact xL rfl ?_
 exists lO (off:=45) Z G ?_ ?_ ?_ ?_ ?_ ?_ ?_
abbrev rc (d:Df):jC:=⟨hW d.name,nM d.st,ku d.st,kr d.st,IV d.st⟩
abbrev recs:List jC:=[rc d0,rc d1,rc d2,rc d3,rc d4,rc d5,rc d6,rc d7,rc d8,rc d9,rc QT,rc QS,rc QR,rc QQ,rc QP,rc QO,rc QN,rc QM,rc QL,rc QK,rc QJ,rc d21,rc QI,rc d23]
def recs_eq:recs=recsOf view:=by kernel_rfl!
abbrev PD (K:jN)(mg:Str->Option jF) (i:Nat)(x:Str):Prop:=∃ df fd fa fdd,tb[i]?=Ψ fd/\Df.ok df fd.np fd.ns fd.io=Ω/\(∀ X call n,PXt X->XM X n call 45 zp->Good X (df.cc fns) n (tw tb call)->sO X (df.cc fns) fd.fr (ku df.st) (fd.body call))/\Fun K (hW df.name) (hW df.name) df.st fa fdd/\mg x=Ψ (.ref fa)/\Binds K fdd df.ps []
local macro_rules | `(tactic| exists $d,$b,$j,$u)=>`(tactic| (exact And.intro (have ⟨fa,fd,m,F⟩:=DIn.fn (by assumption) ((by assumption:∀ d∈recs,DIn _ _ d) (rc $d) (bR (i:=$j) rfl)); ⟨$d,_,fa,fd,rfl,by decide +kernel,$b,F,m,F.binds fun _ _ _ _ _ _ us hl=>$u (P:=fun us=>bindArgs _ ⟨us,[]⟩=pure (List.zip _ us)) hl (by intros; first | kernel_rfl! | rfl)⟩) ?_))
def LF {K:jN}{h:jM}{mg:Str->Option jF}(A:AllIn K h)(D:∀ d∈recs,DIn K mg d):EachI (PD K mg) 0 fns.f:=by
 exists d0,(uz @db0),0,w5
 exists d1,(uz @db1),1,o7
 exists d2,(uz @db2),2,w5
 exists d3,(uz @db3),3,w5
 exists d4,(uz @db4),4,o7
 exists d5,(uz @db5),5,o7
 exists d6,(uz @db6),6,us4
 exists d7,(uz @db7),7,Mn
 exists d8,(uz @db8),8,w5
 exists d9,(uz @db9),9,w5
 exists QT,(uz @QG),10,o7
 exists QS,(uz @QF),11,o7
 exists QR,(uz @QE),12,o7
 exists QQ,(uz @QD),13,o7
 exists QP,(uz @QC),14,o7
 exists QO,(uz @QB),15,o7
 exists QN,(uz @QA),16,w5
 exists QM,(uz @Qz),17,o7
 exists QL,(uz @Qy),18,o7
 exists QK,(uz @Qx),19,o7
 exists QJ,(uz @Qw),20,o7
 exists d21,@Qv,21,Mn
 exists QI,(uz @Qu),22,o7
 exists d23,(uz @LN),23,w5
 exists d24,(uz @Qt),20,o7
 trivial
abbrev PM (K:jN)(mg:Str->Option jF) (i:Nat)(x:Str×jP×Str):Prop:=∃ df fd fa fdd nm qu,tb[fns.f.length+i]?=Ψ fd/\Df.ok df fd.np fd.ns fd.io=Ω/\(∀ X call n,PXt X->XM X n call 45 zp->Good X (df.cc fns) n (tw tb call)->sO X (df.cc fns) fd.fr (ku df.st) (fd.body call))/\Fun K nm qu df.st fa fdd/\mg x.1=Ψ (.ref x.2.1)/\Cls K x.2.1/\(x.2.2=("__init__":Str)->Mk K x.2.1 fa)/\(x.2.2≠("__init__":Str)->Meth K x.2.1 x.2.2 fa)/\Binds K fdd df.ps []
def PJ {K:jN}{mg:Str->Option jF}(CS:∀ c∈css,CF K mg c)(VS:∀ p∈vws,VF K p):EachI (PM K mg) 0 fns.ms:=by
 exact And.intro (have ⟨fdd,F⟩:=VS _ (bR (i:=0) rfl);let T:=CS _ (bR (i:=0) rfl);let M:=T.ms _ (bR (i:=0) rfl);⟨d25,_,_,fdd,_,_,rfl,by decide +kernel,(uz @Qs),F,T.mg,T.cl,λ_=>⟨T.mks,M.1,M.2.1,T.kp⟩,λz=>absurd rfl z,F.binds λ_ _ _ _ _ _ us hl=>w5 (P:=λus=>bindArgs _ ⟨us,[]⟩=pure (List.zip _ us)) hl (by intros;first|kernel_rfl!|rfl)⟩) ?_
 exact And.intro (have ⟨fdd,F⟩:=VS _ (bR (i:=1) rfl);let T:=CS _ (bR (i:=0) rfl);let M:=T.ms _ (bR (i:=1) rfl);⟨d26,_,_,fdd,_,_,rfl,by decide +kernel,(uz @Qr),F,T.mg,T.cl,λz=>absurd z (by decide +kernel),λ_=>⟨M.1,M.2.1,M.2.2.1⟩,F.binds λ_ _ _ _ _ _ us hl=>o7 (P:=λus=>bindArgs _ ⟨us,[]⟩=pure (List.zip _ us)) hl (by intros;first|kernel_rfl!|rfl)⟩) ?_
 exact And.intro (have ⟨fdd,F⟩:=VS _ (bR (i:=2) rfl);let T:=CS _ (bR (i:=0) rfl);let M:=T.ms _ (bR (i:=2) rfl);⟨d27,_,_,fdd,_,_,rfl,by decide +kernel,(uz @Qq),F,T.mg,T.cl,λz=>absurd z (by decide +kernel),λ_=>⟨M.1,M.2.1,M.2.2.1⟩,F.binds λ_ _ _ _ _ _ us hl=>Mn (P:=λus=>bindArgs _ ⟨us,[]⟩=pure (List.zip _ us)) hl (by intros;first|kernel_rfl!|rfl)⟩) ?_
 exact And.intro (have ⟨fdd,F⟩:=VS _ (bR (i:=3) rfl);let T:=CS _ (bR (i:=0) rfl);let M:=T.ms _ (bR (i:=3) rfl);⟨d28,_,_,fdd,_,_,rfl,by decide +kernel,(uz @Qp),F,T.mg,T.cl,λz=>absurd z (by decide +kernel),λ_=>⟨M.1,M.2.1,M.2.2.1⟩,F.binds λ_ _ _ _ _ _ us hl=>o7 (P:=λus=>bindArgs _ ⟨us,[]⟩=pure (List.zip _ us)) hl (by intros;first|kernel_rfl!|rfl)⟩) ?_
 exact And.intro (have ⟨fdd,F⟩:=VS _ (bR (i:=4) rfl);let T:=CS _ (bR (i:=0) rfl);let M:=T.ms _ (bR (i:=4) rfl);⟨d29,_,_,fdd,_,_,rfl,by decide +kernel,(uz @Qo),F,T.mg,T.cl,λz=>absurd z (by decide +kernel),λ_=>⟨M.1,M.2.1,M.2.2.1⟩,F.binds λ_ _ _ _ _ _ us hl=>w5 (P:=λus=>bindArgs _ ⟨us,[]⟩=pure (List.zip _ us)) hl (by intros;first|kernel_rfl!|rfl)⟩) ?_
 exact And.intro (have ⟨fdd,F⟩:=VS _ (bR (i:=5) rfl);let T:=CS _ (bR (i:=0) rfl);let M:=T.ms _ (bR (i:=5) rfl);⟨d30,_,_,fdd,_,_,rfl,by decide +kernel,(uz @Qn),F,T.mg,T.cl,λz=>absurd z (by decide +kernel),λ_=>⟨M.1,M.2.1,M.2.2.1⟩,F.binds λ_ _ _ _ _ _ us hl=>o7 (P:=λus=>bindArgs _ ⟨us,[]⟩=pure (List.zip _ us)) hl (by intros;first|kernel_rfl!|rfl)⟩) ?_
 exact And.intro (have ⟨fdd,F⟩:=VS _ (bR (i:=6) rfl);let T:=CS _ (bR (i:=0) rfl);let M:=T.ms _ (bR (i:=6) rfl);⟨d31,_,_,fdd,_,_,rfl,by decide +kernel,(uz @Qm),F,T.mg,T.cl,λz=>absurd z (by decide +kernel),λ_=>⟨M.1,M.2.1,M.2.2.1⟩,F.binds λ_ _ _ _ _ _ us hl=>o7 (P:=λus=>bindArgs _ ⟨us,[]⟩=pure (List.zip _ us)) hl (by intros;first|kernel_rfl!|rfl)⟩) ?_
 exact And.intro (have ⟨fdd,F⟩:=VS _ (bR (i:=7) rfl);let T:=CS _ (bR (i:=0) rfl);let M:=T.ms _ (bR (i:=7) rfl);⟨d32,_,_,fdd,_,_,rfl,by decide +kernel,(uz @Ql),F,T.mg,T.cl,λz=>absurd z (by decide +kernel),λ_=>⟨M.1,M.2.1,M.2.2.1⟩,F.binds λ_ _ _ _ _ _ us hl=>o7 (P:=λus=>bindArgs _ ⟨us,[]⟩=pure (List.zip _ us)) hl (by intros;first|kernel_rfl!|rfl)⟩) ?_
 exact And.intro (have ⟨fdd,F⟩:=VS _ (bR (i:=8) rfl);let T:=CS _ (bR (i:=0) rfl);let M:=T.ms _ (bR (i:=8) rfl);⟨d33,_,_,fdd,_,_,rfl,by decide +kernel,(uz @Qk),F,T.mg,T.cl,λz=>absurd z (by decide +kernel),λ_=>⟨M.1,M.2.1,M.2.2.1⟩,F.binds λ_ _ _ _ _ _ us hl=>w5 (P:=λus=>bindArgs _ ⟨us,[]⟩=pure (List.zip _ us)) hl (by intros;first|kernel_rfl!|rfl)⟩) ?_
 exact And.intro (have ⟨fdd,F⟩:=VS _ (bR (i:=9) rfl);let T:=CS _ (bR (i:=0) rfl);let M:=T.ms _ (bR (i:=9) rfl);⟨d34,_,_,fdd,_,_,rfl,by decide +kernel,(uz @Qj),F,T.mg,T.cl,λz=>absurd z (by decide +kernel),λ_=>⟨M.1,M.2.1,M.2.2.1⟩,F.binds λ_ _ _ _ _ _ us hl=>w5 (P:=λus=>bindArgs _ ⟨us,[]⟩=pure (List.zip _ us)) hl (by intros;first|kernel_rfl!|rfl)⟩) ?_
 exact And.intro (have ⟨fdd,F⟩:=VS _ (bR (i:=10) rfl);let T:=CS _ (bR (i:=0) rfl);let M:=T.ms _ (bR (i:=10) rfl);⟨d35,_,_,fdd,_,_,rfl,by decide +kernel,(uz @Qi),F,T.mg,T.cl,λz=>absurd z (by decide +kernel),λ_=>⟨M.1,M.2.1,M.2.2.1⟩,F.binds λ_ _ _ _ _ _ us hl=>w5 (P:=λus=>bindArgs _ ⟨us,[]⟩=pure (List.zip _ us)) hl (by intros;first|kernel_rfl!|rfl)⟩) ?_
 exact And.intro (have ⟨fdd,F⟩:=VS _ (bR (i:=11) rfl);let T:=CS _ (bR (i:=0) rfl);let M:=T.ms _ (bR (i:=11) rfl);⟨d36,_,_,fdd,_,_,rfl,by decide +kernel,(uz @Qh),F,T.mg,T.cl,λz=>absurd z (by decide +kernel),λ_=>⟨M.1,M.2.1,M.2.2.1⟩,F.binds λ_ _ _ _ _ _ us hl=>w5 (P:=λus=>bindArgs _ ⟨us,[]⟩=pure (List.zip _ us)) hl (by intros;first|kernel_rfl!|rfl)⟩) ?_
 exact And.intro (have ⟨fdd,F⟩:=VS _ (bR (i:=12) rfl);let T:=CS _ (bR (i:=0) rfl);let M:=T.ms _ (bR (i:=12) rfl);⟨d37,_,_,fdd,_,_,rfl,by decide +kernel,(uz @Qg),F,T.mg,T.cl,λz=>absurd z (by decide +kernel),λ_=>⟨M.1,M.2.1,M.2.2.1⟩,F.binds λ_ _ _ _ _ _ us hl=>w5 (P:=λus=>bindArgs _ ⟨us,[]⟩=pure (List.zip _ us)) hl (by intros;first|kernel_rfl!|rfl)⟩) ?_
 exact And.intro (have ⟨fdd,F⟩:=VS _ (bR (i:=13) rfl);let T:=CS _ (bR (i:=0) rfl);let M:=T.ms _ (bR (i:=13) rfl);⟨d38,_,_,fdd,_,_,rfl,by decide +kernel,(uz @Qf),F,T.mg,T.cl,λz=>absurd z (by decide +kernel),λ_=>⟨M.1,M.2.1,M.2.2.1⟩,F.binds λ_ _ _ _ _ _ us hl=>o7 (P:=λus=>bindArgs _ ⟨us,[]⟩=pure (List.zip _ us)) hl (by intros;first|kernel_rfl!|rfl)⟩) ?_
 exact And.intro (have ⟨fdd,F⟩:=VS _ (bR (i:=14) rfl);let T:=CS _ (bR (i:=0) rfl);let M:=T.ms _ (bR (i:=14) rfl);⟨d39,_,_,fdd,_,_,rfl,by decide +kernel,(uz @Qe),F,T.mg,T.cl,λz=>absurd z (by decide +kernel),λ_=>⟨M.1,M.2.1,M.2.2.1⟩,F.binds λ_ _ _ _ _ _ us hl=>w5 (P:=λus=>bindArgs _ ⟨us,[]⟩=pure (List.zip _ us)) hl (by intros;first|kernel_rfl!|rfl)⟩) ?_
 exact And.intro (have ⟨fdd,F⟩:=VS _ (bR (i:=15) rfl);let T:=CS _ (bR (i:=0) rfl);let M:=T.ms _ (bR (i:=15) rfl);⟨d40,_,_,fdd,_,_,rfl,by decide +kernel,(uz @Qd),F,T.mg,T.cl,λz=>absurd z (by decide +kernel),λ_=>⟨M.1,M.2.1,M.2.2.1⟩,F.binds λ_ _ _ _ _ _ us hl=>o7 (P:=λus=>bindArgs _ ⟨us,[]⟩=pure (List.zip _ us)) hl (by intros;first|kernel_rfl!|rfl)⟩) ?_
 exact And.intro (have ⟨fdd,F⟩:=VS _ (bR (i:=16) rfl);let T:=CS _ (bR (i:=0) rfl);let M:=T.ms _ (bR (i:=16) rfl);⟨d41,_,_,fdd,_,_,rfl,by decide +kernel,(uz @Qc),F,T.mg,T.cl,λz=>absurd z (by decide +kernel),λ_=>⟨M.1,M.2.1,M.2.2.1⟩,F.binds λ_ _ _ _ _ _ us hl=>o7 (P:=λus=>bindArgs _ ⟨us,[]⟩=pure (List.zip _ us)) hl (by intros;first|kernel_rfl!|rfl)⟩) ?_
 exact And.intro (have ⟨fdd,F⟩:=VS _ (bR (i:=17) rfl);let T:=CS _ (bR (i:=0) rfl);let M:=T.ms _ (bR (i:=17) rfl);⟨d42,_,_,fdd,_,_,rfl,by decide +kernel,(uz @Qb),F,T.mg,T.cl,λz=>absurd z (by decide +kernel),λ_=>⟨M.1,M.2.1,M.2.2.1⟩,F.binds λ_ _ _ _ _ _ us hl=>us4 (P:=λus=>bindArgs _ ⟨us,[]⟩=pure (List.zip _ us)) hl (by intros;first|kernel_rfl!|rfl)⟩) ?_
 exact And.intro (have ⟨fdd,F⟩:=VS _ (bR (i:=18) rfl);let T:=CS _ (bR (i:=0) rfl);let M:=T.ms _ (bR (i:=18) rfl);⟨d43,_,_,fdd,_,_,rfl,by decide +kernel,(uz @Qa),F,T.mg,T.cl,λz=>absurd z (by decide +kernel),λ_=>⟨M.1,M.2.1,M.2.2.1⟩,F.binds λ_ _ _ _ _ _ us hl=>o7 (P:=λus=>bindArgs _ ⟨us,[]⟩=pure (List.zip _ us)) hl (by intros;first|kernel_rfl!|rfl)⟩) ?_
 exact And.intro (have ⟨fdd,F⟩:=VS _ (bR (i:=19) rfl);let T:=CS _ (bR (i:=0) rfl);let M:=T.ms _ (bR (i:=19) rfl);⟨d44,_,_,fdd,_,_,rfl,by decide +kernel,(uz @P9),F,T.mg,T.cl,λz=>absurd z (by decide +kernel),λ_=>⟨M.1,M.2.1,M.2.2.1⟩,F.binds λ_ _ _ _ _ _ us hl=>o7 (P:=λus=>bindArgs _ ⟨us,[]⟩=pure (List.zip _ us)) hl (by intros;first|kernel_rfl!|rfl)⟩) ?_
 trivial
abbrev PZ (K:jN)(mg:Str->Option jF) (i:Nat)(x:jP×Str):Prop:=∃ df fd fa fdd nm qu,tb[45+i]?=Ψ fd/\Df.ok df fd.np fd.ns fd.io=Ω/\fd.io=Ω/\fd.fr=Ξ/\(∀ X call n,PXt X->XM X n call 45 zp->Good X (df.cc fns) n (tw tb call)->FX X (df.cc fns) Ω (ku df.st) (fd.body call))/\Fun K nm qu df.st fa fdd/\Cls K x.1/\Meth K x.1 x.2 fa/\Binds K fdd df.ps []
def PH {K:jN}{mg:Str->Option jF}(CS:∀ c∈css,CF K mg c)(VS:∀ p∈vws,VF K p):EachI (PZ K mg) 0 zp:=by
 exact And.intro (have ⟨fdd,F⟩:=VS _ (bR (i:=16) rfl);let T:=CS _ (bR (i:=0) rfl);let M:=T.ms _ (bR (i:=16) rfl);⟨d41,_,_,fdd,_,_,rfl,by decide +kernel,rfl,rfl,@P8,F,T.cl,⟨M.1,M.2.1,M.2.2.1⟩,F.binds λ_ _ _ _ _ _ us hl=>o7 (P:=λus=>bindArgs _ ⟨us,[]⟩=pure (List.zip _ us)) hl (by intros;first|kernel_rfl!|rfl)⟩) ?_
 exact And.intro (have ⟨fdd,F⟩:=VS _ (bR (i:=6) rfl);let T:=CS _ (bR (i:=0) rfl);let M:=T.ms _ (bR (i:=6) rfl);⟨d31,_,_,fdd,_,_,rfl,by decide +kernel,rfl,rfl,@P7,F,T.cl,⟨M.1,M.2.1,M.2.2.1⟩,F.binds λ_ _ _ _ _ _ us hl=>o7 (P:=λus=>bindArgs _ ⟨us,[]⟩=pure (List.zip _ us)) hl (by intros;first|kernel_rfl!|rfl)⟩) ?_
 exact And.intro (have ⟨fdd,F⟩:=VS _ (bR (i:=7) rfl);let T:=CS _ (bR (i:=0) rfl);let M:=T.ms _ (bR (i:=7) rfl);⟨d32,_,_,fdd,_,_,rfl,by decide +kernel,rfl,rfl,@P6,F,T.cl,⟨M.1,M.2.1,M.2.2.1⟩,F.binds λ_ _ _ _ _ _ us hl=>o7 (P:=λus=>bindArgs _ ⟨us,[]⟩=pure (List.zip _ us)) hl (by intros;first|kernel_rfl!|rfl)⟩) ?_
 exact And.intro (have ⟨fdd,F⟩:=VS _ (bR (i:=5) rfl);let T:=CS _ (bR (i:=0) rfl);let M:=T.ms _ (bR (i:=5) rfl);⟨d30,_,_,fdd,_,_,rfl,by decide +kernel,rfl,rfl,@P5,F,T.cl,⟨M.1,M.2.1,M.2.2.1⟩,F.binds λ_ _ _ _ _ _ us hl=>o7 (P:=λus=>bindArgs _ ⟨us,[]⟩=pure (List.zip _ us)) hl (by intros;first|kernel_rfl!|rfl)⟩) ?_
 exact And.intro (have ⟨fdd,F⟩:=VS _ (bR (i:=3) rfl);let T:=CS _ (bR (i:=0) rfl);let M:=T.ms _ (bR (i:=3) rfl);⟨d28,_,_,fdd,_,_,rfl,by decide +kernel,rfl,rfl,@P4,F,T.cl,⟨M.1,M.2.1,M.2.2.1⟩,F.binds λ_ _ _ _ _ _ us hl=>o7 (P:=λus=>bindArgs _ ⟨us,[]⟩=pure (List.zip _ us)) hl (by intros;first|kernel_rfl!|rfl)⟩) ?_
 exact And.intro (have ⟨fdd,F⟩:=VS _ (bR (i:=13) rfl);let T:=CS _ (bR (i:=0) rfl);let M:=T.ms _ (bR (i:=13) rfl);⟨d38,_,_,fdd,_,_,rfl,by decide +kernel,rfl,rfl,@P3,F,T.cl,⟨M.1,M.2.1,M.2.2.1⟩,F.binds λ_ _ _ _ _ _ us hl=>o7 (P:=λus=>bindArgs _ ⟨us,[]⟩=pure (List.zip _ us)) hl (by intros;first|kernel_rfl!|rfl)⟩) ?_
 trivial
def PK {K:jN}{mg:Str->Option jF}(CS:∀ c∈css,CF K mg c):∀ p∈fns.fl,Cls K p.1/\NoAttr K p.1 p.2:=by
 let h:∀ p∈fns.fl,∃ c∈css,c.a=p.1/\p.2∈c.fl:=by nofun
 intro p hp
 let(c,hc,e,hf):=h p hp
 let T:=CS c hc
 exact⟨e ▸ T.cl,e ▸ T.fl _ hf⟩
def law_fn (w:jE)(K:jN)(mg:Str->Option jF)(fa:jP)(h:jM)(A:AllIn K h)(D:∀ d∈recs,DIn K mg d)(CS:∀ c∈css,CF K mg c)(VS:∀ p∈vws,VF K p)(blt:∀ b∈bltNames,mg (hW b)=Φ)(hm:mg (hW "law")=Ψ (.ref fa)) :
  ∃ fd:jm,(∀ (s:jw)(u:jF),ju s fd ⟨[u],[]⟩ [(hW "_law_script",u)])/\∀ base:jM,FnOk PySem.Challenge.pw_keepwhole_k43_put_and_fetched w K mg base w9 15 fa fd [hW "_law_script"] (spT K tb (callW tb 14) 23):=by
 let(fa2,fd,m,F):=DIn.fn A (D (rc d23) (bR (i:=23) rfl))
 let e:=hm.symm.trans m
 cases e
 let E:∀ (f:Nat)(x:Str),fns.f[f]?=Ψ x->PD K mg f x:=λf x hx=>by
  have:=EachI.get (LF A D) f x hx
  rwa [ig] at this
 let EM:∀ (k:Nat)(c:Str)(Ca:jP)(m:Str),fns.ms[k]?=Ψ (c,Ca,m)->PM K mg k (c,Ca,m):=λk c Ca m hx=>by
  have:=EachI.get (PJ CS VS) k _ hx
  rwa [ig] at this
 let FL:=PK CS
 exact⟨fd,?_,λbase=>?_⟩
 ·let(oc,od,kV,doc,pm,an,cdv,ct,osl,rfl,lk,hcd):=F.ex
  exact λs v=>.of_eq rfl
 ·let T:=CS _ (bR (i:=0) rfl)
  let EX:∀ (j:Nat)(Ca:jP)(m:Str),zp[j]?=Ψ (Ca,m)->PZ K mg j (Ca,m):=λj Ca m hx=>by
   have:=EachI.get (PH CS VS) j _ hx
   rwa [ig] at this
  let hP:∀ CX N qu sc f cd A outer s H E,PXt (nX CX PySem.Challenge.pw_keepwhole_k43_put_and_fetched w K mg base N qu sc f cd A outer s H E):=λCX N qu sc f cd A outer s H E=>⟨⟨rfl,rfl⟩,CapF.of ((b2 (T.x)).1),(b2 (T.x)).2⟩
  let(R1,R2,R3):=wY (P:=PySem.Challenge.pw_keepwhole_k43_put_and_fetched) (w:=w) (base:=base) (off:=45) (xs:=zp) hP blt FL E EM EX 13
  exact r6 (df:=d23) (hP w9) F rfl (by nofun) (uz @LN) R3 R1 blt R2 FL
end Kq
set_option maxHeartbeats 0
section
open PySem PySem.W PyProof.Rows





def Kq.hdef : defOf Kq.view PySem.Challenge.rw_keepwhole_k43_put_and_fetched.name = Ψ (Kq.rc Kq.d23, []) := by kernel_rfl!
def Kq.hp : PySem.Challenge.rw_keepwhole_k43_put_and_fetched.prog.theDef PySem.Challenge.rw_keepwhole_k43_put_and_fetched.name = Ψ ((Kq.rc Kq.d23).params, (Kq.rc Kq.d23).body, (Kq.rc Kq.d23).scope) := by kernel_rfl!
def Kq.okq : (chainsOk Kq.view && opensWell PySem.Challenge.rw_keepwhole_k43_put_and_fetched.prog && (frees PySem.Challenge.rw_keepwhole_k43_put_and_fetched.row.toRowW && PySem.Challenge.rw_keepwhole_k43_put_and_fetched.row.within.isEmpty)) = Ω := by nofun
def Kq.prom : PySem.Challenge.rw_keepwhole_k43_put_and_fetched.row.toRowW.promised := ⟨[.list []], by nofun, by nofun⟩
theorem PySem.Challenge.cw_keepwhole_k43_put_and_fetched_holds : PySem.Challenge.rw_keepwhole_k43_put_and_fetched.Holds :=
  Kq.row_holdsC Kq.said Kq.left Kq.hdef Kq.hp rfl rfl Kq.okq ⟨rfl, rfl, rfl, rfl, rfl, by nofun⟩ Kq.prom (Kq.walkC (n := 63) (k := 15) (ds := Kq.recs) (x := Str.ofString "_law_script") (sp := fun K => Kq.spT K Kq.tb (Kq.callW Kq.tb 14) 23) rfl (·) rfl ⟨rfl, by decide, by decide, rfl⟩ Kq.recs_eq Kq.freeAll (by nofun) Kq.law_fn fun _ _ a ns hl hO hS => Kq.law_sp rfl rfl rfl hO hS (Kq.law_val ns))
end
