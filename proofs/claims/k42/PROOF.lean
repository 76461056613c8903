import PyProof.Rows.All
import Wide.All
import OpenK.AllK
import Wide.FinOn
import Lean
import PyProof.EqAt
import PyProof.EqKinds
import PyProof.TupleCall
import PySem.Challenge.RW_roadsall_k42_whole_what_hands_know
set_option Elab.async false
set_option linter.all false
set_option maxRecDepth 100000
set_option maxHeartbeats 4000000
noncomputable section
section
set_option compiler.extract_closed false
open Lean in
def NO(a:Name)(b:Array Syntax):Syntax:=let p:=`Lean.Parser.Tactic.rcasesPat;mkNode `Lean.Parser.Tactic.rcasesPatLo #[mkNode `Lean.Parser.Tactic.rcasesPatMed #[mkNullNode #[mkNode (p++a) b]],mkNullNode]
open Lean in
def NF(s:Syntax):Syntax:=if s.isIdent then NO `one #[s]else let k:=s.getKind;if k==`num then NO `one #[mkIdent `rfl]else if k==`Lean.Parser.Term.hole then NO `one #[mkIdent<|addMacroScope `m `x 0]else if k==`Lean.Parser.Term.tuple||k==`Lean.Parser.Term.paren then let y:=s[1];NO `tuple #[mkAtom "⟨",mkNullNode<|if y.isOfKind nullKind then #[y[0],y[1]]++y[2].getArgs else #[y],mkAtom "⟩"]else s
open Lean in
def NM(s:Syntax):Syntax:=s.rewriteBottomUp NF
local macro_rules|`(tactic|rwa[$x,*]$[$l]?)=>let y:Array (Lean.TSyntax `Lean.Parser.Tactic.simpLemma):=x.getElems.map fun r=>⟨Lean.mkNode `Lean.Parser.Tactic.simpLemma #[Lean.mkNullNode,r.raw[0],r.raw[1]]⟩;`(tactic|simp only[$y,*]$[$l]?)
local macro_rules|`(tactic|exists $e)=>`(tactic|simpa using $e)
open Lean in
local macro_rules|`(command|$d:declaration)=>let m:=d.raw[0];let e:=d.raw[1];if !e.isOfKind `Lean.Parser.Command.definition||m.getArgs.any (·.getNumArgs>0) then if d.raw.getPos?.isSome&&(e.isOfKind `Lean.Parser.Command.theorem||e.isOfKind `Lean.Parser.Command.definition) then pure<|d.raw.rewriteBottomUp (·.setInfo .none) else throw .unsupportedSyntax else if e[3][1].isOfKind `Lean.Parser.Term.byTactic then pure<|d.raw.setArg 1 (mkNode `Lean.Parser.Command.theorem #[mkAtom "theorem",e[1],mkNode `Lean.Parser.Command.declSig #[e[2][0],e[2][1][0]],e[3]])else do pure<|d.raw.setArg 0 (<-`(Parser.Command.declModifiersF|noncomputable))
open Lean in
local macro_rules|`(tactic|let $d:letDecl)=>let x:=d.raw[0];if x.isOfKind `Lean.Parser.Term.letPatDecl then let p:=⟨(NM x[0])[0]⟩;let e:=⟨x[4]⟩;let k:=mkIdent<|addMacroScope `m `k 0;`(tactic|first|(refine Classical.byContradiction fun $k=>?_;obtain $p:rcasesPatMed:=$e<;>(refine $k ?_;clear $k))|obtain $p:rcasesPatMed:=$e)else if x[2].getNumArgs=0 then`(tactic|have $d:letDecl)else throw .unsupportedSyntax
local macro_rules|`(tactic|calc $e:term)=>`(tactic|refine $e)
local macro_rules|`(tactic|ext $x:ident)=>let h:=Lean.mkIdent<|Lean.addMacroScope `m `h 0;`(tactic|first|(have $h:ident:=Option.some.inj $x;clear $x;cases $h:ident)|cases $x:ident)
local macro_rules|`(-↑$x)=>`(unop% Neg.neg $x)|`(-$x)=>if x.raw.isNatLit?.isSome then throw .unsupportedSyntax else`(($x).length)
local macro_rules|`($a|>$b)=>`(show $a from $b)
local macro_rules|`($f $x* ^$a)=>`($f $x* $a)|`($f^$a)=>match f.raw.isNatLit? with|some 1|some 2|some 4=>throw .unsupportedSyntax|_=>`($f $a)
local macro_rules|`(#[])=>`(by decide)|`(#[$x,*])=>`(⟨$(x.getElems.map fun t=>if t.isNatLit?==some 0 then Lean.mkIdent `rfl else ⟨t⟩),*⟩)
local macro_rules|`(())=>`(by lia)
local macro_rules|`(∅)=>`(by simp)
local macro_rules|`(~~~$s)=>`(($s).heap.objs.size)
open Lean in
local macro_rules|`($n:num)=>let s:=n.raw;match s.isNatLit? with|some n=>if n<5||n>18||s[0].getAtomVal != toString n then throw .unsupportedSyntax else if n=5 then`(Prop)else pure<|mkCIdent<|("Prop List Option Int Nat List.toArray PySem.Value PySem.Shared PySem.Addr PySem.Expr Bool PySem.World PySem.Heap PySem.Program".splitOn " ")[n-5]!.toName|_=>throw .unsupportedSyntax
open Option renaming some->Y,none->Z
open Bool renaming true->W,false->Xk
abbrev VP:=PySem.Value->PySem.Shared->5
abbrev PN:=6<|PySem.Addr×PySem.Obj
abbrev SV:=PySem.Str->7 PySem.Value
abbrev Aa:=PySem.Addr->5
abbrev LS:=6 PySem.Str
abbrev LV:=6 PySem.Value
abbrev Ab:=6 PySem.Expr
abbrev OV:=7 PySem.Value
abbrev FG:=PySem.W.Frag
open PySem.PyData renaming strOk->aJ,eqv->bH,depthAll->tq,eqvAll->qK,canLayAll0->yv,depth->vc,canLay0->GD
open PySem.Builtin.Tuple renaming tupleExact->Bx,tupleItemsOf->GB,tupleHashOf->MS,tupleTooMany->NG
open Classical renaming choose_spec->tu,propDecidable->GR
open PySem.W renaming findIn->dC,keepIn->eT,emptyDict->lx,codeIn->ku,instObj->mi,fnOf->kt,callWith_K->tt,plainGet->tm,nsIn->pY,tabObj->tj,CodeHd->tf,hasDictIn->wQ,lookIn->wM,plainGet_of->Az,plainOver->Ay,methodObj->Ax,isFn->wJ,codeHdIn->Aw,takerIn->Av,makesIn->Au,kia_one->As,mg_of->wz,noTabs->Ar,mem_of_lookupK->GQ,cellsFrom_some->GP,methodCall_KW->GO,pyHash_slot->GN,codeHd_of_K->GL,specialIn->GK,kitx_list->GJ,handedIn->GI,OpenLaw->GH,WalkO->GG
open PySem renaming wpAny_bind->ai,wpAny_pure->aG,wpAny_mono->c_,wpAny_Call_Name_kw->jL,wpAny_holding->ir,wpAny_field->iq,wpAny_truthy_bool->mh,call_meets->ji,wpAny_seqItems->mf,wpAny_callSpecial?_slot->s_,wpAny_passesOwn->nR,wpAny_loadPart'->nQ,mem_of_lookup->sZ,wpAny_call_entry->pX,tupleKind_room_in1->sY,wpAny_typeOf->nP,wpAny_newObj_type->sX,codeAny_mono->pW,call_meetsIn->pV,wpAny_setField_rec->wd,wpAny_pyIter_tuple->wc,wpAny_Call_method->wb,sizeLine_eq->pU,wpAny_nextOf_list_item->Aq,wpAny_Call_method_late->Ap,wpAny_Assign_Subscript->Ao,wpAny_execs_nil->wa,codeAny_builtin->v_,wpAny_nextOf_list_end->An,builtinLookup_eq_fast->Am,wpAny_loadName_local->Al,wpAny_standAt->v9,plainId_quiet->v0,wpAny_setItem_heap->Ak,wpAny_call->sW,wpAny_Name->sV,typeIs_int->sU,wpAny_pyIter_list->Aj,wpAny_assign_Name->Ai,slot_dict_getitem->Ah,wpAny_pyIter_zip->Ag,wpAny_Dict_empty->Af,noFill_tuple_add->Ae,typeLookup_type->Ad,Within->Ac,wpAny_rule->vZ,wpAny_newTuple->z_,wpAny_binaryOp_repeat_ref->GA,seq_tuple_add->z5,meetsH_dict_get_default->Gz,wpAny_pyNext_list_item->Gy,seqSlot_of->Gx,seqIndex_neg->z4,concat_meets->z3,wpAny_pyNext_list_end->DH,wpAny_notOrdered_dict->DG,exec_Assign_Name_used->DF,wpAny_updateSeq_pair->DE,wpAny_newFunctionEnv->DD,seqIndex_of->xb,wpAny_loadName_free->DC,wpAny_loadName_cell->DB,call_enumerate_list->DA,wpAny_getItem_heap->Dz,sub_AttributeError->Dy,wpAny_sequenceKey->Dx,wpAny_pyIter_enum->Dw,slot_list_getitem->Dv,wpAny_pyHash_str->Du,wpAny_pyHash_int->Dt,wpAny_isInstance->Ds,wpAny_forIn_list->Dr,wpAny_execs_cons->Dq,kt_code_dict_new->Dp,beq_builtin_none->Do,wpAny_tryCatch->Dn,wpAny_setField->Dm,callType_codes->Dl,wpAny_onRaise->Dk,wpAny_newList->Dj,rangeSize_one->Di,eval_ListComp->Dh,evalPart_none->Dg,call_list_seq->De
open Array renaming getElem?_eq_some_iff->sK,getElem?_eq_getElem->sJ,length_toList->sI,forIn_toList->xa,getElem?_append_left->Dd,toList->w_,size_append->Dc,all_append->Db
open PySem.Around renaming in1_units->ka,under_plainId->sH,under->w9,frames_deeper->C_
open Bool renaming and_eq_true->av,false_ne_true->bQ,eq_iff_iff->jB,false_or->ly,not_eq_true'->oW,false_eq_true->sG,true_and->oV,not_true->sF,and_true->sE,or_eq_true->w8,true_or->w5,or_eq_false_iff->C9,and_eq_true_iff->C8,or_false->C7
open List renaming mem_cons_of_mem->aC,mem_cons_self->aA,getElem?_set_ne->aV,getElem?_eq_getElem->bt,length_cons->aP,map_cons->aI,mem_of_getElem?->bq,length_map->aU,getElem?_eq_some_iff->bP,getElem?_append_right->bZ,length_append->bo,all_eq_true->bc,getElem?_set_self->bY,size_toArray->bz,mem_cons->a8,getElem?_append_left->cG,mem_map->bg,getElem?_map->cm,replicate_succ->cK,mem_singleton->cJ,mem_append->cj,mem_flatMap->cB,eq_nil_of_length_eq_zero->iX,length_set->de,append_assoc->dS,nodup_cons->du,mem_append_right->gc,any_cons->cV,all_cons->cU,getElem?_take_of_lt->iW,nil_append->dR,append_nil->dQ,set_set->cT,not_mem_nil->eO,set_getElem_self->iV,length_filter_le->iU,flatten_cons->gb,flatMap_cons->f_,mem_iff_getElem->iT,mem_filter->f8,foldl_cons->f6,map_nil->d7,getElem_mem->gW,mem_append_left->j',length_take->iR,map_append->iQ,find?_cons->iP,mem_range->iO,nodup_append->j_,map_map->gU,any_eq_true->j9,map_id->gS,lookup->gR,isEmpty_iff->mW,filter_cons->mV,cons_append->mU,filter_eq_self->oU,filterMap_cons->oT,forIn_cons->mS,mem_replicate->oS,find?_cons_of_neg->sD,length_singleton->sC,take_length->oR,map_congr_left->sB,mem_filterMap->sv,drop_zero->oQ,pairwise_iff_getElem->w4,lookup_cons->su,getElem_map->sr,getElem?_replicate->w1,filter_cons_of_pos->wZ,filter_cons_of_neg->wY,drop_length->sm,filter_map->sk,length_replicate->wX,getElem?_eq_none->wW,nodup_nil->sj,mem_of_mem_take->wV,length->oP,zip_cons_cons->wU,findIdx?_eq_some_iff_getElem->C6,range'_succ->wT,length_drop->wS,of_mem_zip->wR,length_nil->wP,foldl->si,drop_drop->wO,mem_of_find?_eq_some->C5,drop_eq_getElem_cons->C4,mem_of_mem_eraseIdx->C3,map_take->wN,length_eraseIdx_le->C2,getElem?_cons_succ->C1,take_of_length_le->C0,find?_cons_of_pos->CZ,filter_eq_nil_iff->CY,set_append_right->CW,pairwise_flatMap->CV,mem_of_mem_drop->CU,length_pos_iff->CT,map_inj_right->CS,find?_eq_none->CQ,take_sublist->CP,pairwise_map->CO,length_range->CN,filter_congr->CL,any_eq_false->CK,mem_reverse->CJ,flatMap_def->CI,foldr_cons->CH,find?_some->CG,forIn_nil->CF,range'->CD
open Nat renaming le_refl->ar,le_trans->aH,lt_of_lt_of_le->bU,ne_of_lt->bS,zero_le->cS,lt_succ_self->gQ,lt_of_le_of_lt->j8,lt_irrefl->gP,add_assoc->gO,zero_add->gN,le_of_lt->lw,le_add_right->oO,mul_le_mul_left->sh,ne_of_gt->mR,mul_comm->mQ,mul_le_mul->oN,le_succ->mP,succ_mul->oM,pow_succ->oK,lt_trans->oJ,pow_le_pow_right->wL,mul_assoc->sg,le_of_succ_le->wI,le_of_eq->sf,ble->lv,min_eq_left->wH,add_sub_cancel_left->CC,sub_zero->wG,add_comm->wF,ble_eq_true_of_le->CB,not_lt->wE,add_sub_cancel->CA,le_succ_of_le->Cz,min_eq_right->Cy,mul_succ->Cw,lt_or_ge->Cv,log2_lt->Cu
abbrev aS:=@of_decide_eq_true
abbrev af:=@if_pos
abbrev ag:=@if_neg
abbrev bK:=@decide_eq_false
abbrev fx:=@decide_eq_true
abbrev jA:=@beq_eq_false_iff_ne
abbrev cA:=@congrArg
abbrev eN:=@or_false
abbrev oI:=@decide_eq_true_iff
abbrev fw:=@if_true
abbrev se:=@decide_eq_true_eq
abbrev j7:=@if_false
abbrev mO:=@beq_iff_eq
abbrev wD:=@decide_eq_decide
abbrev wC:=@beq_false_of_ne
open PySem.SeqAt renaming readOf->lu,eqv_refl->wB,readsAll_map->Ct,items_eqAt->Cs,shaped->Cr,eqAt_reads->KA
open Sum.inr renaming inj->jz
open PySem.Heap renaming get?_push_of_some->bb,lt_size->aN,get?_push_size->bO,SameBut->fq,size_push->oH,get?_update_self->wA,ExtBut->r_,get?_update_other->Cq,get?_none_of_le->Cp,NewAttrErr->Co,IsTuple->Cm
open Option.some renaming inj->cz
open Ne renaming symm->b9
open PySem.Calls renaming spliced_cons->cR,spliced_nil->fm,callWith_builtin->lr,evalArgs_plain->lq,Name_function_global->wy,loadGlobal_global->Cj
open PyProof.Rows renaming callWith_type1->lp,slot_tuple_getitem->lj,boot_list->r9,boot_dict->Ci,boot_zip->Ch,tail_any->oG,reads_list_at->ww,subscriptTail_builtinR->Cg,entry_tuple_getitem->Cf,args_tuple_getitem->Ce,get?_update_seq->Cd,callWith_builtin1->Kz,boot_tuple->Ky,boot_sorted->Kw,boot_isinstance->Kv,boot_int->Ku,boot_bool->Kt,boot_abs->Ks,slicePart_none->Cc,UnaryOp_->wv,tupleItemsOf_->Cb,listUpdate_at->Ca
open PySem.EqNone renaming ne_str_none->Kr,ne_none_str->Kq,ne_none_none->Ko,ne_none_int->Kn,ne_none_bool->Km,ne_int_none->Kl,ne_bool_none->Kk,eq_str_none->Kj,eq_none_str->Ki,eq_none_none->Kh,eq_none_int->Kg,eq_none_bool->Kf,eq_int_none->Ke,eq_bool_none->Kc
open PySem.EqMixed renaming ne_str_int->Kb,ne_str_bool->Ka,ne_int_str->J_,ne_bool_str->J8,eq_str_int->J2,eq_str_bool->J1,eq_int_str->J0,eq_bool_str->JZ
open Option renaming map_eq_some_iff->d6,isSome_iff_exists->oF,bind_some->oE,map->lh,isNone_iff_eq_none->wu,map_eq_none_iff->B',any_eq_true->B_,isSome_map->B9,getD_none->B8
open PySem.F renaming slot_dict_get->j6,entry_dict_get->oD,slot_tuple_iterator_next->rZ,plainAttrs_list->rY,plainAttrs_dict->rX,slot_tuple_mul->rW,slot_int_rmul->rV,args_tuple_add_2->wt,entry_tuple_add->wr,args_dict_get_3->wq,slot_tuple_add->wo,type_dict_get->wn,slot_list_getattribute->wm,slot_zip_getattribute->wk,slot_dict_setdefault->B7,slot_tuple_index->B6,args_tuple_mul_2->B5,slot_tuple_rmul->B4,slot_list_index->B3,slot_list_count->B2,entry_tuple_mul->B1,args_dict_get_2->B0,args_tuple_iterator_next_1->BZ,entry_tuple_iterator_next->BY,slot_list_extend->BX,slot_list_append->BW,args_int_rmul_2->BV,slot_int_index->BU,entry_int_rmul->BS,fills_int_mul->BR,kt_typeCall_dict_1->BQ,args_dict_init_2->BO,entry_dict_init->BN,kt_called_dict->BM,slot_zip_next->BL
open Int renaming zero_add->db,emod_nonneg->iN,emod_lt_of_pos->j5,toNat_natCast->rT,add_assoc->wj,toNat_of_nonneg->BK,natCast_mul->BJ,le_of_lt->BI
open PySem.Builtin.Slice renaming slicePlaces->rS,sliceAdjust->wg,sliceApplied->BH,slicePartIndex->JY,sliceFields->JX
open PySem.Str renaming length->oC,ofString_eq_toList->BG
open PySem.Obj renaming mapSeq->lg,mapFields->BE
open PySem.Builtin.List renaming listTooLong->rR
open PySem.AutoSeq1 renaming wpAny_loadPart'->wf,sub_tuple_tuple->BC,idx_int->BB
open List.cons renaming injEq->j4
open PySem.Heap.SameBut renaming update->oB
open PySem.Builtin.SmallTypes renaming nextOf->iM,ownedTupleIsFree->we,ownedTupleHandOut->JW
open PySem.Builtin.Dict renaming updateFrom->rQ,selfAndRest->BA,addKeywords->Bz,pairItems->By
open Nat.succ renaming inj->rO
inductive X0{A B:Type}(p:A->B->5):5|intro (a:A)(b:B)(h:p a b):X0 p
inductive X1{A B C:Type}(p:A->B->C->5):5|intro (a:A)(b:B)(c:C)(h:p a b c):X1 p
inductive X2{A B C D:Type}(p:A->B->C->D->5):5|intro (a:A)(b:B)(c:C)(d:D)(h:p a b c d):X2 p
inductive X3{A B C D E:Type}(p:A->B->C->D->E->5):5|intro (a:A)(b:B)(c:C)(d:D)(e:E)(h:p a b c d e):X3 p
inductive X4{A B C D E F:Type}(p:A->B->C->D->E->F->5):5|intro (a:A)(b:B)(c:C)(d:D)(e:E)(f:F)(h:p a b c d e f):X4 p
inductive X5{A B C D E F G H:Type}(p:A->B->C->D->E->F->G->H->5):5|intro (a:A)(b:B)(c:C)(d:D)(e:E)(f:F)(g:G)(i:H)(h:p a b c d e f g i):X5 p
inductive X6{A B C D E F G H I:Type}(p:A->B->C->D->E->F->G->H->I->5):5|intro (a:A)(b:B)(c:C)(d:D)(e:E)(f:F)(g:G)(i:H)(j:I)(h:p a b c d e f g i j):X6 p
inductive X7{A B C D E F G H I J:Type}(p:A->B->C->D->E->F->G->H->I->J->5):5|intro (a:A)(b:B)(c:C)(d:D)(e:E)(f:F)(g:G)(i:H)(j:I)(k:J)(h:p a b c d e f g i j k):X7 p
inductive X8{A B C D E F G H I J K L:Type}(p:A->B->C->D->E->F->G->H->I->J->K->L->5):5|intro (a:A)(b:B)(c:C)(d:D)(e:E)(f:F)(g:G)(i:H)(j:I)(k:J)(l:K)(m:L)(h:p a b c d e f g i j k l m):X8 p
set_option tactic.hygienic false
namespace Nk
open PySem
mutual
def kd:PyData->15
 | .none=>W
 | .int _=>W
 | .str x=>GD^.str x
 | .tuple xs=>kds xs
 | .bool _=>Xk
 | .list _=>Xk
 | .dict _=>Xk
def kds:6 PyData->15
 | []=>W
 |x::xs=>kd x && kds xs
end
mutual
def hk(w:16):PyData->8
 | .none=>PySem.W.hashW w.params .none
 | .int i=>hashInt i
 | .str x=>hashStr w x
 | .tuple xs=>reduceHash^MS^Sy w xs
 | .bool _=>0
 | .list _=>0
 | .dict _=>0
def Sy(w:16):6 PyData->6 8
 | []=>[]
 |x::xs=>hk w x::Sy w xs
end
mutual
def dr:PyData->9
 | .tuple xs=>T7 xs+1
 | .none=>1
 | .int _=>1
 | .str _=>1
 | .bool _=>0
 | .list _=>0
 | .dict _=>0
def T7:6 PyData->9
 | []=>0
 |x::xs=>dr x+T7 xs
end
noncomputable instance decPD:DecidableEq PyData:=λa b=>GR<|a=b
section
variable{prog:18}{w:16}{E:VP}
mutual
theorem ED:∀(d:PyData)(v:11)(as:6 13)(A:Around)(s:12)(Q:8->12->5),kd d=W->Reads s.heap v d as->A.units+d.depth < cLine->Q (hk w d) { s with toks:=s.toks+dr d }->wpAny (model prog w) A (pyHash v) Q E s
 | .none,_,_,A,s,Q,_,r,hu,h=>by ext r;calc GN (T:="NoneType") rfl F.slot_NoneType_hash F.entry_NoneType_hash (F.args_NoneType_hash_1 _) (Do _) (.inr ())^ai^aG^ai^wpAny_mkInt^aG #[_,_,0,h]
 | .int _,_,_,_,_,_,_,r,_,h=>by ext r;calc Dt h
 | .str _,_,_,_,_,_,_,r,_,h=>by ext r;calc Du h
 | .tuple xs,_,_,A,s,Q,k,r,hu,h=>by
  cases r with
  | @tuple a o vs n _ _ g1 g2 g3 g4=>rwa[vc]at hu;calc GN #[o,g1,g2] F.slot_tuple_hash F.entry_tuple_hash (F.args_tuple_hash_1 _) (Do _) (.inr ()) ?_;show wpAny _ _ (GB^.ref a >>= _) _ _ s;calc ai (wpAny_tupleItemsOf g1 g3^ai ?_);rw[<- xa];calc zp xs vs.toList _ A.in1 s (10 []) _ k g4 (by rw[ka];lia) λb e=>?_;show wpAny _ _ (retInt^MS b.toList) _ _ _;rw[e];calc ai^wpAny_mkInt^aG #[_,_,0,h]
 | .bool _,_,_,_,_,_,k,_,_,_ | .list _,_,_,_,_,_,k,_,_,_ | .dict _,_,_,_,_,_,k,_,_,_=>nomatch k
theorem zp:∀(xs:6 PyData)(vs:LV)(as:6 13)(A:Around)(s:12)(b:Array 8)(Q:Array 8->12->5),kds xs=W->ReadsAll s.heap vs xs as->A.units+tq xs < cLine ->
  (∀b',b'.toList=b.toList++Sy w xs->Q b' { s with toks:=s.toks+T7 xs })->wpAny (model prog w) A (forIn vs b λx r=>do let h <- pyHash x;pure PUnit.unit;pure (ForInStep.yield^r.push h)) Q E s
 | [],_,_,_,s,b,_,_,r,_,h=>by ext r;calc aG^h b (by simp[Sy])
 |d::xs,_,_,A,s,b,Q,k,r,hu,h=>by
  cases r with
  |cons r1 r2=>
   rwa[kds,av]at k;rwa[tq]at hu;rw[mS];calc ai^ai^ED d _ _ A s _ k.1 r1 () ?_;calc aG (zp xs _ _ A { s with toks:=s.toks+dr d } _ Q k.2 r2 () λb' e=>?_);have:=h b' (by rw[e];simp[Sy])
   simpa[T7,gO] using this
end
end
mutual
theorem L8:∀d:PyData,kd d=W->d.canLay0=W
 | .none,_ | .int _,_=>rfl
 | .str _,k=>k
 | .tuple xs,k=>by have:=zb xs k;simpa[GD] using this
 | .bool _,k | .list _,k | .dict _,k=>nomatch k
theorem zb:∀xs:6 PyData,kds xs=W->yv xs=W
 | [],_=>rfl
 |d::xs,k=>by rwa[kds,av]at k;simp[yv,L8 d k.1,zb xs k.2]
end
mutual
theorem eqv_kd:∀a b:PyData,kd a=W->kd b=W->(bH a b=W↔a=b)
 | .none,.none,_,_=>by simp[bH]
 | .none,.int _,_,_ | .none,.str _,_,_ | .none,.tuple _,_,_=>by simp[bH]
 | .int _,.none,_,_ | .int _,.str _,_,_ | .int _,.tuple _,_,_ | .int _,.int _,_,_=>by simp[bH]
 | .str _,.none,_,_ | .str _,.str _,_,_ | .str _,.tuple _,_,_ | .str _,.int _,_,_=>by simp[bH]
 | .tuple _,.none,_,_ | .tuple _,.str _,_,_ | .tuple _,.int _,_,_=>by simp[bH]
 | .tuple xs,.tuple ys,h,k=>by have:=EI xs ys h k;simp[bH,this]
 | .bool _,_,k,_ | .list _,_,k,_ | .dict _,_,k,_=>nomatch k
 | .none,.bool _,_,k | .none,.list _,_,k | .none,.dict _,_,k | .int _,.bool _,_,k | .int _,.list _,_,k | .int _,.dict _,_,k=>nomatch k
 | .str _,.bool _,_,k | .str _,.list _,_,k | .str _,.dict _,_,k | .tuple _,.bool _,_,k | .tuple _,.list _,_,k | .tuple _,.dict _,_,k=>nomatch k
theorem EI:∀xs ys:6 PyData,kds xs=W->kds ys=W->(qK xs ys=W↔xs=ys)
 | [],[],_,_=>by simp[qK]
 | [],_::_,_,_|_::_,[],_,_=>by simp[qK]
 |x::xs,y::ys,h,k=>by rwa[kds,av]at h k;simp[qK,eqv_kd x y h.1 k.1,EI xs ys h.2 k.2]
end
mutual
theorem stay:∀(x:PyData){h h':17}{v:11}{as:6 13},kd x=W->Reads h v x as->(∀b o,h.get? b=Y o->o.cls=.type "tuple"->(X0 λvs n=>o.data=.seq vs n)->h'.get? b=Y o)->Reads h' v x as
 | .none,_,_,_,_,_,r,_ | .int _,_,_,_,_,_,r,_ | .str _,_,_,_,_,_,r,_=>by ext r;constructor
 | .tuple xs,_,_,_,_,k,r,q=>by
  cases r with
  |tuple g1 g2 g3 g4=>calc .tuple (q _ _ g1 g2 #[_,_,g3]) g2 g3^stays xs k g4 q
 | .bool _,_,_,_,_,k,_,_ | .list _,_,_,_,_,k,_,_ | .dict _,_,_,_,_,k,_,_=>nomatch k
theorem stays:∀(xs:6 PyData){h h':17}{vs:LV}{as:6 13},kds xs=W->ReadsAll h vs xs as->(∀b o,h.get? b=Y o->o.cls=.type "tuple"->(X0 λvs n=>o.data=.seq vs n)->h'.get? b=Y o)->ReadsAll h' vs xs as
 | [],_,_,_,_,_,r,_=>by ext r;constructor
 |x::xs,_,_,_,_,k,r,q=>by
  rwa[kds,av]at k;cases r with
  |cons r1 r2=>calc .cons (stay x k.1 r1 q)^stays xs k.2 r2 q
end
section
variable{prog:18}{w:16}{E:VP}
mutual
theorem yS:∀(d:PyData)(n:9)(v:11)(as:6 13)(A:Around)(s:12)(Q:15->12->5),kd d=W->d.depth≤n->Reads s.heap v d as->Q W s->wpAny (model prog w) A (eqIsQuiet n v) Q E s
 | .none,n,_,_,_,_,_,_,_,r,q | .int _,n,_,_,_,_,_,_,_,r,q | .str _,n,_,_,_,_,_,_,_,r,q=>by ext r;rw[eqIsQuiet_byValue n rfl];calc aG q
 | .tuple xs,n,_,_,A,s,Q,k,l,r,q=>by
  rwa[vc]at l;obtain⟨n,rfl⟩:∃m,n=m+1:=#[n-1,()];cases r with
  | @tuple a o vs m _ _ g1 g2 g3 g4=>
   have T:s.TypeIs (.ref a) "tuple":=#[o,g1,g2];unfold eqIsQuiet;calc ai^wpAny_specialOf T F.slot_tuple_eq.lookup ?_;show wpAny _ _ (isInstance (.ref a)^.type "tuple" >>= _) _ _ s;calc ai^Ds T isSubtype_tuple_tuple ?_;rwa[sF,sG,j7];calc ai (mf g1 g3^ai ?_);show wpAny _ _ (forIn vs _ _) _ _ s;rw[<- xa];let all:=vn xs n vs.toList _ A s k () g4;refine Dr _ (λrest r s'=>r.1=Z/\s'=s/\∀v ∈ rest,∀Q:15->12->5,Q W s->wpAny (model prog w) A (eqIsQuiet n v) Q E s) _ ?_ ?_ _ _ #[0,0,λv hv Q=>all v hv Q]
   .rintro v rest ⟨r1,r2⟩ s' ⟨e1,e2,hall⟩;subst e2;calc ai^hall v aA _ ?_;rwa[sF,sG,j7];exact aG #[0,0,λu hu=>hall u^aC _ hu]
   .rintro ⟨r1,r2⟩ s' ⟨e1,e2,_⟩;ext e1;ext e2;calc aG q
 | .bool _,_,_,_,_,_,_,k,_,_,_ | .list _,_,_,_,_,_,_,k,_,_,_ | .dict _,_,_,_,_,_,_,k,_,_,_=>nomatch k
theorem vn:∀(xs:6 PyData)(n:9)(vs:LV)(as:6 13)(A:Around)(s:12),kds xs=W->tq xs≤n->ReadsAll s.heap vs xs as->∀v ∈ vs,∀Q:15->12->5,Q W s->wpAny (model prog w) A (eqIsQuiet n v) Q E s
 | [],_,_,_,_,_,_,_,r,v,hv,_,_=>by ext r;ext hv
 |x::xs,n,_,_,A,s,k,l,r,v,hv,Q,q=>by
  rwa[kds,av]at k;rwa[tq]at l;cases r with
  |cons r1 r2=>
   rcases a8.mp hv with rfl|hv
   .exact yS x n _ _ A s Q k.1 () r1 q
   .calc vn xs n _ _ A s k.2 () r2 v hv Q q
end
end
def nest(prog:18)(w:16):HeapKind prog w PyData where
 is:=λh d a=>kd d=W/\d.depth≤08/\∃n,Reads h (.ref a) d n
 hash:=hk w
 draws:=dr
 room:=λA=>A.units+08 < cLine
 inj:=λx y=>by let(k,_,_,r):=x;let(_,_,_,m):=y;exact PySem.SeqAt.Reads.unique _ _ _ _ _ (L8 _ k) r m
 keeps:=λx hd p i=>by let(k,l,n,r):=x;calc#[k,l,n,stay _ k r λb o c z f=>?_];calc(i.2 b λe=>?_).trans c;subst e;let(_,_,f):=f;rw[hd]at c;ext c;rw[p]at f;ext f
 pyHash:=λu x q=>by let(k,l,n,r):=x;exact ED _ _ _ _ _ _ k r () q
 eqBool:=λ{A E s x y a b Q} u v g q=>by
  let(k,l,n,r):=v;let(t,j,bs,m):=g;let e:=KA x y A s _ _ n bs r m (L8 _ k) (L8 _ t) ();calc e prog w E Q ?_;have:bH x y=decide (x=y):=by rw[jB,eqv_kd x y k t,oI]
  rw[this];exact q
 quiet:=λx q=>by let(k,l,n,r):=x;calc yS _ 08 _ _ _ _ _ k l r q
end Nk
set_option Elab.async false
set_option linter.all false
set_option maxRecDepth 100000
namespace L2
open PySem PySem.Spec PyProof.Rows
noncomputable abbrev cD:=Sum 8 Str
def vG:cD->11->15
 | .inl k,v=>Value.isInt k v
 | .inr x,v=>Value.isStrOf x v
def Vx(w:16):cD->8
 | .inl k=>hashInt k
 | .inr x=>hashStr w x
theorem dG:∀{k:cD}{v:11},vG k v=W->(X0 λi t=>k=Sum.inl i/\v=Value.int i t)\/(X0 λx t=>k=Sum.inr x/\v=Value.str x t)
 | .inl i,v,h=>by let(t,e):=Value.isInt_shape (k:=i) (v:=v) h;calc .inl #[i,t,0,e]
 | .inr x,v,h=>by let(t,e):=Value.isStrOf_shape (x:=x) (v:=v) h;calc .inr #[x,t,0,e]
def FK(i:8)(t:Tok):vG (.inl i)^.int i t=W:=by simp[vG,Value.isInt]
def FJ(x:Str)(t:Tok):vG (.inr x)^.str x t=W:=by simp[vG,Value.isStrOf]
def Pz(a b:8):decide ((Sum.inl a:cD)=Sum.inl b)=(a == b):=by
 by_cases e:a=b
 .subst e;simp
 .have h:¬(Sum.inl a:cD)=Sum.inl b:=λq=>e^Sum.inl.inj q;rw[bK h];calc(jA.mpr e).symm
def Pw(a b:Str):decide ((Sum.inr a:cD)=Sum.inr b)=decide (a=b):=by
 by_cases e:a=b
 .subst e;simp
 .have h:¬(Sum.inr a:cD)=Sum.inr b:=λq=>e^jz q;rw[bK h,bK e]
theorem Py(a:8)(b:Str):decide ((Sum.inl a:cD)=Sum.inr b)=Xk:=bK (λq=>nomatch q)
theorem Px(a:Str)(b:8):decide ((Sum.inr a:cD)=Sum.inl b)=Xk:=bK (λq=>nomatch q)
def cL(prog:18)(w:16):PySem.KeyKind prog w cD where
 is:=vG
 hash:=Vx w
 inj:=λv a b c f=>by
  rcases dG c with ⟨i,t,rfl,rfl⟩|⟨x,t,rfl,rfl⟩
  .rcases dG f with ⟨j,u,rfl,e⟩|⟨y,u,rfl,e⟩
   .injection e with s _;rw[s]
   .exact nomatch e
  .rcases dG f with ⟨j,u,rfl,e⟩|⟨y,u,rfl,e⟩
   .exact nomatch e
   .injection e with s _;rw[s]
 byValue:=λk v h=>by rcases dG h with ⟨i,t,rfl,rfl⟩|⟨x,t,rfl,rfl⟩<;>rfl
 pyHash:=λn h=>by
  rcases dG n with ⟨i,t,rfl,rfl⟩|⟨x,t,rfl,rfl⟩
  .exact Dt h
  .exact Du h
 eqBool:=λm n h=>by
  rcases dG m with ⟨i,t,rfl,rfl⟩|⟨x,t,rfl,rfl⟩
  .rcases dG n with ⟨j,u,rfl,rfl⟩|⟨y,u,rfl,rfl⟩
   .rw [Pz]at h;exact wpAny_eqBool_int h
   .rw [Py]at h;exact SeqAt.EqAt.int_str i t y u _ _ _ _ h
  .rcases dG n with ⟨j,u,rfl,rfl⟩|⟨y,u,rfl,rfl⟩
   .rw [Px]at h;exact SeqAt.EqAt.str_int x t j u _ _ _ _ h
   .rw [Pw]at h;exact wpAny_eqBool_str h
 «strs»:=λk x t v h=>by
  rcases dG h with ⟨i,u,rfl,e⟩|⟨y,u,rfl,e⟩
  .exact nomatch e
  .injection e with s _;subst s;ext v<;>rfl
theorem y8(prog:18)(w:16)(i:8)(t:Tok):(cL prog w).is (.inl i)^.int i t=W:=FK i t
theorem y7(prog:18)(w:16)(x:Str)(t:Tok):(cL prog w).is (.inr x)^.str x t=W:=FJ x t
inductive V where
 |n|d (b:15)|int (i:8)|str (x:Str)|byt (b:Array UInt8)|flt (b:UInt64)|ref (a:13)|ty (n:String)
 deriving DecidableEq
def RelV:V->11->5
 | .n,u=>u=Value.none
 | .d b,u=>u=Value.bool b
 | .int i,u=>∃t,u=Value.int i t
 | .str x,u=>∃t,u=Value.str x t
 | .byt b,u=>∃t,u=Value.bytes b t
 | .flt b,u=>∃t,u=Value.float b t
 | .ref a,u=>u=Value.ref a
 | .ty n,u=>u=Value.type n
abbrev bC:6 V->LV->5:=Paired RelV
variable{L:LV}
theorem bC.length(r:bC xs L):-xs=-L:=Paired.length r
theorem bC.get:∀{xs:6 V}{L:LV}{i:9}{x:V},bC xs L->xs[i]? = Y x->∃u,L[i]? = Y u/\RelV x u
 |_,_,_,_,.nil,e=>by simp at e
 |_,_,0,_,.cons r _,e=>by simp at e;subst e;calc#[_,0,r]
 |_,_,i+1,x,.cons _ t,e=>by let(u,h1,h2):=bC.get (i:=i) (x:=x) t (by exists e);calc#[u,by simpa using h1,h2]
variable{u:11}
theorem bC.set(r:RelV x u):∀{xs:6 V}{L:LV}(i:9),bC xs L->bC (xs.set i x)^L.set i u
 |_,_,_,.nil=>.nil
 |_,_,0,.cons _ t=>.cons r t
 |_,_,i+1,.cons q t=>.cons q^bC.set r i t
theorem bC.append:∀{xs ys:6 V}{L w:LV},bC xs L->bC ys w->bC (xs++ys) (L++w)
 |_,_,_,_,.nil,s=>s
 |_,_,_,_,.cons r t,s=>.cons r^bC.append t s
theorem bC.take:∀{xs:6 V}{L:LV}(n:9),bC xs L->bC (xs.take n)^L.take n
 |_,_,0,_=>.nil
 |_,_,_+1,.nil=>.nil
 |_,_,n+1,.cons r t=>.cons r^bC.take n t
theorem bC.drop:∀{xs:6 V}{L:LV}(n:9),bC xs L->bC (xs.drop n)^L.drop n
 |_,_,0,r=>r
 |_,_,_+1,.nil=>.nil
 |_,_,n+1,.cons _ t=>bC.drop n t
def l8:7 V->OV->5
 |some v,Y u=>RelV v u
 |none,Z=>True
 |_,_=>False
def KV:6 (κ×V)->6 (κ×11)->5:=Paired λ(p:κ×V)(q:κ×11)=>p.1=q.1/\RelV p.2 q.2
def kV:cD->V
 | .inl i=>.int i
 | .inr x=>.str x
def qF(h:17)(a:13)(i:Array 11):5:=∃o,h.get? a=Y o/\(o.cls=.type "tuple"/\∃n,o.data=.seq i n)/\o.dict=Z
variable{h:17}{a:13}
def qF.tup(x:qF h a q):IsTup h a q:=by let(o,e,c,_):=x;calc#[o,e,c]
theorem qF.lt(x:qF h a q):a < h.objs.size:=x.tup.lt
theorem qF.new(h:17)(i:Array 11):qF (h.push { cls:=.type "tuple",data:=.seq i }) h.objs.size i:=#[_,bO _ rfl,#[0,_,0],0]
inductive HO where
 |l (xs:6 V)
 |u (xs:6 V)
 |dK (x5:6 (cD×V))|dT (x5:6 (6 cD×V))|dN (x5:6 (PyData×V×V))
 |set (S:8->15) (n:9)
 |B (C dx:13) (fs:6 (Str×V))
 |own (x:13)
 |xd (fs:6 (Str×V))
 |met (f x:13)
 |rng (lo hi:8)
 |frz (o:Obj) (u:HO)
 |tbl
 |ext (φ:17->5)
noncomputable abbrev Hp:=13->7 HO
def cc(H:Hp)(a:13)(o:HO):Hp:=λb=>if b=a then Y o else H b
variable{H:Hp}
def aO:cc H a o a=Y o:=by unfold cc;rw[af rfl]
variable{b:13}
def aE(h:b≠a):cc H a o b=H b:=by unfold cc;rw[ag h]
def Se{H:Hp}{a b:13}{o u:HO}(h:H a=Y o)(h':H b=Y u)(d:o≠u):a≠b:=by intro e;subst e;rw[h]at h';calc d^cz h'
def c6(h:H a=Y o)(h':H b=Z):a≠b:=by intro e;subst e;rw[h]at h';ext h'
def IE:Str:="coming_rows"
def A2:Str:="coming_rows.<locals>.<lambda>"
def xJ:Pos:=#[232,36,232,77]
def Hh(p:13×Obj):7 13:=match p.2.data with
 | .fields v=>match (v[1]?:OV),(v[011]?:OV) with
  |some (.str q _),Y (.ref P)=>if q=IE then Y P else Z
  |_,_=>Z
 |_=>Z
def cO(K:FG):6 13:=K.filterMap Hh
def A7(o:Obj):5:=X0 λv t=>o.data=.fields v/\v[1]? = Y^.str A2 t
def uC(H:Hp)(h:17)(a:13):5:=∃ps,h.get? a=Y^tj ps/\(ps=(10 [])\/X0 λc o=>ps=(10 [rawInt xJ.line,rawInt xJ.col,.ref c])/\H c=Y (.frz o^.own a)/\A7 o)
section
variable(P:18)(w:16)
def dL(H:Hp)(h:17)(a:13):HO->5
 | .l xs=>-xs≤sizeLine/\X0 λ(its:LV)(n:9)=>bC xs its/\h.get? a=Y { cls:=.type "list",data:=.seq its.toArray n }
 | .u xs=>-xs≤sizeLine/\∃its:LV,bC xs its/\qF h a its.toArray
 | .dK x5=>-x5≤sizeLine/\(a == sysModules)=Xk/\∃vs,KV x5 vs/\h.DictOf (cL P w) a vs
 | .dT x5=>-x5≤sizeLine/\(a == sysModules)=Xk/\∃xs:6 (6 cD×13×11),
   Paired (λ(p:6 cD×V)(q:6 cD×13×11)=>p.1=q.1/\H q.2.1=Y (.u^p.1.map kV)/\RelV p.2 q.2.2) x5 xs /\
   X1 λo es ep=>h.get? a=Y o/\o.ExactDict/\o.data=.dict es ep/\es.toList=xs.map (entryOfKey^tupleKind^cL P w)/\(xs.map (·.1)).Nodup
 | .dN x5=>-x5≤sizeLine/\(a == sysModules)=Xk/\∃xs:6 (PyData×13×11),Paired (λ(p:PyData×V×V)(q:PyData×13×11)=>p.1=q.1/\p.2.1=V.ref q.2.1/\RelV p.2.2 q.2.2) x5 xs /\
   X1 λo es ep=>h.get? a=Y o/\o.ExactDict/\o.data=.dict es ep/\es.toList=xs.map (entryOfKey^Nk.nest P w)/\(xs.map (·.1)).Nodup
 | .set S n=>h.SetOf (intKind P w) a S n
 | .B C dx fs=>H dx=Y^.own a/\-fs≤1000/\dx≠a/\h.get? a=Y^mi C dx /\
   ∃mA,h.Ns1 dx mA/\(∀f,l8 (fs.lookup f)^mA f)/\Ac mA^fs.map (·.1)
 | .own _=>∃o,h.get? a=Y o
 | .xd fs=>∃mA,h.Ns1 a mA/\∀f,l8 (fs.lookup f)^mA f
 | .rng lo hi=>X1 λt u v=>h.get? a=Y { cls:=.type "range",data:=.fields^10 [.int lo t,.int hi u,.int 1 v] }
 | .frz o u=>h.get? a=Y o/\dL H h a u
 | .tbl=>uC H h a
 | .met f x=>h.get? a=Y (Ax (.ref f)^.ref x)
 | .ext φ=>φ h/\(∃o,h.get? a=Y o)/\∀h1 h2:17,φ h1->(∀o,h1.get? a=Y o->h2.get? a=Y o)->φ h2
def kF(H:Hp)(h:17):5:=∀a o,H a=Y o->dL P w H h a o
end
section
variable{P:18}{w:16}{H H':Hp}{h h':17}{a:13}{o:HO}
def dL.lt(x:dL P w H h a o):a < h.objs.size:=by
 cases o with
 |l xs=>let(_,_,_,_,e):=x;calc aN e
 |u xs=>let(_,_,_,p):=x;calc p.lt
 |dK x5=>let(_,_,_,_,o,_,_,e,_):=x;calc aN e
 |dT x5=>let(_,_,_,_,o,_,_,e,_):=x;calc aN e
 |dN x5=>let(_,_,_,_,o,_,_,e,_):=x;calc aN e
 |set S n=>let(o,_,_,_,e,_):=x;calc aN e
 |B C dx fs=>let(_,_,_,e,_):=x;calc aN e
 |own y=>let(_,e):=x;calc aN e
 |xd fs=>let(_,(_,_,_,e,_),_):=x;calc aN e
 |rng lo hi=>let(_,_,_,e):=x;calc aN e
 |frz ob u=>let(e,_):=x;calc aN e
 |tbl=>let(_,e,_):=(uC H h a|>x);calc aN e
 |met f y=>calc aN (h.get? a=Y _|>x)
 |ext φ=>let(_,(_,e),_):=x;calc aN e
theorem Paired.mapP:∀{l:6 α}{h:6 z},Paired F l h->(∀a b,F a b->q a b)->Paired q l h
 |_,_,.nil,_=>.nil
 |_,_,.cons r t,f=>.cons (f _ _ r)^Paired.mapP t f
def dL.stay(x:dL P w H h a o)(k:∀b u,(b=a\/H b=Y^.own a)->h.get? b=Y u->h'.get? b=Y u)
  (ho:∀b,H b=Y^.own a->H' b=Y^.own a) (ht:∀b xs,H b=Y^.u xs->H' b=Y^.u xs)
  (hf:∀b oc,H b=Y (.frz oc^.own a)->H' b=Y (.frz oc^.own a):=by first|calc λs s q=>q|calc λs s q=>(aE^c6 q (by assumption)).trans q):dL P w H' h' a o:=by
 induction o with
 |l xs=>let(z,its,n,r,e):=x;calc#[z,its,n,r,k _ _ (.inl rfl) e]
 |u xs=>let(z,its,r,ob,e,c):=x;calc#[z,its,r,ob,k _ _ (.inl rfl) e,c]
 |dK x5=>let(z,y,vs,r,ob,es,ep,e,c):=x;calc#[z,y,vs,r,ob,es,ep,k _ _ (.inl rfl) e,c]
 |dT x5=>let(z,y,xs,r,ob,es,ep,e,c):=x;calc#[z,y,xs,Paired.mapP r λp q z=>#[z.1,ht _ _ z.2.1,z.2.2],ob,es,ep,k _ _ (.inl rfl) e,c]
 |dN x5=>let(z,y,xs,r,ob,es,ep,e,c):=x;calc#[z,y,xs,r,ob,es,ep,k _ _ (.inl rfl) e,c]
 |set S n=>let(ob,es,ep,t,e,c):=x;calc#[ob,es,ep,t,k _ _ (.inl rfl) e,c]
 |B C dx fs=>let(d,z,ne,e,mA,(od,es,ep,e2,c),r):=x;calc#[ho _ d,z,ne,k _ _ (.inl rfl) e,mA,#[od,es,ep,k _ _ (.inr d) e2,c],r]
 |own y=>let(ob,e):=x;calc#[ob,k _ _ (.inl rfl) e]
 |xd fs=>let(mA,(od,es,ep,e,c),r):=x;calc#[mA,#[od,es,ep,k _ _ (.inl rfl) e,c],r]
 |rng lo hi=>let(t,u,v,e):=x;calc#[t,u,v,k _ _ (.inl rfl) e]
 |frz ob u ih=>let(e,q):=x;calc#[k _ _ (.inl rfl) e,ih q]
 |tbl=>let(ps,e,z):=(uC H h a|>x);calc#[ps,k a _ (.inl rfl) e,z.imp id ?_];rintro ⟨c,oc,e1,e2,e3⟩;calc#[c,oc,e1,hf _ _ e2,e3]
 |met f y=>have e:h.get? a=Y (Ax (.ref f)^.ref y):=x;show h'.get? a=Y (Ax (.ref f)^.ref y);calc k a _ (.inl rfl) e
 |ext φ=>let(p,(o,e),st):=x;calc#[st _ _ p λo q=>k _ _ (.inl rfl) q,#[o,k _ _ (.inl rfl) e],st]
theorem kF.lt(x:kF P w H h)(e:H a=Y o):a < h.objs.size:=(x a o e).lt
def kF.fresh(x:kF P w H h)(e:h.objs.size≤a):H a=Z:=by
 cases q:H a with
 |none=>rfl
 |some u=>calc absurd (bU (x.lt q) e)^gP _
theorem kF.kept(x:kF P w H h)(k:∀b u,h.get? b=Y u->h'.get? b=Y u):kF P w H h':=λa o e=>
 (x a o e).stay (λb u z q=>k b u q) (λz q=>q) λz z q=>q
theorem kF.laid(x:kF P w H h)(k:∀b u,h.get? b=Y u->h'.get? b=Y u)(p:h.objs.size≤a)(n:dL P w (cc H a o) h' a o):kF P w (cc H a o) h':=λb u e=>by
 let f:=x.fresh p;by_cases s:b=a
 .subst s;rw[aO]at e;ext e;exact n
 .rw [aE s]at e;calc(x b u e).stay (λc v z q=>k c v q) (λc q=>by rw[aE^c6 q f];calc q) λc xs q=>by rw[aE^c6 q f];calc q
end
def Rd(H:Hp)(a:13)(u:HO):5:=H a=Y u\/∃o,H a=Y^.frz o u
def Rd.ok{P:18}{w:16}{H:Hp}{h:17}{a:13}{u:HO}(r:Rd H a u)(x:kF P w H h):dL P w H h a u:=by
 rcases r with r|⟨o,r⟩
 .exact x a u r
 .let(_,q):=x a _ r;calc q
def TC:7 HO->5
 |some (.l _)=>True
 |some (.dK _)=>True
 |some (.dT _)=>True
 |some (.dN _)=>True
 |some (.set _ _)=>True
 |some (.B _ _ _)=>True
 |some (.ext _)=>True
 |_=>False
section
variable{P:18}{w:16}{H:Hp}{h h':17}{x e:13}{o':HO}
theorem kF.write(ok:kF P w H h)(m:TC^H x)(i:e=x\/H e=Y^.own x)(k:∀b u,b≠e->h.get? b=Y u->h'.get? b=Y u)(d:∃u,h'.get? e=Y u)
  (g:dL P w (cc H x o') h' x o'):kF P w (cc H x o') h':=λb u q=>by
 have n:∀c y,H c=Y^.own y->c≠x:=λc y r z=>by subst z;rw[r]at m;exact m
 have t:∀c xs,H c=Y^.u xs->c≠x:=λc xs r z=>by subst z;rw[r]at m;exact m
 have f:∀c o u,H c=Y^.frz o u->c≠x:=λc o u r z=>by subst z;rw[r]at m;exact m
 by_cases s:b=x
 .subst s;rw[aO]at q;ext q;exact g
 .rw [aE s]at q;by_cases a:b=e
  .have j:H b=Y^.own x:=by
    rcases i with z|z
    .exact absurd (a.trans z) s
    .rw [a];exact z
   rw[q]at j;ext j;let(v,l):=d;exact#[v,by rw[a];calc l]
  .calc (ok b u q).stay (λc v p r=>k c v ?_ r) (λc r=>by rw[aE^n c b r];calc r) (λc xs r=>by rw[aE^t c xs r];calc r) (λc S r=>by rw[aE^f c _ _ r];calc r);rcases p with rfl|p
   .exact a
   .rintro rfl;rcases i with z|z
    .exact n c b p z
    .rw [p]at z;ext z;calc s rfl
end
structure Un(fs ex:6 13)(H H':Hp)(h h':17):5 where
 keep:∀b o,h.get? b=Y o->H b=Z->b ∉ fs->b ∉ ex->h'.get? b=Y o
 slot:∀b o,h.get? b=Y o->H b=Z->b ∈ fs->b ∉ ex->∃sl,h'.get? b=Y { o with slots:=sl }
 free:∀b o,h.get? b=Y o->H b=Z->b ∉ ex->H' b=Z
 there:∀b o,h.get? b=Y o->b ∉ ex->∃o',h'.get? b=Y o'
 tups:∀b xs,H b=Y^.u xs->H' b=Y (.u xs)
 frzs:∀b o u,H b=Y^.frz o u->H' b=Y (.frz o u)
 tbls:∀b,H b=Y .tbl->H' b=Y .tbl
section
variable{fs fs' ex ex':6 13}{H G H2:Hp}{h h1 h2 h':17}{a x e:13}{o:HO}
def Un.any(u:Un fs ex H G h h1)(q:h.get? b=Y z)(n:H b=Z)(a:b ∉ ex):∃s,h1.get? b=Y { z with slots:=s }:=by
 by_cases x:b ∈ fs
 .exact u.slot b z q n x a
 .calc#[z.slots,u.keep b z q n x a]
theorem Un.kept(k:∀b u,h.get? b=Y u->h'.get? b=Y u):Un fs ex H H h h':=
 #[λb o q z z z=>k b o q,λb o q z z z=>#[o.slots,k b o q],λz z z n z=>n,λb o q z=>#[o,k b o q],λz z q=>q,λz z z q=>q,λz q=>q]
theorem Un.refl:Un fs ex H H h h:=Un.kept λz z q=>q
theorem Un.laid(k:∀b u,h.get? b=Y u->h'.get? b=Y u)(p:h.objs.size≤a)(x:H a=Z):Un fs ex H (cc H a o) h h' where
 keep:=λb u q z z z=>k b u q
 slot:=λb u q z z z=>#[u.slots,k b u q]
 free:=λb u q n z=>by rw[aE^bS^bU (aN q) p];exact n
 there:=λb u q z=>#[u,k b u q]
 tups:=λb xs q=>by rw[aE^c6 q x];exact q
 frzs:=λb u xs q=>by rw[aE^c6 q x];exact q
 tbls:=λb q=>by rw[aE^c6 q x];calc q
def Un.write(m:TC^H x)(p:e=x\/H e=Y^.own x)(k:∀b u,b≠e->h.get? b=Y u->h'.get? b=Y u)(s:∃u,h'.get? e=Y u):Un fs ex H (cc H x o) h h':=by
 have t:∀b,H b=Z->b≠x:=λb n z=>by subst z;rw[n]at m;exact m
 have c:∀b,H b=Z->b≠e:=λb n z=>by
  subst z;rcases p with r|r
  .exact t b n r
  .rw [n]at r;ext r
 have f:∀b u,H b=Y u->¬TC^Y u->b≠x:=λb u q nm z=>by subst z;rw[q]at m;exact nm m
 refine#[fun b u q n _ _=>k b u (c b n) q,fun b u q n _ _=>#[u.slots,k b u (c b n) q],fun b u q n _=>by rw [aE^t b n];calc n,fun b u q _=>?_,
  λb xs q=>by rw[aE (f b _ q λz=>z)];calc q,λb u xs q=>by rw[aE (f b _ q λz=>z)];calc q,λb q=>by rw[aE (f b _ q λz=>z)];calc q]
 by_cases a:b=e
 .subst a;exact s
 .calc#[u,k b u a q]
end
def trk(h:17)(H:Hp):6 13:=(List.range h.objs.size).filter λa=>(H a).isSome
def xQ(h:17)(H:Hp):17:=PySem.W.hideAll h^trk h H
theorem FR(h:17)(H:Hp):(xQ h H).objs.size=h.objs.size:=PySem.W.hideAll_size _ _
variable{o:Obj}
theorem IZ(e:h.get? b=Y o)(n:H b=Z):(xQ h H).get? b=Y o:=
 PySem.W.hideAll_get _ e λm=>by have q:(H b).isSome=W:=(f8.mp m).2;rw[n]at q;simp at q
def LP(e:(xQ h H).get? b=Y o):h.get? b=Y o/\H b=Z:=by
 have a:h.get? b=Y o:=PySem.W.of_hideAll (trk h H) e;calc#[a,?_];cases q:H b with
 |none=>rfl
 |some x=>have m:b ∈ trk h H:=f8.mpr #[iO.mpr^aN a,by simp[q]];have z:(xQ h H).get? b=Z:=PySem.W.hideAll_none (trk h H) m;rw[z]at e;ext e
structure Mod(K:FG)(mg:SV)(base:17):5 where
 kin:K.In base
 glob:base.Ns mainGlobals mg
 blt:∃mb,base.Ns builtinsNs mb/\∀x:Str,x≠"__name__"->mb x=bootBuiltins x
 nolimit:base.NoLimit
 bmain:∃bm ob,mg "__builtins__"=Y^.ref bm/\bm≠builtinsNs/\base.get? bm=Y ob/\ob.cls=.type "module"/\ob.dict=Y builtinsNs/\ob.data=.plain
structure Cx where
 p:18
 w:16
 K:FG
 g:SV
 b:17
 A:Around
 N:LS
 z:12
 y:Hp
 e:Env
 o:6 Env
 k:6 Env
 ex:6 13
 fn:Str->15
 c:15
 pn:PN
 xe:VP
def FW(l:6 Env):6 13:=l.filterMap (·.frame)
abbrev Cx.fs(X:Cx):6 13:=FW X.o
def MP(sc:Scope)(x:Str):5:=sc.names.lookup x=Y .local\/sc.names.lookup x=Y .cell\/sc.names.lookup x=Y .free
def Loc(sc:Scope)(x:Str):5:=sc.names.lookup x=Y .local\/sc.names.lookup x=Y .cell
def Look(e:Env)(h:17)(m:SV)(x:Str)(u:11):5:=
 (e.kindOf x=Y .local/\m x=Y u)\/((e.kindOf x=Y .cell\/e.kindOf x=Y .free)/\∃c,e.cells.lookup x=Y c/\h.IsCell c^Y u)
structure Cx.Ok(X:Cx):5 where
 mod:Mod X.K X.g X.b
 kind:X.e.scope.kind=.function
 glob:X.e.globals=mainGlobals
 blt:X.e.builtins=builtinsNs
 above:X.z.heap.objs.size≤X.e.locals
 inj:∀x y c,X.e.cells.lookup x=Y c->X.e.cells.lookup y=Y c->x=y
 has:∀x,(X.e.kindOf x=Y .cell\/X.e.kindOf x=Y .free)->∃c,X.e.cells.lookup x=Y c
 cab:∀x c,X.fn x=W->X.e.cells.lookup x=Y c->X.z.heap.objs.size≤c
 hd:X.c=W->X.A.handled=Z
 frames:X.A.frames=Y X.k
 stk:X.k=X.o\/(X.k=X.e::X.o/\X.e.frame=Y X.e.locals)
 exf:∀b ∈ X.ex,b≠X.e.locals/\∀x c,X.e.cells.lookup x=Y c->c≠b
 bs:∀b o,X.b.get? b=Y o->X.z.heap.get? b=Y o/\X.y b=Z
 bsz:X.b.objs.size≤X.z.heap.objs.size
 noex:∀b o,X.b.get? b=Y o->b ∉ X.ex
 exfs:∀b ∈ X.ex,b ∉ X.fs
 funs:X.z.heap.FunFrames X.b X.o
 frf:∀b ∈ X.fs,X.y b=Z
 tab:∀P ∈ cO X.K,X.y P=Y .tbl
structure Inv(X:Cx)(x4:PN)(J:6^7 V)(H:Hp)(s:12):5 where
 o:X.Ok
 os:s.os=X.z.os
 bare:AllBare s.gens
 base:Un X.fs X.ex X.y H X.z.heap s.heap
 loc:∃m,s.heap.Ns X.e.locals m/\∀(i:9)(x:Str)(v:V),X.N[i]? = Y x->J[i]? = Y^Y v->MP X.e.scope x->∃u,RelV v u/\Look X.e s.heap m x u
 cell:∀x c,X.e.cells.lookup x=Y c->∃v,s.heap.IsCell c v
 free:H X.e.locals=Z
 freeC:∀x c,X.e.cells.lookup x=Y c->H c=Z
 pin:∀p ∈ X.pn++x4,s.heap.get? p.1=Y p.2/\H p.1=Z/\p.1≠X.e.locals/\p.1 ∉ X.fs/\∀v,p.2.data≠.cell v
 h:kF X.p X.w H s.heap
 len:-J=-X.N
section
variable{X:Cx}{x4:PN}{J:6^7 V}{H H':Hp}{s:12}{h':17}
theorem Cx.Ok.nofr(ok:X.Ok)(e:X.b.get? b=Y o):b ∉ X.fs:=λh=>by have:=(ok.funs.mem h).1;rw[e]at this;ext this
theorem Inv.bs(I:Inv X x4 J H s):∀b o,X.b.get? b=Y o->s.heap.get? b=Y o/\H b=Z:=λb o e=>
 #[I.base.keep b o (I.o.bs b o e).1 (I.o.bs b o e).2 (I.o.nofr e)^I.o.noex b o e,I.base.free b o (I.o.bs b o e).1 (I.o.bs b o e).2^I.o.noex b o e]
theorem Inv.bk(I:Inv X x4 J H s):∀b o,X.b.get? b=Y o->s.heap.get? b=Y o:=λb o e=>(I.bs b o e).1
theorem Inv.mod(I:Inv X x4 J H s):Mod X.K X.g X.b:=I.o.mod
theorem Inv.kIn(I:Inv X x4 J H s):X.K.In s.heap:=I.o.mod.kin.keeps I.bk
theorem Inv.nolimit(I:Inv X x4 J H s):s.heap.NoLimit:=I.o.mod.nolimit.keeps I.bk
theorem Inv.lt(I:Inv X x4 J H s):X.e.locals < ~~~s:=let #[_,h,_]:=I.loc;h.lt
theorem Inv.sz(I:Inv X x4 J H s):X.z.heap.objs.size≤ ~~~s:=aH I.o.above^lw I.lt
theorem Inv.nofs(I:Inv X x4 J H s)(h: ~~~s≤a):a ∉ X.fs:=λb=>by let(_,o,x,_):=I.o.funs.mem b;calc absurd (bU (aN x)^aH I.sz h)^gP _
theorem Inv.cne(I:Inv X x4 J H s):∀x c,X.e.cells.lookup x=Y c->c≠X.e.locals:=λx c e z=>by let(v,o,n,hd):=I.cell x c e;let(m,(o',es,p,a,h,_),_):=I.loc;rw[z,a]at n;ext n;rw[h]at hd;ext hd
def Inv.funs(I:Inv X x4 J H s):s.heap.FunFrames X.b X.o:=by
 have all:∀(l:6 Env),(∀b ∈ FW l,b ∈ X.fs)->X.z.heap.FunFrames X.b l->s.heap.FunFrames X.b l:=by
  intro l;induction l with
  |nil=>intro _ _;trivial
  |cons n r i=>
   intro a k;let(hk,(L,o,f,c,m,hd),t):=k;have h:L ∈ X.fs:=a L (by unfold FW;rw[oT,f];calc aA);let(p,e):=I.base.slot L o m (I.o.frf L h) h λz=>I.o.exfs L z h
   exact#[hk,#[L,_,f,c,e,hd],i (λb x=>a b (by unfold FW;rw[oT,f];calc aC _ x)) t]
 calc all X.o (λy x=>x) I.o.funs
def Inv.stack(I:Inv X x4 J H s):s.heap.FunFrames X.b X.k:=by
 rcases I.o.stk with e|⟨e,h⟩
 .rw [e];exact I.funs
 .rw [e];let(m,n,_):=I.loc;calc .cons (by rw[I.o.kind];decide) h n ?_ I.funs;calc Cp^aH I.o.bsz I.o.above
theorem Inv.stkSub(I:Inv X x4 J H s):∀b ∈ FW X.k,b ∈ X.e.locals::X.fs:=λb h=>by
 rcases I.o.stk with e|⟨e,f⟩
 .rw [e]at h;exact aC _ h
 .rw [e]at h;unfold FW at h;rw[oT,f]at h;calc h
theorem Inv.stkFree(I:Inv X x4 J H s):∀b ∈ FW X.k,H b=Z:=λb h=>by
 rcases a8.mp^I.stkSub b h with e|h
 .rw [e];exact I.free
 .let(_,o,x,_):=I.o.funs.mem h;calc I.base.free b o x (I.o.frf b h) λz=>I.o.exfs b z h
def Inv.step{g':Array GenState}{t':9}{d':Drawn}{ch:6 13}(I:Inv X x4 J H s)
  (a:∀b ∈ ch,(b ∈ X.ex\/X.z.heap.objs.size≤b)/\b≠X.e.locals/\(∀x c,X.e.cells.lookup x=Y c->c≠b)/\∀p ∈ X.pn++x4,p.1≠b)
  (t:∀b o,b≠X.e.locals->b ∉ X.fs->b ∉ ch->s.heap.get? b=Y o->H b=Z->h'.get? b=Y o)
  (slot:∀b o,b≠X.e.locals->b ∈ X.fs->b ∉ ch->s.heap.get? b=Y o->H b=Z->∃E,h'.get? b=Y { o with slots:=E }) (f:∀b o,b ∉ ch->s.heap.get? b=Y o->H b=Z->H' b=Z)
  (y:∀b o,b ∉ ch->s.heap.get? b=Y o->∃o',h'.get? b=Y o')
  (A:∀b xs,H b=Y^.u xs->H' b=Y^.u xs) (F:∀b o u,H b=Y^.frz o u->H' b=Y^.frz o u) (P:∀b,H b=Y .tbl->H' b=Y .tbl)
  (ns:∀m,s.heap.Ns X.e.locals m->h'.Ns X.e.locals m) (D:kF X.p X.w H' h') (V:AllBare g') :
  Inv X x4 J H' { s with heap:=h',gens:=g',drawn:=d',toks:=t' }:=by
 have L:∀b o,X.z.heap.get? b=Y o->b≠X.e.locals:=λb o e=>bS^bU (aN e) I.o.above;have C:∀b o,X.z.heap.get? b=Y o->b ∉ X.ex->b ∉ ch:=λb o e h j=>by
  rcases(a b j).1 with z|z
  .exact h z
  .exact absurd (bU (aN e) z)^gP _
 have K:∀x c,X.e.cells.lookup x=Y c->∀v,s.heap.IsCell c v->h'.IsCell c v:=λx c e v hz=>by
  let(o,S,hd):=hz;have w:c ∉ ch:=λz=>(a c z).2.2.1 x c e rfl;by_cases M:c ∈ X.fs
  .let(E,q):=slot c o (I.cne x c e) M w S^I.freeC x c e;exact#[_,q,hd]
  .exact#[o,t c o (I.cne x c e) M w S^I.freeC x c e,hd]
 refine#[I.o,I.os,V,#[λb o e n j h=>?_,λb o e n j h=>?_,λb o e n h=>?_,λb o e h=>?_,λb xs e=>A b xs^I.base.tups b xs e,λb o xs e=>F b o xs^I.base.frzs b o xs e,λb e=>P b^I.base.tbls b e],?_,λx c e=>?_,?_,λx c e=>?_,λp N=>?_,D,I.len]
 .exact t b o (L b o e) j (C b o e h) (I.base.keep b o e n j h)^I.base.free b o e n h
 .let(E,g):=I.base.slot b o e n j h;let(G,B):=slot b _ (L b o e) j (C b o e h) g^I.base.free b o e n h;exact#[G,B]
 .let(o',g):=I.base.there b o e h;exact f b o' (C b o e h) g^I.base.free b o e n h
 .let(o',g):=I.base.there b o e h;exact y b o' (C b o e h) g
 .let(m,Z0,Z1):=I.loc;calc#[m,ns m Z0,λi x v g B T=>?_];let(u,r,l):=Z1 i x v g B T;calc#[u,r,?_];rcases l with l|⟨k,c,e,z⟩
  .exact .inl l
  .exact .inr #[k,c,e,K x c e _ z]
 .let(v,z):=I.cell x c e;exact#[v,K x c e v z]
 .let(m,(o,_,_,S,_),_):=I.loc;exact f _ o (λz=>(a _ z).2.1 rfl) S I.free
 .let(v,o,S,hd):=I.cell x c e;exact f c o (λz=>(a c z).2.2.1 x c e rfl) S^I.freeC x c e
 .let(e,n,Q,R,d):=I.pin p N;have w:p.1 ∉ ch:=λz=>(a p.1 z).2.2.2 p N rfl;calc#[t p.1 p.2 Q R w e n,f p.1 p.2 w e n,Q,R,d]
def Inv.un{t':9}(I:Inv X x4 J H s)(u:Un X.fs [] H H' s.heap h')(k:kF X.p X.w H' h'):Inv X x4 J H' { s with heap:=h',toks:=t' }:=by
 let(m,(o,es,q,f,r),_):=id I.loc;let(l,L):=u.any f I.free ∅;calc I.step (g':=s.gens) (d':=s.drawn) (ch:=[]) (λy z=>nomatch z) (λb o y a y e n=>u.keep b o e n a ∅) (λb o y a y e n=>u.slot b o e n a ∅) (λb o y e n=>u.free b o e n ∅) (λb o y e=>u.there b o e ∅) u.tups u.frzs u.tbls (λv c=>by let(o',x,p,h,t):=c;rw[f]at h;ext h;calc#[_,x,p,L,t]) k I.bare
def Inv.call{g':Array GenState}{t':9}{d':Drawn}{ch:6 13}(I:Inv X x4 J H s)(u:Un (FW X.k) ch H H' s.heap h')(q:kF X.p X.w H' h')(g:AllBare g')
  (a:∀b ∈ ch,(b ∈ X.ex\/X.z.heap.objs.size≤b)/\b≠X.e.locals/\(∀x c,X.e.cells.lookup x=Y c->c≠b)/\∀p ∈ X.pn++x4,p.1≠b) :
  Inv X x4 J H' { s with heap:=h',gens:=g',drawn:=d',toks:=t' }:=by
 let(m,(o,es,j,v,r),_):=id I.loc;let(y,L):=u.any v I.free λz=>(a _ z).2.1 rfl;calc I.step (ch:=ch) a (λb o L d h e n=>u.keep b o e n (λz=>(a8.mp^I.stkSub b z).elim L d) h) (λb o Z Z h e n=>u.any e n h) (λb o h e n=>u.free b o e n h) (λb o h e=>u.there b o e h) u.tups u.frzs u.tbls (λl w=>by let(o',t,f,k,i):=w;rw[v]at k;ext k;calc#[_,t,f,L,i]) q g
def Inv.turned{t':9}{i:13}(I:Inv X x4 J H s)(k:∀b o,b≠i->s.heap.get? b=Y o->h'.get? b=Y o)(g:H i=Z)(L:i≠X.e.locals)
  (h1:i ∈ X.ex\/X.z.heap.objs.size≤i) (h2:∀x c,X.e.cells.lookup x=Y c->c≠i) (f:∀p ∈ X.pn++x4,p.1≠i):Inv X x4 J H { s with heap:=h',toks:=t' }:=by
 have t:∀b u,H b=Y u->b≠i:=λb u e z=>by rw[z,g]at e;ext e
 refine I.step (g':=s.gens) (d':=s.drawn) (ch:=[i]) (λb d=>?_) (λb o y y h e y=>k b o (λz=>h (by simp[z])) e) (λb o y y h e y=>#[o.slots,k b o (λz=>h (by simp[z])) e]) (λy y y y n=>n)
  (λb o h e=>#[o,k b o (λz=>h (by simp[z])) e]) (λy y e=>e) (λy y y e=>e) (λy e=>e) (λm w=>?_) (λb u e=>?_) I.bare
 .have e:b=i:=by exists d
  subst e;exact#[h1,L,h2,f]
 .let(o,es,a,j,r):=w;exact#[o,es,a,k _ o (b9 L) j,r]
 .calc (I.h b u e).stay (λc v h q=>k c v ?_ q) (λy q=>q) λy y q=>q;rcases h with z|z
  .rw [z];exact t b u e
  .calc t c _ z
theorem Inv.tok(I:Inv X x4 J H s)(t:9):Inv X x4 J H { s with toks:=t }:=I.un (h':=s.heap) (t':=t) Un.refl I.h
theorem Inv.kept{t':9}(I:Inv X x4 J H s)(k:∀b u,s.heap.get? b=Y u->h'.get? b=Y u):Inv X x4 J H { s with heap:=h',toks:=t' }:=I.un (Un.kept k)^I.h.kept k
theorem Inv.laid{a:13}{o:HO}{t':9}(I:Inv X x4 J H s)(k:∀b u,s.heap.get? b=Y u->h'.get? b=Y u)(h: ~~~s≤a)(n:dL X.p X.w (cc H a o) h' a o) :
  Inv X x4 J (cc H a o) { s with heap:=h',toks:=t' }:=I.un (Un.laid k h^I.h.fresh h)^I.h.laid k h n
theorem Inv.write{x e:13}{o:HO}{t:9}(I:Inv X x4 J H s)(m:TC^H x)(a:e=x\/H e=Y^.own x)(k:∀b u,b≠e->s.heap.get? b=Y u->h'.get? b=Y u)(h:∃u,h'.get? e=Y u)
  (n:dL X.p X.w (cc H x o) h' x o):Inv X x4 J (cc H x o) { s with heap:=h',toks:=t }:=I.un (Un.write m a k h)^I.h.write m a k h n
theorem Inv.pins_of(I:Inv X x4 J H s)(h:∀p ∈ q,s.heap.get? p.1=Y p.2/\H p.1=Z/\p.1≠X.e.locals/\p.1 ∉ X.fs/\∀v,p.2.data≠.cell v):Inv X q J H s:=
 #[I.o,I.os,I.bare,I.base,I.loc,I.cell,I.free,I.freeC,λp x=>(cj.mp x).elim (λz=>I.pin p^j' _ z)^h p,I.h,I.len]
def y3{N:LS}(s:N.Nodup){i j:9}{x:Str}(a:N[i]? = Y x)(b:N[j]? = Y x):i=j:=by let(h1,e):=bP.mp a;let(h2,h):=bP.mp b;calc(List.getElem_inj s).mp^e.trans h.symm
def p'{M:Model}{A:Around}{E:VP}{i:9}{x:Str}{v:V}{u:11}{Q:Unit->12->5}(I:Inv X x4 J H s)(hN:X.N.Nodup)(hi:X.N[i]? = Y x)(l:Loc X.e.scope x)(r:RelV v u)
  (h:∀s',Inv X x4 (J.set i^Y v) H s'->(∃a,fq a s.heap s'.heap/\(a=X.e.locals\/X.e.cells.lookup x=Y a))->Q PUnit.unit s') (hf:X.fn x=W\/X.e.scope.names.lookup x=Y .local:=by first|calc .inl rfl|calc .inr rfl|assumption):wpAny M A (storeName X.e x u) Q E s:=by
 let(m,hn,hl):=id I.loc;have L:(X.e.scope.kind == .class ||(X.e.scope.kind == .module && X.e.locals != X.e.globals))=Xk:=by rw[I.o.kind];rfl
 have N:i < -J:=by rw[I.len];exact(bP.mp hi).1
 let K:=I.cne;have w:∀{a:13}{h':17},(∃o,s.heap.get? a=Y o/\H a=Z)->fq a s.heap h'->kF X.p X.w H h':=λ{a h'} ha f b ob e=>by
  let(_,_,S):=ha;calc(I.h b ob e).stay (λc w' g q=>(f.2 c ?_).trans q) (λU q=>q) λU U q=>q;rintro rfl;rcases g with rfl|g
  .rw [S]at e;ext e
  .rw [S]at g;ext g
 rcases l with hk|hk
 .calc wpAny_storeName_local hk hn (λh' hn' f=>?_) L;let(oL,_,_,hoL,_):=id hn;refine h _ #[I.o,I.os,I.bare,#[λb o e n P l=>?_,λb o e n P l=>?_,I.base.free,λb o e l=>?_,I.base.tups,I.base.frzs,I.base.tbls],#[_,hn',λj y v' t F e3=>?_],λy c e=>?_,I.free,I.freeC,λp hp=>?_,w #[oL,hoL,I.free] f,by exists I.len] #[_,f,.inl rfl]
  .exact (f.2 b^bS^bU (aN e) I.o.above).trans^I.base.keep b o e n P l
  .let(sl,t):=I.base.slot b o e n P l;exact#[sl,(f.2 b^bS^bU (aN e) I.o.above).trans t]
  .let(o',t):=I.base.there b o e l;exact#[o',(f.2 b^bS^bU (aN e) I.o.above).trans t]
  .by_cases C:j=i
   .subst C;rw[hi]at t;ext t;rw[bY N]at F;ext F;exact#[u,r,.inl #[hk,∅]]
   .rw [aV^b9 C]at F;let(u',r',q):=hl j y v' t F e3;calc#[u',r',?_];rcases q with ⟨k,e⟩|⟨k,c,e,z⟩
    .calc .inl #[k,?_];have:y≠x:=λe=>C (y3 hN t<|e ▸ hi);simp[this,e]
    .exact .inr #[k,c,e,z.sameBut f^K y c e]
  .let(w',z):=I.cell y c e;exact#[w',z.sameBut f^K y c e]
  .let(e,n,Z0,nf,d):=I.pin p hp;exact#[(f.2 p.1 Z0).trans e,n,Z0,nf,d]
 .have B:X.fn x=W:=by
   rcases hf with z|z
   .exact z
   .rw [z]at hk;ext hk
  let(c,g):=I.o.has x^.inl hk;let(w',z):=I.cell x c g;calc wpAny_storeName_cell I.o.kind hk g z (λh' D f=>?_);let(oc,R,T):=id z;refine h { s with heap:=h' } #[I.o,I.os,I.bare,#[λb o e n P l=>?_,λb o e n P l=>?_,I.base.free,λb o e l=>?_,I.base.tups,I.base.frzs,I.base.tbls],#[m,hn.sameBut f^b9^K x c g,λj y v' t F e3=>?_],λy Z1 e=>?_,I.free,I.freeC,λp hp=>?_,w #[oc,R,I.freeC x c g] f,by exists I.len] #[c,f,.inr g]
  .exact (f.2 b^bS^bU (aN e)^I.o.cab x c B g).trans^I.base.keep b o e n P l
  .let(sl,t):=I.base.slot b o e n P l;exact#[sl,(f.2 b^bS^bU (aN e)^I.o.cab x c B g).trans t]
  .let(o',t):=I.base.there b o e l;exact#[o',(f.2 b^bS^bU (aN e)^I.o.cab x c B g).trans t]
  .by_cases C:j=i
   .subst C;rw[hi]at t;ext t;rw[bY N]at F;ext F;exact#[u,r,.inr #[.inl hk,c,g,D]]
   .rw [aV^b9 C]at F;let(u',r',q):=hl j y v' t F e3;calc#[u',r',?_];rcases q with q|⟨k,Z1,e,z'⟩
    .exact .inl q
    .calc .inr #[k,Z1,e,z'.sameBut f ?_];rintro rfl;exact C<|y3 hN t<|I.o.inj _ _ _ e g ▸ hi
  .by_cases G:Z1=c
   .subst G;exact#[_,D]
   .let(w2,z2):=I.cell y Z1 e;exact#[w2,z2.sameBut f G]
  .let(e,n,Z0,nf,d):=I.pin p hp;calc#[(f.2 p.1 ?_).trans e,n,Z0,nf,d];intro q;rw[q,R]at e;have q':oc=p.2:=cz e;calc d w' (by rw[<- q'];calc T)
theorem tG(I:Inv X x4 J H s)(N:X.N.Nodup)(hi:X.N[i]? = Y x)(e:Loc X.e.scope x)(r:RelV v u)
  (h:∀s',Inv X x4 (J.set i^Y v) H s'->Q PUnit.unit s') (f:X.fn x=W\/X.e.scope.names.lookup x=Y .local:=by first|calc .inl rfl|calc .inr rfl|assumption):wpAny M A (storeName X.e x u) Q E s:=
 p' I N hi e r (λs' a z=>h s' a) f
def Inv.call'(I:Inv X x4 J H s)(n:s'.os=s.os)(u:Un (FW X.k) q H H' s.heap s'.heap)(o:kF X.p X.w H' s'.heap)(a:AllBare s'.gens)
  (h:∀b ∈ q,(b ∈ X.ex\/X.z.heap.objs.size≤b)/\b≠X.e.locals/\(∀x c,X.e.cells.lookup x=Y c->c≠b)/\∀p ∈ X.pn++x4,p.1≠b):Inv X x4 J H' s':=by
 let(h',g,d,t,o'):=s';have e:o'=s.os:=n;subst e;calc I.call (g':=g) (t':=t) (d':=d) u o a h
end
noncomputable abbrev XK:=11->7 13->Hp->5
noncomputable abbrev St:=6^7 V
noncomputable abbrev VK:=V->Hp->5
noncomputable abbrev TE:=St->Hp->VK->5
noncomputable abbrev TT:=St->Hp->(15->Hp->5)->5
noncomputable abbrev TA:=St->Hp->(6 V->Hp->5)->5
structure Ends where
 nx:St->Hp->5
 rt:VK
 bk:St->Hp->5:=λz z=>False
 ct:St->Hp->5:=λz z=>False
noncomputable abbrev TS:=Ends->St->Hp->5
def EP(X:Cx)(x4:PN)(J:St)(Q:VK)(u:11)(s':12):5:=X0 λv H'=>Inv X x4 J H' s'/\RelV v u/\Q v H'
def TP(X:Cx)(x4:PN)(J:St)(Q:15->Hp->5)(b:15)(s':12):5:=∃H',Inv X x4 J H' s'/\Q b H'
def AP(X:Cx)(x4:PN)(J:St)(Q:6 V->Hp->5)(L:LV)(s':12):5:=X0 λv H'=>Inv X x4 J H' s'/\bC v L/\Q v H'
def SP(X:Cx)(x4:PN)(D:Ends)(f:Flow)(s':12):5:=
 match f with
 | .next=>X0 λh H'=>Inv X x4 h H' s'/\D.nx h H'
 | .brk=>X0 λh H'=>Inv X x4 h H' s'/\D.bk h H'
 | .cont=>X0 λh H'=>Inv X x4 h H' s'/\D.ct h H'
 | .ret u=>X1 λv h H'=>Inv X x4 h H' s'/\RelV v u/\D.rt v H'
variable{α:Type}
noncomputable abbrev wx(X:Cx)(m:Sem α):=wpAny (model X.p X.w) X.A m
def PE(X:Cx)(e:14)(t:TE):5:=
 ∀(x4:PN)(s:12)(J:St)(H:Hp)(Q:VK),Inv X x4 J H s->t J H Q->wx X (eval e X.e) (EP X x4 J Q) X.xe s
def PT(X:Cx)(e:14)(t:TT):5:=
 ∀(x4:PN)(s:12)(J:St)(H:Hp)(Q:15->Hp->5),Inv X x4 J H s->t J H Q->wx X (isTrue e X.e^eval e X.e) (TP X x4 J Q) X.xe s
def PW(X:Cx)(e:14)(t:TT):5:=
 ∀(w:Sem 11)(x4:PN)(s:12)(J:St)(H:Hp)(Q:15->Hp->5),Inv X x4 J H s->t J H Q->wx X (isTrue e X.e w) (TP X x4 J Q) X.xe s
variable{X:Cx}{e:14}
theorem PW.pt(h:PW X e t):PT X e t:=h _
def PA(X:Cx)(es:Ab)(t:TA):5:=
 ∀(B:Pos)(x4:PN)(s:12)(J:St)(H:Hp)(Q:6 V->Hp->5),Inv X x4 J H s->t J H Q->wx X (spliced^backTo B^starEach es X.e) (AP X x4 J Q) X.xe s
def PS(X:Cx)(st:Stmt)(t:TS):5:=
 ∀(x4:PN)(s:12)(J:St)(H:Hp)(D:Ends),Inv X x4 J H s->t D J H->wx X (exec st X.e) (SP X x4 D) X.xe s
def qH(X:Cx)(st:6 Stmt)(t:TS):5:=
 ∀(x4:PN)(s:12)(J:St)(H:Hp)(D:Ends),Inv X x4 J H s->t D J H->wx X (execs st X.e) (SP X x4 D) X.xe s
variable{M:Model}{A:Around}{E:VP}{s:12}
theorem cQ(h:wpAny M A t Q E s)(e:∀a s,Q a s->q a s):wpAny M A t q E s:=c_ h e λz z x=>x
section
variable{X:Cx}
def UQ(i:9):TE:=λJ H Q=>∃v,J[i]? = Y^Y v/\Q v H
def tC(v:V):TE:=λz H Q=>Q v H
def OP(N:X.N[i]? = Y x)(p:MP X.e.scope x)(hd:(x == ("__debug__":Str))=Xk:=by decide)(d:(x == ("__classdict__":Str))=Xk:=by decide):PE X (.Name x B)^UQ i:=by
 intro x4 s J H Q I h;let(v,e,h):=h;let(m,t,k):=I.loc;let(u,r,l):=k i x v N e p;have f:EP X x4 J Q u s:=#[v,H,I,r,h];rcases l with ⟨hk,b⟩|⟨hk,c,n,a⟩
 .exact sV (Al I.o.kind hk t b f) hd
 .rcases hk with hk|hk
  .exact sV (DB I.o.kind hk n a f) hd
  .calc sV (DC I.o.kind hk n a f d) hd
theorem OT {i q B}:PE X (.Constant (.int i) q B) (tC^.int i):=λz z z H z I h=>wpAny_Constant_int #[.int i,H,I.tok _,#[_,0],h]
theorem RS {b q B}:PE X (.Constant (.bool b) q B) (tC^.d b):=λz z z H z I h=>Constant_bool #[.d b,H,I,0,h]
theorem OS {q B}:PE X (.Constant .none q B)^tC .n:=λz z z H z I h=>Constant_none #[.n,H,I,0,h]
theorem OQ {x q B}:PE X (.Constant (.str x) q B) (tC^.str x):=λz z z H z I h=>Calls.Constant_str #[.str x,H,I.tok _,#[_,0],h]
def Gl(X:Cx)(x:Str):5:=X.e.kindOf x=Y .globalImplicit
theorem sP(I:Inv X x4 J H s)(g:Gl X x)(m:X.g x=Y u)(h:Q u s)
  (hd:(x == ("__debug__":Str))=Xk:=by decide):wx X (eval (.Name x B) X.e) Q E s:=
 wy I.o.kind g (Cj (by rw[I.o.glob];calc I.mod.glob.keeps I.bk) m h) hd
def lF(I:Inv X x4 J H s)(g:Gl X x)(m:X.g x=Z)(v:bootBuiltins x=Y u)(h:Q u s)
  (n:x≠"__name__":=by decide) (hd:(x == ("__debug__":Str))=Xk:=by decide):wx X (eval (.Name x B) X.e) Q E s:=by
 let(b,h1,h2):=I.mod.blt;calc wy I.o.kind g (Calls.loadGlobal_builtin (by rw[I.o.glob];calc I.mod.glob.keeps I.bk) m (by rw[I.o.blt];calc h1.keeps I.bk) ((h2 x n).trans v) h) hd
theorem LD(g:Gl X x)(m:X.g x=Y u)(r:RelV v u)(hd:(x == ("__debug__":Str))=Xk:=by decide):PE X (.Name x B)^tC v:=
 λz z z H z I h=>sP I g m #[v,H,I,r,h] hd
theorem LG(g:Gl X x)(m:X.g x=Z)(a:bootBuiltins x=Y u)(r:RelV v u)(n:x≠"__name__":=by decide)(hd:(x == ("__debug__":Str))=Xk:=by decide):PE X (.Name x B)^tC v:=
 λz z z H z I h=>lF I g m a #[v,H,I,r,h] n hd
variable{a b:14}{ta tb:TE}{B:Pos}
variable{tA tB':TT}{rest:Ab}
def U2(t u:TT):TT:=λJ H Q=>t J H λc G=>if c=W then u J G Q else Q Xk G
def WE(t u:TT):TT:=λJ H Q=>t J H λc G=>if c=W then Q W G else u J G Q
def UV(t:TT):TT:=λJ H Q=>t J H λc G=>Q (!c) G
def Ll(x:PT X a tA):PW X (.BoolOp .And [a] B) tA:=by
 intro w x4 s J H Q I h;calc isTrue_and (cQ (x x4 s J H Q I h) λc n e=>?_);cases c with
 |true=>calc isTrue_and_nil e
 |false=>calc e
def OC(x:PT X a tA):PW X (.BoolOp .Or [a] B) tA:=by
 intro w x4 s J H Q I h;calc isTrue_or (cQ (x x4 s J H Q I h) λc n e=>?_);cases c with
 |false=>calc isTrue_or_nil e
 |true=>calc e
def OD(e:PT X a tA)(n:PW X (.BoolOp .And (b::rest) B) tB'):PW X (.BoolOp .And (a::b::rest) B)^U2 tA tB':=by
 intro w x4 s J H Q I h;calc isTrue_and (cQ (e x4 s J H _ I h) λc k z=>?_);let(G,x,q):=z;cases c with
 |true=>calc n w x4 k J G Q x q
 |false=>calc#[G,x,q]
def RJ(e:PT X a tA)(n:PW X (.BoolOp .Or (b::rest) B) tB'):PW X (.BoolOp .Or (a::b::rest) B)^WE tA tB':=by
 intro w x4 s J H Q I h;calc isTrue_or (cQ (e x4 s J H _ I h) λc k z=>?_);let(G,x,q):=z;cases c with
 |true=>calc#[G,x,q]
 |false=>calc n w x4 k J G Q x q
def OE(x:PT X a tA):PT X (.UnaryOp .Not a B)^UV tA:=by intro x4 s J H Q I h;calc isTrue_not^x x4 s J H (λc G=>Q (!c) G) I h
def Rx(ta tb:TE):TE:=λJ H Q=>ta J H λx G=>∃c,x=.d c/\if c=W then tb J G Q else Q (.d Xk) G
def UU(ta tb:TE):TE:=λJ H Q=>ta J H λx G=>∃c,x=.d c/\if c=W then Q (.d W) G else tb J G Q
def Ro(ta:TE):TE:=λJ H Q=>ta J H λx G=>∃c,x=.d c/\Q (.d<|!c) G
theorem HU {q} (h:PE X a t):PE X (.BoolOp q [a] B) t:=λx4 s J H Q I hw=>BoolOp_one^h x4 s J H Q I hw
def OW(n:PE X a ta)(k:PE X (.BoolOp .And (b::rest) B) tb):PE X (.BoolOp .And (a::b::rest) B)^Rx ta tb:=by
 intro x4 s J H Q I h;calc BoolOp_and (cQ (n x4 s J H _ I h) λv f z=>?_);let(x,G,e,r,q):=z;let(c,0,q):=q;ext r;calc mh ?_;cases c with
 |true=>calc k x4 f J G Q e q
 |false=>calc#[.d Xk,G,e,0,q]
def RR(n:PE X a ta)(k:PE X (.BoolOp .Or (b::rest) B) tb):PE X (.BoolOp .Or (a::b::rest) B)^UU ta tb:=by
 intro x4 s J H Q I h;calc BoolOp_or (cQ (n x4 s J H _ I h) λv f z=>?_);let(x,G,e,r,q):=z;let(c,0,q):=q;ext r;calc mh ?_;cases c with
 |false=>calc k x4 f J G Q e q
 |true=>calc#[.d W,G,e,0,q]
def OR(n:PE X a ta):PE X (.UnaryOp .Not a B)^Ro ta:=by intro x4 s J H Q I h;calc wv (cQ (n x4 s J H _ I h) λv k z=>?_);let(x,G,e,r,q):=z;let(c,0,q):=q;ext r;calc not_of^mh #[.d<|!c,G,e,0,q]
def WF(t:TT)(ta tb:TE):TE:=λJ H Q=>t J H λc G=>if c=W then ta J G Q else tb J G Q
def yX(f:PT X c tA)(n:PE X a ta)(k:PE X b tb):PE X (.IfExp c a b B)^WF tA ta tb:=by
 intro x4 s J H Q I h;calc wpAny_IfExp (cQ (f x4 s J H _ I h) λd e z=>?_);let(G,x,q):=z;cases d with
 |true=>calc n x4 e J G Q x q
 |false=>calc k x4 e J G Q x q
end
def j3(K:FG)(H:Hp)(a:13)(xs:6 V):5:=
 Rd H a (.l xs) \/
  X1 λ(o:Obj)(i:Array 11)(n:9)=>K.lookup a=Y o/\o.cls=.type "list"/\o.dict=Z/\o.data=.seq i n/\i.size≤sizeLine/\bC xs i.toList
def rK(K:FG)(H:Hp)(a:13)(xs:6 V):5:=
 Rd H a (.u xs) \/
  X1 λ(o:Obj)(i:Array 11)(n:9)=>K.lookup a=Y o/\o.cls=.type "tuple"/\o.dict=Z/\o.data=.seq i n/\i.size≤sizeLine/\bC xs i.toList
def VQ:11->7 V
 | .none=>Y .n
 | .bool b=>Y^.d b
 | .int i _=>Y^.int i
 | .str x _=>Y^.str x
 | .bytes b _=>Y^.byt b
 | .float b _=>Y^.flt b
 | .ref a=>Y^.ref a
 | .type n=>Y^.ty n
 |_=>Z
def RelV.abs(r:RelV x u):VQ u=Y x:=by
 cases x with
 |n=>ext r;rfl
 |d _=>ext r;rfl
 |int _=>let(t,0):=r;rfl
 |str _=>let(t,0):=r;rfl
 |byt _=>let(t,0):=r;rfl
 |flt _=>let(t,0):=r;rfl
 |ref _=>ext r;rfl
 |ty _=>ext r;rfl
variable{y:V}
theorem RelV.inj(r:RelV x u)(q:RelV y u):x=y:=cz^r.abs.symm.trans q.abs
theorem bC.inj:∀{xs ys:6 V}{L:LV},bC xs L->bC ys L->xs=ys
 |_,_,_,.nil,.nil=>rfl
 |_,_,_,.cons r t,.cons h x=>by rw[r.inj h,bC.inj t x]
section
variable{X:Cx}{x4:PN}{J:St}{H:Hp}{s:12}{a:13}{xs ys:6 V}
theorem j3.of{K:FG}(h:H a=Y^.l xs):j3 K H a xs:=.inl^.inl h
def Inv.list(I:Inv X x4 J H s)(h:j3 X.K H a xs):∃i:LV,bC xs i/\PlainL s.heap a i.toArray/\-xs≤sizeLine:=by
 rcases h with h|⟨o,i,n,hk,c,hd,x,k,r⟩
 .let(z,i,n,r,e):=h.ok I.h;exact#[i,r,#[_,n,e,0,0,0],z]
 .calc#[i.toList,r,#[o,n,I.kIn a o hk,c,hd,by exists x],?_];let e:=-r;rwa[sI]at e;lia
def Inv.tuple(I:Inv X x4 J H s)(h:rK X.K H a xs):∃i:LV,bC xs i/\IsTup s.heap a i.toArray/\-xs≤sizeLine:=by
 rcases h with h|⟨o,i,n,hk,c,_,x,k,r⟩
 .let(z,i,r,p):=h.ok I.h;exact#[i,r,p.tup,z]
 .calc#[i.toList,r,#[o,I.kIn a o hk,c,n,by exists x],?_];let e:=-r;rwa[sI]at e;lia
def Inv.tupleN(I:Inv X x4 J H s)(h:rK X.K H a xs):∃its:LV,bC xs its/\qF s.heap a its.toArray:=by
 rcases h with q|⟨ob,vs,m,e1,e2,e3,e4,_,rv⟩
 .exact#[_,(q.ok I.h).2.choose_spec]
 .calc#[vs.toList,rv,ob,I.kIn a ob e1,#[e2,m,by exists e4],e3]
def Inv.list_inj(I:Inv X x4 J H s)(h:j3 X.K H a xs)(h':j3 X.K H a ys):xs=ys:=by
 let(t,r,(o,n,e,_,_,d),_):=I.list h;let(i,b,(o',c,k,_,_,x),_):=I.list h';rw[e]at k;ext k;rw[d]at x;injection x with f _;have:t=i:=by exists cA w_ f
 subst this;calc r.inj b
def Inv.tuple_inj(I:Inv X x4 J H s)(h:rK X.K H a xs)(h':rK X.K H a ys):xs=ys:=by
 let(t,r,(o,e,_,n,d),_):=I.tuple h;let(i,b,(o',k,_,c,x),_):=I.tuple h';rw[e]at k;ext k;rw[d]at x;injection x with f _;have:t=i:=by exists cA w_ f
 subst this;calc r.inj b
end
noncomputable abbrev Cx.wish(X:Cx)(E:VP):Cx:={ X with xe:=E }
abbrev Cx.nox(X:Cx):Cx:=X.wish λz z=>False
theorem Cx.Ok.wish(ok:X.Ok)(E:VP):(X.wish E).Ok:=
 #[ok.mod,ok.kind,ok.glob,ok.blt,ok.above,ok.inj,ok.has,ok.cab,ok.hd,ok.frames,ok.stk,ok.exf,ok.bs,ok.bsz,ok.noex,ok.exfs,ok.funs,ok.frf,ok.tab]
theorem Cx.Ok.unwish(ok:(X.wish E).Ok):X.Ok:=
 #[ok.mod,ok.kind,ok.glob,ok.blt,ok.above,ok.inj,ok.has,ok.cab,ok.hd,ok.frames,ok.stk,ok.exf,ok.bs,ok.bsz,ok.noex,ok.exfs,ok.funs,ok.frf,ok.tab]
section
variable{X:Cx}{x4:PN}{J:St}{H:Hp}{s:12}{E:VP}
theorem Inv.wish(I:Inv X x4 J H s)(E:VP):Inv (X.wish E) x4 J H s:=#[I.o.wish E,I.os,I.bare,I.base,I.loc,I.cell,I.free,I.freeC,I.pin,I.h,I.len]
theorem Inv.unwish(I:Inv (X.wish E) x4 J H s):Inv X x4 J H s:=#[I.o.unwish,I.os,I.bare,I.base,I.loc,I.cell,I.free,I.freeC,I.pin,I.h,I.len]
set_option tactic.hygienic true in
def SP.unwish(h:SP (X.wish E) x4 D f s'):SP X x4 D f s':=by
 cases f with
 |next=>let(x,H',I,q):=h;calc#[x,H',I.unwish,q]
 |brk=>let(x,H',I,q):=h;calc#[x,H',I.unwish,q]
 |cont=>let(x,H',I,q):=h;calc#[x,H',I.unwish,q]
 |ret u=>let(v,x,H',I,r,q):=h;calc#[v,x,H',I.unwish,r,q]
theorem qH.nox{st:6 Stmt}{t:TS}(h:qH X.nox st t):qH X st t:=λx4 s J H D I hw=>
 c_ (h x4 s J H D (I.wish _) hw) (λy y q=>q.unwish) λy y z=>False.elim z
end
section
variable{X:Cx}{st:Stmt}{rest:6 Stmt}{t u:TS}{e:14}{te:TE}{B:Pos}
def Rq:TS:=λD J H=>D.nx J H
def US(t u:TS):TS:=λD J H=>t { D with nx:=u D } J H
theorem Ln:qH X [] Rq:=λz z J H z I h=>wa #[J,H,I,h]
set_option tactic.hygienic true in
def HI(h1:PS X st t)(h2:qH X rest u):qH X (st::rest)^US t u:=by
 intro x4 s J H D I h;calc Dq (cQ (h1 x4 s J H { D with nx:=u D } I h) λf e q=>?_);cases f with
 |next=>let(a,H',x,q):=q;calc h2 x4 e a H' D x q
 |ret v=>calc q
 |brk=>calc q
 |cont=>exact q
set_option tactic.hygienic true in
def Lm(h1:PS X st t):qH X [st] t:=by
 intro x4 s J H D I h;calc Dq (cQ (h1 x4 s J H D I h) λf x q=>?_);cases f with
 |next=>calc wa q
 |ret v=>calc q
 |brk=>calc q
 |cont=>calc q
def Inv.quiet(I:Inv X x4 J H s):interactive X.e=Xk:=by simp[interactive,I.o.kind]
def Rt(te:TE):TS:=λD J H=>te J H λz G=>D.nx J G
def Lq(n:PE X e te)(k:swapsWith e Z B.line X.e=pure Xk:=by rfl):PS X (.Expr e B)^Rt te:=by intro x4 s J H D I h;calc wpAny_Expr_any (cQ (n x4 s J H _ I h) λv f z=>by let(x,G,a,r,q):=z;calc#[J,G,a,q]) I.quiet k
def UT(te:TE):TS:=λD J H=>te J H D.rt
def OG(n:PE X e te):PS X (.Return (Y e) B)^UT te:=by intro x4 s J H D I h;calc wpAny_Return_some (cQ (n x4 s J H _ I h) λv k z=>by let(x,G,a,r,q):=z;calc#[x,J,G,a,r,q])
def UX(c:TT)(t u:TS):TS:=λD J H=>c J H λb G=>if b=W then t D J G else u D J G
def RN{c:14}{a b:6 Stmt}{tc:TT}(f:PT X c tc)(n:qH X a t)(k:qH X b u):PS X (.If c a b B)^UX tc t u:=by
 intro x4 s J H D I h;calc wpAny_If (cQ (f x4 s J H _ I h) λd e z=>?_);let(G,x,q):=z;cases d with
 |true=>calc n x4 e J G D x q
 |false=>calc k x4 e J G D x q
def Hk:TS:=λz z z=>False
theorem HL:PS X st Hk:=λz z z z z z h=>h.elim
theorem Fs:qH X q Hk:=λz z z z z z h=>h.elim
end
noncomputable abbrev TG:=V->St->Hp->(St->Hp->5)->5
noncomputable abbrev Qm:=6 V->St->Hp->(St->Hp->5)->5
def PG(X:Cx)(a:14)(t:TG):5:=
 ∀(x4:PN)(s:12)(J:St)(H:Hp)(v:V)(u:11)(Q:St->Hp->5),Inv X x4 J H s->RelV v u->t v J H Q ->
  wx X (assign a X.e u) (λz s'=>X0 λh H'=>Inv X x4 h H' s'/\Q h H') X.xe s
def Tz(X:Cx)(x:Ab)(t:Qm):5:=
 ∀(x4:PN)(s:12)(J:St)(H:Hp)(v:6 V)(L:LV)(Q:St->Hp->5),Inv X x4 J H s->bC v L->t v J H Q ->
  wx X (assignInOrder ((assignEach x X.e).map (·.2)) L) (λz s'=>X0 λh H'=>Inv X x4 h H' s'/\Q h H') X.xe s
noncomputable abbrev Ql:=V->V->V->Hp->(Hp->5)->5
def Tv(X:Cx)(t:Ql):5:=
 ∀(x4:PN)(s:12)(J:St)(H:Hp)(o i v:V)(h iv u:11)(Q:Hp->5),Inv X x4 J H s->RelV o h->RelV i iv->RelV v u->t o i v H Q ->
  wx X (setItem h iv u) (λz s'=>∃H',Inv X x4 J H' s'/\Q H') X.xe s
noncomputable abbrev VT:=V->V->Hp->VK->5
def Wk(X:Cx)(o:Operator)(t:VT):5:=
 ∀(x4:PN)(s:12)(J:St)(H:Hp)(x y:V)(v u:11)(Q:VK),Inv X x4 J H s->RelV x v->RelV y u->t x y H Q ->
  wx X (inplaceOp o v u) (EP X x4 J Q) X.xe s
section
variable{X:Cx}{B:Pos}
def Ni(i:9):TG:=λv J H Q=>Q (J.set i^Y v) H
def LB(N:X.N.Nodup)(hi:X.N[i]? = Y x)(e:Loc X.e.scope x)(f:X.fn x=W\/X.e.scope.names.lookup x=Y .local:=by first|calc .inl rfl|calc .inr rfl|assumption):PG X (.Name x B)^Ni i:=by intro x4 s J H v u Q I r h;calc Ai^tG I N hi e r (λs' a=>#[_,H,a,h]) f
def VG:Qm:=λv J H Q=>v=[]/\Q J H
def SJ(t:TG)(u:Qm):Qm:=λs J H Q=>X0 λv r=>s=v::r/\t v J H λh H'=>u r h H' Q
def Lz:Tz X [] VG:=by intro x4 s J H v L Q I r h;let(e,h):=h;subst e;ext r;calc assignInOrder_nil #[J,H,I,h]
def HR{e:14}{es:Ab}{t:TG}{u:Qm}(h1:PG X e t)(h2:Tz X es u)
  (k:(assignEach (e::es) X.e).map (·.2)=assign e X.e::(assignEach es X.e).map (·.2):=by rfl):Tz X (e::es)^SJ t u:=by
 intro x4 s J H m L Q I r h;let(v,c,n,h):=h;subst n;cases r with
 |cons r f=>rw[k];calc assignInOrder_cons (cQ (h1 x4 s J H _ _ _ I r h) λy b z=>?_);let(a,G,x,q):=z;calc h2 x4 b a G _ _ Q x f q
def VE(K:FG)(n:9)(t:Qm):TG:=λv J H Q=>X0 λa xs=>v=.ref a/\rK K H a xs/\-xs=n/\t xs J H Q
def ON(m:X.c=W)(h:Tz X es t)
  (p:-(assignEach es X.e)=n:=by rfl) (hst:(assignEach es X.e).findIdx? (·.1)=Z:=by rfl):PG X (.Tuple es k B)^VE X.K n t:=by
 intro x4 s J H v u Q I r hw;let(a,xs,c,q,l,hw):=hw;subst c;ext r;let(i,x,d,z):=I.tuple q;refine assign_Tuple_tuple (I.o.hd m) d (by simp[p,<- l,(-x)]) hst λh' w=>?_
 have f:Inv X x4 J H { s with heap:=h' }:=I.kept (t':=s.toks) λb o e=>w b o (bS^aN e) e;calc h x4 _ J H xs _ Q f (by exists x) hw
def VF(to x:TE)(t:Ql):TG:=λv J H Q=>to J H λo G=>x J G λi H2=>t o i v H2 λh=>Q J h
def OO{o i:14}{to a:TE}{t:Ql}(c:PE X o to)(hi:PE X i a)(m:Tv X t)
  (b:∀v,assign (.Subscript o i B) X.e v=(do
   let q <- holding [v]^eval o X.e
   let iv <- holding [v,q] (eval i X.e)
   standAt B
   holding [v,q,iv] (setItem q iv v)
   release [v,q,iv] []):=by intro _;rfl):PG X (.Subscript o i B)^VF to a t:=by
 intro x4 s J H v u Q I r h;rw[b];calc ai^ir (cQ (c x4 s J H _ I h) λq l z=>?_);let(x,G,n,g,p):=z;calc ai^ir (cQ (hi x4 l J G _ n p) λiv S z=>?_);let(y,H2,k,j,d):=z;calc ai^v9^ai^ir (cQ (m x4 S J H2 x y v q iv u _ k g j r d) λZ F z=>?_);let(e,f,w):=z;calc wpAny_release #[J,e,f,w]
def Rw(te:TE)(g:TG):TS:=λD J H=>te J H λx G=>g x J G D.nx
def HM{tg e:14}{te:TE}{g:TG}(n:PE X e te)(k:PG X tg g)(f:swapsWithSole [tg] e B.line X.e=pure Xk:=by rfl)(hw:swappedStores [tg] e X.e=pure Z:=by rfl)
  (h1:(assignEach [tg] X.e).map (·.2)=[assign tg X.e]:=by rfl):PS X (.Assign [tg] e B)^Rw te g:=by
 intro x4 s J H D I h;calc wpAny_Assign_stores (cQ (n x4 s J H _ I h) λv c z=>?_) f hw;let(x,G,a,r,b):=z;rw[h1];calc cQ (k x4 c J G x v _ a r b) λy m q=>q
def OF(N:X.N.Nodup)(hi:X.N[i]? = Y x)(c:Loc X.e.scope x)(k:PE X e te)(b:swapsWith e (Y^.Name x pos') B.line X.e=pure Xk:=by rfl)(f:X.fn x=W\/X.e.scope.names.lookup x=Y .local:=by first|calc .inl rfl|calc .inr rfl|assumption) :
  PS X (.Assign [.Name x pos'] e B) (Rw te^Ni i):=by
 intro x4 s J H D I h;calc wpAny_Assign_Name (cQ (k x4 s J H _ I h) λv m z=>?_) b;let(y,G,a,r,q):=z;calc tG a N hi c r (λt n=>#[_,G,n,q]) f
def U1(i:9)(te:TE)(t:VT):TS:=λD J H=>∃x,J[i]? = Y^Y x/\te J H λy G=>t x y G λz H2=>D.nx (J.set i^Y z) H2
set_option tactic.hygienic true in
def OJ(N:X.N.Nodup)(hi:X.N[i]? = Y x)(b:Loc X.e.scope x)(K:PE X e te)(L:Wk X q ti)(P:X.fn x=W\/X.e.scope.names.lookup x=Y .local:=by first|calc .inl rfl|calc .inr rfl|assumption) :
  PS X (.AugAssign (.Name x pos') q e B) (U1 i te ti):=by
 intro x4 s J H D I h;let(v,S,h):=h;let(m,E,A):=I.loc;have p:MP X.e.scope x:=by rcases b with k|k;calc .inl k;exact .inr^.inl k
 let(u,r,l):=A i x v hi S p;calc wpAny_AugAssign_Name ?_;have g:wx X (eval e X.e) (λw n=>wx X (inplaceOp q u w) (λr f=>wx X (storeName X.e x r) (λZ=>SP X x4 D .next) X.xe f) X.xe n) X.xe s:=by calc cQ (K x4 s J H _ I h) λw V t=>?_;let(y,G,d,R,M):=t;calc cQ (L x4 V J G v y u w _ d r R M) λz Z1 t=>?_;let(zv,H2,j,T,Q):=t;exact tG j N hi b T (λZ0 o=>#[_,H2,o,Q]) P
 rcases l with ⟨hk,C⟩|⟨hk,c,F,a⟩
 .exact Al I.o.kind hk E C g
 .rcases hk with hk|hk
  .exact DB I.o.kind hk F a g
  .rcases b with k|k
   .have:X.e.scope.names.lookup x=Y .free:=hk;rw[k]at this;ext this
   .have:X.e.scope.names.lookup x=Y .free:=hk;rw[k]at this;ext this
def WT(f:8->8->8):VT:=λx y H Q=>X0 λi j=>x=.int i/\y=.int j/\Q (.int^f i j) H
def PJ:Wk X .Add (WT λi j=>i+j):=by intro x4 s J H x y v u Q I r n h;let(i,j,e,a,q):=h;subst e;subst a;let(t,0):=r;let(k,0):=n;calc iadd_int #[.int _,H,I.tok _,#[_,0],q]
end
section
variable{X:Cx}{B:Pos}
def Oh(c:TT)(tb:TS):TS:=λD J H=>∃Z1:9->St->Hp->5,(∃m,Z1 m J H)/\∀m J H,Z1 m J H ->
 c J H λb G=>if b=W then ∃N:St->Hp->5,(∀h H',N h H'->∃x,x < m/\Z1 x h H')/\tb { D with nx:=N,ct:=N,bk:=D.nx } J G else D.nx J G
set_option tactic.hygienic true in
def HJ(l:PassesOwn (model X.p X.w) X.A X.e X.xe)(o:PT X c tc)(z:qH X q tb):PS X (.While c q [] B)^Oh tc tb:=by
 intro x4 s J H D I h;let(Z1,(F,A),t):=h;calc wpAny_While^codeAny_whileLoop (λn s'=>X0 λi H'=>Inv X x4 i H' s'/\Z1 n i H') ?_ F #[J,H,I,A];rintro n K ⟨e,G,y,C⟩;calc nR l (cQ (o x4 K e G _ y^t n e G C) λb P S=>?_);let(H2,g,k):=S;cases b with
 |true=>
  let(N,j,k):=k;rw[af rfl];calc nR l (cQ (z x4 P e H2 _ g k) λf E m=>?_);cases f with
  |next=>let(a,x,r,w):=m;let(d,p,u):=j a x w;calc#[d,p,a,x,r,u]
  |cont=>let(a,x,r,w):=m;let(d,p,u):=j a x w;calc#[d,p,a,x,r,u]
  |brk=>calc m
  |ret v=>calc m
 |false=>rw[ag bQ];calc wa #[e,H2,g,k]
end
structure It where
 go:9->Hp->5
 yld:9->Hp->V->Hp->5
 stop:9->Hp->5
def uG(X:Cx)(x4:PN)(H:Hp)(b:13):5:=
 H b=Z/\b≠X.e.locals/\b ∉ X.fs/\(b ∈ X.ex\/X.z.heap.objs.size≤b)/\(∀x c,X.e.cells.lookup x=Y c->c≠b)/\∀p ∈ X.pn++x4,p.1≠b
variable{x4:PN}{J:St}
def Inv.fpOk(I:Inv X x4 J H s)(h: ~~~s≤b)(n:H' b=Z):uG X x4 H' b:=by
 refine#[n,mR^bU I.lt h,I.nofs h,.inr^aH I.sz h,λx c e z=>?_,λp a z=>?_]
 .let(v,q):=I.cell x c e;exact absurd (bU q.lt (by rw[z];calc h))^gP _
 .calc absurd (bU (aN (I.pin p a).1) (by rw[z];calc h))^gP _
structure Turn(P:18)(w:16)(K:FG)(tg:14)(J9:It)(fp:6 13)(it:13)(tn:9->17->5):5 where
 mem:it ∈ fp
 obj:∀i h,tn i h->∀b ∈ fp,∃o,h.get? b=Y o/\∀v,o.data≠.cell v
 keep:∀i h h',tn i h->(∀b ∈ fp,∀o,h.get? b=Y o->h'.get? b=Y o)->tn i h'
 item:∀(X:Cx),X.p=P->X.w=w->X.K=K->X.c=W->∀(i:9)(x4:PN)(s:12)(J:St)(H:Hp)(E:VP),Inv X x4 J H s->(∀b ∈ fp,uG X x4 H b)->tn i s.heap->J9.go i H ->
  wpAny (model P w) X.A (pyNext^.ref it) (fun r s1=>∃u,r=Y u /\
   wpAny (model P w) X.A (letOwnedTupleGo tg (.ref it) u) (λz s2=>X0 λx H'=>Inv X x4 J H' s2/\RelV x u/\J9.yld i H x H'/\tn (i+1) s2.heap/\∀b ∈ fp,H' b=Z) E s1) E s
 done:∀(X:Cx),X.p=P->X.w=w->X.K=K->X.c=W->∀(i:9)(x4:PN)(s:12)(J:St)(H:Hp)(E:VP),Inv X x4 J H s->(∀b ∈ fp,uG X x4 H b)->tn i s.heap->J9.stop i H ->
  wpAny (model P w) X.A (pyNext^.ref it) (λr s1=>r=Z/\Inv X x4 J H s1) E s
 self:∀(A:Around)(i:9)(s:12)(Q:VP)(E:VP),tn i s.heap->Q (.ref it) s->wpAny (model P w) A (pyIter^.ref it) Q E s
noncomputable abbrev TI:=St->Hp->(It->Hp->5)->5
def Tx(X:Cx)(x4:PN)(J:St)(tg:14)(R:It->Hp->5)(i:11)(s:12):5:=
 X3 λ(t:13)(f:6 13)(n:9->17->5)(h:It)(H':Hp)=>i=.ref t/\Inv X x4 J H' s/\Turn X.p X.w X.K tg h f t n/\n 0 s.heap/\(∀b ∈ f,uG X x4 H' b)/\R h H'
def PI(X:Cx)(tg iter:14)(w:TI):5:=
 ∀(x4:PN)(s:12)(J:St)(H:Hp)(R:It->Hp->5),Inv X x4 J H s->w J H R ->
  wx X (eval iter X.e) (λv h=>wx X (pyIter v) (Tx X x4 J tg R) X.xe h) X.xe s
variable{tg:14}
def Ja(e:s.heap.get? q=Y o)(c:o.cls=.type n)(hd:o.data=.fields z)
    (a:["enumerate","zip","dict_itemiterator","dict_reverseitemiterator","odict_iterator","itertools.zip_longest","itertools.pairwise"].contains n=Xk) (x:Q PUnit.unit s):wpAny M A (letOwnedTupleGo tg (.ref q) u) Q E s:=by
  unfold letOwnedTupleGo;ext tg<;>first
    |calc aG x
    | (ext u <;> first
        |calc aG x
        | (refine ai^wpAny_load e ?_
           rw[c,hd];show wpAny M A (if (["enumerate","zip","dict_itemiterator","dict_reverseitemiterator","odict_iterator","itertools.zip_longest","itertools.pairwise"].contains n && z[0]? == Y^rawInt _)=W then _ else _) Q E s;rw[ag (by intro h;rw[a,Bool.false_and]at h;ext h)];calc aG x))
def VW(K:FG)(a:13):It:=
 #[λi H=>X0 λxs x=>j3 K H a xs/\xs[i]? = Y x,λi H x H'=>H'=H/\∀xs,j3 K H a xs->xs[i]? = Y x,λi H=>∃xs,j3 K H a xs/\-xs≤i]
def Wo(K:FG)(a:13):It:=
 #[λi H=>X0 λxs x=>rK K H a xs/\xs[i]? = Y x,λi H x H'=>H'=H/\∀xs,rK K H a xs->xs[i]? = Y x,λi H=>∃xs,rK K H a xs/\-xs≤i]
def Ug(lo:8)(n:9):It:=#[λi z=>i < n,λi H x H'=>H'=H/\x=.int (lo+i),λi z=>n≤i]
variable{w:16}{K:FG}
def Fe(a t:13):Turn P w K tg (VW K a) [t] t (λi h=>h.IsListIter t a i) where
 mem:=by simp
 obj:=λi h st b n=>by
  have e:b=t:=by exists n
  subst e;let(o,e,c,d):=st;exact#[o,e,λv z=>by rw[d]at z;ext z]
 keep:=λi h h' st k=>st.at λo e=>k t ∅ o e
 item:=by
  intro X F hw S G i x4 s J H E I m st A;subst F hw S;let(xs,x,q,B):=A;let(C,D,p,T):=I.list q;let(u,Q,V):=D.get B;let(r,g,N,j,l,y):=m t ∅;refine Gy st p.isList (x:=u) (by exists Q) λh' f Z1=>?_
  have L:Inv X x4 J H { s with heap:=h' }:=I.turned (t':=s.toks) (λb o n e=>(Z1.2 b n).trans e) r g j l y;let(o,e,c,d):=id f;exact#[u,0,Ja (s:={ s with heap:=h' }) e c d #[] #[x,H,L,V,#[0,λys R=>by rw[I.list_inj R q];calc B],f,λb n=>(m b n).1]]
 done:=by intro X F hw S G i x4 s J H E I m st A;subst F hw S;let(xs,q,B):=A;let(C,D,p,T):=I.list q;let(r,g,N,j,l,y):=m t ∅;let Z0:=-D;exact DH (I.o.hd G) st p.isList (by simp;lia) λh' M=>#[0,I.turned (t':=s.toks) (λb o n e=>M b o n e) r g j l y]
 self:=λZ Z Z Z Z st h=>wpAny_pyIter_listiter st h
def AD(a t:13):Turn P w K tg (Wo K a) [t] t (λi h=>h.IsTupleIter t a i) where
 mem:=by simp
 obj:=λi h st b n=>by
  have e:b=t:=by exists n
  subst e;let(o,e,c,d):=st;exact#[o,e,λv z=>by rw[d]at z;ext z]
 keep:=λi h h' st k=>st.at λo e=>k t ∅ o e
 item:=by
  intro X A hw F G i x4 s J H E I r st B;subst A hw F;let(xs,x,q,C):=B;let(f,D,p,T):=I.tuple q;let(u,Q,V):=D.get C;let(g,j,N,l,y,S):=r t ∅;refine wpAny_pyNext_tuple_item st (s.heap.IsTuple a f.toArray|>p) (x:=u) (by exists Q) λh' m Z1=>?_
  have L:Inv X x4 J H { s with heap:=h' }:=I.turned (t':=s.toks) (λb o n e=>(Z1.2 b n).trans e) g j l y S;let(o,e,c,d):=id m;exact#[u,0,Ja (s:={ s with heap:=h' }) e c d #[] #[x,H,L,V,#[0,λys R=>by rw[I.tuple_inj R q];calc C],m,λb n=>(r b n).1]]
 done:=by intro X A hw F G i x4 s J H E I r st B;subst A hw F;let(xs,q,C):=B;let(f,D,p,T):=I.tuple q;let(g,j,N,l,y,S):=r t ∅;let Z0:=-D;exact wpAny_pyNext_tuple_end (I.o.hd G) st (s.heap.IsTuple a f.toArray|>p) (by simp;lia) λh' M=>#[0,I.turned (t':=s.toks) (λb o n e=>M b o n e) g j l y S]
 self:=λZ Z Z Z Z st h=>wpAny_pyIter_tupleiter st h
def AE(x:13)(lo:8)(n:9):Turn P w K tg (Ug lo n) [x] x (λi h=>IsRangeIter h x (lo+(i:9) * 1) ((n:8)-(i:9)) 1) where
 mem:=by simp
 obj:=λi h st b a=>by
  have e:b=x:=by exists a
  subst e;exact#[_,st,λv z=>by have C:Data.fields _=Data.cell v:=z;ext C]
 keep:=λi h h' st k=>k x ∅ _ st
 item:=by
  intro X g hw u j i x4 s J H E I c st l;subst g hw u;let(m,r,F,p,q,d):=c x ∅;let Z1:=Walks.range (prog:=X.p) (w:=X.w) (I.o.hd j) x lo 1 n;refine Z1.item i s _ _ l st λv h' tk A f B=>?_
  let(t,0):=A;have y:Inv X x4 J H { s with heap:=h',toks:=tk }:=I.turned (λb o a e=>B b o (by exists a) e) m r p q d;calc#[_,0,Ja (s:={ s with heap:=h',toks:=tk }) (n:="range_iterator") f rfl rfl #[] #[.int<|lo+i,H,y,#[t,?_],#[0,0],f,λb a=>(c b a).1]];rw[Int.mul_one]
 done:=by intro X g hw u j i x4 s J H E I c st l;subst g hw u;let(m,r,F,p,q,d):=c x ∅;exact wpAny_pyNext_range_end (I.o.hd j) st (by have:n≤i:=l;lia) λh' S=>#[0,I.turned (t':=s.toks) (λb o a e=>S b o a e) m r p q d]
 self:=λZ Z Z Z Z st h=>wpAny_pyIter_rangeiter st h
section
variable{X:Cx}{tg:14}
def HD{lo hi:8}{t u v:Tok}{tk:9}(I:Inv X x4 J H s)(h1:-↑(2 ^ 62)≤lo)(h2:lo < 2 ^ 62)(n:-↑(2 ^ 62)≤hi)(k:hi < 2 ^ 62)
  (q:R (Ug lo (hi-lo).toNat) H):wx X (pyIter^.ref (~~~s)) (Tx X x4 J tg R) E { s with heap:=s.heap.push { cls:=.type "range",data:=.fields^10 [.int lo t,.int hi u,.int 1 v] },toks:=tk }:=by
 calc wpAny_pyIter_range (IsRange.new ..) (small_one h1 h2 n k) ?_;have h:Inv X x4 J H { s with heap:=s.heap.push { cls:=.type "range",data:=.fields^10 [.int lo t,.int hi u,.int 1 v] },toks:=tk }:=I.kept fun b o e=>bb _ e;refine#[(s.heap.push { cls:=.type "range",data:=.fields^10 [.int lo t,.int hi u,.int 1 v] }).objs.size,[(s.heap.push { cls:=.type "range",data:=.fields^10 [.int lo t,.int hi u,.int 1 v] }).objs.size],_,_,H,0,
  h.kept (t':=tk) λb o e=>bb _ e,AE _ lo (hi-lo).toNat,?_,λb f=>?_,q]
 .have x:lo+((0:9):8) * 1=lo:=by simp
  have a:(((hi-lo).toNat:9):8)-((0:9):8)=Builtin.Range.rangeSize lo hi 1:=by rw[Di];split<;>lia
  show IsRangeIter _ _ (lo+((0:9):8) * 1) ((((hi-lo).toNat:9):8)-((0:9):8)) 1;rw[x,a];exact bO _ rfl
 .have e:b=(s.heap.push { cls:=.type "range",data:=.fields^10 [.int lo t,.int hi u,.int 1 v] }).objs.size:=by exists f
  subst e;calc h.fpOk (ar _)^h.h.fresh^ar _
def Sx(ta:TA):TI:=λJ H R=>ta J H λv G=>∃j:8,v=[.int j]/\-↑(2 ^ 62)≤j/\j < 2 ^ 62/\R (Ug 0 j.toNat) G
def Fx{a:14}{ta:TA}{p B:Pos}(g:Gl X "range")(m:X.g "range"=Z)(k:PA X [a] ta)(f:starEach [a] X.e=[(Xk,eval a X.e)]:=by rfl):PI X tg (.Call (.Name "range" p) [a] [] B)^Sx ta:=by
 intro x4 s J H R I h;calc Call_^lF I g m boot_range^lp (cQ (k B x4 s J H _ I h) λL d z=>?_) f rfl;let(w,G,n,c,x):=z;let(j,e,x,b,q):=x;subst e;cases c with
 |cons r v=>ext v;let(t,0):=r;calc call_range_1^HD n () () x b (by exists q)
def UY(w:TI)(g:TG)(tb:TS):TS:=λD J H=>w J H λh G=>∃Z1:9->9->St->Hp->5,(∃m,Z1 0 m J G)/\∀i m J H,Z1 i m J H ->
 (h.stop i H/\D.nx J H)\/(h.go i H/\∃N:St->Hp->5,(∀a H',N a H'->∃e,e < m/\Z1 (i+1) e a H')/\∀x H',h.yld i H x H'->g x J H' λs H2=>tb { D with nx:=N,ct:=N,bk:=D.nx } s H2)
def qf(f:6 13)(h:17):PN:=f.filterMap λb=>(h.get? b).map λo=>(b,o)
theorem lE(x:b ∈ q)(e:h.get? b=Y o):(b,o) ∈ qf q h:=sv.mpr #[b,x,by rw[e];rfl]
def Fz(s:p ∈ qf z h):p.1 ∈ z/\h.get? p.1=Y p.2:=by
 let(b,a,e):=sv.mp s;cases q:h.get? b with
 |none=>rw[q]at e;ext e
 |some o=>rw[q]at e;have x:(b,o)=p:=cz e;subst x;calc#[a,q]
theorem Inv.pinned(I:Inv X x4 J H s)(k:∀b ∈ q,uG X x4 H b)(c:∀b ∈ q,∃o,s.heap.get? b=Y o/\∀v,o.data≠.cell v):Inv X (x4++qf q s.heap) J H s:=
 I.pins_of λp m=>(cj.mp m).elim (λz=>I.pin p^gc _ z) λz=>by let(x,e):=Fz z;let(f,a,n,_):=k p.1 x;let(o,h,d):=c p.1 x;rw[e]at h;ext h;calc#[e,f,a,n,d]
theorem Inv.unpinned(I:Inv X (x4++q) J H s):Inv X x4 J H s:=I.pins_of λp h=>I.pin p^gc _^j' _ h
set_option tactic.hygienic true in
def OH{iter:14}{y:6 Stmt}{wi:TI}{g:TG}{tb:TS}{B:Pos}(F:PassesOwn (model X.p X.w) X.A X.e X.xe)(hc:X.c=W)(hi:PI X tg iter wi)(hg:PG X tg g)(t:qH X y tb)
  (hs:∀x,foldedSetIterable iter X.e x=pure x:=by intro _;rfl):PS X (.For tg iter y [] B)^UY wi g tb:=by
 intro x4 s J H D I h;calc wpAny_For (cQ (hi x4 s J H _ I h) λv s1 h1=>cQ h1 λitv s2 h2=>?_) hs;let(it,l,tn,J9,H2,e,I2,T,Q,Z0,Z1,(m0,w0),A):=h2;subst e;have p:∀{H':Hp},(∀b ∈ l,H' b=Z)->∀b ∈ l,uG X x4 H' b:=λhn b t=>#[hn b t,(Z0 b t).2]
 calc codeAny_forLoop_any (λn s'=>X1 λi w H'=>Inv X x4 w H' s'/\tn i s'.heap/\(∀b ∈ l,H' b=Z)/\Z1 i n w H') ?_ m0 #[(0),J,H2,I2,Q,λb t=>(Z0 b t).1,w0];rintro n s3 ⟨i,j,C,V,vk,S,w3⟩;rcases A i n j C w3 with ⟨P,qn⟩|⟨go,N,hN,step⟩
 .calc nR F (cQ (T.done X rfl rfl rfl hc i x4 s3 j C X.xe V (p S) vk P) λr s4 z=>?_);let(L,I4):=z;subst L;exact wa #[j,C,I4,qn]
 .calc nR F (cQ (T.item X rfl rfl rfl hc i x4 s3 j C X.xe V (p S) vk go) λr s4 z=>?_);let(u,L,h4):=z;subst L;calc nR F (cQ h4 λY s5 z=>?_);let(x,R,I5,r5,y5,Ry,G):=z;let E:=I5.pinned (p G)^T.obj _ _ Ry;calc nR F (cQ (hg _ s5 j R x u _ E r5^step x R y5) λY s6 z=>?_);let(J6,H6,I6,q6):=z;calc nR F (cQ (t _ s6 J6 H6 _ I6 q6) λf M q=>?_);have again:∀{c:St}{a:Hp},Inv X (x4++qf l s5.heap) c a M->N c a->∃m,m < n/\X1 λi w H'=>Inv X x4 w H' M/\tn i M.heap/\(∀b ∈ l,H' b=Z)/\Z1 i m w H':=λ{c a} k K=>by
   let(m',hm,w7):=hN c a K;calc#[m',hm,i+1,c,a,k.unpinned,T.keep _ _ _ Ry λb t o e=>(k.pin (b,o)^gc _^gc _^lE t e).1,λb t=>?_,w7];let(o,e,d):=T.obj _ _ Ry b t;exact(k.pin (b,o)^gc _^gc _^lE t e).2.1
  cases f with
  |next=>let(c,a,k,K):=q;calc again k K
  |cont=>let(c,a,k,K):=q;calc again k K
  |brk=>let(c,a,k,q):=q;calc#[c,a,k.unpinned,q]
  |ret v=>let(x7,c,a,k,r7,q):=q;calc#[x7,c,a,k.unpinned,r7,q]
end
noncomputable abbrev R2:=V->V->Hp->VK->5
def kr(X:Cx)(f:11->11->Sem 11)(r:R2):5:=
 ∀(x4:PN)(s:12)(J:St)(H:Hp)(x y:V)(v u:11)(Q:VK),Inv X x4 J H s->RelV x v->RelV y u->r x y H Q ->
  wx X (f v u) (EP X x4 J Q) X.xe s
def VR(X:Cx)(f:11->Sem 11)(r:V->Hp->VK->5):5:=
 ∀(x4:PN)(s:12)(J:St)(H:Hp)(x:V)(v:11)(Q:VK),Inv X x4 J H s->RelV x v->r x H Q ->
  wx X (f v) (EP X x4 J Q) X.xe s
def fN(X:Cx)(f:11)(r:6 V->Hp->VK->5):5:=
 ∀(x4:PN)(s:12)(J:St)(H:Hp)(xs:6 V)(L:LV)(Q:VK),Inv X x4 J H s->bC xs L->r xs H Q ->
  wx X (call f L) (EP X x4 J Q) X.xe s
def VS(X:Cx)(r:V->Hp->(15->Hp->5)->5):5:=
 ∀(x4:PN)(s:12)(J:St)(H:Hp)(x:V)(v:11)(Q:15->Hp->5),Inv X x4 J H s->RelV x v->r x H Q ->
  wx X (truthy v) (TP X x4 J Q) X.xe s
def Oi(r:R2)(ta tb:TE):TE:=λJ H Q=>ta J H λx G=>tb J G λy H2=>r x y H2 Q
def WC(r:V->Hp->VK->5)(ta:TE):TE:=λJ H Q=>ta J H λx G=>r x G Q
def rI(C:8->8->5)(g:8->8->V):R2:=λx y H Q=>X0 λi j=>x=.int i/\y=.int j/\C i j/\Q (g i j) H
def Li(g:8->8->V):R2:=λx y H Q=>X0 λi j=>x=.int i/\y=.int j/\Q (g i j) H
def rU(g:8->V):V->Hp->VK->5:=λx H Q=>∃i,x=.int i/\Q (g i) H
section
variable{X:Cx}{a b c:14}{ta tb tc:TE}{B:Pos}
def Qg(r:PE X a ta)(t:PE X b tb){x4:PN}{s:12}{J:St}{H:Hp}{R:V->V->Hp->5}(I:Inv X x4 J H s)
  (h:ta J H λx G=>tb J G λy H2=>R x y H2) {Q:VP}{f:11->11->Sem 11}
  (p:∀v u k x y H2,Inv X x4 J H2 k->RelV x v->RelV y u->R x y H2->wx X (f v u) Q X.xe k) :
  wx X (eval a X.e) (λv e=>wx X (eval b X.e) (λu n=>wx X (f v u) Q X.xe n) X.xe e) X.xe s:=by
 calc cQ (r x4 s J H _ I h) λv i z=>?_;let(x,G,c,w,q):=z;calc cQ (t x4 i J G _ c q) λu k z=>?_;let(y,H2,m,g,d):=z;calc p v u k x y H2 m w g d
def M7{o:Operator}{r:R2}(f:kr X (binaryOp o) r)(n:PE X a ta)(k:PE X b tb):PE X (.BinOp a o b B)^Oi r ta tb:=by intro x4 s J H Q I h;calc wpAny_BinOp (Qg n k I h λv u t x y H2 e c m q=>f x4 t J H2 x y v u Q e c m q)
def RQ(o:VR X (unaryOp q) r)(n:PE X a ta):PE X (.UnaryOp q a B)^WC r ta:=by intro x4 s J H Q I h;calc wv (cQ (n x4 s J H _ I h) λv b z=>by let(x,G,e,f,k):=z;calc o x4 b J G x v Q e f k)
def TK{f:11->11->Sem 11}{C:8->8->5}{g:8->8->8}
  (rule:∀(i j:8)(t u:Tok)(s:12)(Q:VP)(E:VP),C i j->Q (.int (g i j) s.toks) { s with toks:=s.toks+1 }->wx X (f (.int i t)^.int j u) Q E s) :
  kr X f (rI C λi j=>.int^g i j):=by
 intro x4 s J H x y v u Q I r a h;let(i,j,0,0,c,q):=h;let(t,0):=r;let(e,0):=a;calc rule i j t e s _ _ c #[.int^g i j,H,I.tok _,#[_,0],q]
def R6{f:11->11->Sem 11}{g:8->8->8}
  (rule:∀(i j:8)(t u:Tok)(s:12)(Q:VP)(E:VP),Q (.int (g i j) s.toks) { s with toks:=s.toks+1 }->wx X (f (.int i t)^.int j u) Q E s) :
  kr X f (Li λi j=>.int^g i j):=by
 intro x4 s J H x y v u Q I r a h;let(i,j,0,0,q):=h;let(t,0):=r;let(e,0):=a;calc rule i j t e s _ _ #[.int^g i j,H,I.tok _,#[_,0],q]
def LN{f:11->11->Sem 11}{g:8->8->15}
  (rule:∀(i j:8)(t u:Tok)(s:12)(Q:VP)(E:VP),Q (.bool^g i j) s->wx X (f (.int i t)^.int j u) Q E s) :
  kr X f (Li λi j=>.d^g i j):=by
 intro x4 s J H x y v u Q I r a h;let(i,j,0,0,q):=h;let(t,0):=r;let(e,0):=a;calc rule i j t e s _ _ #[.d^g i j,H,I,0,q]
def VY(i j:8):5:=0≤j/\j≤1000000/\i.natAbs < 2 ^ 64
theorem O2:kr X (binaryOp .Add) (Li λi j=>.int<|i+j):=R6 λz z z z z z z q=>add_int q
theorem OX:kr X (binaryOp .Sub) (Li λi j=>.int<|i-j):=R6 λz z z z z z z q=>sub_int q
theorem OZ:kr X (binaryOp .Mod) (rI (λz j=>0 < j) λi j=>.int<|i % j):=TK λi j z z z z z h q=>by have h1:(0:8) < j:=h;calc mod_int' () (by rw[Int.fmod_eq_emod_of_nonneg i ()];calc q)
theorem OY:kr X (binaryOp .Pow) (rI VY λi j=>.int^HPow.hPow i j.toNat):=TK λz z z z z z z h q=>pow_int_small h.1 h.2.1 h.2.2 q
def Wz{f:11->Sem 11}{g:8->8}
  (rule:∀(i:8)(t:Tok)(s:12)(Q:VP)(E:VP),Q (.int (g i) s.toks) { s with toks:=s.toks+1 }->wx X (f^.int i t) Q E s) :
  VR X f (rU λi=>.int^g i):=by
 intro x4 s J H x v Q I r h;let(i,0,q):=h;let(t,0):=r;calc rule i t s _ _ #[.int^g i,H,I.tok _,#[_,0],q]
theorem N5:VR X (unaryOp .USub) (rU λi=>.int<|-↑i):=Wz λz z z z z q=>neg_int q
end
def RC:V->V->15
 | .n,.n=>W | .n,.int _=>W | .int _,.n=>W | .n,.d _=>W | .d _,.n=>W | .n,.str _=>W | .str _,.n=>W
 | .int _,.int _=>W | .d _,.d _=>W | .str _,.str _=>W | .byt _,.byt _=>W
 | .int _,.str _=>W | .str _,.int _=>W | .d _,.str _=>W | .str _,.d _=>W
 |_,_=>Xk
def WN:R2:=λx y H Q=>RC x y=W/\Q (.d<|decide<|x=y) H
def WM:R2:=λx y H Q=>RC x y=W/\Q (.d<|!decide (x=y)) H
def ER{i j:8}:decide (V.int i=V.int j)=(i == j):=by rw[jB];simp
def Jq:decide (V.d i=V.d q)=(i == q):=by rw[jB];simp
def EM:decide (V.str i=V.str q)=(i == q):=by rw[jB];simp
def ET:decide (V.byt i=V.byt q)=(i.toList == q.toList):=by rw[jB];ext i;ext q;simp
section
variable{X:Cx}{a b c:14}{ta tb tc:TE}{B:Pos}
def cf(I:Inv X x4 J H s)(q:Q (.d k) H)(e:k=z):EP X x4 J Q (.bool z) s:=by subst e;calc#[.d k,H,I,0,q]
def Ii:kr X (compareOp .Eq) WN:=by
 intro x4 s J H x y v u Q I n r h;let(e,q):=h;cases x with
 |n=>
  ext n;cases y with
  |n=>ext r;calc Kh^cf I q ∅
  |d j=>ext r;calc Kf^cf I q ∅
  |int j=>let(a,0):=r;calc Kg^cf I q ∅
  |str j=>let(a,0):=r;calc Ki^cf I q ∅
  |_=>calc absurd (Xk=W|>e) bQ
 |d i=>
  ext n;cases y with
  |n=>ext r;calc Kc^cf I q ∅
  |d j=>ext r;calc eq_bool^cf I q Jq
  |str j=>let(a,0):=r;calc JZ^cf I q ∅
  |_=>calc absurd (Xk=W|>e) bQ
 |int i=>
  let(t,0):=n;cases y with
  |n=>ext r;calc Ke^cf I q ∅
  |int j=>let(a,0):=r;calc eq_int^cf I q ER
  |str j=>let(a,0):=r;calc J0^cf I q ∅
  |_=>calc absurd (Xk=W|>e) bQ
 |str i=>
  let(t,0):=n;cases y with
  |n=>ext r;calc Kj^cf I q ∅
  |d j=>ext r;calc J1^cf I q ∅
  |int j=>let(a,0):=r;calc J2^cf I q ∅
  |str j=>let(a,0):=r;calc eq_str^cf I q EM
  |_=>calc absurd (Xk=W|>e) bQ
 |byt i=>
  let(t,0):=n;cases y with
  |byt j=>let(a,0):=r;calc PySem.W.eq_bytes^cf I q ET
  |_=>calc absurd (Xk=W|>e) bQ
 |_=>ext y<;>calc absurd (Xk=W|>e) bQ
def Ig:kr X (compareOp .NotEq) WM:=by
 intro x4 s J H x y v u Q I n r h;let(e,q):=h;cases x with
 |n=>
  ext n;cases y with
  |n=>ext r;calc Ko^cf I q ∅
  |d j=>ext r;calc Km^cf I q ∅
  |int j=>let(a,0):=r;calc Kn^cf I q ∅
  |str j=>let(a,0):=r;calc Kq^cf I q ∅
  |_=>calc absurd (Xk=W|>e) bQ
 |d i=>
  ext n;cases y with
  |n=>ext r;calc Kk^cf I q ∅
  |d j=>ext r;calc ne_bool^cf I q^cA not Jq
  |str j=>let(a,0):=r;calc J8^cf I q ∅
  |_=>calc absurd (Xk=W|>e) bQ
 |int i=>
  let(t,0):=n;cases y with
  |n=>ext r;calc Kl^cf I q ∅
  |int j=>let(a,0):=r;calc ne_int^cf I q^cA not ER
  |str j=>let(a,0):=r;calc J_^cf I q ∅
  |_=>calc absurd (Xk=W|>e) bQ
 |str i=>
  let(t,0):=n;cases y with
  |n=>ext r;calc Kr^cf I q ∅
  |d j=>ext r;calc Ka^cf I q ∅
  |int j=>let(a,0):=r;calc Kb^cf I q ∅
  |str j=>let(a,0):=r;calc ne_str^cf I q^cA not EM
  |_=>calc absurd (Xk=W|>e) bQ
 |byt i=>
  let(t,0):=n;cases y with
  |byt j=>let(a,0):=r;calc PySem.W.ne_bytes^cf I q^cA not ET
  |_=>calc absurd (Xk=W|>e) bQ
 |_=>ext y<;>calc absurd (Xk=W|>e) bQ
theorem RT:kr X (compareOp .Lt) (Li λi j=>.d<|decide<|i < j):=LN λz z z z z z z q=>lt_int q
theorem RU:kr X (compareOp .LtE) (Li λi j=>.d<|decide<|i≤j):=LN λz z z z z z z q=>le_int q
theorem RV:kr X (compareOp .Gt) (Li λi j=>.d<|decide<|j < i):=LN λz z z z z z z q=>gt_int q
theorem RW:kr X (compareOp .GtE) (Li λi j=>.d<|decide<|j≤i):=LN λz z z z z z z q=>ge_int q
def O0:kr X (compareOp .Is) (λx y H Q=>y=.n/\Q (.d<|decide<|x=.n) H):=by
 intro x4 s J H x y v u Q I r a h;let(0,q):=h;ext a;calc is_none_gen^cf I q ?_;ext x<;>first
  |(ext r;rfl)
  |(let(t,0):=r;rfl)
def LJ:kr X (compareOp .IsNot) (λx y H Q=>y=.n/\Q (.d<|!decide (x=.n)) H):=by
 intro x4 s J H x y v u Q I r a h;let(0,q):=h;ext a;calc isnot_none_gen^cf I q ?_;ext x<;>first
  |(ext r;rfl)
  |(let(t,0):=r;rfl)
def D4{o:CmpOp}{r:R2}(f:kr X (compareOp o) r)(n:PE X a ta)(k:PE X b tb)(m:behindInMarks o b=Xk):PE X (.Compare a [o] [b] B)^Oi r ta tb:=by intro x4 s J H Q I h;calc wpAny_Compare1 (Qg n k I h λv u p x y H2 e c t q=>f x4 p J H2 x y v u Q e c t q) m
def Hj(t:TE):TT:=λJ H Q=>t J H λx H'=>∃k,x=.d k/\Q k H'
def DY(o:kr X (compareOp q) r)(p:PE X a ta)(d:PE X b tb)(w:behindInMarks q b=Xk):PT X (.Compare a [q] [b] B) (Hj^Oi r ta tb):=by
 intro x4 s J H Q I h;refine wpAny_isTrue_Compare1 (cQ (p x4 s J H _ I h) fun v K #[x,G,f,l,g]=>cQ (d x4 K J G _ f g) fun u P #[y,H2,m,S,i]=>
  cQ (o x4 P J H2 x y v u _ m l S i) λc A #[z,n,t,F,k,e,j]=>?_) w
 subst e;ext F;calc mh #[n,t,j]
def AG(r e:R2)(ta tb tc:TE):TE:=λJ H Q=>ta J H λx G=>tb J G λy H2=>r x y H2 λz h=>∃k,z=.d k /\
 (if k=W then tc J h λw a=>e y w a Q else Q (.d Xk) h)
def Ia(K:kr X (compareOp N) r)(o:kr X (compareOp q) r')(j:PE X a ta)(l:PE X b tb)(S:PE X c tc)
  (F:lastMarks [N,q] [b,c]=Xk:=by with_unfolding_all rfl):PE X (.Compare a [N,q] [b,c] B)^AG r r' ta tb tc:=by
 intro x4 s J H Q I h;refine Compare_chain (cQ (j x4 s J H _ I h) fun v M #[x,G,w,D,P]=>chain_link (cQ (l x4 M J G _ w P) fun u R #[y,H2,g,t,A]=>
  cQ (K x4 R J H2 x y v u _ g D t A) λd T #[z,n,f,E,k,e,m]=>?_)) F
 subst e;ext E;calc mh ?_;cases k with
 |false=>calc ite_ff #[.d Xk,n,f,0,m]
 |true=>calc ite_tt^chain_last (cQ (S x4 T J n _ f m) λZ1 V #[Z0,p,i,L,C]=>o x4 V J p y Z0 u Z1 Q i t L C)
def HH(D:kr X (compareOp N) r)(o:kr X (compareOp q) r')(K:PE X a ta)(P:PE X b tb)(A:PE X c tc)
  (C:lastMarks [N,q] [b,c]=Xk:=by with_unfolding_all rfl):PT X (.Compare a [N,q] [b,c] B) (Hj^AG r r' ta tb tc):=by
 intro x4 s J H Q I h;refine isTrue_chain (cQ (K x4 s J H _ I h) fun v s1 #[x,G,g,Z1,M]=>test_link (cQ (P x4 s1 J G _ g M) fun u s2 #[y,H2,i,t,R]=>
  cQ (D x4 s2 J H2 x y v u _ i Z1 t R) λd s3 #[z,n,f,Z0,k,e,m]=>?_)) C
 subst e;ext Z0;calc mh ?_;cases k with
 |false=>let(k',S,L):=m;ext S;calc ite_ff #[n,f,L]
 |true=>calc ite_tt^test_last (cQ (A x4 s3 J n _ f m) λw' s4 #[z',p,j,r4,T]=>cQ (o x4 s4 J p y z' u w' _ j t r4 T) λd' s5 E=>?_);let(z2,w,l,r5,k2,F,V):=E;subst F;ext r5;calc mh #[w,l,V]
def Qk(K:FG)(x:V)(H:Hp)(k:15):5:=
 match x with
 | .n=>k=Xk
 | .d b=>k=b
 | .int i=>k=(i != 0)
 | .str y=>-y≤sizeLine/\k=((-y:8) != 0)
 | .byt y=>y.size≤sizeLine/\k=((y.size:8) != 0)
 | .ref p=>(∃xs,j3 K H p xs/\k=!xs.isEmpty)\/(∃xs,rK K H p xs/\k=!xs.isEmpty)\/∃x5,H p=Y^.dK x5/\k=!x5.isEmpty
 |_=>False
def A8(r:KV x5 q):(!q.isEmpty)=!x5.isEmpty:=by ext r<;>rfl
def uf(r:bC xs q):(!q.toArray.isEmpty)=!xs.isEmpty:=by ext r<;>simp
def mx:(sizeLine:9) < 2 ^ 63:=by rw[pU];decide
def xl:VS X (λx H Q=>∃k,Qk X.K x H k/\Q k H):=by
 intro x4 s J H x v Q I rx h;let(k,e,q):=h;let hl:=mx;have hs:sizeLine=16777216:=pU;cases x with
 |n=>ext rx;have e':k=Xk:=e;subst e';calc truthy_none #[H,I,q]
 |d b=>ext rx;have e':k=b:=e;subst e';calc mh #[H,I,q]
 |int i=>let(t,0):=rx;have e':k=(i != 0):=e;subst e';calc PySem.P.truthy_int #[H,I,q]
 |str y=>let(t,0):=rx;obtain⟨hy,e'⟩:-y≤sizeLine/\k=((-y:8) != 0):=e;subst e';calc PySem.P.truthy_str () #[H,I.tok _,q]
 |byt y=>let(t,0):=rx;obtain⟨hy,e'⟩:y.size≤sizeLine/\k=((y.size:8) != 0):=e;subst e';calc PySem.W.truthy_bytes () #[H,I.tok _,q]
 |ref p=>
  ext rx;have e':(∃xs,j3 X.K H p xs/\k=!xs.isEmpty)\/(∃xs,rK X.K H p xs/\k=!xs.isEmpty)\/∃x5,H p=Y^.dK x5/\k=!x5.isEmpty:=e;rcases e' with ⟨xs,hx,e'⟩|⟨xs,hx,e'⟩|⟨x5,hx,e'⟩
  .subst e';let(its,r,pl,hz):=I.list hx;let hlen:=-r;exact wpAny_truthy_list pl.isList (by rwa[bz];lia) #[H,I.tok _,by rw[uf r];calc q]
  .subst e';let(its,r,pl,hz):=I.tuple hx;let hlen:=-r;exact truthy_tuple pl (by rwa[bz];lia) #[H,I.tok _,by rw[uf r];calc q]
  .subst e';obtain⟨hz,hS,vs,r,m⟩:-x5≤sizeLine/\(p == sysModules)=Xk/\∃vs,KV x5 vs/\s.heap.DictOf (cL X.p X.w) p vs:=I.h p _ hx;have hlen:-x5=-vs:=Paired.length r;calc wpAny_truthy_dict hS m () #[H,I.tok _,by rw[A8 r];calc q]
 |_=>calc(False|>e).elim
def HG(n:PE X a ta)(f:∀w,isTrue a X.e w=(do let v <- w;standAt a.pos;holding [v] (truthy v))) :
  PT X a (λJ H Q=>ta J H λx H'=>∃k,Qk X.K x H' k/\Q k H'):=by
 intro x4 s J H Q I h;calc isTrue_plain (cQ (n x4 s J H _ I h) λv b z=>by let(x,G,e,r,q):=z;calc xl x4 b J G x v Q e r q)^f _
def AT:kr X (binaryOp .Add) (λx y H Q=>X0 λi j=>x=.str i/\y=.str j/\-i+-j≤sizeLine/\Q (.str<|i++j) H):=by intro x4 s J H x y v u Q I r a h;let(i,j,0,0,z,q):=h;let(t,0):=r;let(e,0):=a;calc add_str (λe tk=>#[.str<|i++j,H,I.tok _,#[_,0],q]) z
def vals1(r:bC [x] L):∃u,L=[u]/\RelV x u:=by
 cases r with
 |cons h a=>ext a;calc#[_,0,h]
def vals2(r:bC [x,y] L):X0 λu w=>L=[u,w]/\RelV x u/\RelV y w:=by
 cases r with
 |cons h a=>
  cases a with
  |cons e s=>ext s;calc#[_,_,0,h,e]
def JC:fN X (.builtin "abs") (λxs H Q=>∃i,xs=[.int i]/\Q (.int (if i < 0 then -↑i else i)) H):=by intro x4 s J H xs L Q I r h;let(i,0,q):=h;let(u,0,t,0):=vals1 r;calc call_abs_int λu tk=>#[.int (if i < 0 then -↑i else i),H,I.tok _,#[_,0],q]
def vQ:fN X (.type "int") (λxs H Q=>(∃i,xs=[.int i]/\Q (.int i) H)\/∃k,xs=[.d k]/\Q (.int (if k then 1 else 0)) H):=by
 intro x4 s J H xs L Q I r h;rcases h with ⟨i,rfl,q⟩|⟨k,rfl,q⟩
 .let(u,0,t,0):=vals1 r;exact call_int_int #[.int i,H,I,#[_,0],q]
 .let(u,0,x):=vals1 r;ext x;calc call_int_bool #[.int (if k then 1 else 0),H,I.tok _,#[_,0],q]
end
structure ObjM(h:17)(x dx C:13)(mA:SV):5 where
 obj:h.get? x=Y (mi C dx)
 ns:h.Ns1 dx mA
 ne:dx≠x
set_option tactic.hygienic true in
def FF(n:h.Ns1 dx mA):∃d,h.get? dx=Y d/\∀j,wM j d=Y^mA j:=by
 let(o,es,p,s,hd,hk,_,m):=n;calc#[o,s,λj=>?_];let e:=m j;unfold nsFind findBy at e;rw[<- Array.find?_toList]at e;unfold wM;rw[hd];dsimp only;split
 .rename_i y q;rw[q]at e;exact cA Y e
 .rename_i q;rw[q]at e;have a:es.toList.any (·.refKey)=Xk:=by
   rw[CK];intro y f;let(z,t,k):=hk y^Array.mem_toList_iff.mp f;simp[DictEntry.refKey,k]
  have x:¬es.toList.any (·.refKey)=W:=by rw[a];exact bQ
  rw[ag x];calc cA Y e
variable{C:13}
theorem ObjM.look(I:ObjM h x dx C mA):∃o,PySem.W.InstAt h x (mi C dx) C^Y o/\∀j,wM j o=Y^mA j:=
 let #[o,a,l]:=FF I.ns
 #[o,#[I.obj,0,0,a],l]
section
variable{prog:18}{w:16}{A:Around}{E:VP}{s:12}{K:FG}{x dx C f:13}{mA:SV}{j:Str}{v:11}
def Ml(X:K.In s.heap)(I:ObjM s.heap x dx C mA)(g:tm K C j=W)(k:wQ K C=W)
  (n:dC K (.ref C) j=Y Z) (f:mA j=Y v) (a:GI v=W) (h:Q v { s with toks:=s.toks+1 }) :
  wpAny (model prog w) A (getAttr (.ref x) j q) Q E s:=by
 let(o,e,l):=I.look;calc PySem.W.get_value X e (Az g).1 (PySem.W.findObj_own k n rfl (by rw[l,f])) a h
def Jc(X:K.In s.heap)(I:ObjM s.heap x dx C mA)(g:tm K C j=W)
  (e:dC K (.ref C) j=Y (Y^.ref f)) (t:wJ K^.ref f=W) (v:mA j=Z) (h:Q (.ref f,[.ref x]) s) :
  wpAny (model prog w) A (getMethod (.ref x) j q) Q E s:=by
 let(o,a,l):=I.look;calc PySem.W.method_fn X a (Az g).1 (Az g).2 e (mO.mp t) (by show(wM j o).map (·.isSome)=Y Xk;rw[l,v];rfl) h
def Lb(X:K.In s.heap)(I:ObjM s.heap x dx C mA)
  (u:dC K (.ref C) "__setattr__"=Y (Y^.builtin "object.__setattr__")) (q:Ay K C=W) (g:Av K C j=Y Z) (t:wQ K C=W)
  (hw:Ac mA N) (z:-N≤sizeLine)
  (h:∀h',ObjM h' x dx C (λy=>if y=j then Y v else mA y)->fq dx s.heap h'->Q PUnit.unit { s with heap:=h',toks:=s.toks+2 }) :
  wpAny (model prog w) A (setAttr (.ref x) j v) Q E s:=by
 let(F,k,H):=I.look;calc PySem.W.set_plain X k u (PySem.W.osa_open (s:={ s with toks:=s.toks+1 }) (r:=Z) X k q g λb=>?_);let(l,m,d):=PySem.W.any_some t;have i:s.heap.get? x=Y #[.ref C,Y dx,.plain,(10 [])]:=I.obj;calc ai (aG^ai^ai^wpAny_loadPart i^ai^PySem.W.Looks.here (s:={ s with toks:=s.toks+1 }) (PySem.W.looks_clsIn X m) ?_);rw[d];calc aG (a:=Y dx) (ai^aG^ai ?_);calc wpAny_nsSet1 (s:={ s with toks:=s.toks+1 }) I.ns λh' n e=>?_;let(S,f,p,o,D,c):=n.count^PySem.Within.cons j v hw;calc ai^wpAny_lookBehind o (by rw[D];calc pastItsLine_dict^aH c (by rw[aP];lia)) ?_;calc aG^h _ #[(e.2 _^b9 I.ne).trans I.obj,n,I.ne] e
def Iw(X:K.In s.heap)(m:Au K C=W)
  (hi:dC K (.ref C) "__init__"=Y (Y^.ref f)) (x:PySem.W.typeIn K^.ref f=Y^.type "function")
  (h:codeAny (model prog w) (A.under^.builtin "type.__call__" #[.ref C::q,kw]) (.call (.ref f) #[.ref (~~~s+1)::q,kw]) (PySem.W.InitBack (~~~s+1) R)
   { s with heap:=(s.heap.push lx).push^mi C (~~~s) }) :
  codeAny (model prog w) A (.call (.ref C) #[q,kw]) R s:=by
 let(a,g,d,t,os):=s;calc PySem.W.make_core (PySem.W.makes_of X m) (PySem.W.looks_findIn X hi) (λe=>PySem.W.bind_fn X e x) (.inl rfl) h
end
def kz(f:Str)(v:V):6 (Str×V)->6 (Str×V)
 | []=>[(f,v)]
 |(g,x)::r=>if g=f then (g,v)::r else (g,x)::kz f v r
theorem qM(f g:Str)(v:V):∀fs:6 (Str×V),(kz f v fs).lookup g=if g=f then Y v else fs.lookup g
 | []=>by
  show gR g [(f,v)]=_;by_cases h:g=f
  .have b:(g == f)=W:=mO.mpr h;rwa[gR,b,af h]
  .have b:(g == f)=Xk:=jA.mpr h;rwa[gR,b,ag h]
 |(k,x)::r=>by
  let i:=qM f g v r;rw[kz f v ((k,x)::r)=(if k=f then (k,v)::r else (k,x)::kz f v r)|>rfl];by_cases hk:k=f
  .rw [af hk];by_cases h:g=k
   .have b:(g == k)=W:=mO.mpr h;rwa[gR,b,af^h.trans hk]
   .have b:(g == k)=Xk:=jA.mpr h;rwa[gR,b,ag (λe:g=f=>h^e.trans hk.symm)]
  .rw [ag hk];by_cases h:g=k
   .have b:(g == k)=W:=mO.mpr h;rwa[gR,b,ag (λe:g=f=>hk^h.symm.trans e)]
   .have b:(g == k)=Xk:=jA.mpr h;rwa[gR,b];calc i
theorem qj(f:Str)(v:V):∀fs:6 (Str×V),f ∈ (kz f v fs).map (·.1)/\∀g,g ∈ fs.map (·.1)->g ∈ (kz f v fs).map (·.1)
 | []=>#[by simp[kz],λg h=>by simp at h]
 |(k,x)::r=>by
  let(i,a):=qj f v r;rw[kz f v ((k,x)::r)=(if k=f then (k,v)::r else (k,x)::kz f v r)|>rfl];by_cases hk:k=f
  .rw [af hk];subst hk;exact#[∅,λg h=>by exists h]
  .rw [ag hk];refine#[?_,λg h=>?_]
   .rw [aI];exact aC _ i
   .rw [aI]at h ⊢;rcases a8.mp h with e|e
    .exact a8.mpr^.inl e
    .calc aC _^a g e
theorem qN(f:Str)(v:V):∀fs:6 (Str×V),-(kz f v fs)≤-fs+1
 | []=>by simp[kz]
 |(k,x)::r=>by
  let i:=qN f v r;rw[kz f v ((k,x)::r)=(if k=f then (k,v)::r else (k,x)::kz f v r)|>rfl];by_cases hk:k=f
  .rw [af hk,aP,aP];lia
  .rw [ag hk,aP,aP];lia
def l8.some_of{v:V}{o:OV}(r:l8 (Y v) o):∃u,o=Y u/\RelV v u:=by
 cases o with
 |none=>calc(False|>r).elim
 |some u=>calc#[u,0,r]
def l8.none_of{o:OV}(r:l8 Z o):o=Z:=by
 cases o with
 |none=>rfl
 |some u=>calc(False|>r).elim
variable{v:V}
def FU(r:RelV v u):GI u=W:=by
 cases v with
 |n=>cases (u=Value.none|>r);rfl
 |d b=>cases (u=Value.bool b|>r);rfl
 |int i=>let(t,e):=(show ∃t,u=Value.int i t from r);ext e;rfl
 |str x=>let(t,e):=(show ∃t,u=Value.str x t from r);ext e;rfl
 |byt b=>let(t,e):=(show ∃t,u=Value.bytes b t from r);ext e;rfl
 |flt b=>let(t,e):=(show ∃t,u=Value.float b t from r);ext e;rfl
 |ref a=>cases (u=Value.ref a|>r);rfl
 |ty n=>cases (u=Value.type n|>r);rfl
section
variable{P:18}{w:16}{H H':Hp}{h h':17}{a C dx:13}{fs fs':6 (Str×V)}
def xP(o:kF P w H h)(e:H a=Y^.B C dx fs):∃mA,ObjM h a dx C mA/\(∀f,l8 (fs.lookup f)^mA f)/\Ac mA^fs.map (·.1)/\-fs≤1000/\H dx=Y^.own a:=by let(d,z,x,b,mA,n,r,q):=(dL P w H h a^.B C dx fs|>o a _ e);calc#[mA,#[b,n,x],r,q,z,d]
end
structure Cls(K:FG)(C:13):5 where
 pg:tm K C Str.empty=W
 hd:wQ K C=W
 po:Ay K C=W
 sa:dC K (.ref C) "__setattr__"=Y (Y^.builtin "object.__setattr__")
theorem Cls.get(c:Cls K C)(f:Str):tm K C f=W:=c.pg
def oA(K:FG)(C:13)(f:Str):5:=dC K (.ref C) f=Y Z
def oA.taker(n:oA K C f):Av K C f=Y Z:=by unfold Av;rw[dC K (.ref C) f=Y Z|>n];rfl
structure Con(K:FG)(C:13)(f:Str)(v:V)(u:11):5 where
 at_:dC K (.ref C) f=Y (Y u)
 rel:RelV v u
 get:GK K u "__get__"=Y Z
 cp:PySem.W.copiedNames.contains f=Xk
structure Meth(K:FG)(C:13)(m:Str)(f:13):5 where
 at_:dC K (.ref C) m=Y (Y^.ref f)
 fn:wJ K^.ref f=W
 kp:eT K^.ref f=W
section
variable{X:Cx}{x4:PN}{J:St}{H:Hp}{s:12}{a C dx:13}{fs:6 (Str×V)}{f:Str}{v:V}{A:Around}{E:VP}
def Bb{b:15}{Q:VP}(I:Inv X x4 J H s)(e:H a=Y^.B C dx fs)(c:Cls X.K C)(n:oA X.K C f)(l:fs.lookup f=Y v)
  (h:∀u s',Inv X x4 J H s'->RelV v u->Q u s'):wpAny (model X.p X.w) A (getAttr (.ref a) f b) Q E s:=by
 let(mA,k,r,_,_,_):=xP I.h e;let(u,m,x):=l8.some_of (v:=v) (o:=mA f) (by rw[<- l];calc r f);calc Ml I.kIn k (c.get f) c.hd n m (FU x)^h u _ (I.tok _) x
def uk{m:Str}{g:13}{p:Sem 15}{Q:11×LV->12->5}(I:Inv X x4 J H s)(e:H a=Y^.B C dx fs)(c:Cls X.K C)(k:Meth X.K C m g)(l:fs.lookup m=Z)
  (h:Q (.ref g,[.ref a]) s):wpAny (model X.p X.w) A (getMethod (.ref a) m p) Q E s:=by
 let(mA,x,r,_,_,_):=xP I.h e;have n:mA m=Z:=l8.none_of (by rw[<- l];calc r m);calc Jc I.kIn x (c.get m) k.at_ k.fn n h
def AM(I:Inv X x4 J H s)(e:H a=Y^.B C dx fs)(c:Cls X.K C)(n:oA X.K C f)(hl:-fs < 1000)(ry:RelV y u)
  (h:∀s',Inv X x4 J (cc H a^.B C dx^kz f y fs) s'->Q PUnit.unit s'):wpAny (model X.p X.w) A (setAttr (.ref a) f u) Q E s:=by
 let(mA,O9,r,wi,_,ho):=xP I.h e;have hz:-(fs.map (·.1))≤sizeLine:=by rw[aU,pU];lia
 calc Lb I.kIn O9 c.sa c.po n.taker c.hd wi hz λh' O' sb=>h _ ?_;have hd:∃o,h'.get? dx=Y o:=let #[o,_,_,e',_]:=O'.ns;#[o,e']
 calc I.write (x:=a) (e:=dx) (by rw[e];calc True.intro) (.inr ho) (λb q hb z=>(sb.2 b hb).trans z) hd ?_;refine#[by rw[aE O9.ne];calc ho,?_,O9.ne,O'.obj,_,O'.ns,λg=>?_,λg hg=>?_]
 .have:=qN f y fs;lia
 .show l8 ((kz f y fs).lookup g) (if g=f then Y u else mA g);rw[qM];by_cases q:g=f
  .rw [af q,af q];exact ry
  .rw [ag q,ag q];exact r g
 .by_cases q:g=f
  .rw [q];exact(qj f y fs).1
  .calc (qj f y fs).2 g (wi g λz=>hg ?_);show(if g=f then Y u else mA g)=Z;rw[ag q];calc z
def Inv.made(I:Inv X x4 J H s):Inv X x4 J (cc (cc H (~~~s)<|.own<| ~~~s+1) (~~~s+1)^.B C (~~~s) [])
  { s with heap:=(s.heap.push lx).push^mi C (~~~s) }:=by
 have h:(s.heap.push lx).get? (~~~s)=Y lx:=bO s.heap rfl;have k:((s.heap.push lx).push^mi C (~~~s)).get? (~~~s+1)=Y^mi C (~~~s):=by have:=bO (s.heap.push lx) (o:=mi C (~~~s)) rfl;(rw [oH]at this;assumption)
 have f:(s.heap.push lx).Ns s.heap.objs.size (λz=>Z):=#[lx,(10 []),_,h,0,(λe c=>absurd c ∅),λz=>rfl];let x:=I.laid (a:= ~~~s) (o:=.own<| ~~~s+1) (h':=s.heap.push lx) (t':=s.toks) (λb u q=>bb _ q) (ar _) #[_,h];calc x.laid (a:= ~~~s+1) (o:=.B C (~~~s) []) (t':=s.toks) (λb u q=>bb _ q) (sf^oH _ _) ?_;have n: ~~~s≠ ~~~s+1:=bS^gQ _;calc#[by rw[aE n,aO],cS _,n,k,λz=>Z,(Heap.Ns1.of_empty f).at λo q=>bb _ q,λz=>True.intro,λy m=>absurd rfl m]
theorem MN(b:attributeBase e f q^eval e q=eval e q)
  (h:wpAny (model prog w) A (eval e q) (λo x=>wpAny (model prog w) A (getAttr o f W) Q E x) E s):wpAny (model prog w) A (eval (.Attribute e f B) q) Q E s:=
 Attribute_any_ h (by rw[arm_eval_Attribute,b])
end
def UZ(K:FG)(ta:TE)(f:Str):TE:=λJ H Q=>ta J H λx G=>X3 λa C dx fs v=>x=.ref a/\G a=Y^.B C dx fs/\Cls K C/\oA K C f/\fs.lookup f=Y v/\Q v G
def U4(K:FG)(ta tv:TE)(f:Str):TS:=λD J H=>tv J H λy G=>ta J G λx H2=>X2 λa C dx fs=>x=.ref a/\H2 a=Y^.B C dx fs/\Cls K C/\oA K C f/\-fs < 1000 /\
 D.nx J (cc H2 a^.B C dx^kz f y fs)
section
variable{X:Cx}{o e value:14}{f:Str}{B pos' tpos:Pos}{ta tv:TE}
def OU(t:PE X e ta)(r:attributeBase e f X.e^eval e X.e=eval e X.e):PE X (.Attribute e f B)^UZ X.K ta f:=by intro x4 s J H Q I h;calc MN r (cQ (t x4 s J H _ I h) λu w z=>?_);let(x,G,k,d,a,C,dx,fs,v,ex,m,c,n,l,q):=z;subst ex;obtain rfl:u=Value.ref a:=d;calc Bb k m c n l λi g b p=>#[v,G,b,p,q]
def OI(r:PE X o ta)(v:PE X value tv)(t:swapsWith value (Y^.Attribute o f pos') B.line X.e=pure Xk):PS X (.Assign [.Attribute o f pos'] value B)^U4 X.K ta tv f:=by intro x4 s J H D I h;calc plainObj_wpAny_Assign_Attribute (cQ (v x4 s J H _ I h) λu i #[y,G,e,g,q]=>cQ (r x4 i J G _ e q) λp j z=>?_) t;let(x,H2,k,w,a,C,dx,fs,ex,m,c,n,l,d):=z;subst ex;obtain rfl:p=Value.ref a:=w;calc AM k m c n l g λS b=>#[J,_,b,d]
end
section
variable{X:Cx}{x4:PN}{J:St}{H:Hp}{s:12}{A:Around}{E:VP}{Q:VP}{c:11}{b:15}
inductive TyOf(K:FG)(H:Hp):V->11->5 where
 |n:TyOf K H .n^.type "NoneType"
 |d (x:15):TyOf K H (.d x)^.type "bool"
 |int (i:8):TyOf K H (.int i)^.type "int"
 |str (x:Str):TyOf K H (.str x)^.type "str"
 |flt (x:UInt64):TyOf K H (.flt x)^.type "float"
 |l {a:13}{xs:6 V} (e:H a=Y^.l xs):TyOf K H (.ref a)^.type "list"
 |frz {a:13}{o:Obj}{xs:6 V} (e:H a=Y (.frz o^.l xs)):TyOf K H (.ref a)^.type "list"
 |u {a:13}{xs:6 V} (e:H a=Y^.u xs):TyOf K H (.ref a)^.type "tuple"
 |dK {a:13}{x5:6 (cD×V)} (e:H a=Y^.dK x5):TyOf K H (.ref a)^.type "dict"
 |dT {a:13}{x5:6 (6 cD×V)} (e:H a=Y^.dT x5):TyOf K H (.ref a)^.type "dict"
 |B {a C dx:13}{fs:6 (Str×V)} (e:H a=Y^.B C dx fs) (cl:Cls K C) (ha:dC K (.ref C) "__class__"=Y (Y^.builtin "object.__class__"))
   (hn:GK K (.builtin "object.__class__") "__get__"=Y (Y^.builtin "getset_descriptor.__get__")) (htk:PySem.W.takesIn K^.builtin "object.__class__"=Y W)
   (hm:PySem.W.mroIn K C^.type "object"=Y W):TyOf K H (.ref a)^.ref C
end
structure Room(k:9)(A:Around):5 where
 hd:A.handled=Z
 dp:A.depth+3 * k+05 < recursionLimit
 un:A.units+016 * k+200 < cLine
variable{k:9}
theorem Room.mono(r:Room k A)(h:q≤k):Room q A:=#[r.hd,by have:=r.dp;lia,by have:=r.un;lia]
theorem Room.deeper(r:Room (k+1) A)(e:Env):Room k^A.deeper e:=
 #[r.hd,by have:=r.dp;show A.depth+1+3 * k+05 < _;lia,by have:=r.un;show A.units+3+016 * k+200 < _;lia]
variable{kw:6 (Str×11)}
def AZ:(A.under^.builtin "type.__call__" #[.ref C::L,kw]).depth=A.depth+1:=by first|rfl|simp[w9,Code.weight,Code.isCreation,Code.isGuard,Code.isCaller,Code.frames,Code.isFrame,guardIds]
def AY:(A.under^.builtin "type.__call__" #[.ref C::L,kw]).units=A.units+1:=by first|rfl|simp[w9,Code.cUnits,Code.frames,Code.isFrame]
theorem Room.make(r:Room (k+1) A)(C:13)(L:LV)(kw:6 (Str×11)):Room k (A.under^.builtin "type.__call__" #[.ref C::L,kw]):=
 #[r.hd,by have:=r.dp;rw[AZ];lia,by have:=r.un;rw[AY];lia]
def Room.depth(r:Room k A):A.depth < recursionLimit:=by have:=r.dp;lia
def Rp:TA:=λz H Q=>Q [] H
def Ru(ta:TE)(tr:TA):TA:=λJ H Q=>ta J H λx G=>tr J G λxs H2=>Q (x::xs) H2
section
variable{X:Cx}{e:14}{es:Ab}{te:TE}{t:TA}{B:Pos}
theorem jj:PA X [] Rp:=λz z z z H Q I h=>fm #[[],H,I,.nil,h]
def fy(k:PE X e te)(r:PA X es t)(f:starEach (e::es) X.e=(Xk,eval e X.e)::starEach es X.e:=by rfl):PA X (e::es)^Ru te t:=by intro B x4 s J H Q I h;rw[f];show wpAny _ _ (spliced ((Xk,eval e X.e)::backTo B^starEach es X.e)) _ _ s;calc cR (cQ (k x4 s J H _ I h) λu p z=>?_);let(x,G,a,c,q):=z;calc cQ (r B x4 p J G _ a q) λL v z=>by let(xs,H2,n,m,b):=z;calc#[x::xs,H2,n,.cons c m,b]
def UR(t:TA):TE:=λJ H Q=>t J H λxs G=>-xs≤sizeLine/\∀p,G p=Z->Q (.ref p) (cc G p^.u xs)
def UW(t:TA):TE:=λJ H Q=>t J H λxs G=>-xs≤sizeLine/\∀p,G p=Z->Q (.ref p) (cc G p^.l xs)
def xB {N} (h:PA X es t):PE X (.Tuple es N B)^UR t:=by intro x4 s J H Q I n;calc wpAny_Tuple_spliced (cQ (h B x4 s J H _ I n) λL x k=>?_);let(xs,G,a,r,z,q):=k;calc#[by rw[<- (-r)];calc z,?_];have f:G (~~~x)=Z:=a.h.fresh^ar _;calc#[.ref (~~~x),cc G (~~~x)^.u xs,a.laid (t':=x.toks) (λb u e=>bb _ e) (ar _) ?_,0,q _ f];calc#[z,L,r,qF.new _ _]
def HW(h:PA X es t):PE X (.List es B)^UW t:=by intro x4 s J H Q I n;calc wpAny_List_spliced (cQ (h B x4 s J H _ I n) λL x k=>?_);let(xs,G,a,r,z,q):=k;calc#[by rw[<- (-r)];calc z,?_];have f:G (~~~x)=Z:=a.h.fresh^ar _;calc#[.ref (~~~x),cc G (~~~x)^.l xs,a.laid (t':=x.toks) (λb u e=>bb _ e) (ar _) ?_,0,q _ f];calc#[z,L,(0),r,bO _ rfl]
end
noncomputable abbrev Sp:=6 V->Hp->VK->XK->5
noncomputable abbrev Gw:=6 Env->Hp->12->XK->VP
structure Env0(P:18)(w:16)(K:FG)(mg:SV)(base:17)(A:Around)(outer:6 Env)(s:12)(H:Hp):5 where
 frames:A.frames=Y outer
 mod:Mod K mg base
 bs:∀b o,base.get? b=Y o->s.heap.get? b=Y o/\H b=Z
 bsz:base.objs.size≤ ~~~s
 funs:s.heap.FunFrames base outer
 frf:∀b ∈ FW outer,H b=Z
 tab:∀P ∈ cO K,H P=Y .tbl
 h:kF P w H s.heap
 bare:AllBare s.gens
def CE(o:6 Env)(P:18)(w:16)(H:Hp)(s:12)(Q:VK)(u:11)(s':12):5:=
 X0 λv H'=>s'.os=s.os/\AllBare s'.gens/\Un (FW o) [] H H' s.heap s'.heap/\kF P w H' s'.heap/\RelV v u/\Q v H'
def CR(CX:Gw)(o:6 Env)(P:18)(w:16)(H:Hp)(s:12)(Q:VK)(E:XK)(r:Result)(s':12):5:=
 match r with
 | .ok (.ret u)=>CE o P w H s Q u s'
 | .ok _=>False
 | .error e=>CX o H s E e s'
structure FnOk(P:18)(w:16)(K:FG)(mg:SV)(base:17)(CX:Gw)(k:9)(f:13)(fd:FuncData)(ps:LS)(sp:Sp):5 where
 len:∀vs H Q E,sp vs H Q E->-vs=-ps
 run:∀(A:Around)(outer:6 Env)(s:12)(H:Hp)(args:Args)(us:LV)(vs:6 V)(Q:VK)(E:XK),Room k A->Env0 P w K mg base A outer s H->BindsTo s fd args^ps.zip us->bC vs us->sp vs H Q E ->
  codeAny (model P w) A (.call (.ref f) args) (CR CX outer P w H s Q E) s
variable{mg:SV}{base:17}{fd:FuncData}{ps:LS}
theorem FnOk.mono(F:FnOk P w K mg base CX q f fd ps sp)(h:q≤k) :
  FnOk P w K mg base CX k f fd ps sp:=#[F.len,λA o s H a L v Q E r=>F.run A o s H a L v Q E^r.mono h]
theorem FnOk.imp(F:FnOk P w K mg base CX k f fd ps sp)
  (h:∀v H Q E,z v H Q E->sp v H Q E):FnOk P w K mg base CX k f fd ps z:=
 #[λv H Q E q=>F.len v H Q E^h _ _ _ _ q,λA o s H a L v Q E r e b n x=>F.run A o s H a L v Q E r e b n^h _ _ _ _ x]
theorem Env0.make(e:Env0 P w K mg base A q s H)(C:13)(L:LV)(kw:6 (Str×11)) :
  Env0 P w K mg base (A.under^.builtin "type.__call__" #[.ref C::L,kw]) q s H:=#[by first|calc e.frames|(simpa[w9,Code.envs,Code.isFrame,pushEnvs] using e.frames),e.mod,e.bs,e.bsz,e.funs,e.frf,e.tab,e.h,e.bare]
section
variable{X:Cx}{x4:PN}{J:St}{H:Hp}{s s':12}
theorem Inv.env0(I:Inv X x4 J H s):Env0 X.p X.w X.K X.g X.b X.A X.k s H:=
 #[I.o.frames,I.o.mod,I.bs,aH I.o.bsz I.sz,I.stack,I.stkFree,λP h=>I.base.tbls P^I.o.tab P h,I.h,I.bare]
def Inv.after(I:Inv X x4 J H s)(h:CE X.k X.p X.w H s Q u s'):EP X x4 J Q u s':=by let(v,H',os,a,un,o,r,q):=h;let(e,g,d,t,x):=s';obtain rfl:x=s.os:=os;calc#[v,H',I.call (h':=e) (g':=g) (d':=d) (t':=t) (ch:=[]) un o a (λb z=>absurd z ∅),r,q]
end
def Rv(sp:Sp)(dvs:6 V)(E:XK)(t:TA):TE:=λJ H Q=>t J H λv G=>sp (v++dvs) G Q E
def Hl(C:13)(m:Str)(sp:Sp)(dvs:6 V)(E:XK)(ta:TE)(t:TA):TE:=λJ H Q=>ta J H λx G=>X1 λa dx fs=>x=.ref a/\G a=Y^.B C dx fs/\fs.lookup m=Z /\
 t J G λv H2=>sp (x::(v++dvs)) H2 Q E
def Rr(C:13)(sp:Sp)(dvs:6 V)(E:XK)(t:TA):TE:=λJ H Q=>t J H λs G=>∀x dx,G x=Z->G dx=Z->dx≠x ->
 sp (.ref x::(s++dvs)) (cc (cc G dx^.own x) x^.B C dx []) (λv H2=>v=.n/\Q (.ref x) H2) E
def Binds(K:FG)(fd:FuncData)(ps:LS)(ds:LV):5:=
 ∀(s:12)(L:LV),K.In s.heap->-(L++ds)=-ps->BindsTo s fd #[L,[]] (ps.zip<|L++ds)
theorem Binds.all(h:∀L:LV,-L=-ps->bindArgs fd #[L,[]]=pure^ps.zip L):Binds K fd ps []:=λs L z l=>by rw[dQ]at l ⊢;calc .of_eq^h L l
def oz(CX:Gw)(X:Cx)(E:XK):5:=∀(x4:PN)(J:St)(H:Hp)(s:12)(e:11)(s':12),Inv X x4 J H s->CX X.k H s E e s'->X.xe e s'
section
variable{X:Cx}{CX:Gw}{k:9}{f C:13}{fd:FuncData}{ps:LS}{sp:Sp}{dvs:6 V}{ds:LV}{E:XK}{x m:Str}{p B apos:Pos}{e o:14}{es:Ab}{ta:TE}{t:TA}
set_option tactic.hygienic true in
def AO(F:FnOk X.p X.w X.K X.g X.b CX k f fd ps sp)(n:Room k X.A)(b:Binds X.K fd ps ds)(hd:bC dvs ds)(c:oz CX X E)
  (I:Inv X x4 J H s) (r:bC z L) (h:sp (z++dvs) H Q E):wx X (call (.ref f) L) (EP X x4 J Q) X.xe s:=by
 have x:bC (z++dvs) (L++ds):=r.append hd;have a:-(L++ds)=-ps:=by rw[<- (-x)];exact F.len _ _ _ _ h
 calc sW (pW (F.run X.A X.k s H #[L,[]] (L++ds) (z++dvs) Q E n I.env0 (b s L I.kIn a) x h) λr s' q=>?_);cases r with
 |error e=>calc c x4 J H s e s' I q
 |ok l=>
  cases l with
  |ret u=>calc I.after q
  |next=>calc False.elim q
  |brk=>calc False.elim q
  |cont=>calc False.elim q
def xD(F:FnOk X.p X.w X.K X.g X.b CX k f fd ps sp)(v:Room k X.A)(g:Gl X x)(m:X.g x=Y^.ref f)(hk:eT X.K^.ref f=W)(b:Binds X.K fd ps ds)(hd:bC dvs ds)(w:oz CX X E)
  (n:PA X (e::es) t) (d:(x == ("__debug__":Str))=Xk:=by decide) (c:starEach (e::es) X.e=(Xk,eval e X.e)::starEach es X.e:=by rfl) (l:(backTo B^starEach es X.e).any (·.1)=Xk:=by rfl) :
  PE X (.Call (.Name x p) (e::es) [] B) (Rv sp dvs E t):=by
 intro x4 s J H Q I h;calc jL^sP I g m ?_ d;calc tt (h₀:=X.b) I.o.mod.kin hk (cQ (n B x4 s J H _ I h) λL u z=>?_) c l;let(i,G,a,r,q):=z;calc#[a.kIn,?_];calc AO F v b hd w a r q
def LC(i:PE X o ta)(c:Cls X.K C)(v:Meth X.K C m f)(F:FnOk X.p X.w X.K X.g X.b CX k f fd ps sp)(j:Room k X.A)(g:Binds X.K fd ps ds)(hd:bC dvs ds)(S:oz CX X E)(w:PA X (e::es) t)
  (hst:starEach (e::es) X.e=(Xk,eval e X.e)::starEach es X.e:=by rfl) (p:(backTo B^starEach es X.e).any (·.1)=Xk:=by rfl)
  (y:eval (.Call (.Attribute o m apos) (e::es) [] B) X.e=(do
   let N <- eval o X.e
   standAt apos.atName
   let (f,first) <- holding [N] (getMethod N m pl)
   callWith B f first (backTo B^starEach (e::es) X.e) (backToKw B^keywordEach [] X.e)):=by rfl) :
  PE X (.Call (.Attribute o m apos) (e::es) [] B) (Hl C m sp dvs E ta t):=by
 intro x4 s J H Q I h;calc GO (pl:=pl) (cQ (i x4 s J H _ I h) λu A z=>?_) y;let(x,G,n,P,a,dx,fs,ex,d,l,q):=z;subst ex;obtain rfl:u=Value.ref a:=P;calc uk n d c v l ?_;calc tt (first:=[.ref a]) (h₀:=X.b) I.o.mod.kin v.kp (cQ (w B x4 A J G _ n q) λL M z=>?_) hst p;let(D,H2,b,r,K):=z;calc#[b.kIn,?_];calc AO (L:=.ref a::L) (z:=.ref a::D) F j g hd S b (.cons rfl r) K
def HV(t:PE X o ta)(c:Cls X.K C)(n:Meth X.K C m f)(F:FnOk X.p X.w X.K X.g X.b CX k f fd ps sp)(p:Room k X.A)(r:Binds X.K fd ps ds)(hd:bC dvs ds)(d:oz CX X E)
  (v:eval (.Call (.Attribute o m apos) [] [] B) X.e=(do
   let z <- eval o X.e
   standAt apos.atName
   let (f,first) <- holding [z] (getMethod z m N)
   callWith B f first (backTo B^starEach [] X.e) (backToKw B^keywordEach [] X.e)):=by rfl) :
  PE X (.Call (.Attribute o m apos) [] [] B) (Hl C m sp dvs E ta Rp):=by
 intro x4 s J H Q I h;calc GO (pl:=N) (cQ (t x4 s J H _ I h) λu i w=>?_) v;let(x,G,e,g,a,dx,fs,ex,b,l,q):=w;subst ex;obtain rfl:u=Value.ref a:=g;calc uk e b c n l ?_;calc PySem.W.callWith_K0 (first:=[.ref a]) e.kIn n.kp^AO (L:=[.ref a]) (z:=[.ref a]) F p r hd d e (.cons rfl .nil) q
structure Mk(K:FG)(C f:13):5 where
 makes:Au K C=W
 init:dC K (.ref C) "__init__"=Y (Y^.ref f)
 fn:wJ K^.ref f=W
 kp:eT K^.ref C=W
set_option tactic.hygienic true in
def Hx(M:Mk X.K C f)(F:FnOk X.p X.w X.K X.g X.b CX k f fd ps sp)(d:Room (k+1) X.A)(t:Binds X.K fd ps ds)(hd:bC dvs ds)
  (w:oz CX X E) (I:Inv X x4 J H s) (r:bC z L)
  (h:∀x dx,H x=Z->H dx=Z->dx≠x->sp (.ref x::(z++dvs)) (cc (cc H dx^.own x) x^.B C dx []) (λv H2=>v=.n/\Q (.ref x) H2) E) :
  wx X (call (.ref C) L) (EP X x4 J Q) X.xe s:=by
 let n:=h (~~~s+1) s.heap.objs.size (I.h.fresh^mP _) (I.h.fresh^ar _) (bS^gQ _);let a:=Inv.made (C:=C) I;have b:bC (V.ref (~~~s+1)::(z++dvs)) (Value.ref (~~~s+1)::(L++ds)):=.cons rfl^r.append hd;have p:-(Value.ref (~~~s+1)::L++ds)=-ps:=by let e:=-b;rw[F.len _ _ _ _ n]at e;exact e.symm
 refine sW^Iw (f:=f) I.kIn M.makes M.init (mO.mp M.fn) (pW (F.run _ X.k _ _ #[Value.ref (~~~s+1)::L,[]] (Value.ref (~~~s+1)::(L++ds)) _ _ E (d.make C L [])
  (a.env0.make C L []) (t _ (Value.ref (~~~s+1)::L) a.kIn p) b n) λr s' q=>?_)
 cases r with
 |error e=>calc w x4 J _ _ e s' a q
 |ok l=>
  cases l with
  |ret u=>let(v,H',c,i,m,g):=a.after q;subst m;calc#[i,#[V.ref<| ~~~s+1,H',c,0,g]]
  |next=>calc False.elim q
  |brk=>calc False.elim q
  |cont=>calc False.elim q
def D2(M:Mk X.K C f)(F:FnOk X.p X.w X.K X.g X.b CX k f fd ps sp)(v:Room (k+1) X.A)(g:Gl X x)(m:X.g x=Y^.ref C)(b:Binds X.K fd ps ds)(hd:bC dvs ds)(w:oz CX X E)
  (n:PA X (e::es) t) (d:(x == ("__debug__":Str))=Xk:=by decide) (c:starEach (e::es) X.e=(Xk,eval e X.e)::starEach es X.e:=by rfl) (l:(backTo B^starEach es X.e).any (·.1)=Xk:=by rfl) :
  PE X (.Call (.Name x p) (e::es) [] B) (Rr C sp dvs E t):=by
 intro x4 s J H Q I h;calc jL^sP I g m ?_ d;calc tt (h₀:=X.b) I.o.mod.kin M.kp (cQ (n B x4 s J H _ I h) λL u z=>?_) c l;let(i,G,a,r,q):=z;calc#[a.kIn,?_];calc Hx M F v b hd w a r q
end
section
variable{X:Cx}{CX:Gw}{k:9}{f C:13}{fd:FuncData}{ps ks:LS}{sp:Sp}{E:XK}{x m:Str}{p B apos kpos:Pos}{e o:14}{es:Ab}{kws:6 Keyword}{te ta:TE}{t tk:TA}{nm:7 Str}
structure KBinds(K:FG)(fd:FuncData)(ps ks:LS)(g:LV->LV->LV)(gV:6 V->6 V->6 V):5 where
 to:∀(s:12)(us ws:LV),K.In s.heap->-(g us ws)=-ps->BindsTo s fd #[us,ks.zip ws] (ps.zip^g us ws)
 rel:∀{vs:6 V}{us:LV}{zs:6 V}{ws:LV},bC vs us->bC zs ws->bC (gV vs zs)^g us ws
variable{g:LV->LV->LV}{gV:6 V->6 V->6 V}
end
structure FnScope(N P:LS)(sc:Scope):5 where
 kind:sc.kind=.function
 co:sc.isCoroutine=Xk
 gen:sc.isGenerator=Xk
 nd:N.Nodup
 pre:N.take (-P)=P
 par:∀x ∈ P,sc.names.lookup x=Y .local\/sc.names.lookup x=Y .cell
 nofree:∀y ∈ sc.names,y.2≠.free
def vS{kindOf:Str->7 NameKind}{x:Str}:∀{b:6 (Str×11)}{m:SV},(∀v,(x,v) ∉ b)->bindL kindOf b m x=m x
 | [],_,_=>rfl
 |(n,v)::r,m,h=>by
  unfold bindL;rw[vS λw hw=>h w^aC _ hw];split
  .have:x≠n:=by rintro rfl;exact h v aA
   simp[this]
  .rfl
def vU{kindOf:Str->7 NameKind}{x:Str}:∀{b:6 (Str×11)}{m:SV},(∀v,(x,v) ∉ b)->bindC kindOf b m x=m x
 | [],_,_=>rfl
 |(n,v)::r,m,h=>by
  unfold bindC;rw[vU λw hw=>h w^aC _ hw];split
  .rfl
  .have:x≠n:=by rintro rfl;exact h v aA
   simp[this]
theorem vT{kindOf:Str->7 NameKind}{x:Str}{v:11}:∀{P:LS}{s:LV}{i:9}{m:SV},P.Nodup->P[i]? = Y x->s[i]? = Y v->kindOf x=Y .local ->
  bindL kindOf (P.zip s) m x=Y v
 | [],_,_,_,_,h,_,_=>by simp at h
 |_::_,[],_,_,_,_,h,_=>by simp at h
 |p::P,w::s,0,m,n,h1,h2,hk=>by simp at h1 h2;subst h1;subst h2;show bindL kindOf ((p,w)::P.zip s) m p=_;unfold bindL;rw[vS λv a=>(du.mp n).1 (wR a).1,af hk];simp
 |p::P,w::s,i+1,m,n,h1,h2,hk=>by show bindL kindOf ((p,w)::P.zip s) m x=_;unfold bindL;calc vT (i:=i) (du.mp n).2 (by exists h1) (by exists h2) hk
theorem vV{kindOf:Str->7 NameKind}{x:Str}{v:11}:∀{P:LS}{s:LV}{i:9}{m:SV},P.Nodup->P[i]? = Y x->s[i]? = Y v->kindOf x≠Y .local ->
  bindC kindOf (P.zip s) m x=Y v
 | [],_,_,_,_,h,_,_=>by simp at h
 |_::_,[],_,_,_,_,h,_=>by simp at h
 |p::P,w::s,0,m,n,h1,h2,hk=>by simp at h1 h2;subst h1;subst h2;show bindC kindOf ((p,w)::P.zip s) m p=_;unfold bindC;rw[vU λv a=>(du.mp n).1 (wR a).1,ag hk];simp
 |p::P,w::s,i+1,m,n,h1,h2,hk=>by show bindC kindOf ((p,w)::P.zip s) m x=_;unfold bindC;calc vV (i:=i) (du.mp n).2 (by exists h1) (by exists h2) hk
def start(N:LS)(v:6 V):St:=v.map Y++List.replicate (-N-v.length) Z
def zH(CX:Gw)(P:18)(w:16)(K:FG)(mg:SV)(base:17)(N:LS)(q:Str)(h:Scope)(f:13)(d:11)(A:Around)(u:6 Env)(s:12)(H:Hp)(E:XK):Cx where
 p:=P
 w:=w
 K:=K
 g:=mg
 b:=base
 A:=A.deeper (envOfC q h s.heap.objs.size f d)
 N:=N
 z:=s
 y:=H
 e:=envOfC q h s.heap.objs.size f d
 o:=u
 k:=envOfC q h s.heap.objs.size f d::u
 ex:=[]
 c:=W
 fn:=λv=>W
 pn:=[]
 xe:=λe s'=>wpAny (model P w) (A.deeper^envOfC q h s.heap.objs.size f d) (leaving (envOfC q h s.heap.objs.size f d) e) (λv x=>CX u H s E e x) (λa x=>CX u H s E a x) s'
variable{x:Str}
def zO{sc:Scope}(h:sc.names.lookup x=Y .cell):∃c,(cellsFrom n sc.names []).lookup x=Y c:=by let q:=GP sc.names n []^.inl h;calc oF.mp q
def FM{CX:Gw}{P:18}{w:16}{K:FG}{mg:SV}{base:17}{N ps:LS}{l:Str}{o:Scope}{f:13}{B:11}{A:Around}{t:6 Env}{s D:12}{H:Hp}{E:XK}{L:LV}{j:6 V}
  (S:FnScope N ps o) (hd:A.handled=Z) (m:Env0 P w K mg base A t s H) (R:-j=-ps) (r:bC j L)
  (x:InCallC s s.heap.objs.size (bindL (envOfC l o s.heap.objs.size f B).kindOf (ps.zip L) λX=>Z) (cellsFrom (~~~s+1) o.names []) (bindC (envOfC l o s.heap.objs.size f B).kindOf (ps.zip L) λX=>Z) D) :
  Inv (zH CX P w K mg base N l o f B A t s H E) [] (start N j) H D:=by
 have I:-ps≤-N:=by have:=cA oP S.pre;rw[iR]at this;lia
 let(h1,tk,0,hk):=x.done;have g:∀b:13,b ∉ (zH CX P w K mg base N l o f B A t s H E).ex:=fun b z=>absurd (b ∈ ([]:6 13)|>z) ∅;refine#[#[m.mod,S.kind,0,0,ar _,fun y z c h1 h2=>?_,fun y d=>?_,fun y c _ h=>?_,fun _=>hd,C_ m.frames,.inr #[0,0],fun b z=>absurd z^g b,m.bs,m.bsz,fun b _ _=>g b,fun b z=>absurd z^g b,m.funs,m.frf,m.tab],
  0,m.bare,Un.kept hk,#[_,x.toInCall.ns,λi y v h1 h2 Q=>?_],λy c h=>#[_,x.cell y c h],m.h.fresh^ar _,λy c h=>?_,λp F=>absurd (p ∈ ([]:PN)|>F) ∅,m.h.kept hk,?_]
 .exact name_of_addr x.apart (sZ h1)^sZ h2
 .have d:o.names.lookup y=Y .cell\/o.names.lookup y=Y .free:=d;rcases d with d|d
  .exact zO d
  .exact absurd rfl^S.nofree _^sZ d
 .exact lw^x.above y c^sZ h
 .have hi:i < -j:=by
   unfold start at h2;by_cases hi:i < (-j)
   .exact hi
   .rw [bZ (by exists hi)]at h2;rw[w1]at h2;split at h2<;>ext h2
  have G:j[i]? = Y v:=by
   unfold start at h2;rw[cG (by exists hi),cm]at h2;cases e:j[i]? with
   |none=>rw[e]at h2;ext h2
   |some a=>rw[e]at h2;ext h2;rfl
  let(u,C,M):=r.get G;have F:ps[i]? = Y y:=by rw[<- S.pre,iW ()];exact h1
  have M':ps.Nodup:=by rw[<- S.pre];exact S.nd.sublist^CP _ _
  calc#[u,M,?_];rcases S.par y^bq F with k|k
  .exact .inl #[k,vT M' F C k]
  .let(c,e):=zO (n:= ~~~s+1) k;calc .inr #[.inl k,c,e,?_];let q:=x.cell y c e;rw[vV M' F C (by show o.names.lookup y≠_;rw[k];decide)]at q;exact q
 .exact m.h.fresh^lw^x.above y c^sZ h
 .unfold start;show _=-N;rw[bo,aU,wX];lia
set_option tactic.hygienic true in
def SK{CX:Gw}{P:18}{w:16}{K:FG}{mg:SV}{base:17}{k:9}{f:13}{j a:Str}{p:Arguments}{m:6 Stmt}{c:Scope}{dV kV B pm d ct oc:11}{an od:7 13}
  {X:Array^OV}{N ps:LS}{sp:Sp} (lk:K.lookup f=Y #[oc,od,.func^kt j a p m c dV kV B pm an d ct,X]) (R:ku K d a=W) (S:FnScope N ps c)
  (len:∀g H Q E,sp g H Q E->-g=-ps)
  (l:∀(A:Around) (h:6 Env) (s:12) (H:Hp) (g:6 V) (Q:VK) (E:XK),Room k (A.deeper^envOfC a c s.heap.objs.size f d)->sp g H Q E ->
   ∃t,qH (zH CX P w K mg base N a c f d A h s H E) m t/\t { nx:=λZ H'=>Q .n H',rt:=Q } (start N g) H) :
  FnOk P w K mg base CX (k+1) f (kt j a p m c dV kV B pm an d ct) ps sp:=by
 calc#[len,λA h s H args L g Q E T C hb r G=>?_];let hl:=len _ _ _ _ G;have KX:K.In s.heap:=C.mod.kin.keeps λb o e=>(C.bs b o e).1;have Z1:s.heap.NoLimit:=C.mod.nolimit.keeps λb o e=>(C.bs b o e).1;have z:∀y ∈ ps.zip L,c.names.lookup y.1=Y .local\/(c.names.lookup y.1=Y .cell/\((cellsFrom (~~~s+1) c.names []).lookup y.1).isSome=W):=λ#[n,v] hy=>by
  rcases S.par n (wR hy).1 with q|q
  .exact .inl q
  .exact .inr #[q,GP _ _ _^.inl q]
 calc codeAny_call_function T.depth (KX _ _ lk) rfl S.co S.gen rfl (PySem.W.codeRec_of KX R)^hb _ _ _ _ ?_;calc wpAny_newFunctionEnv_cells S.kind z λenv he s1 x=>?_;subst he;calc#[Z1.keeps x.toInCall.keep,codeAny_func ?_];let(t,ht,hq):=l A h s H g Q E (T.deeper _) G;have I:Inv (zH CX P w K mg base N a c f d A h s H E) [] (start N g) H s1:=FM S T.hd C hl r x;calc c_ (ht [] s1 (start N g) H _ I hq) (λfl s' F=>?_) λe s' F=>F;have D:∀{M:St}{H':Hp}{v:V}{u:11},Inv (zH CX P w K mg base N a c f d A h s H E) [] M H' s'->RelV v u->Q v H'->CE h P w H s Q u s':=
  λ{M H' v u} i Z0 q=>#[v,H',i.os,i.bare,i.base,i.h,Z0,q]
 cases fl with
 |ret u=>let(v,M,H',i,Z0,q):=F;calc D i Z0 q
 |next=>let(M,H',i,q):=F;calc D (v:=V.n) (u:=Value.none) i rfl q
 |brk=>let(_,_,_,q):=F;calc False.elim q
 |cont=>let(_,_,_,q):=F;calc False.elim q
section
variable{X:Cx}{x:Str}{p B:Pos}{e:14}{es:Ab}{t:TA}{id T:String}{r:6 V->Hp->VK->5}
def V4(r:6 V->Hp->VK->5)(t:TA):TE:=λJ H Q=>t J H λv G=>r v G Q
def o_(c:fN X (.builtin id) r)(g:Gl X x)(m:X.g x=Z)(v:bootBuiltins x=Y^.builtin id)(n:PA X (e::es) t)(f:x≠"__name__":=by decide)(d:(x == ("__debug__":Str))=Xk:=by decide)
  (k:starEach (e::es) X.e=(Xk,eval e X.e)::starEach es X.e:=by rfl) (l:(backTo B^starEach es X.e).any (·.1)=Xk:=by rfl):PE X (.Call (.Name x p) (e::es) [] B)^V4 r t:=by
 intro x4 s J H Q I h;calc jL^lF I g m v ?_ f d;calc Kz (cQ (n B x4 s J H _ I h) λL w z=>by let(u,G,a,b,q):=z;calc c x4 w J G u L Q a b q) k l
def mY(c:fN X (.type T) r)(g:Gl X x)(m:X.g x=Z)(v:bootBuiltins x=Y^.type T)(n:PA X (e::es) t)(f:x≠"__name__":=by decide)(d:(x == ("__debug__":Str))=Xk:=by decide)
  (k:starEach (e::es) X.e=(Xk,eval e X.e)::starEach es X.e:=by rfl) (l:(backTo B^starEach es X.e).any (·.1)=Xk:=by rfl):PE X (.Call (.Name x p) (e::es) [] B)^V4 r t:=by
 intro x4 s J H Q I h;calc jL^lF I g m v ?_ f d;calc lp (cQ (n B x4 s J H _ I h) λL w z=>by let(u,G,a,b,q):=z;calc c x4 w J G u L Q a b q) k l
end
end L2
set_option tactic.hygienic true
namespace HT
open PySem PyProof.Rows
section
variable{prog:18}{w:16}{A:Around}{E:VP}{s:12}
def MG(g:IsTup s.heap t z.toArray)(u:IsTup s.heap b q.toArray)(v:z≠[])
  (h1:q=[]->Q (.ref t) s) (h2:q≠[]->Q (.ref (~~~s)) { s with heap:=s.heap.push { cls:=.type "tuple",data:=.seq (z++q).toArray } })
  (a:-z+-q≤sizeLine):wpAny (model prog w) A (binaryOp .Add (.ref t)^.ref b) Q E s:=by
 let((N,f,I,p),o,m,n,hd):=id g;let((k,d,data2,l),h,c,r,x):=id u;simp only at m hd c x;subst m hd c x;have e:z.toArray++q.toArray=(z++q).toArray:=by simp
 by_cases hw:q=[]
 .exact z3 #[_,o,0] #[_,h,0] Ae z5 wo wr (wt _ _)
   (tuple_addW1 t b z.toArray q.toArray n r f d p l (by exists v) (by simp[hw])) #[o,h,h1 hw]
 .refine z3 #[_,o,0] #[_,h,0] Ae z5 wo wr (wt _ _)
   (tuple_addW2 t b z.toArray q.toArray n r f d p l (by exists v) (by exists hw) (by rw[bz,bz];calc a)) #[o,h,?_]
  rw[e];calc h2 hw
def fS(n d:9):7 8->9
 |none=>d
 |some v=>if v < 0 then (v+(n:8)).toNat else min v.toNat n
theorem tR(n d:9):fS n d Z=d:=rfl
def DS(n d k:9):fS n d^Y (k:8)=min k n:=by show(if (k:8) < 0 then ((k:8)+(n:8)).toNat else min (k:8).toNat n)=min k n;rw[ag (),rT]
def Oy(n d:9)(hd:d≤n)(o:7 8):fS n d o≤n:=by
 cases o with
 |none=>calc hd
 |some v=>
  show(if v < 0 then (v+(n:8)).toNat else min v.toNat n)≤n;by_cases h:v < 0
  .rw [af h];lia
  .rw [ag h];calc Nat.min_le_right _ _
def EX(v:8)(n d:9):(if v < 0 then max (v+(n:8)) 0 else min v (n:8))=((fS n d^Y v:9):8):=by
 show(if v < 0 then max (v+(n:8)) 0 else min v (n:8))=(((if v < 0 then (v+(n:8)).toNat else min v.toNat n):9):8);by_cases h:v < 0
 .rwa[af h];lia
 .rwa[ag h];lia
def Bw(lo hi:7 8)(n:9):wg lo hi 1 (n:8)=(((fS n 0 lo:9):8),((fS n n hi:9):8)):=by
 have h1:¬((1:8) < 0):=by lia
 unfold wg;rwa[h1,j7];refine Prod.ext ?_ ?_
 .cases lo with
  |none=>rfl
  |some v=>exact EX v n 0
 .cases hi with
  |none=>rfl
  |some v=>calc EX v n n
def AS(i j:9):rS (i:8) (j:8) 1=j-i:=by
 unfold rS;have h1:(1:8) > 0:=by lia
 rwa[h1,fw,Int.ediv_one];split<;>lia
def tM(p:IsPart v o)(h:Q o s):wpAny (model prog w) A (JY v) Q E s:=by
 cases p with
 |none=>calc Cc h
 |int i t=>calc slicePart_int h
def kG{l:13}{v u:11}{lo hi:7 8}{n:9}{Q:8×8×9->12->5}(a:s.heap.IsSliceOf l v u .none)(p:IsPart v lo)(e:IsPart u hi)
  (h:Q (((fS n 0 lo:9):8),1,fS n n hi-fS n 0 lo) s):wpAny (model prog w) A (BH (.ref l)^pure (n:8)) Q E s:=by
 let(os,o,c,d):=id a;unfold BH JX;calc ai (ai^iq o d (x:=v) rfl^ai^iq o d (x:=u) rfl^ai^iq o d (x:=.none) rfl^aG ?_);calc ai^Cc ?_;show wpAny _ _ (if ((1:8) == 0)=W then _ else _) _ _ s;rw[ag #[]];calc ai (tM p^ai^tM e^ai^aG ?_);show wpAny _ _ (match wg lo hi 1 (n:8) with|(lo,hi)=>pure (lo,(1:8),rS lo hi 1)) _ _ s;rw[Bw lo hi n];show wpAny _ _ (pure (((fS n 0 lo:9):8),(1:8),rS ((fS n 0 lo:9):8) ((fS n n hi:9):8) 1)) _ _ s;rw[AS];calc aG h
def HP(xs:Array 11)(i k:9):((List.range k).filterMap λ(m:9)=>xs[((i:8)+(m:8) * 1).toNat]?).toArray=((xs.toList.drop i).take k).toArray:=by
 have e:(λ(m:9)=>xs[((i:8)+(m:8) * 1).toNat]?)=λm=>xs[i+m]?:=by
  funext m;have:((i:8)+(m:8) * 1).toNat=i+m:=by lia
  rw[this]
 rw[e];have:=pick_run xs i k
 rw[List.filterMap_map]at this;have h:((λx=>xs[x]?) ∘ λx=>i+x)=λm=>xs[i+m]?:=rfl;rw[h]at this;rw[this]
def pi{t l:13}{i:Array 11}{v u:11}{lo hi:7 8}{Q:VP}(x:IsTup s.heap t i)(e:s.heap.IsSliceOf l v u .none)(p:IsPart v lo)(k:IsPart u hi)
  (hw:¬(fS i.size 0 lo=0/\fS i.size i.size hi=i.size))
  (h:Q (.ref (~~~s)) { s with heap:=s.heap.push { cls:=.type "tuple",data:=.seq ((i.toList.drop^fS i.size 0 lo).take<|fS i.size i.size hi-fS i.size 0 lo).toArray } })
  (z:i.size≤sizeLine):wpAny (model prog w) A (getItem (.ref t)^.ref l) Q E s:=by
 have a:sizeOk^.seq ((i.toList.drop^fS i.size 0 lo).take<|fS i.size i.size hi-fS i.size 0 lo).toArray:=by show((i.toList.drop^fS i.size 0 lo).take<|fS i.size i.size hi-fS i.size 0 lo).toArray.size≤sizeLine;rw[bz,iR,wS,sI];lia
 have f:fS i.size i.size hi≤i.size:=Oy _ _ (ar _) hi;let(os,o,c,d):=id e;have T:s.TypeIs (.ref l) "slice":=#[os,o,c];unfold getItem;try with_reducible refine ir ?_
 first|refine ai^aG ?_|skip
 calc ai^Dx x.typeIs #[] ?_;refine ai (s_ (name:=Str.ofString "__getitem__") x.typeIs lj
  (pX lj x.typeIs Cf ?_^Ce _ _))
 show wpAny _ _ (GB^.ref t >>= _) _ _ s;calc ai^Cb x ?_;calc ai^nP T ?_;rw[af #[]];calc ai^kG e p k ?_;have n:¬((((fS i.size 0 lo:9):8) == 0 && (1:8) == 1 && (fS i.size i.size hi-fS i.size 0 lo) == i.size)=W):=by intro q;rw[av,av]at q;have b:((fS i.size 0 lo:9):8)=0:=eq_of_beq q.1.1;have r:fS i.size i.size hi-fS i.size 0 lo=i.size:=eq_of_beq q.2;exact hw #[(),()]
 show wpAny _ _ (if (((fS i.size 0 lo:9):8) == 0 && (1:8) == 1 && (fS i.size i.size hi-fS i.size 0 lo) == i.size)=W then _ else _) _ _ s;rw[ag n,HP];first
  |calc ai (m:=Bx _)^sX (aG #[_,0,aG h]) a
  |calc ai (m:=Bx _)^sX (ai^aG^aG #[_,0,aG h]) a
  |calc ai^ai (m:=Bx _)^sX (aG^aG #[_,0,aG h]) a
  |calc ai^ai (m:=Bx _)^sX (aG #[_,0,aG h]) a
end
end HT
set_option tactic.hygienic false
namespace L2
open PySem PySem.Spec PyProof.Rows
noncomputable abbrev TO:=St->Hp->(7 8->Hp->5)->5
def PO(X:Cx)(e:7 14)(t:TO):5:=
 ∀(x4:PN)(s:12)(J:St)(H:Hp)(Q:7 8->Hp->5),Inv X x4 J H s->t J H Q ->
  wx X (evalPart e X.e) (λu s'=>X0 λo H'=>Inv X x4 J H' s'/\IsPart u o/\Q o H') X.xe s
def K5:TO:=λz H Q=>Q Z H
def Rn(t:TE):TO:=λJ H Q=>t J H λx G=>∃i,x=.int i/\Q (Y i) G
section
variable{X:Cx}{e:14}{te:TE}{lo hi:7 14}{tl th:TO}{B p2:Pos}
def Lw:PO X Z K5:=by intro x4 s J H Q I h;rw[Dg];calc aG #[Z,H,I,.none,h]
def Lu(h:PE X e te):PO X (Y e)^Rn te:=by
 intro x4 s J H Q I hw;rw[evalPart_some];refine cQ (h x4 s J H _ I hw) λu k z=>?_
 let(x,G,a,r,n):=z;let(i,0,q):=n;let(t,0):=r;calc#[Y i,G,a,.int i t,q]
def NB(X:Cx)(r:V->7 8->7 8->Hp->VK->5):5:=
 ∀(x4:PN)(s:12)(J:St)(H:Hp)(x:V)(v h u:11)(lo hi:7 8)(l:13)(Q:VK),Inv X x4 J H s->RelV x v->s.heap.IsSliceOf l h u .none->IsPart h lo->IsPart u hi->r x lo hi H Q ->
  X0 λT id=>typeLookup (.type T) "__getitem__"=pure (Y^.builtin id)/\s.TypeIs v T/\wx X (getItem v^.ref l) (EP X x4 J Q) X.xe s
def NB.or(h:NB X r)(h':NB X z):NB X (λx lo hi H Q=>r x lo hi H Q\/z x lo hi H Q):=by
 intro x4 s J H x v n k lo hi l Q I e a p u q;rcases q with q|q
 .exact h x4 s J H x v n k lo hi l Q I e a p u q
 .calc h' x4 s J H x v n k lo hi l Q I e a p u q
def WD(r:V->7 8->7 8->Hp->VK->5)(te:TE)(tl th:TO):TE:=λJ H Q=>te J H λx G=>tl J G λl H2=>th J H2 λu h=>r x l u h Q
def HS(j:NB X r)(w:PE X e te)(i:PO X lo tl)(o:PO X hi th):PE X (.Subscript e (.Slice lo hi Z p2) B)^WD r te tl th:=by
 intro x4 s J H Q I h;calc Subscript_ (cQ (w x4 s J H _ I h) λv D z=>?_);let(x,G,c,C,K):=z;calc wpAny_Slice (cQ (i x4 D J G _ c K) λn E #[l,H2,m,S,P]=>cQ (o x4 E J H2 _ m P) λk a z=>?_);let(u,f,t,F,A):=z;rw[Dg];calc aG ?_;have p:Inv X x4 J f { a with heap:=a.heap.push { cls:=.type "slice",data:=.fields^10 [n,k,.none] } }:=t.kept (t':=a.toks) λb L q=>bb _ q
 let(T,id,d,y,g):=j x4 { a with heap:=a.heap.push { cls:=.type "slice",data:=.fields^10 [n,k,.none] } } J f x v n k l u a.heap.objs.size Q p C (Heap.IsSliceOf.new ..) S F A;show wx X (subscriptTail e (.Slice lo hi Z p2) v^.ref (~~~a)) (EP X x4 J Q) X.xe { a with heap:=a.heap.push { cls:=.type "slice",data:=.fields^10 [n,k,.none] } };calc oG (ops:=[.ref (~~~a),v]) y d g (by with_unfolding_all rfl)
def zI(xs:6 V)(lo hi:7 8):6 V:=(xs.drop^HT.fS xs.length 0 lo).take<|HT.fS xs.length xs.length hi-HT.fS xs.length 0 lo
def qW(xs:6 V)(lo hi:7 8):-(zI xs lo hi)≤-xs:=by unfold zI;rw[iR,wS];lia
def U7(K:FG):V->7 8->7 8->Hp->VK->5:=λx lo hi H Q=>X0 λa xs=>x=.ref a/\rK K H a xs /\
 ¬(HT.fS xs.length 0 lo=0/\HT.fS xs.length xs.length hi=-xs)/\∀p,H p=Z->Q (.ref p) (cc H p^.u^zI xs lo hi)
def Ot:NB X^U7 X.K:=by
 intro x4 s J H x v m d lo hi c Q I k e p u h;let(a,xs,0,n,hw,q):=h;ext k;let(i,r,t,z):=I.tuple n;have l:i.toArray.size=-xs:=by rw[bz];exact r.length.symm
 calc#["tuple",_,lj.lookup,t.typeIs,?_];calc HT.pi t e p u (by rw[l];calc hw) ?_ (by rw[l];calc z);rw[l];calc#[.ref (~~~s),_,I.laid (t':=s.toks) (o:=.u^zI xs lo hi) (λb f q=>bb _ q) (ar _) ?_,0,q _^I.h.fresh^ar _];calc#[aH (qW xs lo hi) z,_,(r.drop^HT.fS xs.length 0 lo).take<|HT.fS xs.length xs.length hi-HT.fS xs.length 0 lo,qF.new _ _]
def RH(K:FG):R2:=λx y H Q=>X2 λa b xs ys=>x=.ref a/\y=.ref b/\rK K H a xs/\rK K H b ys/\xs≠[]/\-xs+-ys≤sizeLine /\
 (ys=[]->Q (.ref a) H)/\(ys≠[]->∀p,H p=Z->Q (.ref p) (cc H p<|.u<|xs++ys))
def bC.nil_iff(r:bC xs L):L=[]↔xs=[]:=by
 cases r with
 |nil=>simp
 |cons _ _=>simp
def LL:kr X (binaryOp .Add)^RH X.K:=by intro x4 s J H x y v u Q I g j h;let(a,b,xs,ys,0,0,k,f,c,n,m,d):=h;ext g;ext j;let(t,e,p,_):=I.tuple k;let(i,r,p2,_):=I.tuple f;calc HT.MG p p2 (λz=>c^e.nil_iff.mp z) (λz=>#[.ref a,H,I,0,m^r.nil_iff.mp z]) (λz=>?_) (by rw[<- (-e),<- (-r)];calc n);calc#[.ref (~~~s),_,I.laid (t':=s.toks) (o:=.u<|xs++ys) (λb l q=>bb _ q) (ar _) ?_,0,d (λw=>z^r.nil_iff.mpr w) _^I.h.fresh^ar _];calc#[by rw[bo];calc n,_,e.append r,qF.new _ _]
end
def Gq(n:9)(i:8):7 9:=if 0≤i then (if i < n then Y i.toNat else Z) else if -↑(n:8)≤i then Y (i+n).toNat else Z
variable{α:Type}
def atI(xs:6 α)(i:8):7 α:=(Gq xs.length i).bind λj=>xs[j]?
variable{n:9}
def Eu{i:8}(h:Gq n i=Y q):seqIndex? i n=Y q/\q < n/\-↑(n:8)≤i/\i < n:=by
 unfold Gq at h;by_cases x:0≤i
 .rw [af x]at h;by_cases h1:i < n
  .rw [af h1]at h;have e:i.toNat=q:=cz h;exact#[by rw[xb x h1,e],(),(),h1]
  .rw [ag h1]at h;ext h
 .rw [ag x]at h;by_cases h1:-↑(n:8)≤i
  .rw [af h1]at h;have e:(i+n).toNat=q:=cz h;exact#[by rw[z4 () h1,e],(),h1,()]
  .rw [ag h1]at h;ext h
def yq{i:8}(h:atI xs i=Y v):∃j,seqIndex? i (-xs)=Y j/\xs[j]? = Y v/\j < -xs/\-↑(-xs:8)≤i/\i < -xs:=by
 unfold atI at h;cases e:Gq xs.length i with
 |none=>rw[e]at h;ext h
 |some j=>rw[e]at h;let(h1,h2,x,a):=Eu e;calc#[j,h1,h,h2,x,a]
def ni(b:14):5:=∀o i,subscripted b Xk o i=operate [o,i]^getItem o i
def Gu(X:Cx)(r:R2):5:=
 ∀(value l:14)(x4:PN)(s:12)(J:St)(H:Hp)(x y:V)(v u:11)(Q:VK),Inv X x4 J H s->RelV x v->RelV y u->r x y H Q ->
  subscripted l Xk v u=operate [v,u]^getItem v u->wx X (subscriptTail value l v u) (EP X x4 J Q) X.xe s
def Xb(X:Cx)(id:String)(r:V->6 V->Hp->VK->5):5:=
 ∀(x4:PN)(s:12)(J:St)(H:Hp)(x:V)(xs:6 V)(v:11)(L:LV)(Q:VK),Inv X x4 J H s->RelV x v->bC xs L->r x xs H Q ->
  wx X (call (.builtin id) (v::L)) (EP X x4 J Q) X.xe s
section
variable{X:Cx}{a b:14}{ta tb:TE}{B:Pos}
def Gu.or(h:Gu X r)(h':Gu X z):Gu X (λx y H Q=>r x y H Q\/z x y H Q):=by
 intro value l x4 s J H x y v u Q I e n q a;rcases q with q|q
 .exact h value l x4 s J H x y v u Q I e n q a
 .calc h' value l x4 s J H x y v u Q I e n q a
def D3(f:Gu X r)(n:PE X a ta)(k:PE X b tb)(c:ni b):PE X (.Subscript a b B)^Oi r ta tb:=by intro x4 s J H Q I h;calc Subscript_ (Qg n k I h λv u p x y H2 e m t q=>f a b x4 p J H2 x y v u Q e m t q^c _ _)
def Vb(K:FG):R2:=λx y H Q=>X2 λp xs i v=>x=.ref p/\y=.int i/\j3 K H p xs/\atI xs i=Y v/\Q v H
def U'(K:FG):R2:=λx y H Q=>X2 λp xs i v=>x=.ref p/\y=.int i/\rK K H p xs/\atI xs i=Y v/\Q v H
def Va:R2:=λx y H Q=>X1 λz i c=>x=.str z/\y=.int i/\-z≤sizeLine/\atI z.cps.toList i=Y c/\Q (.str #[(10 [c])]) H
def xM:Gu X^Vb X.K:=by
 intro value c x4 s J H x y v u Q I K P h m;let(p,xs,i,z,0,0,F,o,q):=h;ext K;let(t,0):=P;let(e,r,l,C):=I.list F;let(j,h1,h2,A,d,g):=yq o;let(w,k,n):=r.get h2;let S:=-r;let B:=mx;have f:EP X x4 J Q w s:=#[z,H,I,n,q];by_cases b:0≤i
 .have a:i.toNat=j:=by
   rw[xb b g]at h1;exact cz h1
  exact item_listR l.isList b () (by rw[a];exists k) f m
 .have a:(i+(e.toArray.size:8)).toNat=j:=by
   rw[z4 () d]at h1;rw[bz,<- S];exact cz h1
  exact Cg (x:=w) l.isList.typeIs Dv.lookup
   (wpAny_getItem_list_neg (Q:=λr s'=>r=w/\EP X x4 J Q r s') l.isList () (by rw[bz]<;>lia) () (by rw[a];exists k) #[0,f]) m
def IF:Gu X^U' X.K:=by
 intro value l x4 s J H x y v u Q I g o h m;let(p,xs,i,z,0,0,c,k,q):=h;ext g;let(t,0):=o;let(d,r,e,A):=I.tuple c;let(j,h1,h2,S,F,K):=yq k;let(w,n,a):=r.get h2;let b:=-r;let P:=mx;have f:EP X x4 J Q w s:=#[z,H,I,a,q];exact Cg (x:=w) e.typeIs lj.lookup
  (getItem_tuple (j:=j) (Q:=λr s'=>r=w/\EP X x4 J Q r s') e () () (by rw[bz,<- b];calc h1) (by exists n) #[0,f]) m
def PB:Gu X Va:=by
 intro value l x4 s J H x y v u Q I r p h m;let(z,i,c,0,0,g,f,q):=h;let(t,0):=r;let(o,0):=p;let(j,h1,h2,d,n,k):=yq f;have b:-z.cps.toList=-z:=by simp[oC]
 rw[b]at h1 n k;let w:=mx;calc oG (typeIs_str s z t) slot_str_getitem.lookup (getItem_str (c:=c) (by have e:decide (i < -↑(2 ^ 63:8))=Xk:=bK ();have a:decide (i ≥ 2 ^ 63)=Xk:=bK ();rw[e,a,C7]) (by rw[h1];exists h2) #[.str #[(10 [c])],H,I.tok _,#[_,0],q]) m
def AX(i:LV)(n j:9)(u:11):lg (·.setIfInBounds j u) { cls:=.type "list",data:=.seq i.toArray n }={ cls:=.type "list",data:=.seq (i.set j u).toArray n }:=by simp[lg]
def Inv.lst(I:Inv X x4 J H s)(h:H p=Y^.l xs) :
  X0 λ(i:LV)(n:9)=>bC xs i/\s.heap.get? p=Y { cls:=.type "list",data:=.seq i.toArray n }/\-xs≤sizeLine:=by
 let(z,i,n,r,e):=I.h p _ h;calc#[i,n,r,e,z]
def Inv.lstUpd{i:LV}(I:Inv X x4 J H s)(h:H p=Y^.l xs)
  (o:s.heap.get? p=Y { cls:=.type "list",data:=.seq i.toArray n }) (a:f { cls:=.type "list",data:=.seq i.toArray n }={ cls:=.type "list",data:=.seq z.toArray N }) (r:bC ys z) (c:-ys≤sizeLine) (t:9) :
  Inv X x4 J (cc H p^.l ys) { s with heap:=s.heap.update p f,toks:=t }:=by
 have e:(s.heap.update p f).get? p=Y { cls:=.type "list",data:=.seq z.toArray N }:=by rw[wA f o (by rw[a]<;>rfl),a]
 calc I.write (x:=p) (e:=p) (by rw[h];trivial) (.inl rfl) (λb u k q=>(Cq _ _^b9 k).trans q) #[_,e] ?_;calc#[c,z,N,r,e]
def RG:V->V->V->Hp->(Hp->5)->5:=λo i v H Q=>X2 λp xs k j=>o=.ref p/\i=.int k/\H p=Y^.l xs/\Gq xs.length k=Y j/\Q (cc H p^.l^xs.set j v)
def Hr:Tv X RG:=by
 intro x4 s J H o i v F iv u Q I g w y h;let(p,xs,k,j,0,0,m,d,q):=h;ext g;let(t,0):=w;let(x,n,r,a,z):=I.lst m;let(h1,h2,b,c):=Eu d;let l:=-r;let S:=mx;have e:Inv X x4 J (cc H p^.l^xs.set j v) { s with heap:=s.heap.update p^lg (·.setIfInBounds j u) }:=
  I.lstUpd m a (AX x n j u) (r.set y j) (by rw[de];calc z) s.toks
 by_cases f:0≤k
 .have hk:k.toNat=j:=by
   rw[xb f c]at h1;exact cz h1
  exact PySem.W.ki_setAt a f () (by rw[bz,<- l];calc c) (by rw[hk];calc#[_,e,q])
 .have hk:(k+(x.toArray.size:8)).toNat=j:=by
   rw[z4 () b]at h1;rw[bz,<- l];exact cz h1
  calc PySem.W.ki_setBack a () (by rw[bz,<- l];calc b) () (by rw[hk];calc#[_,e,q])
def xu(lo hi:7 8)(n:9):(sliceBounds lo hi Z n).1=((HT.fS n 0 lo:9):8)/\(sliceBounds lo hi Z n).2.1=((HT.fS n n hi:9):8)/\(sliceBounds lo hi Z n).2.2=1:=by
 refine#[?_,?_,0]
 .cases lo with
  |none=>simp[sliceBounds,HT.fS]
  |some i=>
   rwa[sliceBounds,HT.fS,B8,(1:8) > 0|>by decide,fw];by_cases h:i < 0
   .rwa[h,fw]<;>lia
   .rwa[h,j7]<;>lia
 .cases hi with
  |none=>simp[sliceBounds,HT.fS]
  |some i=>
   rwa[sliceBounds,HT.fS,B8,(1:8) > 0|>by decide,fw];by_cases h:i < 0
   .rwa[h,fw]<;>lia
   .rwa[h,j7]<;>lia
def uN(i:LV)(lo hi:7 8):slicePick i.toArray lo hi Z=((i.drop^HT.fS i.length 0 lo).take<|HT.fS i.length i.length hi-HT.fS i.length 0 lo).toArray:=by let(h1,h2,h):=xu lo hi i.toArray.size;unfold slicePick;rw[h1,h2,h];rwa[sliceRange_one,pick_run,bz]<;>rfl
def U8(K:FG):V->7 8->7 8->Hp->VK->5:=λx lo hi H Q=>X0 λa xs=>x=.ref a/\j3 K H a xs/\∀p,H p=Z->Q (.ref p) (cc H p^.l^zI xs lo hi)
def La:NB X^U8 X.K:=by intro x4 s J H x v m d lo hi c Q I k e p u h;let(a,xs,0,n,q):=h;ext k;let(i,r,t,z):=I.list n;let l:=-r;calc#["list",_,Dv.lookup,t.isList.typeIs,?_];calc wpAny_getItem_list_slice t.isList e p u .none ∅ ?_ (by rw[bz]<;>lia);rw[uN,<- l];calc#[.ref (~~~s),_,I.laid (t':=s.toks) (o:=.l^zI xs lo hi) (λb f q=>bb _ q) (ar _) ?_,0,q _^I.h.fresh^ar _];calc#[aH (qW xs lo hi) z,_,(0),(r.drop^HT.fS xs.length 0 lo).take<|HT.fS xs.length xs.length hi-HT.fS xs.length 0 lo,bO _ rfl]
def yn:fN X (.builtin "len") (λxs H Q=>X0 λp ys=>xs=[.ref p]/\(j3 X.K H p ys\/rK X.K H p ys)/\Q (.int (-ys)) H):=by
 intro x4 s J H xs L Q I r h;let(p,ys,0,x,q):=h;let(u,0,n):=vals1 r;ext n;let k:=mx;rcases x with x|x
 .let(i,e,a,z):=I.list x;let l:=-e;exact Calls.call_len_list a.isList (by rwa[bz]<;>lia) #[.int (-ys),H,I.tok _,#[s.toks+1,by rw[bz,l]],q]
 .let(i,e,a,z):=I.tuple x;let l:=-e;calc len_tuple a (by rwa[bz]<;>lia) #[.int (-ys),H,I.tok _,#[s.toks+1,by rw[bz,l]],q]
def ym:fN X (.builtin "len") (λxs H Q=>∃z,xs=[.str z]/\-z≤sizeLine/\Q (.int (-z)) H):=by intro x4 s J H xs L Q I r h;let(z,0,x,q):=h;let(u,0,t,0):=vals1 r;let n:=mx;calc len_str () #[.int (-z),H,I.tok _,#[_,0],q]
def fN.or(h:fN X f r)(h':fN X f z):fN X f (λxs H Q=>r xs H Q\/z xs H Q):=by
 intro x4 s J H xs L Q I x q;rcases q with q|q
 .exact h x4 s J H xs L Q I x q
 .calc h' x4 s J H xs L Q I x q
def lO:fN X (.type "list") (λxs H Q=>X0 λp ys=>xs=[.ref p]/\(j3 X.K H p ys\/rK X.K H p ys)/\∀l,H l=Z->Q (.ref l) (cc H l^.l ys)):=by
 intro x4 s J H xs L Q I r h;let(p,ys,0,k,q):=h;let(u,0,w):=vals1 r;ext w;have f:∀(i:LV),bC ys i->-ys≤sizeLine->∀(h':17)(c:9),(∀b o',s.heap.get? b=Y o'->h'.get? b=Y o') ->
   h'.get? (~~~s)=Y { cls:=.type "list",dict:=Z,data:=.seq i.toArray c,slots:=(10 []) }->EP X x4 J Q (.ref (~~~s)) { s with heap:=h' }:=λi x z h' c m e=>
  #[.ref (~~~s),_,I.laid (t':=s.toks) m (ar _) (dL X.p X.w _ h' _^.l ys|>#[z,i,c,x,e]),0,q _^I.h.fresh^ar _]
 rcases k with k|k
 .let(i,x,d,z):=I.list k;let a:=-x;let(o,v,t,n,hd):=d.isList;exact De p (.inl rfl) v t hd (λh' c m e=>f i x z h' c m e) (by rwa[bz]<;>lia)
 .let(i,x,d,z):=I.tuple k;let a:=-x;let(o,v,t,n,hd):=d;calc De p (.inr rfl) v t hd (λh' c m e=>f i x z h' c m e) (by rwa[bz]<;>lia)
def nD:fN X (.type "tuple") (λxs H Q=>X0 λp ys=>xs=[.ref p]/\((j3 X.K H p ys/\∀l,H l=Z->Q (.ref l) (cc H l^.u ys))\/(rK X.K H p ys/\Q (.ref p) H))):=by
 intro x4 s J H xs L Q I r h;let(p,ys,0,h):=h;let(u,0,t):=vals1 r;ext t;rcases h with ⟨x,q⟩|⟨x,q⟩
 .let(i,n,a,z):=I.list x;let f:=-n;calc call_tuple_list a.isList (λh' m=>?_) (by rwa[bz]<;>lia);have k:Inv X x4 J H { s with heap:=h' }:=I.kept (t':=s.toks) m;have c:Inv X x4 J (cc H h'.objs.size^.u ys) { s with heap:=h'.push { cls:=.type "tuple",data:=.seq i.toArray } }:=
   k.laid (t':=s.toks) (λb o e=>bb _ e) (ar _) (dL X.p X.w _ _ _^.u ys|>#[z,i,n,qF.new _ _])
  exact#[.ref h'.objs.size,_,c,0,q _^k.h.fresh^ar _]
 .let(i,n,a,z):=I.tuple x;calc call_tuple_same a #[.ref p,H,I,0,q]
def tyV(K:FG)(T:String)(x:V)(H:Hp):5:=match x with
 | .str _=>T="str"
 | .int _=>T="int"
 | .ref p=>(T="list"/\∃xs,j3 K H p xs)\/(T="tuple"/\∃o,K.lookup p=Y o/\o.cls=.type "tuple"/\o.dict=Z) \/
   (T="dict"/\((∃x5,H p=Y^.dK x5)\/∃x5,H p=Y^.dT x5))\/(T="set"/\X0 λS n=>H p=Y^.set S n)
 |_=>False
def N6(I:Inv X x4 J H s)(r:RelV x v)(ty:tyV X.K T x H) :
  s.TypeIs v T/\∀a,v=.ref a->∃b,s.heap.get? a=Y b/\b.dict=Z:=by
 cases x with
 |str z=>let(t,0):=r;cases (T="str"|>ty);calc#[typeIs_str s z t,λy e=>nomatch e]
 |int i=>let(t,0):=r;cases (T="int"|>ty);calc#[sU s i t,λy e=>nomatch e]
 |ref p=>
  ext r;rcases ty with ⟨rfl,xs,q⟩|⟨rfl,o,hk,k,hd⟩|⟨rfl,hk⟩|⟨rfl,S,n,hk⟩
  .let(f,_,l,_):=I.list q;calc#[l.isList.typeIs,λa e=>?_];ext e;let(o,n,e,c,hd,_):=l;exact#[o,e,hd]
  .calc#[#[o,I.kIn p o hk,k],λa e=>?_];ext e;exact#[o,I.kIn _ o hk,hd]
  .have z:∃o,s.heap.get? p=Y o/\o.ExactDict:=by
    rcases hk with ⟨x5,hk⟩|⟨x5,hk⟩
    .let(_,_,_,_,o,_,_,e,ex,_):=I.h p _ hk;exact#[o,e,ex]
    .let(_,_,_,_,o,_,_,e,ex,_):=I.h p _ hk;exact#[o,e,ex]
   let(o,e,ex):=z;calc#[#[o,e,ex.1],λa h=>?_];ext h;exact#[o,e,ex.2.1]
  .let(o,_,_,_,e,ex,_):=I.h p _ hk;calc#[#[o,e,ex.1],λa h=>?_];ext h;calc#[o,e,ex.2.1]
 |_=>calc False.elim ty
def WG(K:FG)(T:String)(r:V->6 V->Hp->VK->5)(to:TE)(t:TA):TE:=λJ H Q=>to J H λx G=>tyV K T x G/\t J G λxs H2=>r x xs H2 Q
variable{o e:14}{es:Ab}{to:TE}{t:TA}{j:Str}{apos cpos:Pos}{T id:String}{r:V->6 V->Hp->VK->5}
def M8(w:PlainAttrs T)(slot:Slot T j id)(y:typeOf^.builtin id=pure^.type "method_descriptor")(m:Xb X id r)(q:PE X o to)(c:PA X (e::es) t)
  (b:attributeBase o j X.e^eval o X.e=eval o X.e:=by rfl)
  (f:((backTo cpos^starEach (e::es) X.e).all (fun x=>!x.1) && (backToKw cpos^keywordEach [] X.e).all (fun x=>x.1.isSome)
   && decide (-(e::es)+-([]:6 Keyword)+(if ([]:6 Keyword).isEmpty then 0 else 1) < 30))=W:=by rfl)
  (l:(apos.endLine == cpos.line)=W:=by rfl) (d:starEach (e::es) X.e=(Xk,eval e X.e)::starEach es X.e:=by rfl) (p:(backTo cpos^starEach es X.e).any (·.1)=Xk:=by rfl) :
  PE X (.Call (.Attribute o j apos) (e::es) [] cpos) (WG X.K T r to t):=by
 intro x4 s J H Q I h;calc Ap b f l rfl (cQ (q x4 s J H _ I h) λv S z=>?_);let(x,G,a,n,ty,u):=z;let(h1,h2):=N6 a n ty;calc#[T,id,w,slot,y,h1,h2,?_];let A:=c cpos x4 S J G _ a u;rw[d]at A ⊢;calc lr (by show(Xk ||(backTo cpos^starEach es X.e).any (·.1))=Xk;rw[p]<;>rfl)^lq ?_;calc cQ A λL F z=>by let(K,H2,k,i,g):=z;calc m x4 F J H2 x K v L Q k n i g
end
def Wl(X:Cx)(id:String)(r:V->6 V->Hp->VK->5):5:=
 ∀(x4:PN)(s:12)(J:St)(H:Hp)(x:V)(xs:6 V)(v:11)(L:LV)(Q:VK),Inv X x4 J H s->RelV x v->bC xs L->r x xs H Q ->
  wx X (call (.builtin id) (v::L)) (EP X x4 J Q) X.xe s
theorem bC.one:∀{x:V}{L:LV},bC [x] L->∃u,L=[u]/\RelV x u
 |_,_,.cons r .nil=>#[_,0,r]
theorem bC.rep(h:bC xs L):∀k:9,bC (List.replicate k xs).flatten (List.replicate k L).flatten
 |0=>.nil
 |k+1=>by rw[cK,cK,gb,gb];calc bC.append h^bC.rep h k
def foldl_rep(i:LV):∀(k:9)(a:LV),
  si (λx s=>x++s) a.toArray (List.replicate k i.toArray)=(a++(List.replicate k i).flatten).toArray
 |0,a=>by simp
 |k+1,a=>by
  have e:a.toArray++i.toArray=(a++i).toArray:=by simp
  have h:(a++i)++(List.replicate k i).flatten=a++(List.replicate (k+1) i).flatten:=by rw[cK,gb,dS]
  rw[<- h,<- foldl_rep i k (a++i),<- e,cK,f6]
section
variable{X:Cx}{x4:PN}{J:St}{H:Hp}{s:12}{l b:13}{xs ys zs:6 V}
def Inv.lset{i:LV}{t:9}(I:Inv X x4 J H s)(h:H l=Y^.l xs)
  (e:s.heap.get? l=Y { cls:=.type "list",data:=.seq i.toArray n }) (a:f i.toArray=z.toArray) (v:bC ys z) (c:-ys≤sizeLine) :
  Inv X x4 J (cc H l^.l ys) { s with heap:=s.heap.update l^lg f,toks:=t }:=by
 let q:=PySem.IsL.update e f;rw[a]at q;calc I.write (x:=l) (e:=l) (by rw[h];calc trivial) (.inl rfl) (λm u b k=>(Cq s.heap (lg f)^b9 b).trans k) #[_,q] ?_;calc#[c,z,_,v,q]
theorem Inv.lnew{t:9}(I:Inv X x4 J H s)(h:bC ys z)(x:-ys≤sizeLine) :
  Inv X x4 J (cc H (~~~s)^.l ys) { s with heap:=s.heap.push { cls:=.type "list",data:=.seq z.toArray },toks:=t }:=
 I.laid (λy y q=>bb _ q) (ar _) #[x,z,(0),h,bO _ rfl]
theorem Inv.fresh(I:Inv X x4 J H s):H (~~~s)=Z:=I.h.fresh^ar _
def Inv.lstM(I:Inv X x4 J H s)(h:H l=Y^.l xs):-xs≤sizeLine/\X0 λ(i:LV)(n:9)=>bC xs i/\-xs=-i/\s.heap.get? l=Y { cls:=.type "list",data:=.seq i.toArray n }:=by let(z,i,n,r,e):=I.h l _ h;calc#[z,i,n,r,-r,e]
def y2(h:n≤sizeLine):rR n=Xk:=by unfold rR;calc bK ()
end
section
variable{X:Cx}
def Lk:V->6 V->Hp->VK->5:=λx v H Q=>X1 λl xs y=>x=.ref l/\v=[y]/\H l=Y^.l xs/\-xs < sizeLine/\Q .n (cc H l<|.l<|xs++[y])
def vu:Wl X "list.append" Lk:=by intro x4 s J H x t v L Q I b f h;let(l,xs,y,0,0,a,m,q):=h;ext b;let(u,0,k):=f.one;let(z,i,n,r,c,e):=I.lstM a;calc ji BW #[_,e,0] F.entry_list_append (F.args_list_append_2 _ _) (PySem.list_append l i.toArray n u (by rw[bz];lia)) #[e,?_];calc#[.n,_,I.lset (z:=i++[u]) a e ∅ (r.append^.cons k .nil) ?_,0,q];rw[bo,sC];lia
def Lj:V->6 V->Hp->VK->5:=λx v H Q=>X2 λl b xs zs=>x=.ref l/\v=[.ref b]/\H l=Y^.l xs/\H b=Y^.l zs/\-xs+-zs≤sizeLine/\Q .n (cc H l<|.l<|xs++zs)
def FE:Wl X "list.extend" Lj:=by
 intro x4 s J H x S v L Q I g w h;let(l,b,xs,zs,0,0,k,B,y,q):=h;ext g;let(u,0,d):=w.one;ext d;let(z,t,n,r,j,e):=I.lstM k;let(K,i,m,p,c,f):=I.lstM B;have a:t.toArray.size+i.toArray.size≤sizeLine:=by rw[bz,bz];lia
 have o:¬(!t.toArray.isEmpty && rR (t.toArray.size+i.toArray.size))=W:=by rw[y2 a,Bool.and_false];exact bQ
 refine ji BX #[_,e,0] F.entry_list_extend (F.args_list_extend_2 _ _)
  (AutoSeq1.list_extend_list_list_0 l t.toArray n b i.toArray m o (by rw[bz];lia) ()) #[e,f,?_]
 calc#[.n,_,I.lset (z:=t++i) k e ∅ (r.append p) ?_,0,q];rw[bo];lia
def Vc:R2:=λx y H Q=>X2 λl b xs zs=>x=.ref l/\y=.ref b/\H l=Y^.l xs/\H b=Y^.l zs/\-xs+-zs≤sizeLine/\∀p,H p=Z->Q (.ref p) (cc H p<|.l<|xs++zs)
def O1:kr X (binaryOp .Add) Vc:=by
 intro x4 s J H x y v u Q I p d h;let(l,b,xs,zs,0,0,f,B,g,q):=h;ext p;ext d;let(z,t,n,r,w,e):=I.lstM f;let(o,i,j,m,c,a):=I.lstM B;calc PySem.P.add_list e a ?_ (by rw[bz,bz];lia);have k:t.toArray++i.toArray=(t++i).toArray:=by simp
 rw[k];calc#[.ref _,_,I.lnew (t:=s.toks) (r.append m) (by rw[bo];lia),0,q _ I.fresh]
def U9:R2:=λx y H Q=>X1 λl k xs=>x=.ref l/\y=.int k/\H l=Y^.l xs/\-↑(2 ^ 63)≤k/\k < 2 ^ 63/\-xs * k.toNat≤sizeLine /\
 ∀p,H p=Z->Q (.ref p) (cc H p^.l (List.replicate k.toNat xs).flatten)
def L6(xs:6 α)(k:9):(List.replicate k xs).flatten.length=k * (-xs):=by
 induction k with
 |zero=>simp
 |succ k i=>rw[cK,gb,bo,i,oM,wF]
def Ie:kr X (binaryOp .Mult) U9:=by
 intro x4 s J H x y v u Q I P A h;let(l,k,xs,0,0,S,h1,h2,g,q):=h;ext P;let(t,0):=A;let(z,i,n,r,K,e):=I.lstM S;have b:i.toArray.size * k.toNat≤sizeLine:=by rw[bz,<- K];exact g
 have c:¬i.toArray.size * k.toNat > (2 ^ 63-1) / 08:=by
  have:(sizeLine:9)≤(2 ^ 63-1) / 08:=by decide
  lia
 have f:¬(!Builtin.List.listFitsIndex k)=W:=by rw[fitsIndex_both h1 h2];exact bQ
 have o:¬rR (i.toArray.size * k.toNat)=W:=by rw[y2 b];exact bQ
 have w:si (λp d=>p++d) (10 [])^List.replicate (if i.toArray.isEmpty=W then 0 else k.toNat) i.toArray=(List.replicate k.toNat i).flatten.toArray:=by
  have j:∀m:9,si (λp d=>p++d) (10 [])^List.replicate m i.toArray=(List.replicate m i).flatten.toArray:=λm=>by have:=foldl_rep i m [];rw[dR]at this;exact this
  rw[j];cases i with
  |nil=>simp
  |cons a B=>rw[ag ∅]
 refine GA (T:="list") (U:="int") #[] #[_,e,0] (λs'=>sU s' k t) noFill_list_mul BR rV repeat_list BU.lookup
  (ji rV (sU s k t) BS (BV _ _) (int___rmul___int_list k t l i.toArray n)
   #[e,0,#[_,e,0],ji F.slot_list_mul #[_,e,0] F.entry_list_mul (F.args_list_mul_2 _ _) (AutoListH.list___mul___list_int_3 l i.toArray n k t f c o) #[e,?_]])
 rw[w];calc#[.ref _,_,I.lnew (t:=s.toks) (r.rep k.toNat) (by rw[L6,mQ];calc g),0,q _ I.fresh]
end
section
variable{κ:Type}[DecidableEq κ]
def ja(x5:6 (κ×V))(k:κ):7 V:=(x5.find? λv=>decide<|v.1=k).map (·.2)
def putK(x5:6 (κ×V))(k:κ)(v:V):6 (κ×V):=
 if (x5.any λh=>decide<|h.1=k)=W then x5.map (λh=>if h.1=k then (h.1,v) else h) else x5++[(k,v)]
def jM{p:κ×V}{r:6 (κ×V)}{k:κ}(e:p.1=k):ja (p::r) k=Y p.2:=by simp[ja,iP,e]
def i'{p:κ×V}{r:6 (κ×V)}{k:κ}(e:¬p.1=k):ja (p::r) k=ja r k:=by simp[ja,iP,e]
theorem yD(k:κ):∀x5:6 (κ×V),(x5.any λv=>decide<|v.1=k)=(ja x5 k).isSome
 | []=>rfl
 |p::r=>by
  rw[cV];by_cases e:p.1=k
  .rwa[jM e,fx e,w5,Option.isSome_some]
  .rw [i' e,bK e,ly];calc yD k r
def my(x5:6 (κ×V))(k:κ)(v:V):-(putK x5 k v)≤-x5+1:=by
 unfold putK;split
 .rw [aU];lia
 .rw [bo,aP,wP];lia
def l8.isSome_eq(r:l8 o u):o.isSome=u.isSome:=by
 cases o with
 |none=>cases u with
  |none=>rfl
  |some _=>calc(False|>r).elim
 |some _=>cases u with
  |none=>calc(False|>r).elim
  |some _=>rfl
def l8.getD(r:l8 o u)(h:RelV d q):RelV (o.getD d)^u.getD q:=by
 cases o with
 |none=>cases u with
  |none=>calc h
  |some _=>calc(False|>r).elim
 |some _=>cases u with
  |none=>calc(False|>r).elim
  |some _=>calc r
def KV.val{x5:6 (κ×V)}{v:6 (κ×11)}(r:KV x5 v)(k:κ):l8 (ja x5 k)^valueAt v k:=by
 unfold KV at r;induction r with
 |nil=>calc True.intro
 | @cons p q ps qs h t i=>
  let(h1,h2):=h;by_cases e:p.1=k
  .have x:q.1=k:=h1.symm.trans e;have b:valueAt (q::qs) k=Y q.2:=by simp[valueAt,iP,x]
   rw[jM e,b];exact h2
  .have x:¬q.1=k:=λz=>e^h1.trans z;have b:valueAt (q::qs) k=valueAt qs k:=by simp[valueAt,iP,x]
   rw[i' e,b];calc i
def KV.any(r:KV x5 q)(k:κ):(x5.any λv=>decide<|v.1=k)=q.any λv=>decide (v.1=k):=by
 unfold KV at r;induction r with
 |nil=>rfl
 |cons h t i=>rw[cV,cV,i,h.1]
def KV.repl(r:KV x5 I)(k:κ)(x:RelV y u) :
  KV (x5.map λv=>if v.1=k then (v.1,y) else v) (I.map λv=>if v.1=k then (v.1,u) else v):=by
 unfold KV at r ⊢;induction r with
 |nil=>calc .nil
 | @cons p q ps qs h t i=>
  rw[aI,aI];calc .cons ?_ i;let(h1,h2):=h;by_cases e:p.1=k
  .rw [af e,af^h1.symm.trans e];exact#[h1,x]
  .rw [ag e,ag (λz=>e^h1.trans z)];calc#[h1,h2]
def KV.put(r:KV x5 q)(k:κ)(h:RelV y u):KV (putK x5 k y)^stored q k u:=by
 unfold putK stored;rw[r.any k];by_cases e:(q.any λv=>decide<|v.1=k)=W
 .rw [af e,af e];exact r.repl k h
 .rw [ag e,ag e];calc Paired.snoc r #[0,h]
theorem KV.length(r:KV x5 q):-x5=-q:=Paired.length r
end
variable{w:16}{u:11}
def qO(r:RelV (kV k) u):(cL P w).is k u=W:=by
 cases k with
 |inl i=>let(t,e):=(show ∃t,u=Value.int i t from r);subst e;calc y8 P w i t
 |inr x=>let(t,e):=(show ∃t,u=Value.str x t from r);subst e;calc y7 P w x t
theorem vI:∀{ks:6 cD}{L:LV},bC (ks.map kV) L->ItemsAre (cL P w) ks L
 | [],_,r=>by rw[d7]at r;ext r;calc .nil
 |k::ks,_,r=>by
  rw[aI]at r;cases r with
  |cons h t=>calc .cons (qO h)^vI t
abbrev KT(H:Hp):6 (6 cD×V)->6 (6 cD×13×11)->5:=Paired λp q=>p.1=q.1/\H q.2.1=Y (.u^p.1.map kV)/\RelV p.2 q.2.2
def KT.val{H:Hp}{x5:6 (6 cD×V)}{xs:6 (6 cD×13×11)}(r:KT H x5 xs)(k:6 cD):l8 (ja x5 k)^(atKey xs k).map (·.2):=by
 induction r with
 |nil=>calc True.intro
 | @cons p q ps qs h t i=>
  let(h1,_,h2):=h;by_cases e:p.1=k
  .have x:q.1=k:=h1.symm.trans e;have b:atKey (q::qs) k=Y q.2:=by simp[atKey,iP,x]
   rw[jM e,b];exact h2
  .have x:¬q.1=k:=λz=>e^h1.trans z;have b:atKey (q::qs) k=atKey qs k:=by simp[atKey,iP,x]
   rw[i' e,b];calc i
variable{H:Hp}{x5:6 (6 cD×V)}{xs:6 (6 cD×13×11)}{y:V}
def KT.repl(r:KT H x5 xs)(k:6 cD)(a:RelV y u) :
  KT H (x5.map λv=>if v.1=k then (v.1,y) else v) (xs.map^putAt k u):=by
 induction r with
 |nil=>calc .nil
 | @cons p q ps qs h t i=>
  rw[aI,aI];calc .cons ?_ i;let(h1,h2,x):=h;unfold putAt;by_cases e:p.1=k
  .rw [af e,af^h1.symm.trans e];exact#[h1,h2,a]
  .rw [ag e,ag (λz=>e^h1.trans z)];calc#[h1,h2,x]
def KT.put(r:KT H x5 xs)(k:6 cD)(x:H b=Y (.u^k.map kV))(h:RelV y u) :
  KT H (putK x5 k y) (storedH xs k b u):=by
 have e:(x5.any λv=>decide<|v.1=k)=(atKey xs k).isSome:=by rw[yD,(r.val k).isSome_eq,B9]
 unfold putK storedH;rw[e];by_cases q:(atKey xs k).isSome=W
 .rw [af q,af q];exact r.repl k h
 .rw [ag q,ag q];calc Paired.snoc r #[0,x,h]
theorem KT.keeps(r:KT H x5 xs)(h:∀b ys,H b=Y^.u ys->H' b=Y^.u ys):KT H' x5 xs:=
 Paired.mapP r λy y z=>#[z.1,h _ _ z.2.1,z.2.2]
section
variable{P:18}{w:16}{H:Hp}{h:17}{a:13}
theorem rd_of{u:HO}(ok:kF P w H h)(e:Rd H a u):dL P w H h a u:=e.ok ok
theorem vM{x5:6 (cD×V)}(ok:kF P w H h)(e:Rd H a^.dK x5):-x5≤sizeLine/\(a == sysModules)=Xk/\∃vs,KV x5 vs/\h.DictOf (cL P w) a vs:=
 dL P w H h a (.dK x5)|>rd_of ok e
theorem Nn{x5:6 (cD×V)}(ok:kF P w H h)(e:H a=Y^.dK x5):-x5≤sizeLine/\(a == sysModules)=Xk/\∃v,KV x5 v/\h.DictOf (cL P w) a v:=vM ok^.inl e
def qk(ok:kF P w H h)(e:H a=Y (.u^ks.map kV)):(tupleKind^cL P w).is h ks a:=by let(_,i,r,o,h1,(h2,n,x),_):=(dL P w H h a (.u^ks.map kV)|>ok a _ e);calc#[o,i.toArray,n,h1,h2,x,by exists vI r]
def vL(ok:kF P w H h)(e:Rd H a^.dT x5):-x5≤sizeLine/\(a == sysModules)=Xk /\
  ∃xs,KT H x5 xs/\h.DictOfH (tupleKind^cL P w) a xs:=by
 let(z,y,xs,r,o,es,k,h1,h2,f,b,c):=(dL P w H h a^.dT x5|>rd_of ok e);calc#[z,y,xs,r,o,es,k,h1,h2,f,b,λx s=>?_,c];have all:∀{l:6 (6 cD×V)}{m:6 (6 cD×13×11)},KT H l m->∀x ∈ m,(tupleKind^cL P w).is h x.1 x.2.1:=by
  intro l m q;induction q with
  |nil=>intro x s;calc nomatch s
  | @cons p q ps qs n t i=>
   intro x s;rcases a8.mp s with e|s
   .subst e;exact qk ok (by rw[<- n.1];calc n.2.1)
   .exact i x s
 calc all r x s
theorem SW(ok:kF P w H h)(e:H a=Y^.dT x5):-x5≤sizeLine/\(a == sysModules)=Xk /\
  ∃xs,KT H x5 xs/\h.DictOfH (tupleKind^cL P w) a xs:=vL ok^.inl e
end
def lV(H:Hp)(a:13)(y:V)(r:7 V):5:=
 (X0 λx5 k=>Rd H a^.dK x5/\y=kV k/\r=ja x5 k)\/X1 λx5 k b=>Rd H a^.dT x5/\y=.ref b/\H b=Y (.u^k.map kV)/\r=ja x5 k
def zX(H:Hp)(a:13)(y v:V)(H':Hp):5:=
 (X0 λx5 k=>H a=Y^.dK x5/\y=kV k/\-x5 < sizeLine/\H'=cc H a (.dK^putK x5 k v)) \/
 X1 λx5 k b=>H a=Y^.dT x5/\y=.ref b/\H b=Y (.u^k.map kV)/\-x5 < sizeLine/\H'=cc H a (.dT^putK x5 k v)
theorem lV.k{H:Hp}{a:13}{x5:6 (cD×V)}{k:cD}(e:H a=Y^.dK x5):lV H a (kV k)^ja x5 k:=.inl #[x5,k,.inl e,0,0]
theorem lV.t{H:Hp}{a b:13}{x5:6 (6 cD×V)}{k:6 cD}(e:H a=Y^.dT x5)(h:H b=Y (.u^k.map kV)):lV H a (.ref b)^ja x5 k:=.inr #[x5,k,b,.inl e,0,h,0]
theorem zX.k{H:Hp}{a:13}{x5:6 (cD×V)}{k:cD}{v:V}(e:H a=Y^.dK x5)(h:-x5 < sizeLine):zX H a (kV k) v (cc H a^.dK^putK x5 k v):=.inl #[x5,k,e,0,h,0]
theorem zX.t{H:Hp}{a b:13}{x5:6 (6 cD×V)}{k:6 cD}{v:V}(e:H a=Y^.dT x5)(h:H b=Y (.u^k.map kV))(l:-x5 < sizeLine) :
  zX H a (.ref b) v (cc H a^.dT^putK x5 k v):=.inr #[x5,k,b,e,0,h,l,0]
section
variable{X:Cx}{x4:PN}{J:St}{H:Hp}{s:12}{a:13}{y v:V}{u r:11}{o:7 V}{A:Around}{E:VP}
def Inv.big(I:Inv X x4 J H s):sysModules < ~~~s:=by have h:mainGlobals < ~~~s:=(I.mod.glob.keeps I.bk).lt;calc oJ #[] h
def vN(q:A.units+1 < cLine)(I:Inv X x4 J H s)(g:lV H a y^Y v)(c:RelV y u)(h:∀x s',Inv X x4 J H s'->RelV v x->Q x s') :
  wpAny (model X.p X.w) A (getItem (.ref a) u) Q E s:=by
 rcases g with ⟨x5,k,e,n,l⟩|⟨x5,k,b,e,n,m,l⟩
 .subst n;let(z,hd,i,r,d):=vM I.h e;let(x,hw,w):=l8.some_of (v:=v) (o:=valueAt i k) (by rw[l];calc r.val k);exact wpAny_getItem_of (qO c) d.mapOf hw^h x _ (I.tok _) w
 .subst n;cases (u=Value.ref b|>c);let(z,hd,xs,r,d):=vL I.h e;let(x,hw,w):=l8.some_of (v:=v) (o:=(atKey xs k).map (·.2)) (by rw[l];calc r.val k);let(p,t,f):=d6.mp hw;calc Dz (sY q) (qk I.h m) d t ?_;rw[f];calc h x _ (I.tok _) w
def VI(c:A.units+1 < cLine)(I:Inv X x4 J H s)(g:lV H a y o)(n:RelV y u)(h:∀s',Inv X x4 J H s'->Q (.bool o.isSome) s') :
  wpAny (model X.p X.w) A (compareOp .In u^.ref a) Q E s:=by
 rcases g with ⟨x5,k,e,x,l⟩|⟨x5,k,b,e,x,f,l⟩
 .subst x;let(z,hd,v,r,d):=vM I.h e;calc wpAny_in_of (qO n) hd d.mapOf ?_;rw[<- (r.val k).isSome_eq,<- l];exact h _^I.tok _
 .subst x;cases (u=Value.ref b|>n);let(z,hd,xs,r,d):=vL I.h e;calc wpAny_in_heap (sY c) (qk I.h f) hd d ?_;let q:=(r.val k).isSome_eq;rw[B9]at q;rw[<- q,<- l];calc h _^I.tok _
theorem pF{t:9}(I:Inv X x4 J H s)(m:TC^H a)(f:fq a s.heap h')(k:∃q,h'.get? a=Y q)(n:dL X.p X.w (cc H a N) h' a N) :
  Inv X x4 J (cc H a N) { s with heap:=h',toks:=t }:=
 I.write (x:=a) (e:=a) m (.inl rfl) (λb q h z=>(f.2 b h).trans z) k n
theorem Jo{P:18}{w:16}{H':Hp}{h':17}{x5:6 (cD×V)}{v:6 (cD×11)}(z:-x5≤sizeLine)(hd:(a == sysModules)=Xk)(r:KV x5 v)(d:h'.DictOf (cL P w) a v) :
  dL P w H' h' a (.dK x5):=#[z,hd,v,r,d]
def F6{H':Hp}{Q:Unit->12->5}(hu:A.units+1 < cLine)(I:Inv X x4 J H s)(g:zX H a y v H')(ry:RelV y u)(rv:RelV v r)(h:∀s',Inv X x4 J H' s'->Q PUnit.unit s') :
  wpAny (model X.p X.w) A (setItem (.ref a) u r) Q E s:=by
 rcases g with ⟨x5,k,e,ey,l,eH⟩|⟨x5,k,b,e,ey,eb,l,eH⟩
 .subst ey eH;let(z,hd,vs,rel,dd):=Nn I.h e;have hz:-vs≤sizeLine:=by rw[<- (-rel)];exact z
  have hl:-(putK x5 k v)≤sizeLine:=by have:=my x5 k v;lia
  calc wpAny_setItem_pairs (hsz:=hz) (qO ry) dd λh' dd' hs=>h _ ?_;have he:∃q,h'.get? a=Y q:=let #[q,_,_,hq,_]:=dd';#[q,hq]
  exact pF I (by rw[e];calc True.intro) hs he^Jo hl hd (rel.put k rv) dd'
 .subst ey eH;cases (u=Value.ref b|>ry);let(z,hd,xs,rel,dd):=SW I.h e;have hz:-xs≤sizeLine:=by rw[<- Paired.length rel];exact z
  have hl:-(putK x5 k v)≤sizeLine:=by have:=my x5 k v;lia
  calc Ak (hsz:=hz) (sY hu) (qk I.h eb) dd λh' dd' hs=>h _ ?_;let(q,es,ep,hq,h2,h3,h4,_,h5):=dd';calc pF I (by rw[e];calc True.intro) hs #[q,hq] #[hl,hd,_,(rel.put k eb rv).keeps λc ys ec=>?_,q,es,ep,hq,h2,h3,h4,h5];rw[aE^Se ec e (λz=>nomatch z)];calc ec
end
def RF(td ty tv:TE):TS:=λD J H=>tv J H λv G=>td J G λx H2=>ty J H2 λy e=>X0 λa h=>x=.ref a/\zX e a y v h/\D.nx J h
section
variable{X:Cx}{o i e value:14}{B pos' tpos:Pos}{td ty tv:TE}
def DZ(t:X.A.units+1 < cLine)(c:PE X o td)(hi:PE X i ty)(p:PE X value tv)(m:swapsWith value (Y^.Subscript o i pos') B.line X.e=pure Xk) :
  PS X (.Assign [.Subscript o i pos'] value B) (RF td ty tv):=by
 intro x4 s J H D I h;calc Ao (cQ (p x4 s J H _ I h) λr F #[v,G,n,j,q]=>cQ (c x4 F J G _ n q) λu K #[x,H2,k,l,d]=>cQ (hi x4 K J H2 _ k d) λiv A z=>?_) m;let(y,P,f,S,a,e,ex,g,w):=z;subst ex;obtain rfl:u=Value.ref a:=l;calc F6 t f g S j λC b=>#[J,e,b,w]
end
theorem Jp(h:17)(b:sysModules < h.objs.size):dL P w H (h.push { cls:=.type "dict",data:=.dict^10 [] }) h.objs.size^.dK []:=
 #[cS _,jA.mpr^b9^bS b,[],.nil,Heap.DictOf.new h]
theorem Jl(h:17)(b:sysModules < h.objs.size):dL P w H (h.push { cls:=.type "dict",data:=.dict^10 [] }) h.objs.size^.dT []:=
 #[cS _,jA.mpr^b9^bS b,[],.nil,_,(10 []),(0),bO _ rfl,#[0,0,0],0,0,sj]
def Om:TE:=λz H Q=>∀p,H p=Z->Q (.ref p) (cc H p^.dK [])
def Oj:TE:=λz H Q=>∀p,H p=Z->Q (.ref p) (cc H p^.dT [])
section
variable{X:Cx}{B:Pos}
theorem HZ:PE X (.Dict [] [] B) Om:=λx4 s J H Q I h=>
 Af #[.ref (~~~s),_,I.laid (a:= ~~~s) (o:=.dK []) (t':=s.toks) (λz z q=>bb _ q) (ar _)^Jp s.heap I.big,0,h _^I.h.fresh^ar _]
theorem HX:PE X (.Dict [] [] B) Oj:=λx4 s J H Q I h=>
 Af #[.ref (~~~s),_,I.laid (a:= ~~~s) (o:=.dT []) (t':=s.toks) (λz z q=>bb _ q) (ar _)^Jl s.heap I.big,0,h _^I.h.fresh^ar _]
end
structure M1(X:Cx)(o:14)(m:Str)(apos:Pos)(e:14)(cpos:Pos):5 where
 base:attributeBase o m X.e^eval o X.e=eval o X.e
 few:((backTo cpos^starEach [e] X.e).all (fun x=>!x.1) && (backToKw cpos^keywordEach [] X.e).all (fun x=>x.1.isSome)
  && decide (-([e]:Ab)+-([]:6 Keyword)+(if ([]:6 Keyword).isEmpty then 0 else 1) < 30))=W
 line:(apos.endLine == cpos.line)=W
 trees:backTo cpos^starEach [e] X.e=[(Xk,eval e X.e)]
structure M2(X:Cx)(o:14)(m:Str)(apos:Pos)(e f:14)(cpos:Pos):5 where
 base:attributeBase o m X.e^eval o X.e=eval o X.e
 few:((backTo cpos^starEach [e,f] X.e).all (fun x=>!x.1) && (backToKw cpos^keywordEach [] X.e).all (fun x=>x.1.isSome)
  && decide (-([e,f]:Ab)+-([]:6 Keyword)+(if ([]:6 Keyword).isEmpty then 0 else 1) < 30))=W
 line:(apos.endLine == cpos.line)=W
 trees:backTo cpos^starEach [e,f] X.e=[(Xk,eval e X.e),(Xk,eval f X.e)]
def VX(H:Hp)(a:13):5:=(∃x5,Rd H a^.dK x5)\/∃x5,Rd H a^.dT x5
variable{x4:PN}{J:St}{s:12}
def A9(I:Inv X x4 J H s)(d:VX H a) :
  s.TypeIs (.ref a) "dict"/\(∀b,Value.ref a=.ref b->∃o,s.heap.get? b=Y o/\o.dict=Z)/\(a == sysModules)=Xk:=by
 rcases d with ⟨x5,e⟩|⟨x5,e⟩
 .let(_,hd,v,_,h):=vM I.h e;calc#[h.typeIs,λb q=>?_,hd];ext q;let(o,_,_,h1,h2,_):=h;exact#[o,h1,h2.2.1]
 .let(_,hd,xs,_,h):=vL I.h e;calc#[h.typeIs,λb q=>?_,hd];ext q;let(o,_,_,h1,h2,_):=h;calc#[o,h1,h2.2.1]
section
variable{X:Cx}{x4:PN}{J:St}{H:Hp}{s:12}{a:13}{y d:V}{u r:11}{o:7 V}{A:Around}{E:VP}
def P6(c:A.units+1 < cLine)(I:Inv X x4 J H s)(g:lV H a y o)(n:RelV y u)(h:∀w s',Inv X x4 J H s'->RelV (o.getD .n) w->Q w s') :
  wpAny (model X.p X.w) A (call (.builtin "dict.get") [.ref a,u]) Q E s:=by
 rcases g with ⟨x5,k,e,x,l⟩|⟨x5,k,b,e,x,f,l⟩
 .subst x;let(z,hd,v,r,d):=vM I.h e;calc pV j6 d.typeIs oD (B0 _ _) (meets_dict_get (cL X.p X.w) a (qO n) hd) #[_,d.mapOf,h _ _ (I.tok _) ?_];rw[l];exact(r.val k).getD rfl
 .subst x;cases (u=Value.ref b|>n);let(z,hd,xs,r,d):=vL I.h e;calc pV j6 d.typeIs oD (B0 _ _) (meetsH_dict_get (tupleKind^cL X.p X.w) a b hd) #[sY c,k,xs,qk I.h f,d,h _ _ (I.tok _) ?_];rw[l];calc(r.val k).getD rfl
def P5(p:A.units+1 < cLine)(I:Inv X x4 J H s)(g:lV H a y o)(m:RelV y u)(c:RelV d r)(h:∀w s',Inv X x4 J H s'->RelV (o.getD d) w->Q w s') :
  wpAny (model X.p X.w) A (call (.builtin "dict.get") [.ref a,u,r]) Q E s:=by
 rcases g with ⟨x5,k,e,f,l⟩|⟨x5,k,b,e,f,t,l⟩
 .subst f;let(z,hd,v,x,n):=vM I.h e;calc pV j6 n.typeIs oD (wq _ _ _) (meets_dict_get_default (cL X.p X.w) a (qO m) hd r) #[_,n.mapOf,h _ _ (I.tok _) ?_];rw[l];exact(x.val k).getD c
 .subst f;cases (u=Value.ref b|>m);let(z,hd,xs,x,n):=vL I.h e;calc pV j6 n.typeIs oD (wq _ _ _) (Gz (tupleKind^cL X.p X.w) a b hd r) #[sY p,k,xs,qk I.h t,n,h _ _ (I.tok _) ?_];rw[l];calc(x.val k).getD c
end
def Op(td ty:TE):TE:=λJ H Q=>td J H λx G=>∃a,x=.ref a/\VX G a/\ty J G λy H2=>∃o,lV H2 a y o/\Q (o.getD .n) H2
def Oo(td ty tx:TE):TE:=λJ H Q=>td J H λx G=>∃a,x=.ref a/\VX G a/\ty J G λy H2=>tx J H2 λz h=>∃o,lV h a y o/\Q (o.getD z) h
section
variable{X:Cx}{o e f:14}{apos cpos:Pos}{td ty tx:TE}
def H_(t:X.A.units+1 < cLine)(c:PE X o td)(b:PE X e ty)(m:M1 X o "get" apos e cpos):PE X (.Call (.Attribute o "get" apos) [e] [] cpos)^Op td ty:=by intro x4 s J H Q I h;calc wb m.base m.few m.line rX j6 wn (cQ (c x4 s J H _ I h) λu i z=>?_);let(x,G,n,v,a,ex,d,q):=z;subst ex;obtain rfl:u=Value.ref a:=v;let(j,l,_):=A9 n d;calc#[j,l,?_];rw[m.trees];calc lr rfl^lq^cR (cQ (b x4 i J G _ n q) λiv F #[y,H2,k,w,S,g,p]=>fm ?_);calc P6 t k g w λP K f r=>#[_,H2,f,r,p]
def H0(w:X.A.units+1 < cLine)(v:PE X o td)(p:PE X e ty)(q:PE X f tx)(m:M2 X o "get" apos e f cpos):PE X (.Call (.Attribute o "get" apos) [e,f] [] cpos)^Oo td ty tx:=by
 intro x4 s J H Q I h;calc wb m.base m.few m.line rX j6 wn (cQ (v x4 s J H _ I h) fun u A i=>?_);let(x,G,n,F,a,ex,d,j):=i;subst ex;obtain rfl:u=Value.ref a:=F;let(C,D,_):=A9 n d;calc#[C,D,?_];rw [m.trees];refine lr rfl^lq^cR (cQ (p x4 A J G _ n j) fun iv B #[y,H2,b,K,l]=>
  cR (cQ (q x4 B J H2 _ b l) λE M #[z,k,c,P,L,g,S]=>fm ?_))
 calc P5 w c g K P λR N t r=>#[_,k,t,r,S]
end
end L2
set_option tactic.hygienic true
namespace Att
open PySem PySem.W PySem.Calls PyProof.Rows
def rj:∀(s:6 8)(v:LV),WellAll P h v^s.map WData.int->IntsAre v s:=by
 intro s;induction s with
 |nil=>intro v w;rw[d7]at w;ext w;calc .nil
 |cons n s i=>
  intro v w;rw[aI]at w;cases w with
  |cons a b=>ext a;calc .cons _ _^i _ b
def Fo{l:OpenLaw}(t:l.most=Y n)
  (p:l.row.toRowW.claim.pre z=W) (w:WellAll P h I z) :
  X1 λa v s=>I=[Value.ref a]/\z=[WData.list^s.map WData.int]/\h.get? a=Y { cls:=.type "list",data:=.seq v.toArray }/\IntsAre v s/\-s≤n:=by
 have b:WShape.hasAll [] z [.list .int]=W:=(pre_splitW p).1;have c:l.pre.holds [] { args:=z }=W:=(pre_splitW p).2;let(d,r,0,h1,h2):=hasAllW_cons b;obtain rfl:=hasAllW_nil h2;let(xs,0,m):=hasW_list h1;let(s,0):=items_int m;have e:-s≤n:=by
  unfold OpenLaw.pre at c;have k:(WTm.not^.lt (.lit^.int (n:8))^.len^.arg 0).holds [] { args:=[.list^s.map .int] }=W:=by let k:=(holds_andW c).1;rw[t]at k;exact k
  let f:=condW_of k (w_not^w_lt w_lit^w_len_list^w_arg rfl);rw[aU]at f;calc Nat.le_of_not_lt λq=>?_;have u:(n:8) < ((-s:9):8):=by lia
  first
   |(rw[fx u]at f;calc absurd f #[])
   |(simp at f;lia)
 cases w with
 |cons g i=>
  ext i;cases g with
  |list o x=>calc#[_,_,s,0,0,o,rj s _ x,e]
theorem Fu(l:OpenLaw)(a:6 WData):l.row.toRowW.claim.post a (.bool W) a=W:=
 postW_of (r:=l.row.toRowW) (X:=(W == W))
  (WShape.has [] (.bool W) .bool=W|>by first|rfl|decide|simp[WShape.has,WShape.arms,WShape.armsAll])
  ((WTm.eq .res^.lit^.bool W).value [] { args:=a,res:=Y^.bool W,after:=a }=Y (.bool<|W == W)|>w_eq_bool (w_res rfl) w_lit) rfl
def attach_call{l:OpenLaw}
  (M:l.most=Y n) (u:d.params.defaults=[])
  (call:∀(w:16) (h s:12) (mg y:SV) (x:13) (o:Obj) (H k c:11) (a:13) (v:LV) (m:6 8),
   Ground q z [] I w h mg y s.heap->N w s.heap ->
   s.heap.get? x=Y o->o.data=.func^docDef d.name d.params d.body d.scope H k c->s.heap.CodeRec k d.name->mg d.name=Y^.ref x ->
   s.heap.get? a=Y { cls:=.type "list",data:=.seq v.toArray }->IntsAre v m->-m≤n->s.gens=(10 []) ->
   codeAny (model l.prog w) callerA (.call (.ref x) #[[.ref a],[]]) (λr s'=>r=.ok (.ret^.bool W)/\OldK s.heap s'.heap/\s'.os=s.os/\AllBare s'.gens) s) :
  WalkO q z I N l.row.toRowW d [] (λf v=>PySem.call f v):=by
 intro w h s mg y G P x o H k c V kV Q hd t D g C S K Z1 p F T j E;obtain rfl:V=.none:=Dflts.none D u;obtain rfl:kV=.none:=Dflts.noKw D;let(a,v,m,0,0,b,i,e):=Fo M p j;calc enter_call (pW (call w h s mg y x o H k c a v m G P Q (fd_plain hd) t g b i e C) λr s' R=>?_);let(0,h2,A,B):=R;calc#[.inl #[.bool W,.bool W,[],0,λZ=>rfl,.bool W,Fu l _,λZ=>#[List.Pairwise.nil,λZ L=>(nomatch L)]],h2,A,B]
end Att
set_option tactic.hygienic false
namespace L2
open PySem PySem.Spec PyProof.Rows
theorem vh:∀{v:LV}{s:6 8},IntsAre v s->bC (s.map V.int) v
 |_,_,.nil=>.nil
 |_,_,.cons n t h=>.cons #[t,0]^vh h
def Gm(H:Hp):5:=∀b,H b=Z\/H b=Y .tbl\/X0 λo xs=>H b=Y (.frz o^.l xs)
set_option tactic.hygienic true in
def IA{P:18}{w:16}{K:FG}{mg mb:SV}{CX:Gw}{k:9}{fa a:13}{fd:FuncData}{x:Str}{sp:Sp}{f:12}{C:LV}{Z0:6 8}
  (KX:K.In f.heap) (hNT:Ar K=W) (T:∀P ∈ cO K,f.heap.get? P=Y^tj^10 []/\∃c,tf f.heap c P) (R:f.heap.Ns mainGlobals mg) (t:f.heap.Ns builtinsNs mb) (hbb:∀x:Str,x≠"__name__"->mb x=bootBuiltins x) (Q:f.heap.NoLimit) (hbm:∃G A,mg "__builtins__"=Y^.ref G/\G≠builtinsNs/\f.heap.get? G=Y A/\A.cls=.type "module"/\A.dict=Y builtinsNs/\A.data=.plain) (hg:f.gens=(10 []))
  (D:f.heap.get? a=Y { cls:=.type "list",data:=.seq C.toArray }) (hi:IntsAre C Z0) (hl:-Z0≤sizeLine) (hr:Room k callerA)
  (F:∀base:17,K.In base->base.Ns mainGlobals mg->FnOk P w K mg base CX k fa fd [x] sp) (B:∀(s:12)(u:11),BindsTo s fd #[[u],[]] [(x,u)])
  (hsp:∀H:Hp,Gm H->j3 K H a^Z0.map V.int->sp [.ref a] H (λv U=>v=.d W) λU U U=>False)
  (hCX:∀H e s',CX [] H f (λU U U=>False) e s'->False) :
  codeAny (model P w) callerA (.call (.ref fa) #[[.ref a],[]]) (λr s'=>r=.ok (.ret^.bool W)/\OldK f.heap s'.heap/\s'.os=f.os/\AllBare s'.gens) f:=by
 let rv:=vh hi;let X:=-hi;have y:∀H:Hp,Gm H->j3 K H a^Z0.map V.int->kF P w H f.heap->(∀b,H b≠Z->b=a\/b ∈ cO K)->(∀b,H b=Y .tbl->b ∈ cO K)->(∀b ∈ cO K,H b=Y .tbl)->(H a≠Z->K.lookup a=Z) ->
   codeAny (model P w) callerA (.call (.ref fa) #[[.ref a],[]]) (λr s'=>r=.ok (.ret^.bool W)/\OldK f.heap s'.heap/\s'.os=f.os/\AllBare s'.gens) f:=by
  intro H hO hS Z1 hA hB hC hK;have hKT:∀b ∈ cO K,K.lookup b=Z:=λb t=>by
   cases q:K.lookup b with
   |none=>rfl
   |some o=>have e:=KX b o q;rw[(T b t).1]at e;ext e;let h2:=bc.mp hNT (b,_)^GQ q;exact absurd (Xk=W|>h2) bQ
  have p:∀{b:13}{o:Obj},f.heap.get? b=Y o->H b=Z->(xQ f.heap H).get? b=Y o:=λe n=>IZ e n;have noA:∀{b:13}{o:Obj}{es:Array DictEntry}{L:9},f.heap.get? b=Y o->o.data=.dict es L->H b=Z:=λ{b o es L} e d=>by
   cases q:H b with
   |none=>rfl
   |some u=>
    rcases hA b (by rw[q];simp) with j|j
    .subst j;rw[D]at e;ext e;have d':Data.seq C.toArray _=Data.dict es L:=d;ext d'
    .rw [(T b j).1]at e;ext e;ext d
  have noM:∀{b:13}{o:Obj},f.heap.get? b=Y o->o.cls=.type "module"->H b=Z:=λ{b o} e d=>by
   cases q:H b with
   |none=>rfl
   |some u=>
    rcases hA b (by rw[q];simp) with j|j
    .subst j;rw[D]at e;ext e;exact absurd (Value.type "list"=Value.type "module"|>d) #[]
    .rw [(T b j).1]at e;ext e;ext d
  have l:∀{b:13}{m:SV},f.heap.Ns b m->(xQ f.heap H).Ns b m:=fun {b m} #[o,es,L,e,d,r]=>#[o,es,L,p e^noA e d,d,r];have M:K.In^xQ f.heap H:=fun b o e=>p (KX b o e) (by
   cases q:H b with
   |none=>rfl
   |some u=>
    rcases hA b (by rw[q];simp) with j|j
    .subst j;rw[hK (by rw[q];simp)]at e;ext e
    .rw [hKT b j]at e;ext e)
  have hM:Mod K mg^xQ f.heap H:=#[M,l R,#[mb,l t,hbb],let #[mc,h1,h2]:=Q;#[mc,l h1,h2],let #[G,A,c1,c2,c3,c4,c5]:=hbm;#[G,A,c1,c2,p c3^noM c3 c4,c4,c5]];have e0:Env0 P w K mg (xQ f.heap H) callerA [] f H:=#[0,hM,λb o e=>LP e,sf^FR _ _,trivial,λb t=>absurd (b ∈ ([]:6 13)|>t) ∅,hC,Z1,.of_eq hg];calc pW ((F _ M^l R).run callerA [] f H #[[.ref a],[]] [.ref a] [.ref a] _ _ hr e0 (B f^.ref a) (.cons rfl .nil)^hsp H hO hS) λr s' h=>?_;cases r with
  |error e=>calc(hCX H e s' h).elim
  |ok fl=>
   cases fl with
   |next=>calc False.elim h
   |brk=>calc False.elim h
   |cont=>calc False.elim h
   |ret u=>
    let(v,H',os,E,un,S,r',q):=h;have q':v=.d W:=q;subst q';obtain rfl:u=Value.bool W:=r';have aw:∀b o,f.heap.get? b=Y o->asItWas f.heap s'.heap b o:=λb o e=>by
     rcases hO b with q|z|⟨A,xs,z⟩
     .exact .inl^un.keep b o e q (by intro z;calc absurd (b ∈ ([]:6 13)|>z) ∅) ∅
     .let(I,c,e2):=T b^hB b z;let(ps,e3,_):=(show uC H' s'.heap b from S b _^un.tbls b z);rw[I]at e;ext e;exact .inr^.inl #[(e2.tab I).isCodeTable,0,(10 []),ps,0,by rw[Array.empty_append];calc e3]
     .let z2:=un.frzs b A _ z;let(I,_):=Z1 b _ z;let(e2,_):=S b _ z2;rw[e]at I;ext I;exact .inl e2
    calc#[0,#[aw,λb o e=>?_],os,E];rcases aw b o e with x|⟨_,_,_,_,_,x⟩|⟨_,_,⟨_,_,_,x,_⟩,_⟩<;>exact#[_,x]
 have N:a ∉ cO K:=λz=>by let e:=(T a z).1;rw[D]at e;ext e
 have tk:∀b,b ∈ cO K->∀H:Hp,uC H f.heap b:=λb t H=>#[(10 []),(T b t).1,.inl rfl];cases hk:K.lookup a with
 |some o=>
  have e:=KX a o hk;rw[D]at e;ext e;refine y (λb=>if b ∈ cO K then Y .tbl else Z) (λb=>?_) (.inr #[_,C.toArray,_,hk,0,0,0,by rw[bz,X];calc hl,by exists rv]) (λb u z=>?_) (λb z=>?_) (λb z=>?_) (λb z=>af z) λz=>absurd (ag N) z
  .by_cases t:b ∈ cO K
   .exact .inr^.inl^af t
   .exact .inl^ag t
  .by_cases t:b ∈ cO K
   .let g:=(af t).symm.trans z;ext g;exact tk b t _
   .let g:=(ag t).symm.trans z;ext g
  .by_cases t:b ∈ cO K
   .exact .inr t
   .exact absurd (ag t) z
  .by_cases t:b ∈ cO K
   .exact t
   .let g:=(ag t).symm.trans z;ext g
 |none=>
  refine y (λb=>if b=a then Y (.frz { cls:=.type "list",data:=.seq C.toArray }^.l^Z0.map V.int) else if b ∈ cO K then Y .tbl else Z) (λb=>?_) (.inl^.inr #[{ cls:=.type "list",data:=.seq C.toArray },af rfl]) (λb u z=>?_) (λb z=>?_) (λb z=>?_) (λb z=>?_) λU=>hk
  .by_cases t:b=a
   .exact .inr^.inr #[_,_,af t]
   .by_cases i:b ∈ cO K
    .exact .inr^.inl^(ag t).trans^af i
    .exact .inl^(ag t).trans^ag i
  .by_cases t:b=a
   .let g:=(af t).symm.trans z;ext g;subst t;exact#[D,by rw[aU];calc hl,C,_,rv,D]
   .let z1:=(ag t).symm.trans z;by_cases i:b ∈ cO K
    .let g:=(af i).symm.trans z1;ext g;exact tk b i _
    .let g:=(ag i).symm.trans z1;ext g
  .by_cases t:b=a
   .exact .inl t
   .by_cases i:b ∈ cO K
    .exact .inr i
    .exact absurd ((ag t).trans^ag i) z
  .by_cases t:b=a
   .let g:=(af t).symm.trans z;ext g
   .by_cases i:b ∈ cO K
    .exact i
    .let g:=(ag i).symm.trans^(ag t).symm.trans z;ext g
  .have t:b≠a:=λq=>N (q ▸ z);calc(ag t).trans^af z
noncomputable abbrev Wn{K:FG}(_:K.In h):FG:=K
def KO{l:GH}{n k:9}{q:18}{m:LS}{I:(SV)->17->5}{g:16->17->5}{d:DefRec}{K:Params->FG}{CX:16->Gw}{sp:16->Sp}{x:Str}
  (hn:l.most=Y n) (S:n≤sizeLine) (y:d.params.defaults=[]) (hr:Room k callerA)
  (Z1:∀(w:16)(h:17),g w h->(K w.params).In h) (N:∀w:16,Ar^K w.params=W) (T:∀(w:16)(h:17),g w h->∀P ∈ cO^K w.params,h.get? P=Y^tj^10 []/\∃c,tf h c P)
  (F:∀(w:16) (mg:SV) (t:13) (h:17),(K w.params).In h->h.Ns mainGlobals mg->mg d.name=Y^.ref t ->
   ∃fd:FuncData,(∀(s:12)(u:11),BindsTo s fd #[[u],[]] [(x,u)]) /\
    ∀base:17,(K w.params).In base->base.Ns mainGlobals mg->FnOk l.prog w (K w.params) mg base (CX w) k t fd [x]^sp w)
  (A:∀(w:16)(H:Hp)(a:13)(p:6 8),-p≤n->Gm H->j3 (K w.params) H a^p.map V.int->sp w [.ref a] H (λv Z=>v=.d W) λZ Z Z=>False)
  (C:∀(w:16)(H:Hp)(s:12)(e:11)(s':12),CX w [] H s (λZ Z Z=>False) e s'->False) :
  GG q m I g l.row.toRowW d [] (λf E=>PySem.call f E):=by
 calc Att.attach_call hn y λw D r mg mb t o pm cd L a E p G B ho hd hcd z j i b hg=>?_;let X:=Z1 w _ B;let(fd,Z0,M):=F w mg t _ X G.T.g z;calc IA X (N w) (T w _ B) G.T.g G.T.b G.T.builtins G.T.nolimit G.T.bmain hg j i (aH b S) hr M Z0 (λH Q R=>A w H a p b Q R) λH e s'=>C w H r e s'
theorem G6{l:GH}{n k:9}{q:18}{o:LS}{X:(SV)->17->5}{m:16->17->5}{d:DefRec}{K:Params->FG}{CX:Gw}{sp:FG->Sp}{x:Str}
  (y:l.most=Y n) (t:n≤sizeLine) (r:d.params.defaults=[]) (z:Room k callerA)
  (j:∀(w:16)(h:17),m w h->(K w.params).In h) (N:∀w:16,Ar^K w.params=W) (T:∀(w:16)(h:17),m w h->∀P ∈ cO^K w.params,h.get? P=Y^tj^10 []/\∃c,tf h c P)
  (F:∀(w:16) (mg:SV) (g:13) (h:17),(K w.params).In h->h.Ns mainGlobals mg->mg d.name=Y^.ref g ->
   ∃fd:FuncData,(∀(s:12)(u:11),BindsTo s fd #[[u],[]] [(x,u)]) /\
    ∀base:17,(K w.params).In base->base.Ns mainGlobals mg->FnOk l.prog w (K w.params) mg base CX k g fd [x] (sp^K w.params))
  (p:∀(K:FG)(H:Hp)(a:13)(b:6 8),-b≤n->Gm H->j3 K H a^b.map V.int->sp K [.ref a] H (λv Z=>v=.d W) λZ Z Z=>False)
  (C:∀(H:Hp)(s:12)(e:11)(s':12),CX [] H s (λZ Z Z=>False) e s'->False) :
  GG q o X m l.row.toRowW d [] (λf S=>PySem.call f S):=
 KO (K:=K) (CX:=λZ=>CX) (sp:=λw=>sp^K w.params) y t r z j N T F (λw H a b h1 h2 i=>p (K w.params) H a b h1 h2 i) λZ H s e s'=>C H s e s'
def i0(s:Stmt)(j:9):Stmt:=match s with
 | .ClassDef _ _ _ b _ _ _ _ _ _ _=>b.getD j^.Pass #[(0),(0),(0),(0)]
 |_=>.Pass #[(0),(0),(0),(0)]
def jF(s:Stmt):Arguments:=match s with
 | .FunctionDef _ a _ _ _ _ _ _ _ _=>a
 |_=>{ posonlyargs:=[],args:=[],vararg:=Z,kwonlyargs:=[],kw_defaults:=[],kwarg:=Z,defaults:=[] }
def gi(s:Stmt):6 Stmt:=match s with
 | .FunctionDef _ _ b _ _ _ _ _ _ _=>b
 |_=>[]
def bJ(s:Stmt):Scope:=match s with
 | .FunctionDef _ _ _ _ _ _ sc _ _ _=>sc
 |_=>{ kind:=.function,names:=[],isGenerator:=Xk,isCoroutine:=Xk }
noncomputable abbrev qJ:Gw:=λz z z z z z=>False
noncomputable abbrev E0:XK:=λz z z=>False
theorem tZ:oz qJ X E0:=λz z z z z z z h=>h.elim
structure Fun(K:FG)(x qual:Str)(st:Stmt)(f:13)(fd:FuncData):5 where
 ex:X7 λ(oc:11)(od:7 13)(dV kV doc pm:11)(an:7 13)(cdv ct:11)(osl:Array^OV)=>
  fd=kt x qual (jF st) (gi st) (bJ st) dV kV doc pm an cdv ct/\K.lookup f=Y #[oc,od,.func fd,osl]/\ku K cdv qual=W
 kp:eT K^.ref f=W
section
variable{P:18}{w:16}{K:FG}{mg:SV}{base:17}
theorem Je{x q:Str}{st:Stmt}{f:13}{h:11}{e a:7 13}{s:Array^OV}{V kV o p d t:11}(l:K.lookup f=Y #[h,e,.func^kt x q (jF st) (gi st) (bJ st) V kV o p a d t,s])
  (c:ku K d q=W) (k:eT K^.ref f=W):Fun K x q st f^kt x q (jF st) (gi st) (bJ st) V kV o p a d t:=#[#[h,e,V,kV,o,p,a,d,t,s,0,l,c],k]
end
section
variable{X:Cx}
end
abbrev KN:6 (PyData×V×V)->6 (PyData×13×11)->5:=Paired λp q=>p.1=q.1/\p.2.1=V.ref q.2.1/\RelV p.2.2 q.2.2
def kE(h:17)(d:PyData)(v:V):5:=∃b,v=.ref b/\Nk.kd d=W/\d.depth≤08/\∃as,Reads h (.ref b) d as
def qq(x5:6 (PyData×V×V))(d:PyData):15:=x5.any λp=>decide<|p.1=d
section
variable{P:18}{w:16}{H:Hp}{h:17}{a:13}
def KN.has(r:KN x5 xs)(d:PyData):(atKey xs d).isSome=qq x5 d:=by
 induction r with
 |nil=>rfl
 | @cons p q ps qs h t i=>
  unfold qq at i ⊢;rw[cV];by_cases e:p.1=d
  .have x:q.1=d:=h.1.symm.trans e;simp[atKey,iP,e,x]
  .have x:¬q.1=d:=λz=>e^h.1.trans z;rw[bK e,ly,<- i];simp[atKey,iP,x]
def zG(ok:kF P w H h)(e:H a=Y^.dN x5)(ks:∀p ∈ x5,kE h p.1 p.2.1):-x5≤sizeLine/\(a == sysModules)=Xk/\∃xs,KN x5 xs/\h.DictOfH (Nk.nest P w) a xs:=by
 let(z,y,xs,r,o,es,ep,h1,h2,h3,h4,h5):=(dL P w H h a^.dN x5|>ok a _ e);calc#[z,y,xs,r,o,es,ep,h1,h2,h3,h4,?_,h5];clear h4 h5 e z;induction r with
 |nil=>calc λx hx=>nomatch hx
 | @cons p q ps qs hq t ih=>
  intro x hx;rcases a8.mp hx with rfl|hx
  .let(b,e1,k,l,as,rd):=ks p aA;let e2:=hq.2.1;rw[e1]at e2;ext e2;rw[<- hq.1];exact#[k,l,as,rd]
  .calc ih (λp hp=>ks p^aC _ hp) x hx
end
section
variable{X:Cx}{x4:PN}{J:St}{H:Hp}{s:12}{a:13}{d:PyData}{y v:V}{u r:11}{A:Around}{E:VP}{x5:6 (PyData×V×V)}
def LU(hu:A.units+09 < cLine)(I:Inv X x4 J H s)(e:H a=Y^.dN x5)(ks:∀p ∈ x5,kE s.heap p.1 p.2.1)(ky:kE s.heap d y)(ry:RelV y u)(h:∀s',Inv X x4 J H s'->Q (.bool<|!qq x5 d) s') :
  wpAny (model X.p X.w) A (compareOp .NotIn u^.ref a) Q E s:=by
 let(b,0,k):=ky;cases (u=Value.ref b|>ry);let(z,hd,xs,rel,dd):=zG I.h e ks;calc wpAny_notIn_heap (knd:=Nk.nest X.p X.w) ((A.in1).units+08 < cLine|>by rw[ka];lia) k hd dd ?_;rw[rel.has];calc h _^I.tok _
def Na(hu:A.units+09 < cLine)(I:Inv X x4 J H s)(e:H a=Y^.dN x5)(ks:∀p ∈ x5,kE s.heap p.1 p.2.1)(ky:kE s.heap d y)(ry:RelV y u)(rv:RelV v r)(new:qq x5 d=Xk)(hl:-x5 < sizeLine)
  (h:∀s',Inv X x4 J (cc H a<|.dN<|x5++[(d,y,v)]) s'->Q PUnit.unit s'):wpAny (model X.p X.w) A (setItem (.ref a) u r) Q E s:=by
 let(b,0,k):=ky;cases (u=Value.ref b|>ry);let(z,hd,xs,rel,dd):=zG I.h e ks;have hz:-xs≤sizeLine:=by rw[<- Paired.length rel];exact z
 calc Ak (knd:=Nk.nest X.p X.w) (hsz:=hz) ((A.in1).units+08 < cLine|>by rw[ka];lia) k dd λh' dd' hs=>h _ ?_;have nn:atKey xs d=Z:=by have:=rel.has d;rw[new]at this;exists this
 rw[storedH_new nn]at dd';let(q,es,ep,hq,h2,h3,h4,_,h5):=dd';calc pF I (by rw[e];calc True.intro) hs #[q,hq] #[by simp;lia,hd,_,Paired.snoc rel #[0,0,rv],q,es,ep,hq,h2,h3,h4,h5]
end
theorem Jn(h:17)(b:sysModules < h.objs.size):dL P w H (h.push { cls:=.type "dict",data:=.dict^10 [] }) h.objs.size^.dN []:=
 #[cS _,jA.mpr^b9^bS b,[],.nil,_,(10 []),(0),bO _ rfl,#[0,0,0],0,0,sj]
end L2
set_option tactic.hygienic true
namespace PySem
open PySem PyProof.Rows
namespace F
theorem entry_dict_update_loop:entryFor table "dict.update.loop"=Y Builtin.«dict.update.loop»:=entryFor_of_tree (by kernel_rfl)
def plain_dict_update_loop:plainId "dict.update.loop"=W:=by decide +kernel
def list_no_keys:typeLookup (.type "list") "keys"=pure Z:=by rw[Ad,Am];kernel_rfl
end F
section
variable{prog:18}{w:16}{A:Around}{E:VP}{s:12}
def A1 
  (hx:s.heap.get? a=Y o) (hc:o.cls=.type "list") (hdat:o.data=.seq xs k0) (hd:o.dict=Z) (hmiss:typeLookup (.type "list") name=pure Z) (hname:(["__module__","__name__","__qualname__","__doc__","__annotations__"]:LS).contains name=Xk) (hA:A.handled=Z)
  (h:∀h' tk,(∀b o,s.heap.get? b=Y o->h'.get? b=Y o)->Q Z { s with heap:=h',toks:=tk }) (hsz:-name+100≤sizeLine:=by size_fits) :
  wpAny (model prog w) A (getAttr? (.ref a) name) Q E s:=by
 let(c,dct,dat,sl):=o;simp only at hc hdat hd;subst hc hdat hd;let(hp,g,d,tk,os):=s;have hT:∀tk',(#[hp,g,d,tk',os]:12).TypeIs (.ref a) "list":=λz=>#[_,hx,0];let f1:=Dy;let f3:=wm.lookup;let f4:=wm.bind^.ref a;let f5:=am_list_getattr_none;have step:∀(tk1:9)(u:Tok)(Q1:VP)(E1:VP),(∀h' tk2 e,Co hp h' e (.ref a) name->E1 (.ref e) #[h',g,d,tk2,os]) ->
   wpAny (model prog w) A (call (Value.builtin "list.__getattribute__") ([Value.ref a]++[Value.str name u]) []) Q1 E1 #[hp,g,d,tk1,os]:=λtk1 u Q1 E1 k=>
  ji wm (hT _) am_entry_list_getattribute (F.args_list_getattribute_2 _ _) (meets_getattribute_miss_list a xs k0 sl name u hmiss hname hsz) #[hx,hA,k]
 unfold getAttr?;unfold getAttrBy?;unfold getAttrBy;repeat any_goals first|assumption|exact hT _|(with_reducible calc step _ _ _ _ λh' tk' e hx'=>?_)|wp_step
 let he:=hx'.there;let(t',u',he):=he;repeat any_goals first|assumption|wp_step
 calc h _ _ hx'.keeps
inductive PairsAt{K:Type}[DecidableEq K](knd:KeyKind prog w K)(h:17):LV->6 (K×11)->5
 |nil:PairsAt knd h [] []
 |cons {t:13}{key v:11}{k:K}{us:LV}{x5:6 (K×11)}:IsTup h t^10 [key,v]->knd.is k key=W->PairsAt knd h us x5->PairsAt knd h (.ref t::us) ((k,v)::x5)
end
end PySem
namespace Ev
open PySem L2
noncomputable abbrev xL(p:Pos):Arguments:={ posonlyargs:=[],args:=[{ arg:="standing",annotation:=Z,pos:=p }],vararg:=Z,kwonlyargs:=[],kw_defaults:=[],kwarg:=Z,defaults:=[] }
noncomputable abbrev xK(p q r t:Pos):14:=.Call (.Name "ends_on" p) [.Name "board" q,.Name "standing" r] [] t
noncomputable abbrev ri:Scope:={ kind:=.function,names:=[(Str.ofString "standing",.local),(Str.ofString "board",.free),(Str.ofString "ends_on",.globalImplicit)],isGenerator:=Xk,isCoroutine:=Xk,more:=[] }
abbrev zc(p x a e s:Pos)(c:13)(m:11)(h:13)(t:11):Obj:=PySem.W.kla_obj "<lambda>" A2 (xL p) (xK x a e s) ri [(Str.ofString "board",c)] m h t
inductive P where
 |n|d (b:15)|int (i:8)|str (x:Str)|u (xs:6 P)|l (xs:6 P)|ro (xs:6 P)|E (ks:6 cD) (vs:6 P)
inductive D where
 |p (v:P)|ref (i:9)
inductive SO where
 |l (xs:6 D)|E (ks:6 cD) (vs:6 D)|fz (v:P)|B (c:Str) (ks:LS) (vs:6 D)|C (ks:6 P) (vs:6 D)|fn (d:7 D)|q (ks:6^6 cD) (vs:6 D)
noncomputable abbrev aK:=6 SO
noncomputable abbrev Lc:=6^7 D
mutual
def pd:P->PyData
 | .n=>.none
 | .d b=>.bool b
 | .int i=>.int i
 | .str x=>.str x
 | .u xs=>.tuple^gM xs
 | .l xs=>.list^gM xs
 | .ro xs=>.list^gM xs
 | .E _ _=>.none
def gM:6 P->6 PyData
 | []=>[]
 |x::r=>pd x::gM r
end
def VU(K:FG)(a:13)(xs:6 V):5:=rK K (λz=>Z) a xs
def VV(K:FG)(a:13)(xs:6 V):5:=j3 K (λz=>Z) a xs
def TupAt(K:FG)(H:Hp)(a:13)(xs:6 V):5:=H a=Y^.u xs\/VU K a xs
def LstAt(F:Aa)(H:Hp)(a:13)(xs:6 V):5:=F a/\H a=Y^.l xs
def Gk(K:FG)(F:Aa)(H:Hp)(a:13)(xs:6 V):5:=(F a/\∃o,H a=Y (.frz o^.l xs))\/VV K a xs
variable{K:FG}{H:Hp}{a:13}{xs:6 V}
def TupAt.sq(h:TupAt K H a xs):rK K H a xs:=by
 rcases h with h|(h|h)
 .exact .inl^.inl h
 .rcases h with h|⟨o,h⟩<;>ext h
 .calc .inr h
variable{F:Aa}
theorem LstAt.sq(h:LstAt F H a xs):j3 K H a xs:=.inl^.inl h.2
def Gk.sq(h:Gk K F H a xs):j3 K H a xs:=by
 rcases h with ⟨_,o,h⟩|(h|h)
 .exact .inl^.inr #[o,h]
 .rcases h with h|⟨o,h⟩<;>ext h
 .calc .inr h
section
variable(K:FG)(F:Aa)(H:Hp)
mutual
def RP:P->V->5
 | .n,v=>v=.n
 | .d b,v=>v=.d b
 | .int i,v=>v=.int i
 | .str x,v=>v=.str x
 | .u ds,v=>X0 λa xs=>v=.ref a/\TupAt K H a xs/\cF ds xs
 | .l ds,v=>X0 λa xs=>v=.ref a/\LstAt F H a xs/\cF ds xs
 | .ro ds,v=>X0 λa xs=>v=.ref a/\Gk K F H a xs/\cF ds xs
 | .E ks ds,v=>X0 λa x5=>v=.ref a/\F a/\H a=Y^.dK x5/\x5.map (·.1)=ks/\cF ds^x5.map (·.2)
def cF:6 P->6 V->5
 | [],xs=>xs=[]
 |d::ds,xs=>X0 λx r=>xs=x::r/\RP d x/\cF ds r
end
def RD(m:6 13):D->V->5
 | .p d,v=>RP K F H d v
 | .ref i,v=>∃a,v=.ref a/\m[i]? = Y a
def c7(m:6 13):6 D->6 V->5
 | [],xs=>xs=[]
 |d::s,xs=>X0 λx r=>xs=x::r/\RD K F H m d x/\c7 m s r
inductive FnI(H:Hp)(a:13)(v:V):5
 |mk (p1 p2 p3 p4 p5:Pos) (cr c' P:13) (o oc:Obj) (pm ctv ub:11) (f:H a=Y (.frz (zc p1 p2 p3 p4 p5 cr pm c' ctv)^.own a)) (c:H cr=Y (.frz o^.own cr)) (d:o.data=.cell^Y ub) (r:RelV v ub) (e:H c'=Y (.frz oc^.own P)) (l:A7 oc):FnI H a v
def RO(m:6 13)(a:13):SO->5
 | .l s=>∃xs,H a=Y^.l xs/\c7 K F H m s xs
 | .E h s=>∃k,H a=Y^.dK k/\k.map (·.1)=h/\c7 K F H m s^k.map (·.2)
 | .fz v=>RP K F H v^.ref a
 | .B c h s=>X1 λC x k=>pY K mainGlobals c=Y (Y^.ref C)/\H a=Y^.B C x k/\k.map (·.1)=h/\c7 K F H m s^k.map (·.2)
 | .C h s=>∃k,H a=Y^.dN k/\k.map (·.1)=gM h/\cF K F H h^k.map (·.2.1)/\c7 K F H m s^k.map (·.2.2)
 | .fn o=>∀d,o=Y d->∃v,FnI H a v/\RD K F H m d v
 | .q h s=>∃k,H a=Y^.dT k/\k.map (·.1)=h/\c7 K F H m s^k.map (·.2)
def SO.own:SO->5
 | .fz _=>False
 | .fn _=>False
 |_=>True
structure Rel(m:6 13)(S:aK):5 where
 len:-m=-S
 nd:m.Nodup
 obj:∀(i:9) a o,m[i]? = Y a->S[i]? = Y o->RO K F H m a o
 sep:∀(i:9) a o,m[i]? = Y a->S[i]? = Y o->o.own->¬F a
 trk:∀a ∈ m,H a≠Z
 ft:∀a,F a->H a≠Z
end
structure Kp(F:Aa)(m:6 13)(H:Hp)(F':Aa)(m':6 13)(H':Hp):5 where
 pre:∃n,m'=m++n
 frz:∀b,F b->F' b
 frk:∀b o,F b->H b=Y o->H' b=Y o
 tup:∀b xs,H b=Y^.u xs->H' b=Y (.u xs)
 cod:∀b o u,H b=Y (.frz o^.own u)->H' b=Y (.frz o^.own u)
structure Stp(F:Aa)(m:6 13)(H:Hp)(F':Aa)(m':6 13)(H':Hp):5 where
 pre:∃n,m'=m++n
 oth:∀b o,H b=Y o->b ∉ m->H' b=Y o
 frz:∀b,F b->F' b
 frk:∀b o,F b->H b=Y o->H' b=Y o
 tup:∀b xs,H b=Y^.u xs->H' b=Y (.u xs)
 trk:∀b,H b≠Z->H' b≠Z
 nf:∀b,F' b->F b\/H b=Z\/b ∈ m
 nm:∀b,b ∈ m'->b ∈ m\/H b=Z
 cod:∀b o u,H b=Y (.frz o^.own u)->H' b=Y (.frz o^.own u)
variable{F':Aa}{m:6 13}{m':6 13}{H':Hp}
theorem Stp.kp(s:Stp F m H F' m' H'):Kp F m H F' m' H':=#[s.pre,s.frz,s.frk,s.tup,s.cod]
theorem Stp.refl:Stp F m H F m H:=
 #[#[[],∅],λz z h z=>h,λz h=>h,λz z z h=>h,λz z h=>h,λz h=>h,λz h=>.inl h,λz h=>.inl h,λz z z h=>h]
def Stp.trans(a:Stp F m H C r z)(b:Stp C r z B t I):Stp F m H B t I where
 pre:=by let(f,n):=a.pre;let(p,k):=b.pre;exact#[f++p,by rw[k,n,dS]]
 oth:=λc o h s=>b.oth c o (a.oth c o h s) λx=>by
  rcases a.nm c x with x|x
  .exact s x
  .rw [h]at x;ext x
 frz:=λc h=>b.frz c (a.frz c h)
 frk:=λc o h e=>b.frk c o (a.frz c h) (a.frk c o h e)
 tup:=λc xs h=>b.tup c xs (a.tup c xs h)
 cod:=λc o u h=>b.cod c o u (a.cod c o u h)
 trk:=λc h=>b.trk c (a.trk c h)
 nf:=λc h=>by
  rcases b.nf c h with h|h|h
  .exact a.nf c h
  .by_cases e:H c=Z
   .exact .inr^.inl e
   .exact absurd h^a.trk c e
  .rcases a.nm c h with h|h
   .exact .inr^.inr h
   .exact .inr (.inl h)
 nm:=λc h=>by
  rcases b.nm c h with h|h
  .exact a.nm c h
  .by_cases e:H c=Z
   .exact .inr e
   .calc absurd h^a.trk c e
section
variable{K:FG}{F F':Aa}{H H':Hp}{m m':6 13}{S N:aK}
def TupAt.kp(s:Kp F m H F' m' H')(h:TupAt K H a xs):TupAt K H' a xs:=by
 rcases h with h|h
 .exact .inl^s.tup _ _ h
 .calc .inr h
theorem LstAt.kp(s:Kp F m H F' m' H')(h:LstAt F H a xs):LstAt F' H' a xs:=#[s.frz _ h.1,s.frk _ _ h.1 h.2]
def Gk.kp(s:Kp F m H F' m' H')(h:Gk K F H a xs):Gk K F' H' a xs:=by
 rcases h with ⟨f,o,h⟩|h
 .exact .inl #[s.frz _ f,o,s.frk _ _ f h]
 .calc .inr h
mutual
theorem RP.kp(s:Kp F m H F' m' H'):∀{d:P}{v:V},RP K F H d v->RP K F' H' d v
 | .n,_,h=>h
 | .d _,_,h=>h
 | .int _,_,h=>h
 | .str _,_,h=>h
 | .u _,_,h=>by let(a,xs,e,t,r):=h;calc#[a,xs,e,t.kp s,cF.kp s r]
 | .l _,_,h=>by let(a,xs,e,t,r):=h;calc#[a,xs,e,t.kp s,cF.kp s r]
 | .ro _,_,h=>by let(a,xs,e,t,r):=h;calc#[a,xs,e,t.kp s,cF.kp s r]
 | .E _ _,_,h=>by let(a,x5,e,f,t,k,r):=h;calc#[a,x5,e,s.frz _ f,s.frk _ _ f t,k,cF.kp s r]
theorem cF.kp(s:Kp F m H F' m' H'):∀{ds:6 P}{xs:6 V},cF K F H ds xs->cF K F' H' ds xs
 | [],_,h=>h
 |_::_,_,h=>by let(x,r,e,h1,h2):=h;calc#[x,r,e,RP.kp s h1,cF.kp s h2]
end
theorem RD.kp(s:Kp F m H F' m' H'):∀{d:D}{v:V},RD K F H m d v->RD K F' H' m' d v
 | .p _,_,h=>RP.kp s h
 | .ref i,_,h=>by let(a,e,h):=h;let(n,x):=s.pre;calc#[a,e,?_];rw[x];have k:i < -m:=(bP.mp h).1;rw[cG k];calc h
theorem c7.kp(s:Kp F m H F' m' H'):∀{d:6 D}{xs:6 V},c7 K F H m d xs->c7 K F' H' m' d xs
 | [],_,h=>h
 |_::_,_,h=>by let(x,r,e,a,n):=h;calc#[x,r,e,RD.kp s a,c7.kp s n]
variable{d:P}{v:V}
theorem RP.mono(s:Stp F m H F' m' H')(h:RP K F H d v):RP K F' H' d v:=RP.kp s.kp h
theorem cF.mono(s:Stp F m H F' m' H'){d:6 P}{v:6 V}(h:cF K F H d v):cF K F' H' d v:=cF.kp s.kp h
theorem RD.mono(s:Stp F m H F' m' H'){d:D}{v:V}(h:RD K F H m d v):RD K F' H' m' d v:=RD.kp s.kp h
theorem c7.mono(s:Stp F m H F' m' H'){d:6 D}{v:6 V}(h:c7 K F H m d v):c7 K F' H' m' d v:=c7.kp s.kp h
theorem cF.length:∀{d:6 P}{xs:6 V},cF K F H d xs->-d=-xs
 | [],_,h=>by rw[_=([]:6 V)|>h]<;>rfl
 |_::_,_,h=>by let(x,r,e,_,a):=h;rw[e,aP,aP,cF.length a]
theorem c7.length:∀{d:6 D}{xs:6 V},c7 K F H m d xs->-d=-xs
 | [],_,h=>by rw[_=([]:6 V)|>h]<;>rfl
 |_::_,_,h=>by let(x,r,e,_,a):=h;rw[e,aP,aP,c7.length a]
theorem cF.get:∀{s:6 P}{xs:6 V}{i:9}{d:P},cF K F H s xs->s[i]? = Y d->∃x,xs[i]? = Y x/\RP K F H d x
 | [],_,_,_,_,e=>by simp at e
 |_::_,_,0,_,h,e=>by let(x,r,0,n,_):=h;simp at e;subst e;calc#[x,0,n]
 |_::_,_,i+1,d,h,e=>by let(x,r,0,_,k):=h;let(y,a,f):=cF.get (i:=i) k (by exists e);calc#[y,by simpa using a,f]
theorem cF.append:∀{d l:6 P}{xs y:6 V},cF K F H d xs->cF K F H l y->cF K F H (d++l) (xs++y)
 | [],_,_,_,h,g=>by rw[_=([]:6 V)|>h];calc g
 |_::_,_,_,_,h,g=>by let(x,r,0,a,e):=h;calc#[x,r++_,0,a,cF.append e g]
theorem c7.append:∀{d l:6 D}{xs y:6 V},c7 K F H m d xs->c7 K F H m l y->c7 K F H m (d++l) (xs++y)
 | [],_,_,_,h,g=>by rw[_=([]:6 V)|>h];calc g
 |_::_,_,_,_,h,g=>by let(x,r,0,a,e):=h;calc#[x,r++_,0,a,c7.append e g]
theorem cF.take:∀(n:9){d:6 P}{xs:6 V},cF K F H d xs->cF K F H (d.take n)^xs.take n
 |0,_,_,_=>rfl
 |_+1,[],_,h=>by rw[_=([]:6 V)|>h];rfl
 |n+1,_::_,_,h=>by let(x,r,0,a,e):=h;calc#[x,r.take n,0,a,cF.take n e]
theorem cF.drop:∀(n:9){d:6 P}{xs:6 V},cF K F H d xs->cF K F H (d.drop n)^xs.drop n
 |0,_,_,h=>h
 |_+1,[],_,h=>by rw[_=([]:6 V)|>h];rfl
 |n+1,_::_,_,h=>by let(x,r,0,_,a):=h;calc cF.drop n a
theorem c7.take:∀(n:9){d:6 D}{xs:6 V},c7 K F H m d xs->c7 K F H m (d.take n)^xs.take n
 |0,_,_,_=>rfl
 |_+1,[],_,h=>by rw[_=([]:6 V)|>h];rfl
 |n+1,_::_,_,h=>by let(x,r,0,a,e):=h;calc#[x,r.take n,0,a,c7.take n e]
theorem c7.get:∀{s:6 D}{xs:6 V}{i:9}{d:D},c7 K F H m s xs->s[i]? = Y d->∃x,xs[i]? = Y x/\RD K F H m d x
 | [],_,_,_,_,e=>by simp at e
 |_::_,_,0,_,h,e=>by let(x,r,0,n,_):=h;simp at e;subst e;calc#[x,0,n]
 |_::_,_,i+1,d,h,e=>by let(x,r,0,_,k):=h;let(y,a,f):=c7.get (i:=i) k (by exists e);calc#[y,by simpa using a,f]
theorem c7.ofP:∀{d:6 P}{xs:6 V},cF K F H d xs->c7 K F H m (d.map .p) xs
 | [],_,h=>h
 |_::_,_,h=>by let(x,r,e,a,s):=h;calc#[x,r,e,a,c7.ofP s]
variable{p:13}
theorem Rel.fresh_m(r:Rel K F H m S)(h:H p=Z):p ∉ m:=λz=>r.trk p z h
theorem Rel.fresh_F(r:Rel K F H m S)(h:H p=Z):¬F p:=λz=>r.ft p z h
variable{o:HO}
theorem gY(x:H p=Z):Stp F m H F m^cc H p o where
 pre:=#[[],∅]
 oth:=λb u h y=>by rw[aE (by rintro rfl;rw[x]at h;ext h)];exact h
 frz:=λy h=>h
 frk:=λb u y h=>by rw[aE (by rintro rfl;rw[x]at h;ext h)];exact h
 tup:=λb u h=>by rw[aE (by rintro rfl;rw[x]at h;ext h)];exact h
 cod:=λb u w h=>by rw[aE (by rintro rfl;rw[x]at h;ext h)];exact h
 trk:=λb h=>by
  by_cases e:b=p
  .subst e;rw[aO];exact λz=>nomatch z
  .rw [aE e];exact h
 nf:=λy h=>.inl h
 nm:=λy h=>.inl h
def RO.kp(s:Kp F m H F' m' H'){a:13}{o:SO}(k:∀u,H a=Y u->H' a=Y u)(h:RO K F H m a o):RO K F' H' m' a o:=by
 cases o with
 |l b=>let(xs,e,r):=h;calc#[xs,k _ e,c7.kp s r]
 |E p b=>let(x,e,f,r):=h;calc#[x,k _ e,f,c7.kp s r]
 |fz v=>calc RP.kp s (RP K F H v^.ref a|>h)
 |B c p b=>let(C,g,x,n,e,f,r):=h;calc#[C,g,x,n,k _ e,f,c7.kp s r]
 |q p b=>let(x,e,f,r):=h;calc#[x,k _ e,f,c7.kp s r]
 |fn Q=>intro d hd;let(v,(B,D,E,G,I,w,q,P,o,A,L,t,N,i,j,l,y,z,S),r):=h d hd;calc#[v,#[B,D,E,G,I,w,q,P,o,A,L,t,N,s.cod _ _ _ i,s.cod _ _ _ j,l,y,s.cod _ _ _ z,S],r.kp s]
 |C p b=>let(x,e,f,M,r):=h;calc#[x,k _ e,f,cF.kp s M,c7.kp s r]
theorem RO.mono(s:Stp F m H F' m' H'){a:13}{o:SO}(k:∀u,H a=Y u->H' a=Y u)(h:RO K F H m a o):RO K F' H' m' a o:=RO.kp s.kp k h
theorem Rel.stayK(r:Rel K F H m S)(s:Kp F m H F' m H')(k:∀a u,a ∈ m->H a=Y u->H' a=Y u)(n:∀a,F' a->F a\/H a=Z)(t:∀a,F' a->H' a≠Z):Rel K F' H' m S where
 len:=r.len
 nd:=r.nd
 obj:=λi a o e x=>(r.obj i a o e x).kp s λu h=>k a u (bq e) h
 sep:=λi a o e x w f=>by
  rcases n a f with f|f
  .exact r.sep i a o e x w f
  .exact r.trk a (bq e) f
 trk:=λa h=>by
  cases q:H a with
  |none=>calc absurd q^r.trk a h
  |some u=>rw[k a u h q];exact λz=>nomatch z
 ft:=t
theorem Rel.stay(r:Rel K F H m S)(s:Stp F m H F' m H')(k:∀a u,a ∈ m->H a=Y u->H' a=Y u)(n:∀a,F' a->F a\/H a=Z)(t:∀a,F' a->H' a≠Z):Rel K F' H' m S where
 len:=r.len
 nd:=r.nd
 obj:=λi a o e x=>(r.obj i a o e x).mono s λu h=>k a u (bq e) h
 sep:=λi a o e x w f=>by
  rcases n a f with f|f
  .exact r.sep i a o e x w f
  .exact r.trk a (bq e) f
 trk:=λa h=>s.trk a (r.trk a h)
 ft:=t
theorem Rel.new(r:Rel K F H m S)(x:H p=Z):Rel K F (cc H p o) m S:=
 r.stay (gY x) (λa u e h=>by rw[aE (by rintro rfl;calc r.fresh_m x e)];calc h) (λz f=>.inl f) λa f=>(gY (F:=F) (m:=m) x).trk a^r.ft a f
theorem df{p:13}{o:HO}(x:H p=Z):Stp F m H F (m++[p])^cc H p o where
 pre:=#[[p],0]
 oth:=(gY (F:=F) (m:=m) (o:=o) x).oth
 frz:=λz h=>h
 frk:=(gY (F:=F) (m:=m) (o:=o) x).frk
 tup:=(gY (F:=F) (m:=m) (o:=o) x).tup
 cod:=(gY (F:=F) (m:=m) (o:=o) x).cod
 trk:=(gY (F:=F) (m:=m) (o:=o) x).trk
 nf:=λz h=>.inl h
 nm:=λb h=>by
  rcases cj.mp h with h|h
  .exact .inl h
  .have:b=p:=by exists h
   subst this;calc .inr x
def Rel.own(r:Rel K F H m S){p:13}{o:HO}{c:SO}(n:H p=Z)(v:RO K F (cc H p o) (m++[p]) p c):Rel K F (cc H p o) (m++[p]) (S++[c]) where
 len:=by rw[bo,bo,r.len];rfl
 nd:=by
  rw[j_];calc#[r.nd,∅,λa t b q e=>?_];have:b=p:=by exists q
  subst this;subst e;exact r.fresh_m n t
 obj:=λi a u x s=>by
  by_cases k:i < (-m)
  .rw [cG k]at x;rw[cG (by rw[<- r.len];calc k)]at s;exact(r.obj i a u x s).mono (df n) λw h=>by rw[aE (by rintro rfl;rw[n]at h;ext h)];exact h
  .have l:i=-m:=by
    have:=(bP.mp x).1;rw[bo]at this;simp at this;lia
   subst l;rw[bZ^ar _]at x;rw[r.len,bZ^ar _]at s;simp at x s;subst x;subst s;exact v
 sep:=λi a u x s w f=>by
  by_cases k:i < (-m)
  .rw [cG k]at x;rw[cG (by rw[<- r.len];calc k)]at s;exact r.sep i a u x s w f
  .have l:i=-m:=by
    have:=(bP.mp x).1;rw[bo]at this;simp at this;lia
   subst l;rw[bZ^ar _]at x;simp at x;subst x;exact r.fresh_F n f
 trk:=λa h=>by
  rcases cj.mp h with h|h
  .exact (df (F:=F) (m:=m) n).trk a^r.trk a h
  .have:a=p:=by exists h
   subst this;rw[aO];exact λz=>nomatch z
 ft:=λa f=>(df (F:=F) (m:=m) n).trk a^r.ft a f
variable{i:9}
theorem gf(r:Rel K F H m S)(s:m[i]? = Y p)(n:S[i]? = Y k)(hw:k.own)(t:∀xs,H p≠Y^.u xs):Stp F m H F m^cc H p o where
 pre:=#[[],∅]
 oth:=λb u h c=>by rw[aE (by rintro rfl;calc c^bq s)];exact h
 frz:=λy h=>h
 frk:=λb u f h=>by rw[aE (by rintro rfl;calc r.sep i _ k s n hw f)];exact h
 tup:=λb xs h=>by rw[aE (by rintro rfl;calc t xs h)];exact h
 cod:=λb x u h=>by
  rw[aE ?_];calc h;rintro rfl;let a:=r.obj i b k s n;cases k with
  |fz _=>calc hw
  |fn _=>calc hw
  |l _=>let(_,e,_):=a;rw[h]at e;ext e
  |E _ _=>let(_,e,_):=a;rw[h]at e;ext e
  |B _ _ _=>let(_,_,_,_,e,_):=a;rw[h]at e;ext e
  |C _ _=>let(_,e,_):=a;rw[h]at e;ext e
  |q _ _=>let(_,e,_):=a;rw[h]at e;ext e
 trk:=λb h=>by
  by_cases e:b=p
  .subst e;rw[aO];exact λz=>nomatch z
  .rw [aE e];exact h
 nf:=λy h=>.inl h
 nm:=λy h=>.inl h
def y4(h:m.Nodup)(e:m[i]? = Y a)(x:m[k]? = Y a):i=k:=by calc(List.getElem?_inj (bP.mp e).1 h).mp^e.trans x.symm
def Rel.set(r:Rel K F H m S){i:9}{p:13}{c b:SO}{o:HO}(s:m[i]? = Y p)(k:S[i]? = Y c)(hw:c.own)(t:∀xs,H p≠Y^.u xs)(q:RO K F (cc H p o) m p b) :
  Rel K F (cc H p o) m (S.set i b) where
 len:=by rw[de];exact r.len
 nd:=r.nd
 obj:=λj a u e x=>by
  by_cases n:i=j
  .subst n;rw[s]at e;ext e;rw[bY (by calc(bP.mp k).1)]at x;ext x;exact q
  .rw [aV n]at x;exact(r.obj j a u e x).mono (gf r s k hw t) λw h=>by rw[aE (by rintro rfl;calc n^y4 r.nd s e)];exact h
 sep:=λj a u e x w f=>by
  by_cases n:i=j
  .subst n;rw[s]at e;ext e;exact r.sep i p c s k hw f
  .rw [aV n]at x;exact r.sep j a u e x w f
 trk:=λa h=>(gf (o:=o) r s k hw t).trk a (r.trk a h)
 ft:=λa f=>(gf (o:=o) r s k hw t).trk a^r.ft a f
theorem xt(x:p ∈ m):Stp F m H (λb=>F b\/b=p) m H:=
 #[#[[],∅],fun _ _ h _=>h,fun _ h=>.inl h,fun _ _ _ h=>h,fun _ _ h=>h,fun _ h=>h,fun b h=>by
  rcases h with h|h
  .exact .inl h
  .subst h;calc .inr^.inr x,λz h=>.inl h,λz z z h=>h]
def Rel.frz(r:Rel K F H m S){i:9}{p:13}{c:SO}{v:P}(n:m[i]? = Y p)(k:S[i]? = Y c)(o:RP K (λb=>F b\/b=p) H v^.ref p):Rel K (λb=>F b\/b=p) H m (S.set i^.fz v) where
 len:=by rw[de];exact r.len
 nd:=r.nd
 obj:=λj a u x e=>by
  by_cases s:i=j
  .subst s;rw[n]at x;ext x;rw[bY (by calc(bP.mp k).1)]at e;ext e;exact o
  .rw [aV s]at e;exact(r.obj j a u x e).mono (xt^bq n) λw h=>h
 sep:=λj a u x e w f=>by
  by_cases s:i=j
  .subst s;rw[bY (by calc(bP.mp k).1)]at e;ext e;exact w
  .rw [aV s]at e;rcases f with f|f
   .exact r.sep j a u x e w f
   .subst f;exact s (y4 r.nd n x)
 trk:=r.trk
 ft:=λa f=>by
  rcases f with f|f
  .exact r.ft a f
  .subst f;calc r.trk _^bq n
end
noncomputable abbrev EE:=Lc->aK->7 (D×aK)
noncomputable abbrev uK:=7<|D×aK
noncomputable abbrev EV:=Lc->aK->7 (P×aK)
noncomputable abbrev tyV:=7<|P×aK
noncomputable abbrev EB:=Lc->aK->7 (15×aK)
noncomputable abbrev Qu:=7<|15×aK
noncomputable abbrev lf:=Lc->aK->7 (6 P×aK)
noncomputable abbrev Ha:=7<|6 P×aK
inductive Fl where
 |nx|rt (d:D)|bk|ct
noncomputable abbrev ES:=Lc->aK->7 (Fl×Lc×aK)
noncomputable abbrev DN:=7<|Fl×Lc×aK
variable{α:Type}{β:Type}
def bw(x:7 (α×aK))(f:α->aK->7 β):7 β:=match x with
 |some (a,S)=>f a S
 |none=>Z
@[simp] theorem aq(a:α)(S:aK)(f:α->aK->7 β):bw (Y (a,S)) f=f a S:=rfl
@[simp] theorem Tp(f:α->aK->7 β):bw Z f=Z:=rfl
def al{α β:Type}{x:7 (α×aK)}{f:α->aK->7 β}{r:β}(h:bw x f=Y r):X0 λa S=>x=Y (a,S)/\f a S=Y r:=by
 cases x with
 |none=>ext h
 |some p=>calc#[p.1,p.2,0,h]
def uP(f:D->aK->7 (P×aK)):6 D->aK->7 (6 P×aK)
 | [],S=>Y ([],S)
 |d::r,S=>bw (f d S) λv h=>bw (uP f r h) λT x=>Y (v::T,x)
def toP:9->D->aK->7 (P×aK)
 |_,.p v,S=>Y (v,S)
 |0,.ref _,_=>Z
 |n+1,.ref i,S=>match S[i]? with
  |some (.l d)=>bw (uP (toP n) d S) λT h=>Y (.l T,h.set i^.fz^.l T)
  |some (.E k d)=>bw (uP (toP n) d S) λT h=>Y (.E k T,h.set i^.fz^.E k T)
  |some (.fz v)=>Y (v,S)
  |some (.B _ _ _)=>Z
  |some (.C _ _)=>Z
  |some (.q _ _)=>Z
  |some (.fn _)=>Z
  |none=>Z
@[simp] theorem Rm(n:9)(v:P)(S:aK):toP n (.p v) S=Y (v,S):=by ext n<;>rfl
theorem m7(n:9):∀(T:6 P)(S:aK),uP (toP n) (T.map .p) S=Y (T,S)
 | [],_=>rfl
 |v::r,S=>by simp[uP,m7 n r S]
variable{n:9}{S:aK}{T:6 P}
def dw(h:S[i]? = Y (.l^T.map .p)):toP (n+1) (.ref i) S=Y (.l T,S.set i^.fz^.l T):=by simp[toP,h,m7]
section
variable{K:FG}{F:Aa}{H:Hp}{m:6 13}{S N:aK}
theorem xH 
  (n:∀{d:D}{x:V}{v:P}{F:Aa}{S N:aK},f d S=Y (v,N)->Rel K F H m S->RD K F H m d x->∃F',Stp F m H F' m H/\Rel K F' H m N/\-N=-S/\RP K F' H v x) :
  ∀{s:6 D}{xs:6 V}{T:6 P}{F:Aa}{S N:aK},uP f s S=Y (T,N)->Rel K F H m S->c7 K F H m s xs->∃F',Stp F m H F' m H/\Rel K F' H m N/\-N=-S/\cF K F' H T xs
 | [],xs,T,F,S,N,h,r,a=>by ext h;calc#[F,.refl,r,0,a]
 |d::s,xs,T,F,S,N,h,r,a=>by let(x,y,e,p,q):=a;let(v,z,c,h):=al h;let(A,o,t,h):=al h;ext h;let(C,k,i,l,u):=n c r p;let(B,b,j,w,g):=xH n t i^c7.mono k q;calc#[B,k.trans b,j,w.trans l,x,y,e,RP.mono b u,g]
theorem p_:∀(n:9){d:D}{x:V}{v:P}{F:Aa}{S N:aK},toP n d S=Y (v,N)->Rel K F H m S->RD K F H m d x->∃F',Stp F m H F' m H/\Rel K F' H m N/\-N=-S/\RP K F' H v x
 |n,.p w,x,v,F,S,N,h,r,u=>by rw[Rm]at h;ext h;calc#[F,.refl,r,0,u]
 |0,.ref i,x,v,F,S,N,h,r,u=>by ext h
 |n+1,.ref i,x,v,F,S,N,h,r,u=>by
  let(a,e,f):=u;subst e;have p:i < -S:=by rw[<- r.len];exact(bP.mp f).1
  obtain⟨o,L⟩:∃o,S[i]? = Y o:=#[S[i],by simp[p]];let z:=r.obj i a o f L;rwa[toP,L]at h;cases o with
  |fz w=>ext h;calc#[F,.refl,r,0,z]
  |B c M I=>ext h
  |C _ _=>ext h
  |q _ _=>ext h
  |fn _=>ext h
  |l I=>let(T,t,g,h):=al h;ext h;let(xs,j,E):=z;let(C,G,B,l,A):=xH (λh=>p_ n h) g r E;obtain⟨Q,k⟩:∃o,t[i]? = Y o:=#[t[i]'(by rw[l];calc p),by simp[l,p]];have q:Stp C m H (λb=>C b\/b=a) m H:=xt^bq f;have s:RP K (λb=>C b\/b=a) H (.l T)^.ref a:=#[a,xs,0,#[.inr rfl,j],cF.mono q A];calc#[_,G.trans q,B.frz f k s,by rw[de];calc l,s]
  |E M I=>let(T,t,g,h):=al h;ext h;let(y,j,hk,E):=z;let(C,G,B,l,A):=xH (λh=>p_ n h) g r E;obtain⟨Q,k⟩:∃o,t[i]? = Y o:=#[t[i]'(by rw[l];calc p),by simp[l,p]];have q:Stp C m H (λb=>C b\/b=a) m H:=xt^bq f;have s:RP K (λb=>C b\/b=a) H (.E M T)^.ref a:=#[a,y,0,.inr rfl,j,hk,cF.mono q A];calc#[_,G.trans q,B.frz f k s,by rw[de];calc l,s]
end
structure Grow(F:Aa)(H:Hp)(F':Aa)(H':Hp):5 where
 keep:∀b o,H b=Y o->H' b=Y o
 frz:∀b,F b->F' b
 nf:∀b,F' b->F b\/(H b=Z/\H' b≠Z)
section
variable{K:FG}{F F' C B:Aa}{H H' z I:Hp}{m:6 13}{S N:aK}
theorem Grow.refl:Grow F H F H:=#[λz z h=>h,λz h=>h,λz h=>.inl h]
theorem Grow.stp(g:Grow F H F' H'):Stp F m H F' m H' where
 pre:=#[[],∅]
 oth:=λb o h y=>g.keep b o h
 frz:=g.frz
 frk:=λb o y h=>g.keep b o h
 tup:=λb xs h=>g.keep b _ h
 cod:=λb o u h=>g.keep b _ h
 trk:=λb h=>by
  cases q:H b with
  |none=>calc absurd q h
  |some o=>rw[g.keep b o q];exact λz=>nomatch z
 nf:=λb h=>by
  rcases g.nf b h with h|⟨h,_⟩
  .exact .inl h
  .exact .inr (.inl h)
 nm:=λy h=>.inl h
theorem Rel.grow(r:Rel K F H m S)(g:Grow F H F' H'):Rel K F' H' m S:=
 r.stay g.stp (fun a u _ h=>g.keep a u h) (fun a f=>by
  rcases g.nf a f with f|⟨f,_⟩
  .exact .inl f
  .calc .inr f) λa f=>by
  rcases g.nf a f with f|⟨_,f⟩
  .exact (g.stp (m:=m)).trk a^r.ft a f
  .calc f
theorem cP{p:13}{o:HO}(x:H p=Z):Grow F H F^cc H p o:=
 #[λb u h=>by rw[aE (by rintro rfl;rw[x]at h;ext h)];calc h,λz h=>h,λz h=>.inl h]
theorem dt{p:13}{o:HO}(x:H p=Z):Grow F H (λb=>F b\/b=p)^cc H p o:=
 #[fun b u h=>by rw [aE (by rintro rfl;rw [x] at h;ext h)];calc h,fun _ h=>.inl h,fun b h=>by
  rcases h with h|h
  .exact .inl h
  .subst h;calc .inr #[x,by rw[aO];calc λz=>nomatch z]]
theorem RP.grow(g:Grow F H F' H')(h:RP K F H d v):RP K F' H' d v:=RP.mono (m:=[]) g.stp h
theorem cF.grow(g:Grow F H F' H')(h:cF K F H d v):cF K F' H' d v:=cF.mono (m:=[]) g.stp h
theorem RP.newTup(x:H p=Z)(r:cF K F H h xs):RP K F (cc H p^.u xs) (.u h)^.ref p:=#[p,xs,0,.inl aO,r.grow^cP x]
theorem RP.newLst(x:H p=Z)(r:cF K F H h xs):RP K (λb=>F b\/b=p) (cc H p^.l xs) (.l h)^.ref p:=#[p,xs,0,#[.inr rfl,aO],r.grow^dt x]
end
@[simp] def vC(v:P)(_L:Lc)(S:aK):tyV:=Y (v,S)
def U(i:9)(L:Lc)(S:aK):uK:=match L[i]? with
 |some (Y d)=>Y (d,S)
 |_=>Z
@[simp] def vE(f:EE)(L:Lc)(S:aK):tyV:=bw (f L S)^toP 09
@[simp] def O(f:EV)(L:Lc)(S:aK):uK:=bw (f L S) λv h=>Y (.p v,h)
@[simp] def aY(g:P->P->7 P)(a b:EV)(L:Lc)(S:aK):tyV:=bw (a L S) λx h=>bw (b L h) λy e=>(g x y).map λv=>(v,e)
@[simp] def Ri(g:P->7 P)(a:EV)(L:Lc)(S:aK):tyV:=bw (a L S) λx h=>(g x).map λv=>(v,h)
@[simp] def bV(a:EV)(L:Lc)(S:aK):Qu:=bw (a L S) λx h=>match x with
 | .d b=>Y (b,h)
 |_=>Z
@[simp] def iL(a b:EB)(L:Lc)(S:aK):Qu:=bw (a L S) λc h=>if c=W then b L h else Y (Xk,h)
@[simp] def zS(a b:EB)(L:Lc)(S:aK):Qu:=bw (a L S) λc h=>if c=W then Y (W,h) else b L h
@[simp] def l7(a:EB)(L:Lc)(S:aK):Qu:=bw (a L S) λc h=>Y (!c,h)
@[simp] def vB(a:EB)(L:Lc)(S:aK):tyV:=bw (a L S) λc h=>Y (.d c,h)
@[simp] def Qs(c:EB)(a b:EV)(L:Lc)(S:aK):tyV:=bw (c L S) λk h=>if k=W then a L h else b L h
@[simp] def ao(_L:Lc)(S:aK):Ha:=Y ([],S)
@[simp] def ae(a:EV)(r:lf)(L:Lc)(S:aK):Ha:=bw (a L S) λx h=>bw (r L h) λxs e=>Y (x::xs,e)
@[simp] def aR(g:6 P->7 P)(a:lf)(L:Lc)(S:aK):tyV:=bw (a L S) λxs h=>(g xs).map λv=>(v,h)
@[simp] def cN(L:Lc)(S:aK):DN:=Y (.nx,L,S)
@[simp] def ah(f g:ES)(L:Lc)(S:aK):DN:=match f L S with
 |some (.nx,h,x)=>g h x
 |r=>r
@[simp] def az(i:9)(f:EE)(L:Lc)(S:aK):DN:=bw (f L S) λd h=>Y (.nx,L.set i^Y d,h)
@[simp] def aD(f:EE)(L:Lc)(S:aK):DN:=bw (f L S) λd h=>Y (.rt d,L,h)
@[simp] def cE(f:EE)(L:Lc)(S:aK):DN:=bw (f L S) λz h=>Y (.nx,L,h)
@[simp] def cg(c:EB)(a b:ES)(L:Lc)(S:aK):DN:=bw (c L S) λk h=>if k=W then a L h else b L h
def xx:ES:=λz z=>Z
noncomputable abbrev lc:=P->Lc->7 Lc
def am(i:9):lc:=λv L=>Y^L.set i^Y^.p v
def bv(g:lc)(b:ES):6 P->Lc->aK->7 (Fl×Lc×aK)
 | [],L,S=>Y (.nx,L,S)
 |v::r,L,S=>match g v L with
  |none=>Z
  |some a=>match b a S with
   |some (.nx,L2,h)=>bv g b r L2 h
   |some (.ct,L2,h)=>bv g b r L2 h
   |some (.bk,L2,h)=>Y (.nx,L2,h)
   |x=>x
@[simp] def bR(i:lf)(g:lc)(b:ES)(L:Lc)(S:aK):DN:=bw (i L S) λxs h=>bv g b xs L h
def lA(c:EB)(b:ES):9->Lc->aK->7 (Fl×Lc×aK)
 |0,_,_=>Z
 |n+1,L,S=>bw (c L S) λk a=>if k=W then match b L a with
   |some (.nx,L2,h)=>lA c b n L2 h
   |some (.ct,L2,h)=>lA c b n L2 h
   |some (.bk,L2,h)=>Y (.nx,L2,h)
   |x=>x
  else Y (.nx,L,a)
def xw(n:9)(c:EB)(b:ES):ES:=lA c b n
open PySem PySem.Spec PyProof.Rows L2
section
variable(K:FG)
structure RL(F:Aa)(H:Hp)(m:6 13)(J:L2.St)(L:Lc):5 where
 len:-J=-L
 at':∀(i:9) d,L[i]? = Y^Y d->∃v,J[i]? = Y^Y v/\RD K F H m d v
inductive tEI(f:EE)(J:L2.St)(H:Hp)(Q:VK):5
 |mk (F:Aa) (m:6 13) (L:Lc) (S:aK) (d:D) (S':aK) (h0_:Rel K F H m S) (h1_:RL K F H m J L) (h2_:f L S=Y (d,S')) (h3_:∀v F' m' H',Stp F m H F' m' H'->Rel K F' H' m' S'->RD K F' H' m' d v->Q v H'):tEI f J H Q
def tE(f:EE):TE:=λJ H Q=>tEI K f J H Q
inductive tVI(f:EV)(J:L2.St)(H:Hp)(Q:VK):5
 |mk (F:Aa) (m:6 13) (L:Lc) (S:aK) (d:P) (S':aK) (h0_:Rel K F H m S) (h1_:RL K F H m J L) (h2_:f L S=Y (d,S')) (h3_:∀v F' m' H',Stp F m H F' m' H'->Rel K F' H' m' S'->RP K F' H' d v->Q v H'):tVI f J H Q
def tV(f:EV):TE:=λJ H Q=>tVI K f J H Q
inductive tQI(f:EB)(J:L2.St)(H:Hp)(Q:15->Hp->5):5
 |mk (F:Aa) (m:6 13) (L:Lc) (S:aK) (b:15) (S':aK) (h0_:Rel K F H m S) (h1_:RL K F H m J L) (h2_:f L S=Y (b,S')) (h3_:∀F' m' H',Stp F m H F' m' H'->Rel K F' H' m' S'->Q b H'):tQI f J H Q
def tQ(f:EB):TT:=λJ H Q=>tQI K f J H Q
inductive tVsI(f:lf)(J:L2.St)(H:Hp)(Q:6 V->Hp->5):5
 |mk (F:Aa) (m:6 13) (L:Lc) (S:aK) (ds:6 P) (S':aK) (h0_:Rel K F H m S) (h1_:RL K F H m J L) (h2_:f L S=Y (ds,S')) (h3_:∀xs F' m' H',Stp F m H F' m' H'->Rel K F' H' m' S'->cF K F' H' ds xs->Q xs H'):tVsI f J H Q
def uM(f:lf):TA:=λJ H Q=>tVsI K f J H Q
def U0(D:Ends)(F:Aa)(m:6 13)(J:L2.St)(H:Hp):Fl->5
 | .nx=>D.nx J H
 | .bk=>D.bk J H
 | .ct=>D.ct J H
 | .rt d=>∀v,RD K F H m d v->D.rt v H
inductive tStI(f:ES)(D:Ends)(J:L2.St)(H:Hp):5
 |mk (F:Aa) (m:6 13) (L:Lc) (S:aK) (fl:Fl) (L':Lc) (S':aK) (h0_:Rel K F H m S) (h1_:RL K F H m J L) (h2_:f L S=Y (fl,L',S')) (h3_:∀J' F' m' H',Stp F m H F' m' H'->Rel K F' H' m' S'->RL K F' H' m' J' L'->U0 K D F' m' J' H' fl):tStI f D J H
def ma(f:ES):TS:=λD J H=>tStI K f D J H
end
section
variable{K:FG}{F F':Aa}{H H':Hp}{m m':6 13}{J:L2.St}{L:Lc}{S:aK}
theorem RL.mono(s:Stp F m H F' m' H')(h:RL K F H m J L):RL K F' H' m' J L:=#[h.len,λi d e=>by let(v,x,r):=h.at' i d e;calc#[v,x,RD.mono s r]]
theorem RL.set (h:RL K F H m J L) (r:RD K F H m d v) (i:9):RL K F H m (J.set i^Y v) (L.set i^Y d):=#[by rw [de,de];calc h.len,fun j e q=>by
 by_cases x:i=j
 .subst x;by_cases a:i < (-L)
  .rw [bY a]at q;ext q;exact#[v,bY (by rw[h.len];calc a),r]
  .rw [wW (by rw[de];lia)]at q;ext q
 .rw [aV x]at q;rw[aV x];calc h.at' j e q]
end
section
variable{X:Cx}{e:14}{l:Ab}{q:Stmt}{sts:6 Stmt}
theorem _root_.L2.PE.imp'(h:PE X e t)(i:∀J H Q,k J H Q->t J H Q):PE X e k:=λp s J H Q I q=>h p s J H Q I^i J H Q q
theorem _root_.L2.PT.imp'(h:PT X e t)(i:∀J H Q,k J H Q->t J H Q):PT X e k:=λp s J H Q I q=>h p s J H Q I^i J H Q q
theorem _root_.L2.PW.imp'(h:PW X e t)(i:∀J H Q,k J H Q->t J H Q):PW X e k:=λw p s J H Q I q=>h w p s J H Q I^i J H Q q
theorem _root_.L2.PA.imp'(h:PA X l t)(i:∀J H Q,k J H Q->t J H Q):PA X l k:=λM p s J H Q I q=>h M p s J H Q I^i J H Q q
theorem _root_.L2.PS.imp'(h:PS X q t)(i:∀D J H,k D J H->t D J H):PS X q k:=λp s J H D I x=>h p s J H D I^i D J H x
theorem _root_.L2.qH.imp'(h:qH X sts t)(i:∀D J H,k D J H->t D J H):qH X sts k:=λp s J H D I q=>h p s J H D I^i D J H q
end
section
variable{X:Cx}{a b c e:14}{l:Ab}{fa fb:EV}{fe:EE}{M:Pos}
theorem Q7(h:PE X e^tE X.K fe):PE X e (tV X.K^vE fe):=h.imp' λJ H Q z=>by let(F,m,L,S,d,N,r,l,q,k):=z;let(a,x,n,f):=al q;calc#[F,m,L,S,a,x,r,l,n,λv F' m' H' s b t=>?_];let(B,w,c,_,p):=p_ 09 f b t;calc k v B m' H' (s.trans w) c p
theorem NS(h:PE X e^tV X.K fa):PE X e (tE X.K^O fa):=h.imp' λJ H Q z=>by let(F,m,L,S,d,N,r,l,q,k):=z;let(x,c,a,n):=al q;ext n;calc#[F,m,L,S,x,N,r,l,a,λv F' m' H' s f b=>k v F' m' H' s f b]
theorem Q6(i:9)(s:X.N[i]? = Y x:=by rfl)(n:MP X.e.scope x:=by first|calc Or.inl rfl|calc Or.inr^Or.inl rfl|calc Or.inr^Or.inr rfl)(hd:(x == ("__debug__":Str))=Xk:=by decide)
  (h:(x == ("__classdict__":Str))=Xk:=by decide):PE X (.Name x M) (tE X.K^U i):=(OP s n hd h).imp' λJ H Q z=>by
 let(F,m,L,S,d,N,r,l,q,k):=z;unfold U at q;split at q
 .rename_i b e;ext q;let(v,a,f):=l.at' i _ e;exact#[v,a,k v F m H .refl r f]
 .ext q
theorem xC(h:PE X e^tC v)(r:∀F H,RP X.K F H d v):PE X e (tV X.K^vC d):=h.imp' λJ H Q z=>by let(F,m,L,S,a,N,x,l,q,k):=z;ext q;calc k v F m H .refl x^r F H
theorem UH {i h M}:PE X (.Constant (.int i) h M) (tV X.K^vC^.int i):=xC OT λz z=>rfl
theorem Wx {i h M}:PE X (.Constant (.bool i) h M) (tV X.K^vC^.d i):=xC RS λz z=>rfl
theorem UA {h M}:PE X (.Constant .none h M) (tV X.K^vC .n):=xC OS λz z=>rfl
theorem Uv {i h M}:PE X (.Constant (.str i) h M) (tV X.K^vC^.str i):=xC OQ λz z=>rfl
inductive rPI(K:FG)(g:P->P->7 P)(x:V)(y:V)(H:Hp)(Q:VK):5
 |mk (F:Aa) (dx:P) (dy:P) (d:P) (h0_:(∀a,F a->H a≠Z)) (h1_:RP K F H dx x) (h2_:RP K F H dy y) (h3_:g dx dy=Y d) (h4_:∀v F' H',Grow F H F' H'->RP K F' H' d v->Q v H'):rPI K g x y H Q
def rP(K:FG)(g:P->P->7 P):R2:=λx y H Q=>rPI K g x y H Q
def rM(X:Cx)(f:11->11->Sem 11)(g:P->P->7 P):5:=kr X f^rP X.K g
def xp(h:tV X.K (aY g fa fb) J H Q):Oi (rP X.K g) (tV X.K fa) (tV X.K fb) J H Q:=by
 let(F,m,L,S,d,N,r,l,q,k):=h;let(x,s,j,q):=al q;let(y,i,o,q):=al q;calc#[F,m,L,S,x,s,r,l,j,λv C K z b G A=>?_];calc#[C,K,L,s,y,i,G,l.mono b,o,λu B P I c f D=>?_];cases e:g x y with
 |none=>rw[e]at q;ext q
 |some a=>rw[e]at q;ext q;calc#[B,x,y,_,f.ft,RP.mono c A,D,e,λw t p n E=>?_];calc k w t P p (b.trans^c.trans n.stp) (f.grow n) E
theorem Wu(o:rM X (binaryOp k) g)(x:PE X a^tV X.K fa)(e:PE X b^tV X.K fb):PE X (.BinOp a k b M) (tV X.K^aY g fa fb):=
 (M7 o x e).imp' λz z z h=>xp h
theorem UK(o:rM X (compareOp k) g)(x:PE X a^tV X.K fa)(e:PE X b^tV X.K fb)(m:behindInMarks k b=Xk):PE X (.Compare a [k] [b] M) (tV X.K^aY g fa fb):=
 (D4 o x e m).imp' λz z z h=>xp h
def Hi(h:tQ X.K (bV^aY g fa fb) J H Q):Hj (Oi (rP X.K g) (tV X.K fa)^tV X.K fb) J H Q:=by
 calc xp ?_;let(F,m,L,S,d,N,r,l,q,k):=h;let(x,n,e,q):=al q;cases x with
 |d b=>ext q;calc#[F,m,L,S,_,_,r,l,e,λv F' m' H' s a p=>#[_,p,k F' m' H' s a]]
 |_=>ext q
theorem Us(o:rM X (compareOp k) g)(x:PE X a^tV X.K fa)(e:PE X b^tV X.K fb)(m:behindInMarks k b=Xk):PT X (.Compare a [k] [b] M) (tQ X.K^bV^aY g fa fb):=
 (DY o x e m).imp' λz z z h=>Hi h
variable{qa qb:EB}{j:Ab}
theorem Q3(h:PT X a^tQ X.K qa):PW X (.BoolOp .And [a] M)^tQ X.K qa:=Ll h
theorem Uq(h:PT X a^tQ X.K qa):PW X (.BoolOp .Or [a] M)^tQ X.K qa:=OC h
theorem Ut(n:PT X a^tQ X.K qa)(f:PW X (.BoolOp .And (b::j) M)^tQ X.K qb):PW X (.BoolOp .And (a::b::j) M) (tQ X.K^iL qa qb):=
 (OD n f).imp' λJ H Q z=>by
  let(F,m,L,S,d,N,r,l,q,k):=z;let(c,h,e,q):=al q;calc#[F,m,L,S,c,h,r,l,e,λF' m' H' s x=>?_];cases c with
  |true=>rw[af rfl]at q ⊢;calc#[F',m',L,h,d,N,x,l.mono s,q,λB t I v p=>k B t I (s.trans v) p]
  |false=>rw[ag bQ]at q ⊢;ext q;calc k F' m' H' s x
theorem Ws(n:PT X a^tQ X.K qa)(f:PW X (.BoolOp .Or (b::j) M)^tQ X.K qb):PW X (.BoolOp .Or (a::b::j) M) (tQ X.K^zS qa qb):=
 (RJ n f).imp' λJ H Q z=>by
  let(F,m,L,S,d,N,r,l,q,k):=z;let(c,h,e,q):=al q;calc#[F,m,L,S,c,h,r,l,e,λF' m' H' s x=>?_];cases c with
  |false=>rw[ag bQ]at q ⊢;calc#[F',m',L,h,d,N,x,l.mono s,q,λB t I v p=>k B t I (s.trans v) p]
  |true=>rw[af rfl]at q ⊢;ext q;calc k F' m' H' s x
theorem Ur(h:PT X a^tQ X.K qa):PT X (.UnaryOp .Not a M) (tQ X.K^l7 qa):=
 (OE h).imp' λJ H Q z=>by let(F,m,L,S,d,N,r,l,q,k):=z;let(c,n,e,q):=al q;ext q;calc#[F,m,L,S,c,N,r,l,e,λF' m' H' s x=>k F' m' H' s x]
theorem Rg {k} (h:PE X a (tV X.K^vB qa)):PE X (.BoolOp k [a] M) (tV X.K^vB qa):=HU h
def yE(h:tQ X.K qa J H k)(hk:∀b H',k b H'->Q (.d b) H'):tV X.K (vB qa) J H Q:=by let(F,m,L,S,d,N,r,l,q,x):=h;calc#[F,m,L,S,.d d,N,r,l,by unfold vB;rw[q];rfl,λv F' m' H' s a p=>by rw[v=.d d|>p];calc hk _ _^x F' m' H' s a]
def D'(h:tV X.K (vB qa) J H Q):tQ X.K qa J H λb H'=>Q (.d b) H':=by let(F,m,L,S,d,N,r,l,q,k):=h;let(c,a,e,q):=al q;ext q;calc#[F,m,L,S,c,N,r,l,e,λF' m' H' s x=>k _ F' m' H' s x rfl]
theorem UL(f:PE X a (tV X.K^vB qa))(t:PE X (.BoolOp .And (b::j) M) (tV X.K^vB qb)):PE X (.BoolOp .And (a::b::j) M) (tV X.K^vB^iL qa qb):=
 (OW f t).imp' λJ H Q h=>by
  let(F,m,L,S,d,N,r,l,q,k):=D' h;let(c,x,n,q):=al q;calc yE (k:=λc z=>if c=W then tV X.K (vB qb) J z Q else Q (.d Xk) z) #[F,m,L,S,c,x,r,l,n,λF' m' H' s e=>?_] λb H' q=>#[b,0,q];cases c with
  |true=>rw[af rfl]at q ⊢;calc yE (k:=λb I=>Q (.d b) I) #[F',m',L,x,d,N,e,l.mono s,q,λB p I w v=>k B p I (s.trans w) v] λy y q=>q
  |false=>rw[ag bQ]at q ⊢;ext q;calc k F' m' H' s e
theorem Wt(f:PE X a (tV X.K^vB qa))(t:PE X (.BoolOp .Or (b::j) M) (tV X.K^vB qb)):PE X (.BoolOp .Or (a::b::j) M) (tV X.K^vB^zS qa qb):=
 (RR f t).imp' λJ H Q h=>by
  let(F,m,L,S,d,N,r,l,q,k):=D' h;let(c,x,n,q):=al q;calc yE (k:=λc z=>if c=W then Q (.d W) z else tV X.K (vB qb) J z Q) #[F,m,L,S,c,x,r,l,n,λF' m' H' s e=>?_] λb H' q=>#[b,0,q];cases c with
  |false=>rw[ag bQ]at q ⊢;calc yE (k:=λb I=>Q (.d b) I) #[F',m',L,x,d,N,e,l.mono s,q,λB p I w v=>k B p I (s.trans w) v] λy y q=>q
  |true=>rw[af rfl]at q ⊢;ext q;calc k F' m' H' s e
theorem Uy(x:PE X a (tV X.K^vB qa)):PE X (.UnaryOp .Not a M) (tV X.K^vB^l7 qa):=
 (OR x).imp' λJ H Q h=>by let(F,m,L,S,d,N,r,l,q,k):=D' h;let(c,f,e,q):=al q;ext q;calc yE (k:=λb H'=>Q (.d<|!b) H') #[F,m,L,S,c,N,r,l,e,λF' m' H' s n=>k F' m' H' s n] λb H' q=>#[b,0,q]
theorem ve(h:PE X e^tV X.K fa):PE X e (tV X.K^vB^bV fa):=h.imp' λJ H Q h=>by
 let(F,m,L,S,d,N,r,l,q,k):=D' h;let(x,f,a,q):=al q;cases x with
 |d b=>ext q;calc#[F,m,L,S,_,_,r,l,a,λv F' m' H' s n p=>by cases (v=.d d|>p);calc k F' m' H' s n]
 |_=>ext q
theorem Ww(u:PT X c^tQ X.K qa)(p:PE X a^tV X.K fa)(w:PE X b^tV X.K fb):PE X (.IfExp c a b M) (tV X.K^Qs qa fa fb):=
 (yX u p w).imp' λJ H Q z=>by
  let(F,m,L,S,d,N,r,l,q,k):=z;let(c,h,t,q):=al q;calc#[F,m,L,S,c,h,r,l,t,λF' m' H' s f=>?_];cases c with
  |true=>rw[af rfl]at q ⊢;calc#[F',m',L,h,d,N,f,l.mono s,q,λv B x I n e=>k v B x I (s.trans n) e]
  |false=>rw[ag bQ]at q ⊢;calc#[F',m',L,h,d,N,f,l.mono s,q,λv B x I n e=>k v B x I (s.trans n) e]
variable{fs:lf}
theorem Qi:PA X []^uM X.K ao:=jj.imp' λJ H Q h=>by let(F,m,L,S,d,N,r,l,q,k):=h;ext q;calc k [] F m H .refl r rfl
theorem Nz(c:PE X e^tV X.K fa)(t:PA X l^uM X.K fs)(p:starEach (e::l) X.e=(Xk,eval e X.e)::starEach l X.e:=by rfl):PA X (e::l) (uM X.K^ae fa fs):=
 (fy c t p).imp' λJ H Q w=>by let(F,m,L,S,d,N,r,h,q,k):=w;let(x,a,f,q):=al q;let(xs,K,b,q):=al q;ext q;calc#[F,m,L,S,x,a,r,h,f,λv C u z s y i=>?_];calc#[C,u,L,a,xs,N,y,h.mono s,b,λT B g I n o j=>?_];calc k (v::T) B g I (s.trans n) o #[v,T,0,RP.mono n i,j]
def few(xs:6 α):15:=decide<|-xs≤1000000
theorem n9{α:Type}{xs:6 α}(h:few xs=W):-xs≤sizeLine:=aH (aS h) #[]
@[simp] def aQ(a:lf)(L:Lc)(S:aK):tyV:=bw (a L S) λxs h=>if few xs=W then Y (.u xs,h) else Z
@[simp] def bj(a:lf)(L:Lc)(S:aK):tyV:=bw (a L S) λxs h=>if few xs=W then Y (.l xs,h) else Z
@[simp] def dI(a:lf)(L:Lc)(S:aK):uK:=bw (a L S) λxs h=>if few xs=W then Y (.ref (-h),h++[.l^xs.map .p]) else Z
theorem Uu {u} (h:PA X l^uM X.K fs):PE X (.Tuple l u M) (tV X.K^aQ fs):=(xB h).imp' λJ H Q n=>by
 let(F,m,L,S,d,N,r,x,q,k):=n;let(xs,v,s,q):=al q;split at q
 .rename_i f;ext q;calc#[F,m,L,S,xs,N,r,x,s,λT C b z t c e=>#[by rw[<- (-e)];calc n9 f,λp a=>?_]];exact k (.ref p) C b _ (t.trans (cP a).stp) (c.grow^cP a)^.newTup a e
 .ext q
theorem UC(h:PA X l^uM X.K fs):PE X (.List l M) (tV X.K^bj fs):=(HW h).imp' λJ H Q n=>by
 let(F,m,L,S,d,N,r,x,q,k):=n;let(xs,v,s,q):=al q;split at q
 .rename_i f;ext q;calc#[F,m,L,S,xs,N,r,x,s,λT C b z t c e=>#[by rw[<- (-e)];calc n9 f,λp a=>?_]];exact k (.ref p) _ b _ (t.trans (dt a).stp) (c.grow^dt a)^.newLst a e
 .ext q
theorem MW(h:PA X l^uM X.K fs):PE X (.List l M) (tE X.K^dI fs):=(HW h).imp' λJ H Q v=>by
 let(F,m,L,S,d,N,r,x,q,k):=v;let(xs,b,c,q):=al q;split at q
 .rename_i t;ext q;calc#[F,m,L,S,xs,b,r,x,c,λT C a z w n s=>#[by rw[<- (-s)];calc n9 t,λp e=>?_]];have f:Stp C a z C (a++[p]) (cc z p^.l T):=df e;calc k (.ref p) C (a++[p]) _ (w.trans f) (n.own e #[T,aO,c7.ofP^cF.mono f s]) #[p,0,?_];rw[<- n.len,bZ^ar _];simp
 .ext q
def rC(K:FG)(g:6 P->7 P):6 V->Hp->VK->5:=λxs H Q=>X1 λF s d=>(∀a,F a->H a≠Z)/\cF K F H s xs/\g s=Y d/\∀v F' H',Grow F H F' H'->RP K F' H' d v->Q v H'
def AH(h:tV X.K (aR g fs) J H Q):uM X.K fs J H λT z=>rC X.K g T z Q:=by
 let(F,m,L,S,d,N,r,l,q,k):=h;let(xs,t,n,q):=al q;cases e:g xs with
 |none=>rw[e]at q;ext q
 |some x=>rw[e]at q;ext q;calc#[F,m,L,S,xs,_,r,l,n,λT C f z c s b=>#[C,xs,_,s.ft,b,e,λv B I a p=>k v B f I (c.trans a.stp) (s.grow a) p]]
theorem N3{x:Str}{p:Pos}{id:String}{g:6 P->7 P}(c:fN X (.builtin id)^rC X.K g)(k:Gl X x)(m:X.g x=Z)(v:bootBuiltins x=Y^.builtin id)(s:PA X (e::l)^uM X.K fs)(f:x≠"__name__":=by decide)(d:(x == ("__debug__":Str))=Xk:=by decide)
  (n:starEach (e::l) X.e=(Xk,eval e X.e)::starEach l X.e:=by rfl) (a:(backTo M^starEach l X.e).any (·.1)=Xk:=by rfl):PE X (.Call (.Name x p) (e::l) [] M) (tV X.K^aR g fs):=
 (o_ c k m v s f d n a).imp' λz z z h=>AH h
theorem AB(c:fN X (.type k)^rC X.K g)(f:Gl X x)(m:X.g x=Z)(v:bootBuiltins x=Y^.type k)(s:PA X (e::l)^uM X.K fs)(b:x≠"__name__":=by decide)(d:(x == ("__debug__":Str))=Xk:=by decide)
  (n:starEach (e::l) X.e=(Xk,eval e X.e)::starEach l X.e:=by rfl) (a:(backTo M^starEach l X.e).any (·.1)=Xk:=by rfl):PE X (.Call (.Name x p) (e::l) [] M) (tV X.K^aR g fs):=
 (mY c f m v s b d n a).imp' λz z z h=>AH h
def TF(K:FG)(g:6 P->7 P):Sp:=λT H Q z=>rC K g T H Q
theorem Rf(G:FnOk X.p X.w X.K X.g X.b qJ k f t ps^TF X.K g)(j:Room k X.A)(u:Gl X x)(i:X.g x=Y^.ref f)(hk:eT X.K^.ref f=W)(v:Binds X.K t ps [])
  (c:PA X (e::l)^uM X.K fs) (d:(x == ("__debug__":Str))=Xk:=by decide) (w:starEach (e::l) X.e=(Xk,eval e X.e)::starEach l X.e:=by rfl) (n:(backTo M^starEach l X.e).any (·.1)=Xk:=by rfl) :
  PE X (.Call (.Name x p) (e::l) [] M) (tV X.K^aR g fs):=
 (xD G j u i hk v .nil tZ c d w n).imp' λJ H Q h=>by let(F,m,L,S,b,N,r,a,q,k):=AH h;calc#[F,m,L,S,b,N,r,a,q,λxs F' m' H' s y p=>by show TF X.K g (xs++[]) H' Q E0;rw[dQ];calc k xs F' m' H' s y p]
end
section
variable{X:Cx}{a b e:14}{q:Stmt}{j bs cs:6 Stmt}{f g:ES}{fe:EE}{qa:EB}{M:Pos}
theorem Um:qH X []^ma X.K cN:=Ln.imp' λD J H h=>by let(F,m,L,S,f,x,N,r,l,q,k):=h;ext q;calc k J F m H .refl r l
theorem QZ(o:PS X q^ma X.K f)(K:qH X j^ma X.K g):qH X (q::j) (ma X.K^ah f g):=(HI o K).imp' λD J H P=>by
 let(F,m,L,S,u,w,N,r,l,h,k):=P;cases e:f L S with
 |none=>rw[ah f g L S=Z|>by unfold ah;rw[e]]at h;ext h
 |some x=>
  let(i,p,v):=x;cases i with
  |nx=>
   have n:g p v=Y (u,w,N):=by have:=h;unfold ah at this;rw[e]at this;exact this
   calc#[F,m,L,S,.nx,p,v,r,l,e,λt C s z c b a=>#[C,s,p,v,u,w,N,b,a,n,λy B E I M G A=>k y B E I (c.trans M) G A]]
  |rt d=>
   have n:Y (Fl.rt d,p,v)=Y (u,w,N):=by have:=h;unfold ah at this;rw[e]at this;exact this
   ext n;calc#[F,m,L,S,_,_,_,r,l,e,λt C s z c b a=>k t C s z c b a]
  |bk=>
   have n:Y (Fl.bk,p,v)=Y (u,w,N):=by have:=h;unfold ah at this;rw[e]at this;exact this
   ext n;calc#[F,m,L,S,_,_,_,r,l,e,λt C s z c b a=>k t C s z c b a]
  |ct=>
   have n:Y (Fl.ct,p,v)=Y (u,w,N):=by have:=h;unfold ah at this;rw[e]at this;exact this
   ext n;calc#[F,m,L,S,_,_,_,r,l,e,λt C s z c b a=>k t C s z c b a]
theorem Ul(h:PS X q^ma X.K f):qH X [q]^ma X.K f:=Lm h
theorem GY(h:PE X e^tE X.K fe):PS X (.Return (Y e) M) (ma X.K^aD fe):=(OG h).imp' λD J H z=>by let(F,m,L,S,b,n,N,r,l,q,k):=z;let(d,f,x,q):=al q;ext q;calc#[F,m,L,S,d,N,r,l,x,λv F' m' H' s a p=>k J F' m' H' s a (l.mono s) v p]
theorem QY(h:PE X e^tE X.K fe)(a:swapsWith e Z M.line X.e=pure Xk:=by rfl):PS X (.Expr e M) (ma X.K^cE fe):=(Lq h a).imp' λD J H z=>by let(F,m,L,S,c,f,N,r,l,q,k):=z;let(d,b,x,q):=al q;ext q;calc#[F,m,L,S,d,N,r,l,x,λv F' m' H' s n p=>k J F' m' H' s n^l.mono s]
theorem yz(i:9)(n:X.N.Nodup)(h:PE X e^tE X.K fe)(b:X.N[i]? = Y x:=by rfl)(w:Loc X.e.scope x:=by first|calc Or.inl rfl|calc Or.inr rfl)(c:swapsWith e (Y^.Name x t) M.line X.e=pure Xk:=by rfl)
  (f:X.fn x=W\/X.e.scope.names.lookup x=Y .local:=by first|calc .inl rfl|calc .inr rfl|assumption):PS X (.Assign [.Name x t] e M) (ma X.K^az i fe):=
 (OF n b w h c f).imp' λD J H z=>by let(F,m,L,S,y,g,N,r,l,q,k):=z;let(d,j,a,q):=al q;ext q;calc#[F,m,L,S,d,N,r,l,a,λv F' m' H' s u p=>k (J.set i^Y v) F' m' H' s u^(l.mono s).set p i]
theorem Wr(i:PT X c^tQ X.K qa)(w:qH X bs^ma X.K f)(u:qH X cs^ma X.K g):PS X (.If c bs cs M) (ma X.K^cg qa f g):=(RN i w u).imp' λD J H z=>by
 let(F,m,L,S,p,t,N,r,l,q,k):=z;let(c,x,d,q):=al q;calc#[F,m,L,S,c,x,r,l,d,λF' m' H' s v=>?_];cases c with
 |true=>rw[af rfl]at q ⊢;calc#[F',m',L,x,p,t,N,v,l.mono s,q,λh B e I b n a=>k h B e I (s.trans b) n a]
 |false=>rw[ag bQ]at q ⊢;calc#[F',m',L,x,p,t,N,v,l.mono s,q,λh B e I b n a=>k h B e I (s.trans b) n a]
theorem NI:PS X q^ma X.K xx:=HL.imp' λD J H z=>by let(F,m,L,S,f,x,N,r,l,h,k):=z;ext h
inductive gTI(K:FG)(g:lc)(x:V)(J:L2.St)(H:Hp)(Q:L2.St->Hp->5):5
 |mk (F:Aa) (m:6 13) (L:Lc) (v:P) (L':Lc) (h0_:RL K F H m J L) (h1_:RP K F H v x) (h2_:g v L=Y L') (h3_:∀J',RL K F H m J' L'->Q J' H):gTI K g x J H Q
def gT(K:FG)(g:lc):TG:=λx J H Q=>gTI K g x J H Q
theorem _root_.L2.PG.imp'(h:PG X tg t)(i:∀v J H Q,k v J H Q->t v J H Q):PG X tg k:=λp s J H v u Q I r q=>h p s J H v u Q I r^i v J H Q q
theorem PP(i:9)(h:X.N.Nodup)(a:X.N[i]? = Y x:=by rfl)(e:Loc X.e.scope x:=by first|calc Or.inl rfl|calc Or.inr rfl)(f:X.fn x=W\/X.e.scope.names.lookup x=Y .local:=by first|calc .inl rfl|calc .inr rfl|assumption) :
  PG X (.Name x M) (gT X.K^am i):=(LB h a e f).imp' λv J H Q z=>by
 let(F,m,L,d,s,l,p,q,k):=z;ext q;calc k _^l.set (d:=.p d) p i
def Qq(K:FG)(a:It)(T:6 P)(F:Aa)(m:6 13)(H:Hp):5:=∀B s I,Stp F m H B s I ->
 (∀(i:9) v,T[i]? = Y v->a.go i I/\∀x h,a.yld i I x h->∃e,Grow B I e h/\RP K e h v x)/\a.stop T.length I
inductive tII(K:FG)(f:lf)(J:L2.St)(H:Hp)(R:It->Hp->5):5
 |mk (F:Aa) (m:6 13) (L:Lc) (S:aK) (vs:6 P) (S':aK) (h0_:Rel K F H m S) (h1_:RL K F H m J L) (h2_:f L S=Y (vs,S')) (h3_:∀J9 F' m' H',Stp F m H F' m' H'->Rel K F' H' m' S'->Qq K J9 vs F' m' H'->R J9 H'):tII K f J H R
def tI(K:FG)(f:lf):TI:=λJ H R=>tII K f J H R
theorem Uo{tg iter:14}{fi:lf}{g:lc}{b:6 Stmt}{fb:ES}(hp:PassesOwn (model X.p X.w) X.A X.e X.xe)(hc:X.c=W)(hi:PI X tg iter^tI X.K fi)(hg:PG X tg^gT X.K g)(hb:qH X b^ma X.K fb)
  (hs:∀x,foldedSetIterable iter X.e x=pure x:=by intro _;rfl):PS X (.For tg iter b [] M) (ma X.K^bR fi g fb):=
 (OH hp hc hi hg hb hs).imp' λD J H hz=>by
  let(F,m,L,S,fl,L',N,r,l,q,k):=hz;let(T,S1,e1,q):=al q;calc#[F,m,L,S,T,S1,r,l,e1,fun J9 C u z P r1 it=>?_];refine#[fun i n Q I=>n=-T-i/\i≤-T/\X2 fun B s L2 f=>Stp C u z B s I/\Rel X.K B I s f/\RL X.K B I s Q L2/\bv g fb (T.drop i) L2 f=Y (fl,L',N),
   #[-T,0,cS _,C,u,L,S1,.refl,r1,l.mono P,by rw[oQ];calc q],?_]
  rintro i n Q I ⟨rfl,hi,B,s,L2,f,s2,r2,l2,a⟩;let(go,o):=it B s I s2;by_cases t:i < (-T)
  .right;have hv:T[i]? = Y T[i]:=by simp[t]
   rw[C4 t]at a;let(hgo,hy):=go i _ hv;calc#[hgo,λJ3 c=>∃n',n' < -T-i/\(n'=-T-(i+1)/\i+1≤-T/\X2 λB s L2 f=>Stp C u z B s c/\Rel X.K B c s f/\RL X.K B c s J3 L2/\bv g fb (T.drop<|i+1) L2 f=Y (fl,L',N)),λZ Z h=>h,λx c y=>?_];let(G,gr,p3):=hy x c y;unfold bv at a;cases eg:g T[i] L2 with
   |none=>rw[eg]at a;ext a
   |some R=>
    rw[eg]at a;dsimp only at a;calc#[G,s,L2,T[i],R,l2.mono gr.stp,p3,eg,λJ3 l3=>?_];have A:Stp C u z G s c:=s2.trans gr.stp;let r3:=r2.grow gr;cases Z0:fb R f with
    |none=>rw[Z0]at a;ext a
    |some h=>
     let(p,V,Z1):=h;rw[Z0]at a;calc#[G,s,R,f,p,V,Z1,r3,l3,Z0,λJ4 v j H4 E K w=>?_];cases p with
     |nx=>calc#[-T-(i+1),(),0,t,v,j,V,Z1,A.trans E,K,w,a]
     |ct=>calc#[-T-(i+1),(),0,t,v,j,V,Z1,A.trans E,K,w,a]
     |bk=>ext a;calc k J4 v j H4 (P.trans^A.trans E) K w
     |rt d=>ext a;exact k J4 v j H4 (P.trans^A.trans E) K w
  .left;have e:i=-T:=by lia
   subst e;rw[sm]at a;ext a;calc#[o,k Q B s I (P.trans s2) r2 l2]
theorem NH(hp:PassesOwn (model X.p X.w) X.A X.e X.xe)(Z0:PT X c^tQ X.K qa)(Z1:qH X t^ma X.K fb):PS X (.While c t [] M) (ma X.K^xw n qa fb):=
 (HJ hp Z0 Z1).imp' λD J H hz=>by
  let(F,m,L,S,G,E,N,r,l,q,k):=hz;calc#[λn j I=>X2 λB x L2 a=>Stp F m H B x I/\Rel X.K B I x a/\RL X.K B I x j L2/\lA qa fb n L2 a=Y (G,E,N),#[n,F,m,L,S,.refl,r,l,q],?_];rintro n j I ⟨B,x,L2,a,b,r2,A,Q⟩;cases n with
  |zero=>ext Q
  |succ n=>
   let(c,o,V,h):=al (bw (qa L2 a) _=_|>Q);calc#[B,x,L2,a,c,o,r2,A,V,λC m3 T s R=>?_];cases c with
   |false=>rw[ag bQ]at h ⊢;ext h;calc k j C m3 T (b.trans s) R^A.mono s
   |true=>
    rw[af rfl]at h ⊢;cases P:fb L2 o with
    |none=>rw[P]at h;ext h
    |some z=>
     let(f,y,K):=z;rw[P]at h;calc#[λv e=>∃m',m' < n+1/\X2 λB x L2 a=>Stp F m H B x e/\Rel X.K B e x a/\RL X.K B e x v L2/\lA qa fb m' L2 a=Y (G,E,N),λZ Z z=>z,C,m3,L2,o,f,y,K,R,A.mono s,P,λv p u e i g w=>?_];cases f with
     |nx=>calc#[n,gQ _,p,u,y,K,b.trans^s.trans i,g,w,h]
     |ct=>calc#[n,gQ _,p,u,y,K,b.trans^s.trans i,g,w,h]
     |bk=>ext h;calc k v p u e (b.trans^s.trans i) g w
     |rt d=>ext h;calc k v p u e (b.trans^s.trans i) g w
end
theorem Stp.toGrow(s:Stp F [] H F' m' H')(f:∀a,F' a->H' a≠Z):Grow F H F' H':=
 #[fun b o h=>s.oth b o h ∅,s.frz,fun b h=>by
  rcases s.nf b h with q|q|q
  .exact .inl q
  .exact .inr #[q,f b h]
  .simp at q]
theorem nz{α:5}{β:Type}{d:β}(h:(Z:7 β)=Y d):α:=nomatch h
def jG(n:9):15:=decide<|n≤1000000
theorem km(h:jG n=W):n≤sizeLine:=aH (aS h) #[]
section
variable{X:Cx}
def yj:P->P->7 P
 | .int i,.int j=>Y<|.int<|i+j
 | .str x,.str y=>if jG (-x+-y)=W then Y (.str<|x++y) else Z
 | .u xs,.u s=>if (!xs.isEmpty && jG (-xs+-s))=W then Y (.u<|xs++s) else Z
 | .l xs,.l s=>if jG (-xs+-s)=W then Y (.l<|xs++s) else Z
 |_,_=>Z
def R9:rM X (binaryOp .Add) yj:=by
 intro n s J H x y v u Q I o S h;let(F,E,t,d,L,w,g,q,k):=h;cases E with
 |int i=>
  cases t with
  |int j=>ext q;cases (x=.int i|>w);cases (y=.int j|>g);calc O2 n s J H _ _ v u Q I o S #[i,j,0,0,k _ F H .refl rfl]
  |_=>calc nz q
 |str i=>
  cases t with
  |str j=>
   rwa[yj]at q;split at q
   .rename_i c;ext q;cases (x=.str i|>w);cases (y=.str j|>g);exact AT n s J H _ _ v u Q I o S #[i,j,0,0,km c,k _ F H .refl rfl]
   .ext q
  |_=>calc nz q
 |u B=>
  cases t with
  |u l=>
   rwa[yj]at q;split at q
   .rename_i c;rw[av]at c;ext q;let(a,xs,0,K,r):=w;let(b,A,0,P,m):=g;let C:=-r;let D:=-m;have G:xs≠[]:=λz=>by
     subst z;have:B=[]:=iX C;subst this;simp at c
    refine LL n s J H _ _ v u Q I o S #[a,b,xs,A,0,0,K.sq,P.sq,G,by rw[<- C,<- D];calc km c.2,λz=>?_,λZ p f=>?_]
    .subst z;have e:l=[]:=iX D;subst e;calc k _ F H .refl ?_;rw[dQ];exact#[a,xs,0,K,r]
    .exact k _ F _ (cP f)^.newTup f^r.append m
   .ext q
  |_=>calc nz q
 |l B=>
  cases t with
  |l l=>
   rwa[yj]at q;split at q
   .rename_i c;ext q;let(a,xs,0,K,r):=w;let(b,A,0,P,m):=g;exact O1 n s J H _ _ v u Q I o S #[a,b,xs,A,0,0,K.2,P.2,by rw[<- (-r),<- (-m)];calc km c,λp f=>k _ _ _ (dt f)^.newLst f^r.append m]
   .ext q
  |_=>calc nz q
 |_=>calc nz q
def JV(c:8->8->15)(g:8->8->P):P->P->7 P
 | .int i,.int j=>if c i j=W then Y^g i j else Z
 |_,_=>Z
@[simp] theorem MC(c:8->8->15)(g:8->8->P)(i j:8):JV c g (.int i)^.int j=if c i j=W then Y^g i j else Z:=rfl
def yZ{f:11->11->Sem 11}{C:8->8->5}{a:8->8->V}{c:8->8->15}{g:8->8->P}(o:kr X f^rI C a)(b:∀i j,c i j=W->C i j)(m:∀K F H i j,RP K F H (g i j)^a i j):rM X f^JV c g:=by
 intro p s J H x y v u Q I l z h;let(F,e,n,d,S,t,w,q,k):=h;cases e with
 |int i=>
  cases n with
  |int j=>
   rw[MC]at q;split at q
   .rename_i r;ext q;cases (x=.int i|>t);cases (y=.int j|>w);exact o p s J H _ _ v u Q I l z #[i,j,0,0,b i j r,k _ F H .refl^m _ _ _ _ _]
   .ext q
  |_=>calc nz q
 |_=>calc nz q
theorem tW(h:kr X f^Li k):kr X f^rI (λz z=>True) k:=λp s J H x y v u Q I r n #[i,j,e,a,_,q]=>h p s J H x y v u Q I r n #[i,j,e,a,q]
noncomputable abbrev G0:8->8->15:=λz z=>W
abbrev MB:=JV G0 λi j=>.int<|i-j
theorem RX:rM X (binaryOp .Sub) MB:=yZ (tW OX) (λz z z=>trivial) λz z z z z=>rfl
noncomputable abbrev OL:8->8->15:=λz j=>decide (0 < j) && decide (j < 1152921504606846976)
theorem Ih:kr X (binaryOp .FloorDiv) (rI (λz j=>0 < j/\j < 1152921504606846976) λi j=>.int<|i / j):=TK λi j z z z z z h q=>by have a:(0:8) < j:=h.1;have e:j < 1152921504606846976:=h.2;have x:j.natAbs.log2 < 9000:=bU ((Cu ()).mpr (j.natAbs < 2 ^ 60|>by lia)) #[];calc floordiv_int () (by rw[Int.fdiv_eq_ediv_of_nonneg i ()];calc q)^.inl^PyProof.noPylong_of_log2 x
abbrev hX:=JV OL λi j=>.int<|i / j
theorem LM:rM X (binaryOp .FloorDiv) hX:=yZ Ih (λi j h=>by rw[av]at h;calc#[aS h.1,aS h.2]) λz z z z z=>rfl
abbrev oj:=JV (λz j=>decide<|0 < j) λi j=>.int<|i % j
theorem R1:rM X (binaryOp .Mod) oj:=yZ OZ (λi j h=>aS h) λz z z z z=>rfl
abbrev P8:=JV (λi j=>decide (0≤j) && decide (j≤1000000) && decide (i.natAbs < 2 ^ 64)) λi j=>.int^HPow.hPow i j.toNat
theorem RY:rM X (binaryOp .Pow) P8:=yZ OY (λi j h=>by rwa[av]at h;calc#[aS h.1.1,aS h.1.2,aS h.2]) λz z z z z=>rfl
abbrev JU:=JV G0 λi j=>.d<|decide<|i < j
theorem Vg:rM X (compareOp .Lt) JU:=yZ (tW RT) (λz z z=>trivial) λz z z z z=>rfl
abbrev QH:=JV G0 λi j=>.d<|decide<|i≤j
theorem Vh:rM X (compareOp .LtE) QH:=yZ (tW RU) (λz z z=>trivial) λz z z z z=>rfl
abbrev No:=JV G0 λi j=>.d<|decide<|j < i
theorem Vi:rM X (compareOp .Gt) No:=yZ (tW RV) (λz z z=>trivial) λz z z z z=>rfl
abbrev S_:=JV G0 λi j=>.d<|decide<|j≤i
theorem Vj:rM X (compareOp .GtE) S_:=yZ (tW RW) (λz z z=>trivial) λz z z z z=>rfl
def g8(i j:8):15:=decide<|i.natAbs.log2+j.natAbs.log2 < 100000000
def Ip{i j:8}(h:g8 i j=W):IntMulOk i j:=by
 have a:i.natAbs.log2+j.natAbs.log2 < 100000000:=aS h;have b:∀x:8,Builtin.Int.intBits x≤x.natAbs.log2+1:=λx=>by
  unfold Builtin.Int.intBits;split
  .exact cS _
  .exact ar _
 calc IntMulOk.of_le (b i) (b j) ()
theorem LK:kr X (binaryOp .Mult) (rI (λi j=>IntMulOk i j) λi j=>.int<|i * j):=TK λz z z z z z z h q=>mul_int q h
def eU(x:Str)(n:9):Str:=#[(List.replicate n x.cps).foldl (·++·)^10 []]
def AJ(x:Str):eU x 1=x:=by unfold eU;ext x;simp
def FX(n:9):(List.replicate n ((10 []):Array 9)).foldl (·++·)^10 []=(10 []):=by
 induction n with
 |zero=>rfl
 |succ n i=>rw[cK,f6];exists i
def xr(x:Str)(n:9)(h:-x=0):eU x n=x:=by have e:x.cps=(10 []):=Array.eq_empty_of_size_eq_zero (by simpa[oC] using h);unfold eU;ext x;simp only at e;subst e;rw[FX]
def Bc(a:Array 9)(n:9):∀b:Array 9,((List.replicate n a).foldl (·++·) b).size=b.size+n * a.size:=by
 induction n with
 |zero=>intro b;simp
 |succ n i=>intro b;rw[cK,f6,i,Dc,oM];lia
def nw(x:Str)(n:9):-(eU x n)=n * (-x):=by unfold eU oC;simp only;rw[Bc];simp
def yi:P->P->7 P
 | .int i,.int j=>if g8 i j=W then Y (.int<|i * j) else Z
 | .str x,.int n=>if (jG (n.toNat * (-x)) && decide (n.natAbs < 1000000))=W then Y (.str^eU x n.toNat) else Z
 | .l xs,.int n=>if (jG (-xs * n.toNat) && decide (n.natAbs < 1000000))=W then Y^.l (List.replicate n.toNat xs).flatten else Z
 |_,_=>Z
theorem cF.rep(h:cF K F H r xs):∀k:9,cF K F H (List.replicate k r).flatten (List.replicate k xs).flatten
 |0=>rfl
 |k+1=>by rw[cK,cK,gb,gb];calc h.append^cF.rep h k
def R0:rM X (binaryOp .Mult) yi:=by
 intro r s J H x y v u Q I o S h;let(F,B,w,d,M,g,l,q,k):=h;cases B with
 |int i=>
  cases w with
  |int j=>
   rwa[yi]at q;split at q
   .rename_i c;ext q;cases (x=.int i|>g);cases (y=.int j|>l);exact LK r s J H _ _ v u Q I o S #[i,j,0,0,Ip c,k _ F H .refl rfl]
   .ext q
  |_=>calc nz q
 |str i=>
  cases w with
  |int n=>
   rwa[yi]at q;split at q
   .rename_i c;rw[av]at c;let E:=aS c.2;have N:n.toNat * (-i)≤1000000:=aS c.1;let T:=mx;have V:(1000000:9)≤sizeLine:=by decide
    ext q;cases (x=.str i|>g);cases (y=.int n|>l);let(t,0):=o;let(Z1,0):=S;refine PySem.P.mul_str (by have C:decide (n < -↑(2 ^ 63:8))=Xk:=bK ();have D:decide (n ≥ 2 ^ 63)=Xk:=bK ();rw[C,D];rfl) (λa b=>?_) (λa b=>?_) ?_
    .intro z;have R:((-i:9):8)≤(2 ^ 63-1) / n:=by
      calc(Int.le_ediv_iff_mul_le ()).mpr ?_;have e:((-i:9):8) * n=((n.toNat * (-i):9):8):=by rw[BJ,BK (),Int.mul_comm]
      rw[e];lia
     lia
    .unfold Builtin.Str.tooLong;first
      |calc bK (by rw[mQ];lia)
      |(rw[mQ];calc bK ())
    .have f:Q (.str^eU i n.toNat) H:=k _ F H .refl rfl;by_cases K:n < 1
     .rw [af K];have e:n.toNat=0:=by lia
      rw[e]at f;exact#[#[],#[.str Str.empty,H,I.tok _,#[_,0],f]]
     .rw [ag K];by_cases m:(n == 1 || -i == 0)=W
      .rw [af m];rw[w8]at m;have e:eU i n.toNat=i:=by
        rcases m with m|m
        .have:n=1:=by exists m
         subst this;exact AJ i
        .exact xr i _ (by exists m)
       rw[e]at f;exact#[.str i,H,I,#[_,0],f]
      .rw [ag m];calc#[?_,#[.str^eU i n.toNat,H,I.tok _,#[_,0],f]];have:=nw i n.toNat
       unfold eU at this;rw[this];lia
   .ext q
  |_=>calc nz q
 |l L=>
  cases w with
  |int n=>
   rwa[yi]at q;split at q
   .rename_i c;rw[av]at c;let E:=aS c.2;ext q;let(a,xs,0,G,A):=g;cases (y=.int n|>l);exact Ie r s J H _ _ v u Q I o S #[a,n,xs,0,0,G.2,(),(),by rw[<- (-A)];calc km c.1,λp P=>k _ _ _ (dt P)^.newLst P^A.rep _]
   .ext q
  |_=>calc nz q
 |_=>calc nz q
def Wf:P->P->7 P
 | .int i,.int j=>Y<|.d<|decide<|i=j
 | .str x,.str y=>Y<|.d<|decide<|x=y
 | .d a,.d b=>Y<|.d<|decide<|a=b
 |_,_=>Z
def QD:P->P->7 P
 | .int i,.int j=>Y<|.d<|!decide (i=j)
 | .str x,.str y=>Y<|.d<|!decide (x=y)
 | .d a,.d b=>Y<|.d<|!decide (a=b)
 |_,_=>Z
def qV{i j:8}:decide (V.int i=V.int j)=decide (i=j):=by
 by_cases h:i=j
 .subst h;simp
 .rw [bK h,bK λz=>h^V.int.inj z]
def qU:decide (V.str i=V.str k)=decide (i=k):=by
 by_cases h:i=k
 .subst h;simp
 .rw [bK h,bK λz=>h^V.str.inj z]
def uv:decide (V.d i=V.d k)=decide (i=k):=by
 by_cases h:i=k
 .subst h;simp
 .rw [bK h,bK λz=>h^V.d.inj z]
def Vk:rM X (compareOp .Eq) Wf:=by
 intro p s J H x y v u Q I r f h;let(F,b,a,d,t,e,n,q,k):=h;cases b with
 |int i=>
  cases a with
  |int j=>ext q;cases (x=.int i|>e);cases (y=.int j|>n);calc Ii p s J H _ _ v u Q I r f #[0,by rw[qV];calc k _ F H .refl rfl]
  |_=>calc nz q
 |str i=>
  cases a with
  |str j=>ext q;cases (x=.str i|>e);cases (y=.str j|>n);calc Ii p s J H _ _ v u Q I r f #[0,by rw[qU];calc k _ F H .refl rfl]
  |_=>calc nz q
 |d i=>
  cases a with
  |d j=>ext q;cases (x=.d i|>e);cases (y=.d j|>n);calc Ii p s J H _ _ v u Q I r f #[0,by rw[uv];calc k _ F H .refl rfl]
  |_=>calc nz q
 |_=>calc nz q
def Vf:rM X (compareOp .NotEq) QD:=by
 intro p s J H x y v u Q I r f h;let(F,b,a,d,t,e,n,q,k):=h;cases b with
 |int i=>
  cases a with
  |int j=>ext q;cases (x=.int i|>e);cases (y=.int j|>n);calc Ig p s J H _ _ v u Q I r f #[0,by rw[qV];calc k _ F H .refl rfl]
  |_=>calc nz q
 |str i=>
  cases a with
  |str j=>ext q;cases (x=.str i|>e);cases (y=.str j|>n);calc Ig p s J H _ _ v u Q I r f #[0,by rw[qU];calc k _ F H .refl rfl]
  |_=>calc nz q
 |d i=>
  cases a with
  |d j=>ext q;cases (x=.d i|>e);cases (y=.d j|>n);calc Ig p s J H _ _ v u Q I r f #[0,by rw[uv];calc k _ F H .refl rfl]
  |_=>calc nz q
 |_=>calc nz q
def E5{α β:Type}{xs:6 α}{s:6 β}{i:8}{d:α}(l:-xs=-s)(h:L2.atI xs i=Y d):∃j:9,xs[j]? = Y d/\∀y,s[j]? = Y y->L2.atI s i=Y y:=by
 unfold L2.atI at h ⊢;rw[l]at h;cases e:Gq s.length i with
 |none=>rw[e]at h;ext h
 |some j=>rw[e]at h;calc#[j,h,λy x=>x]
def cF.atI{K:FG}{F:Aa}{H:Hp}{s:6 P}{xs:6 V}{i:8}{d:P}(r:cF K F H s xs)(h:L2.atI s i=Y d):∃x,L2.atI xs i=Y x/\RP K F H d x:=by let(j,a,n):=E5 r.length h;let(x,e,p):=r.get a;calc#[x,n x e,p]
def c7.atI{K:FG}{F:Aa}{H:Hp}{m:6 13}{s:6 D}{xs:6 V}{i:8}{d:D}(r:c7 K F H m s xs)(h:L2.atI s i=Y d):∃x,L2.atI xs i=Y x/\RD K F H m d x:=by let(j,a,n):=E5 r.length h;let(x,e,p):=r.get a;calc#[x,n x e,p]
def cC(k:cD):6 cD->6 α->7 α
 |h::s,v::T=>if h=k then Y v else cC k s T
 |_,_=>Z
def dh:P->7 cD
 | .int i=>Y^.inl i
 | .str x=>Y^.inr x
 |_=>Z
def bA:P->P->7 P
 | .u xs,.int i=>L2.atI xs i
 | .l xs,.int i=>L2.atI xs i
 | .ro xs,.int i=>L2.atI xs i
 | .str x,.int i=>if jG (-x)=W then (L2.atI x.cps.toList i).map λc=>.str #[(10 [c])] else Z
 | .E s T,y=>match dh y with
  |some k=>cC k s T
  |none=>Z
 |_,_=>Z
theorem p7:∀{s:6 (cD×V)}{a:6 P}{d:P},cF K F H a^s.map (·.2)->cC k (s.map (·.1)) a=Y d->∃v,ja s k=Y v/\RP K F H d v
 | [],a,d,r,h=>by ext a<;>calc nz h
 |(n,v)::s,[],d,r,h=>nz h
 |(n,v)::s,q::a,d,r,h=>by
  let(x,u,e,p,f):=r;rw[aI]at e;injection e with b c;rwa[aI,cC]at h;by_cases hk:n=k
  .rw [af hk]at h;ext h;exact#[v,jM (p:=(n,v)) hk,by rw[v=x|>b];calc p]
  .rw [ag hk]at h;rw[<- c]at f;let(w,m,t):=p7 f h;calc#[w,by rw[i' (p:=(n,v)) hk];calc m,t]
def jT(h:dh t=Y k)(r:RP K F H t v):v=kV k:=by
 cases t with
 |int i=>ext h;calc r
 |str x=>ext h;calc r
 |_=>calc nz h
def IG(m:X.A.units+1 < cLine):Gu X (λx y H Q=>X0 λa v=>x=.ref a/\lV H a y^Y v/\(∃k,H a=Y^.dK k)/\Q v H):=by
 intro f l p s J H x y v u Q I t d h c;let(a,w,0,g,(k,hk),q):=h;ext t;have n:∃o,s.heap.get? a=Y o/\o.ExactDict:=by let(_,_,_,_,o,_,_,e,n,_):=I.h a _ hk;exact#[o,e,n]
 let(o,e,n):=n;calc oG #[o,e,n.1] Ah.lookup (vN m I g d λj i b r=>#[w,H,b,r,q]) c
def Wa(L:X.A.units+1 < cLine):Gu X^rP X.K bA:=by
 intro n l f s J H x y v u Q I o S h t;let(F,C,m,d,N,g,j,q,k):=h;cases C with
 |u b=>
  cases m with
  |int i=>let(a,xs,0,K,r):=g;cases (y=.int i|>j);let(z,e,p):=r.atI (L2.atI b i=Y d|>q);calc IF n l f s J H _ _ v u Q I o S #[a,xs,i,z,0,0,K.sq,e,k z F H .refl p] t
  |_=>calc nz q
 |l b=>
  cases m with
  |int i=>let(a,xs,0,K,r):=g;cases (y=.int i|>j);let(z,e,p):=r.atI (L2.atI b i=Y d|>q);calc xM n l f s J H _ _ v u Q I o S #[a,xs,i,z,0,0,K.sq,e,k z F H .refl p] t
  |_=>calc nz q
 |ro b=>
  cases m with
  |int i=>let(a,xs,0,K,r):=g;cases (y=.int i|>j);let(z,e,p):=r.atI (L2.atI b i=Y d|>q);calc xM n l f s J H _ _ v u Q I o S #[a,xs,i,z,0,0,K.sq,e,k z F H .refl p] t
  |_=>calc nz q
 |str z=>
  cases m with
  |int i=>
   cases (x=.str z|>g);cases (y=.int i|>j);rwa[bA]at q;split at q
   .rename_i G;cases e:L2.atI z.cps.toList i with
    |none=>rw[e]at q;calc nz q
    |some c=>rw[e]at q;ext q;exact PB n l f s J H _ _ v u Q I o S #[z,i,c,0,0,km G,e,k _ F H .refl rfl] t
   .ext q
  |_=>calc nz q
 |E R b=>
  let(a,B,0,fa,hk,E,r):=g;rwa[bA]at q;cases P:dh m with
  |none=>rw[P]at q;calc nz q
  |some M=>rw[P]at q;dsimp only at q;subst E;let(w,D,p):=p7 r q;let A:=jT P j;subst A;calc IG L n l f s J H _ _ v u Q I o S #[a,w,0,by rw[<- D];calc lV.k hk,#[B,hk],k w F H .refl p] t
 |_=>calc nz q
theorem Wv{a b:14}{fa fb:EV}{M:Pos}(u:X.A.units+1 < cLine)(x:PE X a^tV X.K fa)(e:PE X b^tV X.K fb)(s:ni b):PE X (.Subscript a b M) (tV X.K^aY bA fa fb):=
 (D3 (Wa u) x e s).imp' λz z z h=>xp h
end
section
variable{X:Cx}
theorem tD:∀{s:6 (cD×V)}{a:6 D}{d:D},c7 K F H m a^s.map (·.2)->cC k (s.map (·.1)) a=Y d->∃v,ja s k=Y v/\RD K F H m d v
 | [],a,d,r,h=>by ext a<;>calc nz h
 |(n,v)::s,[],d,r,h=>nz h
 |(n,v)::s,u::a,d,r,h=>by
  let(x,g,e,p,f):=r;rw[aI]at e;injection e with b c;rwa[aI,cC]at h;by_cases hk:n=k
  .rw [af hk]at h;ext h;exact#[v,jM (p:=(n,v)) hk,by rw[v=x|>b];calc p]
  .rw [ag hk]at h;rw[<- c]at f;let(w,t,q):=tD f h;calc#[w,by rw[i' (p:=(n,v)) hk];calc t,q]
@[simp] def nc(r:EE)(k:EV)(L:Lc)(S:aK):uK:=bw (r L S) λd x=>bw (k L x) λy h=>match d with
 | .p v=>(bA v y).map λz=>(.p z,h)
 | .ref i=>match h[i]? with
  | some (.l s)=>(match y with
   | .int j=>(L2.atI s j).map λz=>(z,h)
   |_=>Z)
  |some (.fz v)=>(bA v y).map λz=>(.p z,h)
  | some (.E a T)=>(match dh y with
   |some k=>(cC k a T).map λz=>(z,h)
   |none=>Z)
  |_=>Z
theorem UG{a b:14}{fa:EE}{fb:EV}{M:Pos}(hu:X.A.units+1 < cLine)(ha:PE X a^tE X.K fa)(hb:PE X b^tV X.K fb)(hs:ni b):PE X (.Subscript a b M) (tE X.K^nc fa fb):=
 (D3 ((((Wa hu).or xM).or^IG hu).or IF) ha hb hs).imp' λJ H Q hz=>by
  let(F,m,L,S,d,N,r,h,q,k):=hz;let(x,S1,A,q):=al q;let(y,K,e2,q):=al q;calc#[F,m,L,S,x,S1,r,h,A,λv C m1 z c r1 p1=>?_];calc#[C,m1,L,S1,y,K,r1,h.mono c,e2,λu B V I o f Z0=>?_];let px:=RD.mono o p1;have s:∀w:P,RP X.K B I w v->(bA w y).map (λe=>(D.p e,K))=Y (d,N)->rP X.K bA v u I Q:=λw pw q=>by
   cases g:bA w y with
   |none=>rw[g]at q;ext q
   |some e=>rw[g]at q;ext q;exact#[B,w,y,e,f.ft,pw,Z0,g,λt F3 H3 gr p3=>k t F3 V H3 (c.trans^o.trans gr.stp) (f.grow gr) p3]
  cases x with
  |p w=>calc .inl^.inl^.inl^s w px q
  |ref i=>
   let(a,0,hm):=px;dsimp only at q;cases l:K[i]? with
   |none=>rw[l]at q;ext q
   |some so=>
    rw[l]at q;let Z1:=f.obj i a so hm l;cases so with
    |fz w=>calc .inl^.inl^.inl^s w Z1 q
    |E ks T=>
     dsimp only at q;let(n,hk,ek,ra):=Z1;cases E:dh y with
     |none=>rw[E]at q;ext q
     |some R=>
      rw[E]at q;dsimp only at q;subst ek;cases g:cC R (n.map (·.1)) T with
      |none=>rw[g]at q;ext q
      |some e=>rw[g]at q;ext q;let(w,A,p):=tD ra g;let G:=jT E Z0;subst G;calc .inl^.inr #[a,w,0,by rw[<- A];calc lV.k hk,#[n,hk],k w B V I (c.trans o) f p]
    |B _ _ _=>ext q
    |C _ _=>ext q
    |q _ _=>ext q
    |fn _=>ext q
    |l ds=>
     dsimp only at q;cases y with
     |int j=>
      dsimp only at q;let(xs,hH,rs):=Z1;cases g:L2.atI ds j with
      |none=>rw[g]at q;ext q
      |some e=>rw[g]at q;ext q;let(t,e3,p3):=rs.atI g;cases (u=.int j|>Z0);calc .inl^.inl^.inr #[a,xs,j,t,0,0,j3.of hH,e3,k t B V I (c.trans o) f p3]
     |_=>ext q
def dP:P->7 9
 | .u xs=>Y (-xs)
 | .l xs=>Y (-xs)
 | .ro xs=>Y (-xs)
 | .str x=>if jG (-x)=W then Y (-x) else Z
 |_=>Z
def dj:D->aK->7 9
 | .p v,_=>dP v
 | .ref i,S=>match S[i]? with
  |some (.l d)=>Y (-d)
  |some (.fz v)=>dP v
  |_=>Z
def dF(r:EE):EV:=λL S=>bw (r L S) λd h=>(dj d h).map λn=>(.int n,h)
def Em{F:Aa}{H:Hp}{w:P}{v:V}{n:9}{Q:VK}(p:RP X.K F H w v)(h:dP w=Y n)(q:Q (.int n) H) :
  (X0 λp y=>[v]=[V.ref p]/\(j3 X.K H p y\/rK X.K H p y)/\Q (.int (-y)) H)\/(∃z,[v]=[V.str z]/\-z≤sizeLine/\Q (.int (-z)) H):=by
 cases w with
 |u d=>let(a,xs,0,t,r):=p;ext h;calc .inl #[a,xs,0,.inr t.sq,by rw[<- (-r)];calc q]
 |l d=>let(a,xs,0,t,r):=p;ext h;calc .inl #[a,xs,0,.inl t.sq,by rw[<- (-r)];calc q]
 |ro d=>let(a,xs,0,t,r):=p;ext h;calc .inl #[a,xs,0,.inl t.sq,by rw[<- (-r)];calc q]
 |str x=>
  cases (v=.str x|>p);rwa[dP]at h;split at h
  .rename_i c;ext h;exact .inr #[x,0,km c,q]
  .ext h
 |_=>calc nz h
theorem UD(A:Gl X "len")(f:X.g "len"=Z)(P:PE X e^tE X.K fe)(c:starEach [e] X.e=[(Xk,eval e X.e)]:=by rfl):PE X (.Call (.Name "len" p) [e] [] M) (tV X.K^dF fe):=
 (o_ (yn.or ym) A f PySem.boot_len (fy P jj (by rw[c];rfl)) #[] #[] (by rw[c];rfl) rfl).imp' λJ H Q B=>by
  let(F,m,L,S,d,N,r,h,q,k):=B;let(x,b,j,q):=al q;calc#[F,m,L,S,x,b,r,h,j,λv C D z G u t=>?_];cases s:dj x b with
  |none=>rw[s]at q;ext q
  |some n=>
   rw[s]at q;ext q;have y:Q (.int n) z:=k _ C D z G u rfl;cases x with
   |p w=>calc Em t s y
   |ref i=>
    let(a,0,f):=t;rwa[dj]at s;cases l:N[i]? with
    |none=>rw[l]at s;ext s
    |some g=>
     rw[l]at s;let o:=u.obj i a g f l;cases g with
     |fz w=>calc Em o s y
     |E R T=>ext s
     |B _ _ _=>ext s
     |C _ _=>ext s
     |q _ _=>ext s
     |fn _=>ext s
     |l I=>ext s;let(xs,K,E):=o;calc .inl #[a,xs,0,.inl^j3.of K,by rw[<- (-E)];calc y]
def gC(d:D)(S:aK):7 (9×6 D):=match d with
 | .ref i=>match S[i]? with
  |some (.l s)=>Y (i,s)
  |_=>Z
 |_=>Z
def pb(h:gC d S=Y (i,k)):d=.ref i/\S[i]? = Y^.l k:=by
 unfold gC at h;split at h
 .split at h
  .rename_i e;ext h;exact#[0,e]
  .ext h
 .ext h
@[simp] def b0(r:EE)(a:EE)(L:Lc)(S:aK):uK:=bw (r L S) λd h=>match gC d h with
 |none=>Z
 |some _=>bw (a L h) λx e=>match gC d e with
  |some (i,s)=>if few s=W then Y (.p .n,e.set i<|.l<|s++[x]) else Z
  |none=>Z
theorem KJ{o e:14}{Z1 fe:EE}{p c:Pos}(ho:PE X o^tE X.K Z1)(he:PE X e^tE X.K fe)(M:starEach [e] X.e=[(Xk,eval e X.e)]:=by rfl)
  (t:attributeBase o "append" X.e^eval o X.e=eval o X.e:=by rfl) (w:(p.endLine == c.line)=W:=by rfl):PE X (.Call (.Attribute o "append" p) [e] [] c) (tE X.K^b0 Z1 fe):=
 (M8 rY BW PySem.F.type_list_append vu ho (fy he jj (by rw[M];rfl)) t (by rw[M];rfl) w (by rw[M];rfl) rfl).imp' λJ H Q hz=>by
  let(F,m,L,S,d,N,r,h,s,k):=hz;let(x,A,e1,s):=al s;calc#[F,m,L,S,x,A,r,h,e1,λv C m1 z s1 r1 p1=>?_];cases E:gC x A with
  |none=>rw[E]at s;ext s
  |some n=>
   let(i,ds):=n;rw[E]at s;dsimp only at s;let(0,l):=pb E;let(a,0,hm):=id p1;let(xs,hH,rs):=r1.obj i a _ hm l;calc#[.inl #[0,xs,j3.of hH],?_];let(y,V,e2,s):=al s;calc#[C,m1,L,A,y,V,r1,h.mono s1,e2,λu B R I s2 T p2=>?_];cases f:gC (.ref i) V with
   |none=>rw[f]at s;ext s
   |some n=>
    let(i2,D):=n;rw[f]at s;dsimp only at s;let(e3,b):=pb f;ext e3;split at s
    .rename_i Z0;ext s;let(a2,e4,g):=RD.mono s2 p1;ext e4;let(j,K,P):=T.obj i a _ g b;let hl:=n9 Z0;have G:-j < sizeLine:=by
      have:-D≤1000000:=aS Z0;rw[<- (-P)];exact j8 this #[]
     have nt:∀zs,I a≠Y^.u zs:=λzs n=>by rw[K]at n;ext n
     have q:Stp B R I B R (cc I a<|.l<|j++[u]):=gf T g b trivial nt;calc#[a,j,u,0,0,K,G,?_];exact k .n B R _ (s1.trans^s2.trans q) (T.set g b trivial nt #[_,aO,c7.mono q^P.append #[u,[],0,p2,0]]) rfl
    .ext s
noncomputable abbrev EO:=Lc->aK->7 (7 8×aK)
def g7:EO:=λz S=>Y (Z,S)
def fM(a:EV):EO:=λL S=>bw (a L S) λv h=>match v with
 | .int i=>Y (Y i,h)
 |_=>Z
inductive tOI(K:FG)(f:EO)(J:L2.St)(H:Hp)(Q:7 8->Hp->5):5
 |mk (F:Aa) (m:6 13) (L:Lc) (S:aK) (b:7 8) (S':aK) (h0_:Rel K F H m S) (h1_:RL K F H m J L) (h2_:f L S=Y (b,S')) (h3_:∀F' m' H',Stp F m H F' m' H'->Rel K F' H' m' S'->Q b H'):tOI K f J H Q
def tO(K:FG)(f:EO):TO:=λJ H Q=>tOI K f J H Q
theorem _root_.L2.PO.imp'(h:PO X e t)(i:∀J H Q,k J H Q->t J H Q):PO X e k:=λp s J H Q I q=>h p s J H Q I^i J H Q q
theorem Pc:PO X Z^tO X.K g7:=Lw.imp' λJ H Q h=>by let(F,m,L,S,d,N,r,l,q,k):=h;ext q;calc k F m H .refl r
theorem Pb(h:PE X e^tV X.K fa):PO X (Y e) (tO X.K^fM fa):=(Lu h).imp' λJ H Q s=>by
 let(F,m,L,S,d,N,r,l,q,k):=s;let(x,c,a,q):=al q;cases x with
 |int i=>ext q;calc#[F,m,L,S,_,_,r,l,a,λv C n z b f p=>#[i,p,k C n z b f]]
 |_=>ext q
def cut(xs:6 α)(lo h:7 8):6 α:=(xs.drop^HT.fS xs.length 0 lo).take<|HT.fS xs.length xs.length h-HT.fS xs.length 0 lo
def cF.cut(r:cF K F H k xs)(lo h:7 8):cF K F H (Ev.cut k lo h)^zI xs lo h:=by unfold Ev.cut zI;rw[(-r)];calc(r.drop _).take _
def Xa:P->7 8->7 8->7 P
 | .l xs,lo,h=>Y^.l^cut xs lo h
 | .ro xs,lo,h=>Y^.l^cut xs lo h
 | .u xs,lo,h=>if HT.fS xs.length 0 lo=0/\HT.fS xs.length xs.length h=-xs then Z else Y (.u^cut xs lo h)
 |_,_,_=>Z
theorem _root_.L2.PI.imp'(h:PI X r iter t)(i:∀J H R,k J H R->t J H R):PI X r iter k:=λp s J H R I q=>h p s J H R I^i J H R q
def II(f:∀B h I,Stp F m H B h I->j3 K I a xs)(r:cF K F H T xs):Qq K (VW K a) T F m H:=by
 intro B h I s;let q:=f B h I s;let k:=cF.mono s r;calc#[λi v e=>?_,#[xs,q,by rw[(-k)];calc ar _]];let(x,n,p):=k.get e;calc#[#[xs,x,q,n],λy b z=>?_];let(0,z):=z;have:=z xs q
 rw[n]at this;ext this;calc#[B,.refl,p]
def PC(k:TupAt K H a xs)(r:cF K F H T xs):Qq K (Wo K a) T F m H:=by
 intro B b I s;let q:=(k.kp s.kp).sq;let n:=cF.mono s r;calc#[λi v e=>?_,#[xs,q,by rw[(-n)];calc ar _]];let(x,h,p):=n.get e;calc#[#[xs,x,q,h],λy f z=>?_];let(0,z):=z;have:=z xs q
 rw[h]at this;ext this;calc#[B,.refl,p]
def intsFrom(lo:8)(n:9):6 P:=(List.range n).map λ(i:9)=>.int<|lo+(i:8)
def jE(a:EV):lf:=λL S=>bw (a L S) λv h=>match v with
 | .int j=>if decide (j.natAbs < 1000000)=W then Y (intsFrom 0 j.toNat,h) else Z
 |_=>Z
def PD{lo:8}:Qq K (Ug lo n) (intsFrom lo n) F m H:=by
 intro B k I s;have l:-(intsFrom lo n)=n:=by unfold intsFrom;simp
 calc#[λi v e=>?_,by show n≤-(intsFrom lo n);rw[l];calc ar _];have h:i < n:=by rw[<- l];exact(bP.mp e).1
 calc#[h,λx a z=>?_];let(0,0):=z;calc#[B,.refl,?_];unfold intsFrom at e;simp[h]at e;subst e;calc rfl
theorem WX{u a:14}{fa:EV}{p M:Pos}(g:Gl X "range")(n:X.g "range"=Z)(s:PE X a^tV X.K fa)(h:starEach [a] X.e=[(Xk,eval a X.e)]:=by rfl):PI X u (.Call (.Name "range" p) [a] [] M) (tI X.K^jE fa):=
 (Fx g n (fy s jj (by rw[h];rfl)) h).imp' λJ H R f=>by
  let(F,m,L,S,T,N,r,l,q,k):=f;let(v,i,e,q):=al q;cases v with
  |int j=>
   dsimp only at q;split at q
   .rename_i c;have y:j.natAbs < 1000000:=aS c;ext q;calc#[F,m,L,S,_,_,r,l,e,λx C b z w d t=>?_];cases (x=.int j|>t);exact#[j,0,(),(),k _ C b z w d PD]
   .ext q
  |_=>ext q
end
def bG(g:lc)(c:EB)(e:EV):6 P->Lc->aK->7 (6 P×aK)
 | [],_,S=>Y ([],S)
 |v::r,L,S=>match g v L with
  |none=>Z
  |some h=>bw (c h S) λk x=>if k=W then bw (e h x) λy a=>bw (bG g c e r h a) λn s=>Y (y::n,s) else bG g c e r h x
open Classical in
def lK(ok:aK->5)(g:lc)(c:EB)(e:EV):6 P->Lc->aK->7 (6 P×aK)
 | [],_,S=>if ok S then Y ([],S) else Z
 | v::r,L,S=>if ok S then (match g v L with
  |none=>Z
  |some h=>bw (c h S) λk x=>if k=W then bw (e h x) λy a=>bw (lK ok g c e r h a) λn s=>Y (y::n,s) else lK ok g c e r h x) else Z
theorem ux:∀{T:6 P}{L:Lc}{S:aK},lK (λz=>True) g c e T L S=bG g c e T L S
 | [],_,_=>af trivial
 |v::r,L,S=>by
  unfold lK bG;rw[af trivial];cases g v L with
  |none=>rfl
  |some h=>rwa[ux (T:=r)]
def mn(y:6 9)(n:9)(L:6^7 α):6^7 α:=(y.foldl (λL i=>L.set i Z) L)++List.replicate n Z
def bf(i:lf)(y:6 9)(n:9)(g:lc)(c:EB)(e:EV):EV:=λL S=>bw (i L S) λxs h=>if few xs=W then bw (bG g c e xs (mn y n L) h) λs x=>Y (.l s,x) else Z
@[simp] def dD(_L:Lc)(S:aK):Qu:=Y (W,S)
def i4(y:6 9):∀L:6^7 α,-(y.foldl (λL i=>L.set i Z) L)=-L:=by
 induction y with
 |nil=>intro L;rfl
 |cons t y h=>intro L;rw[f6,h,de]
def uS(y:6 9):∀(L:6^7 α)(i:9)(d:α),(y.foldl (λL i=>L.set i Z) L)[i]? = Y^Y d->L[i]? = Y^Y d/\i ∉ y:=by
 induction y with
 |nil=>intro L i d h;calc#[h,∅]
 |cons t y s=>
  intro L i d h;rw[f6]at h;let(x,a):=s _ _ _ h;by_cases e:t=i
  .subst e;by_cases l:t < (-L)
   .rw [bY l]at x;ext x
   .rw [wW (by rw[de];lia)]at x;ext x
  .rw [aV e]at x;calc#[x,by simp[a];calc λz=>e z.symm]
def xj(y:6 9)(n:9)(L:6^7 α):-(mn y n L)=-L+n:=by unfold mn;rw[bo,i4,wX]
def DM(h:(mn y n L)[i]? = Y^Y d):L[i]? = Y^Y d/\i ∉ y/\i < -L:=by
 unfold mn at h;by_cases x:i < (-L)
 .rw [cG (by rw[i4];calc x)]at h;let(a,e):=uS y L i d h;exact#[a,e,x]
 .rw [bZ (by rw[i4];lia),w1]at h;split at h<;>ext h
variable{J:L2.St}
def RL.up(l:RL K F H m J L)(y:6 9)(n:9):RL K F H m (mn y n J)^mn y n L:=by
 calc#[by rw[xj,xj,l.len],λi d h=>?_];let(a,s,f):=DM h;let(v,e,r):=l.at' i d a;calc#[v,?_,r];unfold mn;rw[cG (by rw[i4,l.len];calc f)];have k:∀(y:6 9)(J:L2.St),i ∉ y->J[i]? = Y^Y v->(y.foldl (λL i=>L.set i Z) J)[i]? = Y^Y v:=by
  intro y;induction y with
  |nil=>intro J _ e;calc e
  |cons t y b=>intro J x e;rw[f6];calc b _ (λz=>x^aC _ z) ?_;rw[aV (λz=>x (by rw[z];calc aA))];exact e
 calc k y J s e
def om(G:Scope)(e:Env):6 (Str×13):=((G.names.filter λx=>x.2 == .free).map λx=>(x.1,(e.cells.lookup x.1).getD 0)).reverse
def inn(X:Cx)(G:Scope)(N':LS)(s:12)(H:Hp)(C:13)(f:6 13):Cx:=
 { X with N:=N',z:=s,y:=H,e:=compEnvC G (om G X.e) C X.e,o:=X.k,ex:=f,fn:=λx=>Xk,pn:=[],xe:=λx x=>False }
structure BlockOk(X:Cx)(scope:Scope)(N':LS)(ts:6 9)(n:9):5 where
 kind:scope.kind=.function
 cell:∀x ∈ scope.names,x.2≠.cell
 loc:∀x ∈ scope.names,x.2=.local->scope.names.lookup x.1=Y .local
 fr:∀x ∈ scope.names,x.2=.free->scope.names.lookup x.1=Y .free/\(X.e.kindOf x.1=Y .cell\/X.e.kindOf x.1=Y .free)
 names:X.N=N'.take (-X.N)
 more:-N'=-X.N+n
 ts:∀x ∈ scope.names,x.2=.local->∀i:9,X.N[i]? = Y x.1->i ∈ ts
theorem jS:∀{l:6 (Str×α)}{x:Str}{v:α},l.lookup x=Y v->(x,v) ∈ l
 | [],_,_,h=>by simp at h
 |(y,w)::r,x,v,h=>by
  rw[su]at h;cases e:x == y with
  |true=>rw[e]at h;ext h;rw[x=y|>by exists e];calc aA
  |false=>rw[e]at h;calc aC _^jS h
theorem nA:∀{l:6 (Str×α)}{x:Str}{v:α},(x,v) ∈ l->∃w,l.lookup x=Y w
 | [],_,_,h=>by simp at h
 |(y,w)::r,x,v,h=>by
  rw[su];cases e:x == y with
  |true=>calc#[w,0]
  |false=>
   rcases a8.mp h with h|h
   .injection h with a _;subst a;simp at e
   .calc nA h
variable{x:Str}
def gZ(h:(relabel G r).names.lookup x=Y k):∃a,(x,a) ∈ G.names/\(k=a\/(k=.cell/\a=.free)):=by
 let m:=jS h;unfold relabel at m;let((n,a),t,e):=bg.mp m;by_cases c:(a == NameKind.free && r.scope.kind == .function && r.kindOf n == Y .cell)=W
 .have s:(n,NameKind.cell)=(x,k):=by simpa[c] using e
  injection s with f b;subst f;rw[av,av]at c;exact#[a,t,.inr #[b.symm,by exists c.1.1]]
 .have s:(n,a)=(x,k):=by simpa[c] using e
  injection s with f b;subst f;calc#[a,t,.inl b.symm]
section
variable{X:Cx}{G:Scope}{N':LS}{y:6 9}{n:9}
def BlockOk.cl(B:BlockOk X G N' y n)(I:Inv X u J H s)(h:(om G X.e).lookup x=Y c):X.e.cells.lookup x=Y c/\(x,NameKind.free) ∈ G.names:=by
 let p:=jS h;unfold om at p;let((a,k),m,e):=bg.mp^CJ.mp p;let(m,hk):=f8.mp m;have t:k=.free:=by exists hk
 subst t;injection e with v b;subst v;let(_,d):=B.fr _ m rfl;let(q,f):=I.o.has a d;dsimp only at b;rw[f]at b;have r:q=c:=b;subst r;calc#[f,m]
def BlockOk.has(B:BlockOk X G N' y n)(h:(x,NameKind.free) ∈ G.names):∃c,(om G X.e).lookup x=Y c:=by unfold om;calc nA (v:=(X.e.cells.lookup x).getD 0)^CJ.mpr^bg.mpr #[(x,.free),f8.mpr #[h,∅],0]
theorem IS(B:BlockOk X G N' y n)(I:Inv X r J H s)(C: ~~~s≤k)(m:∀b ∈ u,uG X r H b)(w:∀b ∈ u,b < ~~~s) :
  (inn X G N' s H k u).Ok where
 mod:=I.o.mod
 kind:=B.kind
 glob:=I.o.glob
 blt:=I.o.blt
 above:=C
 inj:=λx a c q v=>I.o.inj x a c (B.cl I q).1 (B.cl I v).1
 has:=λx h=>by
  have p:(relabel G X.e).names.lookup x=Y .cell\/(relabel G X.e).names.lookup x=Y .free:=h;rcases p with h|h
  .obtain⟨g,t,e|⟨_,e⟩⟩:=gZ h
   .subst e;exact absurd rfl^B.cell _ t
   .subst e;exact B.has t
  .obtain⟨g,t,e|⟨e,_⟩⟩:=gZ h
   .subst e;exact B.has t
   .ext e
 cab:=λx c h=>nomatch h
 hd:=I.o.hd
 frames:=I.o.frames
 stk:=.inl rfl
 exf:=λb f=>#[bS^bU (w b f) C,λx c h=>(m b f).2.2.2.2.1 x c (B.cl I h).1]
 bs:=I.bs
 bsz:=aH I.o.bsz I.sz
 noex:=λb o e f=>by
  rcases(m b f).2.2.2.1 with z|z
  .exact I.o.noex b o e z
  .exact absurd (bU (aN (I.o.bs b o e).1) z) (gP _)
 exfs:=λb f z=>by
  rcases a8.mp^I.stkSub b z with z|z
  .exact (m b f).2.1 z
  .exact (m b f).2.2.1 z
 funs:=I.stack
 frf:=I.stkFree
 tab:=λP d=>I.base.tbls P^I.o.tab P d
theorem _root_.L2.Un.sameBut(u:Un fs r H H' h t)(s:fq k t Q)(C:∀b o,h.get? b=Y o->b≠k):Un fs r H H' h Q where
 keep:=λb o e n a x=>s.extBut b o (C b o e) (u.keep b o e n a x)
 slot:=λb o e n a x=>by let(l,q):=u.slot b o e n a x;exact#[l,s.extBut b _ (C b o e) q]
 free:=u.free
 there:=λb o e x=>by let(f,q):=u.there b o e x;exact#[f,s.extBut b _ (C b o e) q]
 tups:=u.tups
 frzs:=u.frzs
 tbls:=u.tbls
theorem _root_.L2.kF.sameBut{P:18}{w:16}{H:Hp}{h x:17}{C:13}(ok:kF P w H h)(n:fq C h x)(a:H C=Z):kF P w H x:=λb u e=>
 (ok b u e).stay (fun c v s q=>n.extBut c v (by
  rintro rfl;rcases s with z|z
  .subst z;rw[a]at e;ext e
  .rw [a]at z;ext z) q) (λy q=>q) λy y q=>q
inductive PIfs(X:Cx):Ab->EB->5 where
 |none:PIfs X [] dD
 |one {c:14}{q:EB}:PT X c^tQ X.K q->PIfs X [c] q
theorem Kp.bump(a:¬F p)(t:∀xs,H p≠Y^.u xs)(c:∀x u,H p≠Y (.frz x^.own u)):Kp F m H F m^cc H p o:=
 #[#[[],∅],λz h=>h,λb u f h=>by rw[aE (by rintro rfl;calc a f)];calc h,λb xs h=>by rw[aE (by rintro rfl;calc t xs h)];calc h,λb x u h=>by rw[aE (by rintro rfl;calc c x u h)];calc h]
theorem Stp.bump(s:Stp F m H F' m' H')(a:H p=Z):Stp F m H F' m'^cc H' p o where
 pre:=s.pre
 oth:=λb u h n=>by rw[aE (by rintro rfl;rw[a]at h;ext h)];exact s.oth b u h n
 frz:=s.frz
 frk:=λb u f h=>by rw[aE (by rintro rfl;rw[a]at h;ext h)];exact s.frk b u f h
 tup:=λb xs h=>by rw[aE (by rintro rfl;rw[a]at h;ext h)];exact s.tup b xs h
 cod:=λb x u h=>by rw[aE (by rintro rfl;rw[a]at h;ext h)];exact s.cod b x u h
 trk:=λb h=>by
  by_cases e:b=p
  .subst e;rw[aO];exact λz=>nomatch z
  .rw [aE e];exact s.trk b h
 nf:=s.nf
 nm:=s.nm
theorem Rel.bump(r:Rel K F H m S)(e:¬F p)(n:p ∉ m)(t:∀xs,H p≠Y^.u xs)(c:∀x u,H p≠Y (.frz x^.own u)):Rel K F (cc H p o) m S:=
 r.stayK (Kp.bump e t c) (λa u s h=>by rw[aE (by rintro rfl;calc n s)];calc h) (λz f=>.inl f) λa f=>by rw[aE (by rintro rfl;calc e f)];calc r.ft a f
theorem V':Kp F m H (λb=>F b\/b=p) m H:=#[#[[],∅],λz h=>.inl h,λz z z h=>h,λz z h=>h,λz z z h=>h]
theorem Stp.addF(s:Stp F m H F' m' H')(x:H p=Z):Stp F m H (λb=>F' b\/b=p) m' H':=
 #[s.pre,s.oth,fun b h=>.inl^s.frz b h,s.frk,s.tup,s.trk,fun b h=>by
  rcases h with h|h
  .exact s.nf b h
  .subst h;calc .inr^.inl x,s.nm,s.cod]
theorem Rel.addF(r:Rel K F H m S)(s:p ∉ m)(n:H p≠Z):Rel K (λb=>F b\/b=p) H m S where
 len:=r.len
 nd:=r.nd
 obj:=λi a o e x=>(r.obj i a o e x).kp V' λu h=>h
 sep:=λi a o e x w f=>by
  rcases f with f|f
  .exact r.sep i a o e x w f
  .subst f;exact s (bq e)
 trk:=r.trk
 ft:=λa f=>by
  rcases f with f|f
  .exact r.ft a f
  .subst f;calc n
def _root_.L2.Inv.letGo(I:Inv X k J H s)(f:fq h s.heap t)(C:H h=Z)(v:X.z.heap.objs.size≤h)(d:h≠X.e.locals)
  (w:∀x c,X.e.cells.lookup x=Y c->c≠h) (u:∀p ∈ X.pn++k,p.1≠h):Inv X k J H { s with heap:=t }:=by
 have r:∀b:13,b ∉ [h]->b≠h:=λb m z=>m (by simp[z]);calc I.call' (s':={ s with heap:=t }) (q:=[h]) rfl #[λb o e y y a=>f.extBut b o (r b a) e,λb o e y y a=>#[o.slots,f.extBut b o (r b a) e],λy y y n y=>n,λb o e a=>#[o,f.extBut b o (r b a) e],λy y q=>q,λy y y q=>q,λy q=>q] (I.h.sameBut f C) I.bare λb m=>?_;have e:b=h:=by exists m
 subst e;calc#[.inr v,d,w,u]
def Gc(I:9->12->5)
  (f:∀n s,I n s->wpAny (model t w) A (pyNext it) (fun r b=>match r with
   |none=>R (.ok .next) b
   | some v=>wpAny (model t w) A (letOwnedTupleGo tg it v) (fun _ g=>wpAny (model t w) A (assign tg k v) (fun _ i=>
     wpAny (model t w) A (forIn ifs W fun c r=>if r=W then do let ok <- isTrue c k^eval c k;pure (ForInStep.yield ok) else pure^ForInStep.yield r) (fun ok p=>
      if ok=W then wpAny (model t w) A (eval Q k) (fun x j=>
       wpAny (model t w) A (call (.builtin "list.append") [u,x]) (λZ l=>∃m,m < n/\I m l) (notedBy (model t w) A k λe a=>R (.error e) a) j) (notedBy (model t w) A k λe a=>R (.error e) a) p
      else ∃m,m < n/\I m p) (notedBy (model t w) A k λe a=>R (.error e) a) i) (notedBy (model t w) A k λe a=>R (.error e) a) g) (notedBy (model t w) A k λe a=>R (.error e) a) b) (notedBy (model t w) A k λe a=>R (.error e) a) s)
  (n:9) (h:I n s):codeAny (model t w) A (.compLoop (.ListComp Q [#[tg,iter,ifs,(0)]] G M) 0 it u k) R s:=by
 calc codeAny_loop rfl I (λn s F=>?_) n h;show wpAny _ A ((compTurn (.ListComp Q [#[tg,iter,ifs,(0)]] G M) 0 it u k).onRaise (λx=>do noteFrame x k;theTreesLotGoes x)) _ _ s;calc wpAny_noted ?_;rw[compTurn_list];calc ai^v9^ai (c_ (f n s F) (λr b q=>?_) λZ Z z=>z);cases r with
 |none=>calc aG q
 |some v=>
  calc ai (c_ q (λZ g y=>ai (c_ y (λZ i o=>ai (c_ o (λok p d=>?_) λZ Z z=>z)) λZ Z z=>z)) λZ Z z=>z);cases ok with
  |false=>calc aG #[0,d]
  |true=>calc ai^ai (c_ d (λx j H=>ai (c_ H (λZ l S=>aG^aG #[0,S]) λZ Z z=>z)) λZ Z z=>z)
def MF{j:17}{tk:9}(B:BlockOk X G N' y n)(s:Inv X Q J I k)(C: ~~~k≤h)(Z0:∀b ∈ fp,uG X Q I b)(P:∀b ∈ fp,b < ~~~k)(l:∀b o,k.heap.get? b=Y o->j.get? b=Y o)
  (hD:I (~~~k)=Z) (D: ~~~k≠h) (K:I h=Z) (d:j.Ns h mC) (f:j.get? (~~~k)=Y { cls:=.type "list",dict:=Z,data:=.seq ([]:LV).toArray }) :
  Inv (inn X G N' k I h fp) [] (mn y n J) (cc I (~~~k)^.l []) { k with heap:=j,toks:=tk }:=by
 refine#[IS B s C Z0 P,0,s.bare,Un.laid l (ar _) hD,?_,λx c e=>?_,?_,λx c e=>?_,λp hp=>absurd (p ∈ ([]:PN)|>hp) ∅,?_,?_]
 .let(m0,hn0,A):=s.loc;calc#[_,d,λi x v T V hv=>?_];let(H,S,F):=DM V;have q:-J=-X.N:=s.len;have M:X.N[i]? = Y x:=by
   rw[B.names,iW (by rw[<- q];calc F)];exact T
  have g:(relabel G X.e).names.lookup x=Y .local\/(relabel G X.e).names.lookup x=Y .cell\/(relabel G X.e).names.lookup x=Y .free:=hv;have R:¬(relabel G X.e).names.lookup x=Y .local:=λz=>by
   obtain⟨N,m,e|⟨e,_⟩⟩:=gZ z
   .subst e;exact absurd (B.ts _ m rfl i M) S
   .ext e
  have L:(x,NameKind.free) ∈ G.names:=by
   rcases g with z|z|z
   .exact absurd z R
   .obtain⟨N,m,e|⟨_,e⟩⟩:=gZ z
    .subst e;exact absurd rfl^B.cell _ m
    .subst e;exact m
   .obtain⟨N,m,e|⟨e,_⟩⟩:=gZ z
    .subst e;exact m
    .ext e
  let(_,t):=B.fr _ L rfl;have E:MP X.e.scope x:=by
   rcases t with z|z
   .exact .inr^.inl z
   .exact .inr^.inr z
  let(u,ru,lk):=A i x v M H E;refine#[u,ru,.inr #[?_,?_]]
  .rcases g with z|z|z
   .exact absurd z R
   .exact .inl z
   .exact .inr z
  .rcases lk with ⟨z,_⟩|⟨_,c,Z1,ic⟩
   .rcases t with a|a
    .rw [z]at a;ext a
    .rw [z]at a;ext a
   .let(c',r):=B.has L;have:=(B.cl s r).1
    rw[Z1]at this;ext this;let(o,w,hd):=ic;exact#[c,r,o,l c o w,hd]
 .let(v,o,w,hd):=s.cell x c (B.cl s e).1;exact#[v,o,l c o w,hd]
 .show cc I k.heap.objs.size (.l []) h=Z;rw[aE^b9 D];exact K
 .let(v,o,w,hd):=s.cell x c (B.cl s e).1;rw[aE^bS^aN w];exact s.freeC x c (B.cl s e).1
 .exact s.h.laid l (ar _) #[cS _,[],(0),.nil,f]
 .show -(mn y n J)=-N';rw[xj,s.len,B.more]
inductive cIv(K:FG)(Y9:Cx)(F1:Aa)(m1:6 13)(H2:Hp)(A:13)(tn:9->17->5)(fp:6 13)(R:9->9->Lc->aK->6 P->5)(ys:6 P)(nn:9)(sx:12):5
 |mk (i:9) (J':L2.St) (F':Aa) (m':6 13) (H':Hp) (L':Lc) (S':aK) (acc rest:6 P) (xs:6 V) (h0_:Inv Y9 [] J' H' sx) (h1_:tn i sx.heap) (h2_:∀b ∈ fp,H' b=Z) (h3_:Stp F1 m1 H2 F' m' H') (h4_:Rel K F' H' m' S') (h5_:RL K F' H' m' J' L') (h6_:H' A=Y^.l xs) (h7_:cF K F' H' acc xs) (h8_:-acc≤i) (h9_:¬F' A) (ha_:A ∉ m') (hb_:R nn i L' S' rest) (hc_:acc++rest=ys):cIv K Y9 F1 m1 H2 A tn fp R ys nn sx
def Wp(K:FG)(ok:aK->5)(a:It)(T:6 P)(F:Aa)(m:6 13)(H:Hp):5:=∀B s I S,Stp F m H B s I->Rel K B I s S->ok S ->
 (∀(i:9) v,T[i]? = Y v->a.go i I/\∀x h,a.yld i I x h->∃e,Grow B I e h/\RP K e h v x)/\a.stop T.length I
def uI(X:Cx)(t iter:14)(f:EV)(y:6 9)(n:9)(g:lc)(c:EB)(fe:EV):5:=∃w,PI X t iter w/\∀J H F m L S d a,Rel X.K F H m S->RL X.K F H m J L->f L S=Y (d,a) ->
 X2 λok T x s=>d=.l s/\few T=W/\w J H (λe z=>X0 λC h=>Stp F m H C h z/\Rel X.K C z h x/\Wp X.K ok e T C h z)/\lK ok g c fe T (mn y n L) x=Y (s,a)
def Ti(i:PI X Q iter^tI X.K u):uI X Q iter (bf u y n g t fe) y n g t fe:=by
 calc#[_,i,λJ H F m L S d a r l h=>?_];let(T,x,s,h):=al h;split at h;case isFalse=>ext h
 rename_i f;let(j,e,k,h):=al h;ext h;calc#[λZ=>True,T,x,j,0,f,#[F,m,L,S,T,x,r,l,s,λo C c z w v b=>#[C,c,w,v,λB p I a q Z Z=>b B p I q]],by rw[ux];calc k]
def nh 
  (B:BlockOk X G N' y n) (hcalm:X.c=W)
  (hi:PI X tg iter wi) (hg:∀s H h D,PG (inn X G N' s H h D) tg^gT X.K g) (hc:∀s H h D,PIfs (inn X G N' s H h D) ifs fc) (he:∀s H h D,PE (inn X G N' s H h D) elt^tV X.K fe)
  (hclos:closureFor G X.e=pure^om G X.e) (hs:∀x,foldedSetIterable iter X.e x=pure x)
  (a:Inv X x4 J H s) (r:Rel X.K F H m S) (l:RL X.K F H m J L) (hw:wi J H λJ9 z=>X0 λC m1=>Stp F m H C m1 z/\Rel X.K C z m1 S1/\Wp X.K ok J9 T C m1 z) (hfew:few T=W) (e2:lK ok g fc fe T (mn y n L) S1=Y (ds,S2))
  (fin:∀p F' m' H' sx h xs,Inv X x4 J H' sx->Stp F m H F' m' H'->Rel X.K F' H' m' S2->H p=Z/\¬F' p/\p ∉ m'/\H' p=Y^.l xs/\cF X.K F' H' ds xs->H' h=Z->X.z.heap.objs.size≤h->h≠X.e.locals->(∀x c,X.e.cells.lookup x=Y c->c≠h)->(∀p ∈ X.pn++x4,p.1≠h) ->
   (∃mC,sx.heap.Ns h mC)->compPost (model X.p X.w) X.A X.xe use Q (.ref p) h (.ok .next) sx) :
  wx X (comprehension (.ListComp elt [#[tg,iter,ifs,(0)]] G M) G X.e p2 (newList []) Xk (eval iter X.e) use) Q X.xe s:=by
 calc wpAny_comprehension_free (use:=use) rfl hs hclos B.kind B.loc (cQ (hi x4 s J H _ a hw) λxv sA hA=>cQ hA λitv P h2=>?_);let(it,D,tn,J9,I,0,I2,k,st2,f2,C,m1,s1,r1,itp):=h2;have hfp:∀b ∈ D,b < ~~~P:=λb R=>by let(o,e,_):=k.obj _ _ st2 b R;exact aN e
 calc sX ?_ (by show 0≤sizeLine;calc cS _);calc DD B.cell (by intro t hy;simp at hy) (λh1 hns1 Z0=>?_) B.kind;dsimp only at hns1 Z0 ⊢;have hD:I (~~~P)=Z:=I2.h.fresh^ar _;generalize hH2:P.heap.push { cls:=.type "list",dict:=Z,data:=.seq ([]:LV).toArray }=K at hns1 Z0 ⊢;have hC:K.objs.size= ~~~P+1:=by rw[<- hH2,oH]
 have A: ~~~P≤K.objs.size:=by rw[hC];exact mP _
 have old:∀b o,P.heap.get? b=Y o->h1.get? b=Y o:=λb o e=>Z0.extBut b o (bS^bU (aN e) A) (bb _<|hH2 ▸ bb _ e);have hDC: ~~~P≠K.objs.size:=by rw[hC];exact bS^gQ _
 have accO:h1.get? (~~~P)=Y { cls:=.type "list",dict:=Z,data:=.seq ([]:LV).toArray }:=Z0.extBut _ _ hDC (bb _<|hH2 ▸ bO _ rfl);have hCn:I K.objs.size=Z:=I2.h.fresh A;have hCcell:∀x c,X.e.cells.lookup x=Y c->c≠K.objs.size:=λx c e d=>by let(v,o,ho,_):=I2.cell x c e;exact absurd (aN ho)^wE.mpr (by rw[d];calc A)
 have hCloc:K.objs.size≠X.e.locals:=mR^bU I2.lt A;have hCpin:∀p ∈ X.pn++x4,p.1≠K.objs.size:=λp hp d=>absurd (aN (I2.pin p hp).1)^wE.mpr (by rw[d];calc A);let I3:=MF (tk:=P.toks+-([]:6 (Str×11))) B I2 A f2 hfp old hD hDC hCn hns1 accO;let okX:=IS (k:=K.objs.size) B I2 A f2 hfp;have fpH:∀{H':Hp},(∀b ∈ D,H' b=Z)->∀b ∈ D,uG (inn X G N' P I K.objs.size D) [] H' b:=λhn b R=>
  #[hn b R,bS^bU (hfp b R) A,okX.exfs b R,.inl R,(okX.exf b R).2,λp hp=>absurd (p ∈ ([]:PN)|>hp) ∅]
 have tn1:tn 0 h1:=k.keep _ _ _ st2 λb R o e=>old b o e;have loop:∀s3:12,s3={ P with heap:=h1,toks:=P.toks+-([]:6 (Str×11)) } ->
   codeAny (model X.p X.w) X.A (.compLoop (.ListComp elt [#[tg,iter,ifs,(0)]] G M) 0 (.ref it) (.ref (~~~P))^compEnvC G (om G X.e) K.objs.size X.e)
    (compPost (model X.p X.w) X.A X.xe use Q (.ref (~~~P)) K.objs.size) s3:=by
  rintro s3 rfl;refine Gc (cIv X.K (inn X G N' P I K.objs.size D) C m1 I P.heap.objs.size tn D (λnn i L' N j=>nn=-T-i/\i≤-T/\lK ok g fc fe (T.drop i) L' N=Y (j,S2)) ds) ?_ (-T) ?_
  .rintro nn sx ⟨i,J',F',m',H',L',N,acc,j,xs,I',tn',fr',st',r',l',hacc,ra,hal,nF,nm,⟨rfl,hi',E⟩,rfl⟩;by_cases hlt:i < (-T)
   .have hv:T[i]? = Y T[i]:=by simp[hlt]
    rw[C4 hlt]at E;unfold lK at E;split at E;case isFalse=>ext E
    rename_i hok;let(hgo,_):=itp F' m' H' N st' r' hok;let(hgo1,hy):=hgo i _ hv;calc c_ (k.item (inn X G N' P I K.objs.size D) rfl rfl rfl hcalm i [] sx J' H' (λU U=>False) I' (fpH fr') tn' hgo1) (λrr sy hr=>?_) (λU U f=>f.elim);let(u,0,hr):=hr;calc c_ hr (λU sz hz=>?_) (λU U f=>f.elim);let(x,H3,I4,rx,yl,tn4,fr4):=hz;let(F3,gr,p3):=hy x H3 yl;have JR:Stp C m1 I F3 m' H3:=st'.trans gr.stp;let r4:=r'.grow gr;let l4:=l'.mono^gr.stp (m:=m');let acc4:=gr.keep _ _ hacc;have nF4:¬F3 (~~~P):=λd=>by
     rcases gr.nf _ d with d|⟨d,_⟩
     .exact nF d
     .rw [hacc]at d;ext d
    let I4':=I4.pinned (fpH fr4)^k.obj _ _ tn4;have back:∀{J7:L2.St}{H7:Hp}{s7:12},Inv (inn X G N' P I K.objs.size D) ([]++qf D sz.heap) J7 H7 s7->tn (i+1) s7.heap/\∀b ∈ D,H7 b=Z:=λ{J7 H7 s7} I7=>
     #[k.keep _ _ _ tn4 λb R o e=>(I7.pin (b,o)^gc _^gc _^lE R e).1,λb R=>by let(o,e,dd):=k.obj _ _ tn4 b R;calc(I7.pin (b,o)^gc _^gc _^lE R e).2.1]
    cases eg:g T[i] L' with
    |none=>rw[eg]at E;ext E
    |some L1=>
     rw[eg]at E;dsimp only at E;let(kk,S5,e5,E):=al E;calc c_ (hg P I K.objs.size D _ sz J' H3 x u (λJ5 H5=>H5=H3/\RL X.K F3 H3 m' J5 L1) I4' rx #[F3,m',L',T[i],L1,l4,p3,eg,λJ5 l5=>#[0,l5]]) (λU s5 h5=>?_) (λU U f=>f.elim);let(J5,H5,I5,0,l5):=h5;have test:wx X (forIn ifs W λc r=>if r=W then do let ok <- isTrue c (compEnvC G (om G X.e) K.objs.size X.e) (eval c^compEnvC G (om G X.e) K.objs.size X.e);pure (ForInStep.yield ok) else pure^ForInStep.yield r)
       (λok s6=>ok=kk/\X1 λV m6 H6=>Inv (inn X G N' P I K.objs.size D) ([]++qf D sz.heap) J5 H6 s6/\Stp F3 m' H5 V m6 H6/\Rel X.K V H6 m6 S5) (λU U=>False) s5:=by
      let hcc:=hc P I K.objs.size D;cases hcc with
      |none=>ext e5;calc wpAny_tests_nil #[0,F3,m',H5,I5,.refl,r4]
      |one hq=>calc wpAny_tests_one (c_ (hq _ s5 J5 H5 (λb H6=>b=kk/\X0 λV m6=>Stp F3 m' H5 V m6 H6/\Rel X.K V H6 m6 S5) I5 #[F3,m',L1,N,kk,S5,r4,l5,e5,λV m6 H6 s6 r6=>#[0,V,m6,s6,r6]]) (λb s6 h6=>?_) λU U f=>f);let(H6,I6,0,V,m6,Hn,r6):=h6;exact#[0,V,m6,H6,I6,Hn,r6]
     calc c_ test (λok s6 h6=>?_) (λU U f=>f.elim);let(0,V,m6,H6,I6,Hn,r6):=h6;let Z1:=Hn.oth _ _ acc4 nm;have nm6: ~~~P ∉ m6:=λd=>by
      rcases Hn.nm _ d with d|d
      .exact nm d
      .rw [acc4]at d;ext d
     have nF6:¬V (~~~P):=λd=>by
      rcases Hn.nf _ d with d|d|d
      .exact nF4 d
      .rw [acc4]at d;ext d
      .exact nm d
     let ra6:=cF.mono Hn^ra.grow gr;let l6:=l5.mono Hn;cases ok with
     |false=>rw[ag bQ]at E ⊢;let(t7,f7):=back I6;calc#[-T-(i+1),(),i+1,J5,V,m6,H6,L1,S5,acc,j,xs,I6.pins_of λp hp=>absurd hp ∅,t7,f7,JR.trans Hn,r6,l6,Z1,ra6,Cz hal,nF6,nm6,#[0,hlt,E],0]
     |true=>
      rw[af rfl]at E ⊢;let(t,S8,e8,E):=al E;let(zs,S9,e9,E):=al E;ext E;calc c_ (he P I K.objs.size D _ s6 J5 H6 (λv8 H8=>X0 λF8 m8=>Stp V m6 H6 F8 m8 H8/\Rel X.K F8 H8 m8 S8/\RP X.K F8 H8 t v8) I6 #[V,m6,L1,S5,t,S8,r6,l6,e8,λv8 F8 m8 H8 s8 r8 p8=>#[F8,m8,s8,r8,p8]]) (λu8 s8 h8=>?_) (λU U f=>f.elim);let(v8,H8,I8,rv8,F8,m8,st8,r8,p8):=h8;let acc8:=st8.oth _ _ Z1 nm6;have nm8: ~~~P ∉ m8:=λd=>by
       rcases st8.nm _ d with d|d
       .exact nm6 d
       .rw [Z1]at d;ext d
      have nF8:¬F8 (~~~P):=λd=>by
       rcases st8.nf _ d with d|d|d
       .exact nF6 d
       .rw [Z1]at d;ext d
       .exact nm6 d
      let ra8:=cF.mono st8 ra6;have nt8:∀zs,H8 (~~~P)≠Y^.u zs:=λzs d=>by rw[acc8]at d;ext d
      have nc8:∀x u,H8 (~~~P)≠Y (.frz x^.own u):=λx u d=>by rw[acc8]at d;ext d
      have hl8:-xs < sizeLine:=by have h9:-T≤1000000:=aS hfew;rw[<- (-ra8)];exact bU (j8 hal hlt)^aH h9 #[]
      calc c_ (vu (X:=inn X G N' P I K.objs.size D) _ s8 J5 H8 (.ref (~~~P)) [v8] (.ref (~~~P)) [u8] (λU H9=>H9=cc H8 P.heap.objs.size (.l<|xs++[v8])) I8 rfl (.cons rv8 .nil) #[_,xs,v8,0,0,acc8,hl8,0]) (λU s9 h9=>?_) (λU U f=>f.elim);let(_,H9,I9,_,0):=h9;let(t9,f9):=back I9;have kb:Kp F8 m8 H8 F8 m8 (cc H8 (~~~P)<|.l<|xs++[v8]):=Kp.bump nF8 nt8 nc8;have st9:Stp C m1 I F8 m8 (cc H8 (~~~P)<|.l<|xs++[v8]):=(JR.trans^Hn.trans st8).bump hD;have l9:RL X.K F8 (cc H8 (~~~P)<|.l<|xs++[v8]) m8 J5 L1:=#[l6.len,λw dd e=>by let(v,e1,rr):=(l6.mono st8).at' w dd e;calc#[v,e1,RD.kp kb rr]]
      exact#[-T-(i+1),(),i+1,J5,F8,m8,_,L1,S8,acc++[t],zs,xs++[v8],I9.pins_of fun p hp=>absurd hp ∅,t9,f9,st9,r8.bump nF8 nm8 nt8 nc8,l9,aO,
       cF.kp kb (ra8.append #[v8,[],0,p8,0]),by rw[bo];calc Nat.succ_le_succ hal,nF8,nm8,#[0,hlt,e9],∅]
   .have e:i=-T:=by lia
    subst e;rw[sm]at E;unfold lK at E;split at E;case isFalse=>ext E
    rename_i hok;ext E;let(_,hstop):=itp F' m' H' _ st' r' hok;calc c_ (k.done (inn X G N' P I K.objs.size D) rfl rfl rfl hcalm (-T) [] sx J' H' (λU U=>False) I' (fpH fr') tn' hstop) (λrr sy hr=>?_) (λU U f=>f.elim);let(0,I5):=hr;rw[dQ] at *
    have Iout:Inv X x4 J H' sy:=I2.call' (q:=D) I5.os I5.base I5.h I5.bare λb R=>#[(f2 b R).2.2.2.1,(f2 b R).2.1,(f2 b R).2.2.2.2.1,(f2 b R).2.2.2.2.2];have hD0:H (~~~P)=Z:=by
     cases q:H (~~~P) with
     |none=>rfl
     |some o=>exact absurd hD^s1.trk _ (by rw[q];calc λd=>nomatch d)
    have hCH:H' K.objs.size=Z:=I5.free;let(mC,hmC,_):=I5.loc;exact fin P.heap.objs.size F' m' H' sy K.objs.size xs Iout (s1.trans st') r' #[hD0,nF,nm,hacc,ra] hCH (aH I2.sz A) hCloc hCcell hCpin #[mC,hmC]
  .exact#[(0),_,C,m1,_,mn y n L,S1,[],ds,[],I3,tn1,λb R=>by rw[aE^bS^hfp b R];calc(f2 b R).1,(cP hD).stp,r1.grow^cP hD,((l.mono s1).mono (cP hD).stp).up y n,aO,0,cS _,r1.fresh_F hD,r1.fresh_m hD,#[0,cS _,by rw[oQ];calc e2],0]
 calc codeAny_compStart_list (loop _ rfl)^k.self X.A 0 _ _ _ tn1^loop _ rfl
def zM(q:Stp F m H F' m' H')(r:Rel K F' H' m' S)(f:H p=Z/\¬F' p/\p ∉ m'/\H' p=Y^.l xs/\cF K F' H' k xs) :
  Stp F m H (λb=>F' b\/b=p) m' H'/\Rel K (λb=>F' b\/b=p) H' m' S/\RP K (λb=>F' b\/b=p) H' (.l k)^.ref p:=by
 let(x,e,n,h,a):=f;calc#[q.addF x,r.addF n (by rw[h];calc λz=>nomatch z),_,xs,0,#[.inr rfl,h],cF.kp (m:=m') V' a]
def Rb(B:BlockOk X G N' y n)(c:X.c=W)
  (Z1:uI X tg iter f y n g fc fe) (hg:∀s H C a,PG (inn X G N' s H C a) tg^gT X.K g) (V:∀s H C a,PIfs (inn X G N' s H C a) u fc) (Z0:∀s H C a,PE (inn X G N' s H C a) t^tV X.K fe)
  (o:closureFor G X.e=pure^om G X.e) (hs:∀x,foldedSetIterable iter X.e x=pure x:=by intro _;rfl) :
  PE X (.ListComp t [#[tg,iter,u,(0)]] G M) (tV X.K f):=by
 intro i s J H Q I #[F,m,L,S,d,N,r,l,h,k];rw[Dh];let(wi,hi,Z1):=Z1;let(ok,T,S1,ds,0,e,hw,K):=Z1 J H F m L S d N r l h;refine nh B c hi hg V Z0 o hs I r l hw e K λp F' m' H' sx C xs v q r' f R P A D E hz=>?_
 let(mC,b):=hz;let(w,j,z):=zM q r' f;calc#[mC,b,λh' sb=>#[.ref p,H',v.letGo sb R P A D E,0,k _ _ m' H' w j z]]
@[simp] def e_(f:EV)(L:Lc)(S:aK):uK:=bw (f L S) λv h=>match v with
 | .l d=>Y (.ref (-h),h++[.l^d.map .p])
 |_=>Z
def zL(q:Stp F m H F' m' H')(r:Rel K F' H' m' S)(f:H p=Z/\¬F' p/\p ∉ m'/\H' p=Y^.l xs/\cF K F' H' Q xs) :
  Stp F m H F' (m'++[p]) H'/\Rel K F' H' (m'++[p]) (S++[.l^Q.map .p]):=by
 let(v,j,l,c,y):=f;have g:Kp F' m' H' F' (m'++[p]) H':=#[#[[p],0],λX h=>h,λX X X h=>h,λX X h=>h,λX X X h=>h];have lt:∀{i:9}{a:13},(m'++[p])[i]? = Y a->i < -m'\/(i=-m'/\a=p):=λ{i a} e=>by
  rcases Cv i (-m') with h|h
  .exact .inl h
  .rw [bZ h]at e;have d:i-m'.length=0:=by
    rcases Nat.eq_zero_or_pos (i-m'.length) with z|z
    .exact z
    .rw [wW (by simp;lia)]at e;ext e
   rw[d]at e;exact .inr #[(),by exists e.symm]
 refine#[#[?_,q.oth,q.frz,q.frk,q.tup,q.trk,q.nf,λb t=>?_,q.cod],#[by rw[bo,bo,r.len];rfl,?_,λi a o s x=>?_,λi a o s x w=>?_,λa k=>?_,r.ft]]
 .let(n,e):=q.pre;exact#[n++[p],by rw[e,dS]]
 .rcases cj.mp t with t|t
  .exact q.nm b t
  .have:b=p:=by exists t
   subst this;exact .inr v
 .rw [j_];calc#[r.nd,∅,λa k b t e=>?_];have:b=p:=by exists t
  subst this;subst e;exact l k
 .rcases lt s with h|⟨h,rfl⟩
  .rw [cG h]at s;rw[cG (by rw[<- r.len];calc h)]at x;exact(r.obj i a o s x).kp g λu z=>z
  .subst h;rw[r.len,bZ^ar _]at x;simp at x;subst x;exact#[xs,c,c7.ofP y]
 .rcases lt s with h|⟨h,rfl⟩
  .rw [cG h]at s;rw[cG (by rw[<- r.len];calc h)]at x;exact r.sep i a o s x w
  .exact j
 .rcases cj.mp k with k|k
  .exact r.trk a k
  .have:a=p:=by exists k
   subst this;rw[c];calc λz=>nomatch z
def NY(B:BlockOk X G N' y n)(c:X.c=W)
  (Z1:uI X tg iter f y n g fc fe) (hg:∀s H C a,PG (inn X G N' s H C a) tg^gT X.K g) (hc:∀s H C a,PIfs (inn X G N' s H C a) u fc) (he:∀s H C a,PE (inn X G N' s H C a) t^tV X.K fe)
  (o:closureFor G X.e=pure^om G X.e) (hs:∀x,foldedSetIterable iter X.e x=pure x:=by intro _;rfl) :
  PE X (.ListComp t [#[tg,iter,u,(0)]] G M) (tE X.K^e_ f):=by
 intro i s J H Q I #[F,m,L,S,d,N,r,l,h,k];rw[Dh];let(v,z,A,h):=al h;let(wi,hi,Z1):=Z1;let(ok,T,S3,ds,0,e,hw,D):=Z1 J H F m L S v z r l A;ext h;refine nh B c hi hg hc he o hs I r l hw e D λp F' m' H' sx C xs j q w f hC E R V Z0 hz=>?_
 let(mC,b):=hz;let(K,P):=zL q w f;calc#[mC,b,λh' sb=>#[.ref p,H',j.letGo sb hC E R V Z0,0,k _ F' _ H' K P #[p,0,?_]]];rw[<- w.len,bZ^ar _];simp
def Q0(i:9)(hN:X.N.Nodup)(B:BlockOk X G N' y n)(c:X.c=W)
  (Z1:uI X tg iter f y n g fc fe) (hg:∀s H C b,PG (inn X G N' s H C b) tg^gT X.K g) (hc:∀s H C b,PIfs (inn X G N' s H C b) u fc) (he:∀s H C b,PE (inn X G N' s H C b) t^tV X.K fe)
  (o:closureFor G X.e=pure^om G X.e) (R:swapsWith (.ListComp t [#[tg,iter,u,(0)]] G M) (Y^.Name x px) spos.line X.e=pure W:=by rfl)
  (hs:∀x,foldedSetIterable iter X.e x=pure x:=by intro _;rfl) (A:X.N[i]? = Y x:=by rfl) (hx:Loc X.e.scope x:=by first|calc Or.inl rfl|calc Or.inr rfl)
  (hf:X.fn x=W\/X.e.scope.names.lookup x=Y .local:=by first|calc .inl rfl|calc .inr rfl|assumption) :
  PS X (.Assign [.Name x px] (.ListComp t [#[tg,iter,u,(0)]] G M) spos) (ma X.K^az i^O f):=by
 intro K s J H D I #[F,m,L,S,fl,L',N,r,l,h,k];let(d,S1,e1,h):=al h;ext h;let(v,S2,e2,e3):=al e1;ext e3;rw[DF _ _ _ _ R];calc ai (v9^ai ?_);show wpAny _ _ (do let _ <- comprehension (.ListComp t [#[tg,iter,u,(0)]] G M) G X.e _ (newList []) Xk (eval iter X.e) (Y^assign (.Name x px) X.e)) _ _ s;let(wi,hi,Z1):=Z1;let(ok,T,S3,ds,0,j,hw,e4):=Z1 J H F m L S v _ r l e2;calc ai (c_ (nh (use:=Y^assign (.Name x px) X.e) (Q:=λZ V=>SP X K D .next V) B c hi hg hc he o hs I r l hw j e4 λp F' m' H' sx C xs I' st0 r0 f hC h0 h1 h2 h3 hz=>?_) (λZ V hq=>aG^aG hq) λZ Z e=>e);let(mC,E):=hz;let(q,r',rp):=zM st0 r0 f;calc Ai^p' I' hN A hx (v:=.ref p) rfl (λV P z=>?_) hf;calc#[mC,?_,λh' sb=>#[_,H',P.letGo sb hC h0 h1 h2 h3,k _ _ m' H' q r'^(l.mono q).set (d:=.p^.l ds) rp i]];let(a,Z0,w):=z;calc E.sameBut Z0 ?_;rcases w with w|w
 .rw [w];exact h1
 .calc b9^h2 x a w
end
end Ev
namespace Ev
open PySem PySem.Spec PyProof.Rows L2
section
variable{X:Cx}{a b e:14}{es:Ab}{C I:EV}{fs:lf}{B p:Pos}
def F7:P->7 P
 | .int i=>Y<|.int<|-↑i
 |_=>Z
theorem UB(f:PE X a^tV X.K C):PE X (.UnaryOp .USub a B) (tV X.K^Ri F7 C):=(RQ N5 f).imp' λJ H Q z=>by
 let(F,m,L,S,d,t,r,l,q,k):=z;let(x,w,n,q):=al q;cases x with
 |int i=>ext q;calc#[F,m,L,S,_,_,r,l,n,λv h b e s c p=>#[i,p,k _ h b e s c rfl]]
 |_=>ext q
def nG:6 P->7 P
 | [.int i]=>Y^.int i
 | [.d b]=>Y^.int (if b then 1 else 0)
 |_=>Z
def U6{K:FG}{F:Aa}{H:Hp}{d h:P}{s:6 V}(r:cF K F H [d,h] s):X0 λx y=>s=[x,y]/\RP K F H d x/\RP K F H h y:=by let(x,f,0,p,e):=r;let(y,n,0,a,k):=e;cases (n=[]|>k);calc#[x,y,0,p,a]
def Fp{K:FG}{F:Aa}{H:Hp}{d:P}{s:6 V}(r:cF K F H [d] s):∃x,s=[x]/\RP K F H d x:=by let(x,h,0,p,a):=r;cases (h=[]|>a);calc#[x,0,p]
def MJ:fN X (.type "int")^rC X.K nG:=by
 intro G s J H n u Q I r h;let(F,e,d,f,a,q,k):=h;unfold nG at q;split at q
 .ext q;let(x,0,p):=Fp a;exact vQ G s J H _ u Q I r^.inl #[_,by rw[x=_|>p],k _ F H .refl rfl]
 .ext q;let(x,0,p):=Fp a;exact vQ G s J H _ u Q I r^.inr #[_,by rw[x=_|>p],k _ F H .refl rfl]
 .ext q
def nC:EE:=λz S=>Y (.ref (-S),S++[.E [] []])
theorem G5:PE X (.Dict [] [] B)^tE X.K nC:=HZ.imp' λJ H Q z=>by let(F,m,L,S,d,x,r,l,q,k):=z;ext q;intro p h;calc k (.ref p) F (m++[p]) _ (df h) (r.own h #[[],aO,0,0]) #[p,0,?_];rw[<- r.len,bZ^ar _];simp
def rH(k:cD)(v:D):6 cD->6 D->6 cD×6 D
 |h::s,w::x=>if h=k then (h::s,v::x) else (h::(rH k v s x).1,w::(rH k v s x).2)
 |_,_=>([k],[v])
def nW(d:D)(S:aK):7 (9×6 cD×6 D):=match d with
 | .ref i=>match S[i]? with
  |some (.E k N)=>Y (i,k,N)
  |_=>Z
 |_=>Z
def xF(h:nW v S=Y (i,u,N)):v=.ref i/\S[i]? = Y^.E u N:=by
 unfold nW at h;split at h
 .split at h
  .rename_i e;ext h;exact#[0,e]
  .ext h
 .ext h
def yO(o:EE)(k v:EV):ES:=λL S=>bw (v L S) λy x=>bw (o L x) λd a=>bw (k L a) λz h=>match nW d h,dh z with
 |some (i,s,N),Y e=>if (s.Nodup/\few s=W) then Y (.nx,L,h.set i^.E (rH e (.p y) s N).1 (rH e (.p y) s N).2) else Z
 |_,_=>Z
theorem vo{K:FG}{F:Aa}{H:Hp}{m:6 13}{k:cD}{y:D}{u:V}(b:RD K F H m y u):∀{v:6 (cD×V)}{s:6 D},(v.map (·.1)).Nodup->c7 K F H m s^v.map (·.2) ->
  (putK v k u).map (·.1)=(rH k y (v.map (·.1)) s).1/\c7 K F H m (rH k y (v.map (·.1)) s).2^(putK v k u).map (·.2)
 | [],s,_,r=>by have:s=[]:=iX (-r);subst this;calc#[0,u,[],0,b,0]
 |(h,w)::v,[],_,r=>by have:=-r;simp at this
 |(h,w)::v,d::s,g,r=>by
  let(x,E,e,C,i):=r;rw[aI]at e g;injection e with j o;subst j;subst o;let(t,p):=du.mp g;rwa[aI,rH];by_cases hk:h=k
  .subst hk;rw[af rfl];have n:putK ((h,w)::v) h u=(h,u)::v:=by
    unfold putK;rw[af ∅];rw[aI,af rfl];congr 1;have:∀l:6 (cD×V),h ∉ l.map (·.1)->l.map (λa=>if a.1=h then (a.1,u) else a)=l:=by
     intro l;induction l with
     |nil=>intro _;rfl
     |cons q l B=>
      intro f;rw[aI]at f;have S:¬q.1=h:=λz=>f (by rw[<- z];calc aA)
      rw[aI,ag S,B λz=>f^aC _ z]
    exact this v t
   rw[n];exact#[0,u,_,0,b,i]
  .rw [ag hk];let(P,A):=vo b p i;have n:putK ((h,w)::v) k u=(h,w)::putK v k u:=by
    unfold putK;rw[cV,bK (¬(h,w).1=k|>hk),ly];by_cases c:(v.any λa=>decide<|a.1=k)=W
    .rw [af c,af c,aI,ag (¬(h,w).1=k|>hk)]
    .rw [ag c,ag c];rfl
   rw[n,aI,aI,P];calc#[0,w,_,0,C,A]
theorem Uk{o i g:14}{T:EE}{t h:EV}{Q:Pos}(hu:X.A.units+1 < cLine)(ho:PE X o^tE X.K T)(hi:PE X i^tV X.K t)(hv:PE X g^tV X.K h)(hs:swapsWith g (Y^.Subscript o i Q) B.line X.e=pure Xk:=by rfl) :
  PS X (.Assign [.Subscript o i Q] g B) (ma X.K^yO T t h):=(DZ hu ho hi hv hs).imp' λD J H hz=>by
 let(F,m,L,S,fl,L',S',r,l,q,k):=hz;let(y,G,e1,q):=al q;let(d,I,e2,q):=al q;let(z,M,e3,q):=al q;calc#[F,m,L,S,y,G,r,l,e1,λv E Z0 H1 c r1 p1=>?_];calc#[E,Z0,L,G,d,I,r1,l.mono c,e2,λx F2 m2 H2 p r2 p2=>?_];calc#[F2,m2,L,I,z,M,r2,(l.mono c).mono p,e3,λw f m3 b u C p3=>?_];cases P:nW d M with
 |none=>rw[P]at q;ext q
 |some e=>
  let(j,ks,N):=e;rw[P]at q;cases K:dh z with
  |none=>rw[K]at q;ext q
  |some n=>
   rw[K]at q;dsimp only at q;split at q
   .rename_i Z1;ext q;let(0,es):=xF P;let(a,0,A):=RD.mono u p2;let(s,V,hk,rs):=C.obj j a _ A es;subst hk;have pv:RD X.K f b m3 (.p y) v:=RD.mono u^RD.mono p (RD X.K E H1 Z0 (.p y) v|>p1);let(h1,h2):=vo (k:=n) pv Z1.1 rs;cases (jT K p3);have nt:∀zs,b a≠Y^.u zs:=λzs z=>by rw[V]at z;ext z
    have st:Stp f m3 b f m3 (cc b a^.dK^putK s n v):=gf C A es trivial nt;have hl:-s < sizeLine:=by have R:-(s.map (·.1))≤1000000:=aS Z1.2;rw[aU]at R;exact j8 R #[]
    calc#[a,_,0,zX.k V hl,?_];exact k J f m3 _ (c.trans^p.trans^u.trans st) (C.set A es trivial nt #[_,aO,h1,c7.mono st h2])^((l.mono c).mono p).mono^u.trans st
   .ext q
end
section
variable{X:Cx}{a b c e:14}{es:Ab}{C I z:EV}{fs:lf}{B p:Pos}
abbrev Bn:P->P->7 P:=Wf
theorem R8(_:X.A.units+1 < cLine):rM X (compareOp .Eq) Bn:=Vk
@[simp] def d4(a:EV)(L:Lc)(S:aK):Ha:=bw (a L S) λv h=>match v with
 | .l x=>Y (x,h)
 | .ro x=>Y (x,h)
 | .u x=>Y (x,h)
 |_=>Z
def iS{Q iter:14}(h:PE X iter^tV X.K C):PI X Q iter (tI X.K^d4 C):=by
 intro G s J H R I #[F,m,L,S,N,Z0,r,l,q,k];let(v,K,e1,q):=al q;refine cQ (h G s J H (λx n=>X0 λc w=>Stp F m H c w n/\Rel X.K c n w K/\RP X.K c n v x) I #[F,m,L,S,v,K,r,l,e1,λx c w n f B j=>#[c,w,f,B,j]]) λu f A=>?_
 let(x,n,t,M,c,w,st,B,j):=A;have mk:∀{D:It},Qq X.K D N c w n->K=Z0->R D n:=λit e=>by subst e;exact k _ c w n st B it
 have i:∀{a:13}{z:6 V},x=.ref a->j3 X.K n a z->R (VW X.K a) n->wx X (pyIter u) (Tx X G J Q R) X.xe f:=λ{a z} e hq q=>by
  subst e;ext M;let(g,rv,p,A):=t.list hq;calc Aj p.isList ?_;calc#[~~~f,[~~~f],_,_,n,0,t.kept (t':=f.toks) λb o e=>bb _ e,Fe a _,#[_,bO _ rfl,0,0],λb P=>?_,q];have e:b= ~~~f:=by exists P
  subst e;exact t.fpOk (ar _)^t.h.fresh^ar _
 cases v with
 |l E=>ext q;let(a,z,0,d,y):=j;calc i rfl d.sq^mk (II (λT m2 Z1 s=>(d.kp s.kp).sq) y) rfl
 |ro E=>ext q;let(a,z,0,d,y):=j;calc i rfl d.sq^mk (II (λT m2 Z1 s=>(d.kp s.kp).sq) y) rfl
 |u E=>
  ext q;let(a,z,0,d,y):=j;ext M;let(g,rv,pp,A):=t.tuple d.sq;calc wc (f.heap.IsTuple a g.toArray|>pp) ?_;calc#[~~~f,[~~~f],_,_,n,0,t.kept (t':=f.toks) λb o e=>bb _ e,AD a _,#[_,bO _ rfl,0,0],λb P=>?_,mk (PC d y) rfl];have e:b= ~~~f:=by exists P
  subst e;calc t.fpOk (ar _)^t.h.fresh^ar _
 |_=>ext q
end
section
variable{X:Cx}{B p:Pos}
end
def cX:9->P->15
 |_,.n=>W
 |_,.d _=>W
 |_,.int _=>W
 |_,.str x=>aJ x
 |n+1,.u s=>s.all^cX n
 |n+1,.l s=>s.all^cX n
 |n+1,.ro s=>s.all^cX n
 |_,_=>Xk
variable{n:9}
theorem sQ:∀{s:6 P},(∀d ∈ s,(pd d).canLay0=W/\(pd d).depth≤n)->yv^gM s=W/\tq^gM s≤n
 | [],_=>#[0,cS _]
 |d::r,h=>by let((p,a),q):=List.forall_mem_cons.mp h;let(x,e):=sQ q;calc#[by rwa[gM,yv,p,x,Bool.and_self],by rwa[gM,tq];lia]
theorem fA:∀(n:9)(p:P),cX n p=W->(pd p).canLay0=W/\(pd p).depth≤n
 |_,.n,_=>#[0,cS _]
 |_,.d _,_=>#[0,cS _]
 |_,.int _,_=>#[0,cS _]
 |n,.str x,h=>#[by ext n<;>calc h,cS _]
 |n,.E _ _,h=>by ext n<;>ext h
 |0,.u _,h=>by ext h
 |0,.l _,h=>by ext h
 |0,.ro _,h=>by ext h
 |n+1,.u s,h=>by let(a,b):=sQ λd hd=>fA n d^bc.mp h d hd;calc#[a,by rwa[pd,vc];lia]
 |n+1,.l s,h=>by let(a,b):=sQ λd hd=>fA n d^bc.mp h d hd;calc#[a,by rwa[pd,vc];lia]
 |n+1,.ro s,h=>by let(a,b):=sQ λd hd=>fA n d^bc.mp h d hd;calc#[a,by rwa[pd,vc];lia]
def lD(h:cX 20 p=W):Cr^pd p=W:=by let(x,a):=fA 20 p h;unfold Cr;rw[x,oV];calc fx ()
section
variable{X:Cx}{G:PN}{J:L2.St}{H:Hp}{s:12}{F:Aa}
theorem ke(o:∀{p:P}{v:V}{u:11},RP X.K F H p v->RelV v u->cX n p=W->∃k,Reads s.heap u (pd p) k) :
  ∀{f:6 P}{a:6 V}{b:LV},cF X.K F H f a->bC a b->(∀d ∈ f,cX n d=W)->∃k,ReadsAll s.heap b (gM f) k
 | [],a,b,r,v,_=>by cases (a=[]|>r);ext v;calc#[_,.nil]
 |d::f,a,b,r,v,h=>by
  let(x,g,0,p,r):=r;cases v with
  |cons w t=>let(k,q):=o p w (h d^.head _);let(bs,m):=ke o r t λe c=>h e^.tail _ c;calc#[_,.cons q m]
def g0(I:Inv X G J H s):∀(n:9){p:P}{v:V}{u:11},RP X.K F H p v->RelV v u->cX n p=W->∃w,Reads s.heap u (pd p) w:=by
 intro n;induction n with
 |zero=>
  intro p v u r k h;cases p with
  |n=>cases (v=.n|>r);ext k;calc#[_,.none]
  |d b=>cases (v=.d b|>r);ext k;calc#[_,.bool b]
  |int i=>cases (v=.int i|>r);let(t,0):=k;calc#[_,.int i t]
  |str x=>cases (v=.str x|>r);let(t,0):=k;calc#[_,.str x t]
  |_=>simp[cX]at h
 |succ n y=>
  intro p v u r k h;cases p with
  |n=>cases (v=.n|>r);ext k;calc#[_,.none]
  |d b=>cases (v=.d b|>r);ext k;calc#[_,.bool b]
  |int i=>cases (v=.int i|>r);let(t,0):=k;calc#[_,.int i t]
  |str x=>cases (v=.str x|>r);let(t,0):=k;calc#[_,.str x t]
  |E A N=>simp[cX]at h
  |u z=>let(a,K,0,l,j):=r;ext k;let(g,f,(o,e,c,m,d),S):=I.tuple l.sq;let(w,q):=ke y j f (by simpa[cX] using h);rw[pd];calc#[w,reads_tuple_at e c d (by exists q)]
  |l z=>let(a,K,0,l,j):=r;ext k;let(g,f,(o,m,e,c,_,d),S):=I.list l.sq;let(w,q):=ke y j f (by simpa[cX] using h);rw[pd];calc#[_,ww e c d (by exists q)]
  |ro z=>let(a,K,0,l,j):=r;ext k;let(g,f,(o,m,e,c,_,d),S):=I.list l.sq;let(w,q):=ke y j f (by simpa[cX] using h);rw[pd];calc#[_,ww e c d (by exists q)]
end
def uQ(f:D->7 P):6 D->7^6 P
 | []=>Y []
 |d::r=>(f d).bind λv=>(uQ f r).map λN=>v::N
def eX(S:aK):9->D->7 P
 |_,.p v=>Y v
 |0,.ref _=>Z
 |n+1,.ref i=>match S[i]? with
  |some (.l d)=>(uQ (eX S n) d).map .l
  |some (.fz v)=>Y v
  |_=>Z
@[simp] theorem AK(S:aK)(n:9)(v:P):eX S n^.p v=Y v:=by ext n<;>rfl
section
variable{X:Cx}{G:PN}{J:L2.St}{H:Hp}{s:12}{F:Aa}{m:6 13}{S:aK}
theorem t6(o:∀{d:D}{v:V}{u:11}{p:P},RD X.K F H m d v->RelV v u->eX S n d=Y p->cX l p=W->∃c,Reads s.heap u (pd p) c) :
  ∀{f:6 D}{b:6 V}{t:LV}{k:6 P},c7 X.K F H m f b->bC b t->uQ (eX S n) f=Y k->(∀d ∈ k,cX l d=W)->∃c,ReadsAll s.heap t (gM k) c
 | [],b,t,k,r,v,q,_=>by cases (b=[]|>r);ext v;ext q;calc#[_,.nil]
 |d::f,b,t,k,r,v,q,h=>by
  let(x,B,0,p,r):=r;obtain⟨y,j,q⟩:∃a,eX S n d=Y a/\(uQ (eX S n) f).map (λN=>a::N)=Y k:=by
   cases e:eX S n d with
   |none=>simp[uQ,e]at q
   |some a=>exact#[a,0,by simpa[uQ,e] using q]
  obtain⟨C,z,rfl⟩:∃a,uQ (eX S n) f=Y a/\k=y::a:=by
   cases e:uQ (eX S n) f with
   |none=>rw[e]at q;ext q
   |some a=>rw[e]at q;ext q;exact#[a,0,0]
  cases v with
  |cons A K=>let(c,g):=o p A j (h y^.head _);let(bs,w):=t6 o r K z λe i=>h e^.tail _ i;calc#[_,.cons g w]
def eW(I:Inv X G J H s)(y:Rel X.K F H m S):∀(n k:9){d:D}{v:V}{u:11}{p:P},RD X.K F H m d v->RelV v u->eX S n d=Y p->cX k p=W->∃b,Reads s.heap u (pd p) b:=by
 intro n;induction n with
 |zero=>
  intro k d v u p r x q h;cases d with
  |p w=>rw[AK]at q;ext q;calc g0 I k r x h
  |ref i=>ext q
 |succ n B=>
  intro k d v u p r x q h;cases d with
  |p w=>rw[AK]at q;ext q;calc g0 I k r x h
  |ref i=>
   let(a,0,g):=r;have A:i < -S:=by rw[<- y.len];exact(bP.mp g).1
   obtain⟨o,j⟩:∃o,S[i]? = Y o:=#[S[i],by simp[A]];let l:=y.obj i a o g j;rwa[eX,j]at q;cases o with
   |fz w=>ext q;calc g0 I k l x h
   |E M t=>ext q
   |B _ _ _=>ext q
   |C _ _=>ext q
   |q _ _=>ext q
   |fn _=>ext q
   |l t=>
    dsimp only at q;cases e:uQ (eX S n) t with
    |none=>rw[e]at q;ext q
    |some Q=>
     rw[e]at q;ext q;cases k with
     |zero=>simp[cX]at h
     |succ k=>let(R,K,E):=l;ext x;let(C,f,(o,N,z,c,_,d),L):=I.list^j3.of K;let(b,q):=t6 (l:=k) (λr x q h=>B k r x q h) E f e (by simpa[cX] using h);rw[pd];calc#[_,ww z c d (by exists q)]
def o8(l:Rel X.K F H m S)(r:RD X.K F H m u v)(q:eX S n u=Y p)(f:∀s,p≠.l s/\p≠.u s):RP X.K F H p v:=by
 cases u with
 |p w=>rw[AK]at q;ext q;calc r
 |ref i=>
  cases n with
  |zero=>ext q
  |succ n=>
   let(a,0,h):=r;have k:i < -S:=by rw[<- l.len];exact(bP.mp h).1
   obtain⟨o,x⟩:∃o,S[i]? = Y o:=#[S[i],by simp[k]];let b:=l.obj i a o h x;rwa[eX,x]at q;cases o with
   |fz w=>ext q;calc b
   |E t d=>ext q
   |B _ _ _=>ext q
   |C _ _=>ext q
   |q _ _=>ext q
   |fn _=>ext q
   |l d=>
    dsimp only at q;cases e:uQ (eX S n) d with
    |none=>rw[e]at q;ext q
    |some c=>rw[e]at q;ext q;calc absurd rfl (f c).1
end
inductive rEI(K:FG)(g:D->D->aK->7 P)(x:V)(y:V)(H:Hp)(Q:VK):5
 |mk (F:Aa) (m:6 13) (S:aK) (d:D) (e:D) (v:P) (h0_:Rel K F H m S) (h1_:RD K F H m d x) (h2_:RD K F H m e y) (h3_:g d e S=Y v) (h4_:∀u F' H',Grow F H F' H'->RP K F' H' v u->Q u H'):rEI K g x y H Q
def rE(K:FG)(g:D->D->aK->7 P):R2:=λx y H Q=>rEI K g x y H Q
@[simp] def a9(g:D->D->aK->7 P)(a b:EE)(L:Lc)(S:aK):tyV:=bw (a L S) λx e=>bw (b L e) λy h=>(g x y h).map λv=>(v,h)
section
variable{X:Cx}{a b:14}{C I:EE}{B:Pos}
def DO(h:tV X.K (a9 a0 C I) J H a1):Oi (rE X.K a0) (tE X.K C) (tE X.K I) J H a1:=by
 let(F,m,L,S,d,o,r,l,q,k):=h;let(x,a,K,q):=al q;let(y,s,P,q):=al q;calc#[F,m,L,S,x,a,r,l,K,λv t A M b G B=>?_];calc#[t,A,L,a,y,s,G,l.mono b,P,λu p n N c f D=>?_];cases e:a0 x y s with
 |none=>rw[e]at q;ext q
 |some z=>rw[e]at q;ext q;calc#[p,n,o,x,y,_,f,RD.mono c B,D,e,λw i j g E=>k w i n j (b.trans^c.trans g.stp) (f.grow g) E]
theorem Rc(o:kr X (compareOp u)^rE X.K v)(x:PE X a^tE X.K C)(e:PE X b^tE X.K I)(m:behindInMarks u b=Xk):PE X (.Compare a [u] [b] B) (tV X.K^a9 v C I):=
 (D4 o x e m).imp' λz z z h=>DO h
theorem Q2(o:kr X (compareOp op)^rE X.K u)(c:PE X a^tE X.K C)(t:PE X b^tE X.K I)(w:behindInMarks op b=Xk):PT X (.Compare a [op] [b] B) (tQ X.K^bV^a9 u C I):=
 (DY o c t w).imp' λJ H Q h=>by
  calc DO ?_;let(F,m,L,S,d,j,r,l,q,k):=h;let(x,y,f,q):=al q;cases x with
  |d b=>ext q;calc#[F,m,L,S,_,_,r,l,f,λv e g n s i p=>#[_,p,k e g n s i]]
  |_=>ext q
end
def zZ(x y:P):7 15:=match Bn x y with
 |some (.d b)=>Y b
 |_=>if (cX 20 x && cX 20 y)=W then Y (bH (pd x)^pd y) else Z
def eS(d e:D)(S:aK):7 P:=(eX S 09 d).bind λx=>(eX S 09 e).bind λy=>(zZ x y).map .d
def LR(x y:P):7 15:=match QD x y with
 |some (.d b)=>Y b
 |_=>if (cX 20 x && cX 20 y)=W then Y (!PyData.eqv (pd x)^pd y) else Z
def Jd(d e:D)(S:aK):7 P:=(eX S 09 d).bind λx=>(eX S 09 e).bind λy=>(LR x y).map .d
def io(c:D)(S:aK):7^6 cD:=match c with
 | .p (.E k _)=>Y k
 | .ref i=>match S[i]? with
  |some (.E k _)=>Y k
  |some (.fz^.E k _)=>Y k
  |_=>Z
 |_=>Z
def FS(k:cD)(s:6 cD):15:=s.any λh=>decide<|h=k
def Qz(d c:D)(S:aK):7 15:=match io c S with
 |some s=>(eX S 09 d).bind λx=>(dh x).map λk=>FS k s
 |none=>Z
def PQ(d c:D)(S:aK):7 P:=(Qz d c S).map .d
def eY:D->15
 | .p .n=>W
 |_=>Xk
def uR(d e:D)(_:aK):7 P:=match e with
 | .p .n=>Y^.d^eY d
 |_=>Z
def d9(d e:D)(_:aK):7 P:=match e with
 | .p .n=>Y<|.d<|!eY d
 |_=>Z
def Bm(h:Bn x v=Y b):(∀s,x≠.l s/\x≠.u s)/\∀s,v≠.l s/\v≠.u s:=by
 refine#[λs=>#[λe=>?_,λe=>?_],λs=>#[λe=>?_,λe=>?_]]
 .subst e;ext v<;>ext h
 .subst e;ext v<;>ext h
 .subst e;ext x<;>ext h
 .subst e;ext x<;>ext h
section
variable{X:Cx}
def R7(o:X.A.units+64 < cLine):kr X (compareOp .Eq)^rE X.K eS:=by
 intro G s J H x y v u Q I j z h;let(F,m,S,d,e,r,l,g,i,q,k):=h;unfold eS at q;cases t:eX S 09 d with
 |none=>rw[t]at q;ext q
 |some a=>
  rw[t]at q;cases p:eX S 09 e with
  |none=>rw[p]at q;ext q
  |some b=>
   rw[p]at q;rwa[oE]at q;cases n:zZ a b with
   |none=>rw[n]at q;ext q
   |some c=>
    rw[n]at q;ext q;unfold zZ at n;split at n
    .rename_i D w;ext n;let(K,P):=Bm w;exact R8 () G s J H x y v u Q I j z #[F,a,b,.d c,l.ft,o8 l g t K,o8 l i p P,w,k]
    .split at n
     .rename_i f;rw[av]at f;ext n;let(C,A):=eW I l 09 20 g j t f.1;let(bs,B):=eW I l 09 20 i z p f.2;exact eq_dataH A B (lD f.1) (lD f.2) o #[.d _,H,I,0,k _ F H .refl rfl]
     .ext n
def F9(h:QD x v=Y b):(∀s,x≠.l s/\x≠.u s)/\∀s,v≠.l s/\v≠.u s:=by
 refine#[λs=>#[λe=>?_,λe=>?_],λs=>#[λe=>?_,λe=>?_]]
 .subst e;ext v<;>ext h
 .subst e;ext v<;>ext h
 .subst e;ext x<;>ext h
 .subst e;ext x<;>ext h
def RZ(o:X.A.units+64 < cLine):kr X (compareOp .NotEq)^rE X.K Jd:=by
 intro G s J H x y v u Q I j z h;let(F,m,S,d,e,r,l,g,i,q,k):=h;unfold Jd at q;cases t:eX S 09 d with
 |none=>rw[t]at q;ext q
 |some a=>
  rw[t]at q;cases p:eX S 09 e with
  |none=>rw[p]at q;ext q
  |some b=>
   rw[p]at q;rwa[oE]at q;cases n:LR a b with
   |none=>rw[n]at q;ext q
   |some c=>
    rw[n]at q;ext q;unfold LR at n;split at n
    .rename_i D w;ext n;let(K,P):=F9 w;exact Vf G s J H x y v u Q I j z #[F,a,b,.d c,l.ft,o8 l g t K,o8 l i p P,w,k]
    .split at n
     .rename_i f;rw[av]at f;ext n;let(C,A):=eW I l 09 20 g j t f.1;let(bs,B):=eW I l 09 20 i z p f.2;exact ne_dataH A B (lD f.1) (lD f.2) o #[.d _,H,I,0,k _ F H .refl rfl]
     .ext n
theorem pa(x:P):∀s:6 P,(gM s).any (λy=>bH y^pd x)=s.any λy=>bH (pd y)^pd x
 | []=>rfl
 |y::r=>by rw[gM,cV,cV,pa x r]
def D9(h:v.all^cX 19=W):yv^gM v=W/\tq^gM v≤20:=by let l:=fA 20 (.l v) h;rwa[pd,GD,vc]at l;let x:=l.2;calc#[l.1,()]
def Fb:(ja u v).isSome=FS v^u.map (·.1):=by
 induction u with
 |nil=>rfl
 |cons p r i=>
  unfold FS at i ⊢;by_cases h:p.1=v
  .rw [jM h,aI,cV,fx h];rfl
  .rw [i' h,i,aI,cV,bK h];rfl
def Js{K:FG}{F:Aa}{H:Hp}{m:6 13}{S:aK}{c:D}{y:V}{s:6 cD}(r:Rel K F H m S)(p:RD K F H m c y)(q:io c S=Y s):X0 λa k=>y=.ref a/\H a=Y^.dK k/\k.map (·.1)=s:=by
 unfold io at q;split at q
 .ext q;let(a,k,e,_,hk,h,_):=p;exact#[a,k,e,hk,h]
 .rename_i i;let(a,0,x):=p;split at q
  .rename_i o;ext q;let(k,hk,h,_):=r.obj i a _ x o;exact#[a,k,0,hk,h]
  .rename_i o;ext q;let(b,k,e,_,hk,h,_):=r.obj i a _ x o;ext e;exact#[a,k,0,hk,h]
  .ext q
 .ext q
def R4(A:X.A.units+64 < cLine):kr X (compareOp .In)^rE X.K PQ:=by
 intro G s J H x y v u Q I K P h;let(F,m,S,d,e,r,l,j,o,q,k):=h;unfold PQ Qz at q;cases c:io e S with
 |some B=>
  rw[c]at q;dsimp only at q;cases f:eX S 09 d with
  |none=>rw[f]at q;ext q
  |some a=>
   rw[f]at q;rwa[oE]at q;cases n:dh a with
   |none=>rw[n]at q;ext q
   |some w=>rw[n]at q;ext q;let(b,g,0,hk,p):=Js l o c;have i:RP X.K F H a x:=o8 l j f λD=>#[λz=>(by subst z;ext n),λz=>(by subst z;ext n)];ext P;cases jT n i;calc VI () I (lV.k hk) K λC t=>#[.d _,H,t,0,by rw[Fb,p];calc k _ F H .refl rfl]
 |none=>rw[c]at q;ext q
def R3:kr X (compareOp .Is)^rE X.K uR:=by
 intro G s J H x y v u Q I c t h;let(F,m,S,d,e,r,l,n,f,q,k):=h;unfold uR at q;split at q
 .ext q;cases (y=.n|>f);calc O0 G s J H x _ v u Q I c t #[0,?_];have:decide (x=.n)=eY d:=by
   cases d with
   |ref i=>let(a,0,_):=n;rfl
   |p w=>
    cases w with
    |n=>cases (x=.n|>n);rfl
    |d b=>cases (x=.d b|>n);rfl
    |int b=>cases (x=.int b|>n);rfl
    |str b=>cases (x=.str b|>n);rfl
    |_=>(let(a,g,0,_):=n;rfl)
  rw[this];exact k _ F H .refl rfl
 .ext q
def Il:kr X (compareOp .IsNot)^rE X.K d9:=by
 intro G s J H x y v u Q I c t h;let(F,m,S,d,e,r,l,n,f,q,k):=h;unfold d9 at q;split at q
 .ext q;cases (y=.n|>f);calc LJ G s J H x _ v u Q I c t #[0,?_];have:decide (x=.n)=eY d:=by
   cases d with
   |ref i=>let(a,0,_):=n;rfl
   |p w=>
    cases w with
    |n=>cases (x=.n|>n);rfl
    |d b=>cases (x=.d b|>n);rfl
    |int b=>cases (x=.int b|>n);rfl
    |str b=>cases (x=.str b|>n);rfl
    |_=>(let(a,g,0,_):=n;rfl)
  rw[this];exact k _ F H .refl rfl
 .ext q
end
def uj:6 lc->6 P->Lc->7 Lc
 | [],[],L=>Y L
 |g::s,v::N,L=>match g v L with
  |some h=>uj s N h
  |none=>Z
 |_,_,_=>Z
def bu(g:6 lc):lc:=λv L=>match v with
 | .u N=>uj g N L
 |_=>Z
theorem zr:∀{s:6 lc}{N:6 P}{L x:Lc},uj s N L=Y x->-N=-s
 | [],[],_,_,_=>rfl
 | [],_::_,_,_,h=>by ext h
 |_::_,[],_,_,h=>by ext h
 |g::s,v::N,L,x,h=>by
  unfold uj at h;split at h
  .rw [aP,aP,zr h]
  .ext h
inductive gTsI(K:FG)(gs:6 lc)(xs:6 V)(J:L2.St)(H:Hp)(Q:L2.St->Hp->5):5
 |mk (F:Aa) (m:6 13) (L:Lc) (vs:6 P) (L':Lc) (h0_:RL K F H m J L) (h1_:cF K F H vs xs) (h2_:uj gs vs L=Y L') (h3_:∀J',RL K F H m J' L'->Q J' H):gTsI K gs xs J H Q
def WZ(K:FG)(g:6 lc):Qm:=λx J H Q=>gTsI K g x J H Q
inductive GsOk(X:Cx):Ab->6 lc->5 where
 |nil:GsOk X [] []
 |cons {x:Str}{p:Pos}{es:Ab}{g:lc}{gs:6 lc}:PG X (.Name x p)^gT X.K g->GsOk X es gs->GsOk X (.Name x p::es) (g::gs)
section
variable{X:Cx}{B:Pos}
theorem u9:assignEach (.Name x p::es) v=(Xk,assign (.Name x p) v)::assignEach es v:=rfl
def GsOk.len(h:GsOk X es v)(e:Env):-(assignEach es e)=-v/\(assignEach es e).findIdx? (·.1)=Z:=by
 induction h with
 |nil=>calc#[0,0]
 |cons _ _ i=>rw[u9];calc#[by rw[aP,aP,i.1],?_];rwa[List.findIdx?_cons,i.2];rfl
def GsOk.pgs(h:GsOk X es gs):Tz X es^WZ X.K gs:=by
 induction h with
 |nil=>
  intro G s J H f u Q I a #[F,m,L,N,e,l,r,q,k];cases N with
  |nil=>ext q;cases (f=[]|>r);calc Lz G s J H [] u Q I a #[0,k J l]
  |cons _ _=>ext q
 |cons g _ i=>
  intro G s J H f u Q I a #[F,m,L,N,e,l,r,q,k];cases N with
  |nil=>ext q
  |cons v N=>
   unfold uj at q;split at q
   .rename_i n b;let(x,t,0,p,r):=r;calc HR g i rfl G s J H _ u Q I a #[x,t,0,F,m,L,v,n,l,p,b,λd c=>?_];exact#[F,m,n,N,e,c,r,q,k]
   .ext q
theorem PM(c:X.c=W)(h:GsOk X es u):PG X (.Tuple es n B) (gT X.K^bu u):=
 PG.imp' (ON c h.pgs (h.len _).1 (h.len _).2) λv J H Q z=>by
  let(F,m,L,d,x,l,p,q,k):=z;cases d with
  |u N=>let(a,s,0,t,r):=p;let e:=zr (uj u N L=Y x|>q);calc#[a,s,0,t.sq,by rw[<- (-r)];calc e,F,m,L,N,x,l,r,q,k]
  |_=>ext q
def cy(k:8):6 P->6 P
 | []=>[]
 |x::r=>.u [.int k,x]::cy (k+1) r
theorem qv:∀{N:6 P}{k:8}{i:9}{v:P},(cy k N)[i]? = Y v->∃x,N[i]? = Y x/\v=.u [.int<|k+i,x]
 | [],_,_,_,h=>by simp[cy]at h
 |x::r,k,0,v,h=>#[x,0,by simpa[cy] using h.symm]
 |x::r,k,i+1,v,h=>by let(y,a,e):=qv (N:=r) (k:=k+1) (i:=i) (by simpa[cy] using h);calc#[y,by simpa using a,?_];rw[e];congr 3;lia
theorem fB:∀(N:6 P)(k:8),-(cy k N)=-N
 | [],_=>rfl
 |_::r,k=>by rw[cy,aP,aP,fB r]
end
open PySem.AutoSeq1 (wpAny_loadPart')
def JB(n:9):(jG n=W)=(n≤1000000):=by unfold jG;simp
variable{q:Type}
def TY(h:c=Xk)(k:wpAny M A b v E s):wpAny M A (if c=W then a else b) v E s:=by rw[h,ag bQ];calc k
def WW(h:c=W)(k:wpAny M A a v E s):wpAny M A (if c=W then a else b) v E s:=by rw[h,af rfl];calc k
def zw(a:Array 11)(n:9):∀b:Array 11,((List.replicate n a).foldl (·++·) b).size=b.size+n * a.size:=by
 induction n with
 |zero=>intro b;simp
 |succ n i=>intro b;rw[cK,f6,i,Dc,oM];lia
theorem KS(l:13)(i:Array 11)(n:9)(e:7 13)(k:Array^OV)(x:8)(u:Tok)(c:-1000000 < x/\x < 1000000)(m:(i.isEmpty ||x == 1)=W) :
  Meets (Builtin.«tuple.__mul__» #[[.ref l,.int x u],[]]) (λz R s=>s.heap.get? l=Y { cls:=.type "tuple",dict:=e,data:=.seq i n,slots:=k }/\R (.ok^.ret^Value.ref l) s):=
 .of_wp λprog w A R s h=>by
  let(p,g,d,t,os):=s;let(a,h):=h;let f:=BB;let b:=BC
  wp_walk using nQ a
  refine TY (by rw[bK (),bK ()];rfl) ?_
  wp_walk using nQ a
  calc#[_,0,h]
theorem KR(l:13)(i:Array 11)(n:9)(c:7 13)(q:Array^OV)(x:8)(u:Tok)(H:-1000000 < x/\x < 1000000)(f:¬(i.isEmpty ||x == 1)=W)(z:i.size * x.toNat≤1000000) :
  Meets (Builtin.«tuple.__mul__» #[[.ref l,.int x u],[]]) (fun _ R s=>s.heap.get? l=Y { cls:=.type "tuple",dict:=c,data:=.seq i n,slots:=q } /\
   R (.ok^.ret^Value.ref (~~~s)) { s with heap:=s.heap.push { cls:=Value.type "tuple",data:=Data.seq^(List.replicate x.toNat i).foldl (·++·)^10 [] } }):=
 .of_wp λprog w A R s h=>by
  let(S,g,d,K,os):=s;let(a,h):=h;let y:=BB;let o:=BC
  wp_walk using nQ a
  refine TY (by rw[bK (),bK ()];rfl) ?_
  wp_walk using nQ a
  have k:i.isEmpty=Xk:=by
   cases e:i.isEmpty with
   |false=>rfl
   |true=>rw[e]at f;simp at f
  by_cases b:x≤0
  .calc WW (by rw[fx b];rfl) ?_;have m:x.toNat=0:=by lia
   rw[m]at h
   wp_walk using nQ a
   exact#[_,0,h]
  .calc TY (by rw[bK b,k];rfl) ?_;have p:(i.size:8) * x≤1000000:=by
    have:((i.size * x.toNat:9):8)≤1000000:=by lia
    rw[BJ,BK ()]at this;exact this
   have r:¬(i.size:8) * x > (2 ^ 63-1) / 08:=by lia
   dsimp only;rw[ag r];have F:(1000000:8)≤(sizeLine:8):=by decide
   calc TY (NG _=Xk|>bK ()) ?_;have t:¬(si (λv j=>v++j) (10 [])^List.replicate x.toNat i).size > sizeLine:=by
    let e:=zw i x.toNat^10 [];rw[e];have:x.toNat * i.size≤1000000:=by rw[mQ];exact z
    have:(1000000:9)≤sizeLine:=by decide
    rwa[bz,wP];lia
   wp_walk using nQ a
   calc#[_,0,h]
theorem Lh(a:8)(t:Tok)(l:13)(i:Array 11)(n:9)(x:7 13)(e:Array^OV) :
  Meets (Builtin.«int.__rmul__» #[[.int a t,.ref l],[]]) (λz R s=>s.heap.get? l=Y { cls:=.type "tuple",dict:=x,data:=.seq i n,slots:=e }/\R (.ok^.ret Value.notImplemented) s):=
 .of_wp λprog w A R s h=>by
  let(p,g,d,f,os):=s;let(k,h):=h
  wp_walk
  calc#[_,0,h]
theorem FA:fillsNumberSlot (.type "tuple") "mul"=pure Xk:=
 PySem.fillsNumberSlot_seq (id:="tuple.__mul__") (r:=Y^.builtin "tuple.__rmul__") rW.lookup (by decide +kernel) B4.lookup (by decide +kernel)
def OA:seqRepeat?^.type "tuple"=pure (Y^.builtin "tuple.__mul__"):=by unfold seqRepeat?;rw[Gx (T:="tuple") (name:="__mul__") (id:="tuple.__mul__") rW.lookup (by decide +kernel)];first|rfl|(rw[Gx (T:="tuple") (name:="__rmul__") (id:="tuple.__rmul__") B4.lookup (by decide +kernel)];rfl)
section
variable{X:Cx}
def Be(i:LV)(k:9):(List.replicate k i.toArray).foldl (·++·)^10 []=(List.replicate k i).flatten.toArray:=by
 have:∀(m:9)(b:LV),(List.replicate m i.toArray).foldl (·++·) b.toArray=(b++(List.replicate m i).flatten).toArray:=by
  intro m;induction m with
  |zero=>intro b;simp
  |succ m x=>intro b;rw[cK,f6,List.append_toArray,x,cK,gb,dS]
 let h:=this k [];rw[dR]at h;calc h
theorem DL(r:bC u v):∀k:9,bC (List.replicate k u).flatten (List.replicate k v).flatten
 |0=>.nil
 |k+1=>by rw[cK,cK,gb,gb];calc r.append^DL r k
def Pn(x:6 q)(k:9):(List.replicate k x).flatten.length=-x * k:=by
 induction k with
 |zero=>rfl
 |succ k i=>rw[cK,gb,bo,i,Cw];lia
def jY:P->P->7 P
 | .u s,.int n=>if (jG (-s * n.toNat) && decide (n.natAbs < 1000000))=W then Y^.u (List.replicate n.toNat s).flatten else Z
 |x,y=>yi x y
def O3:rM X (binaryOp .Mult) jY:=by
 intro G s J H x y v u Q I M N h;let(F,z,S,d,Z1,E,L,q,k):=h;have f:yi z S=Y d->wx X (binaryOp .Mult v u) (EP X G J Q) X.xe s:=λq=>R0 G s J H x y v u Q I M N #[F,z,S,d,Z1,E,L,q,k]
 cases z with
 |u j=>
  cases S with
  |int n=>
   rwa[jY]at q;split at q
   .rename_i g;rw[av,JB]at g;let h1:=aS g.2;ext q;let(a,C,0,R,B):=E;cases (y=.int n|>L);ext M;let(t,0):=N;let K:=-B;let(i,r,(o,e,c,m,D),hz):=I.tuple R.sq;let l:=-r;let(oc,A,ot,os):=o;dsimp only at c D;subst c D;refine GA (T:="tuple") (U:="int") #[] #[_,e,0] (λZ0=>sU Z0 n t) FA BR rV OA BU.lookup
     (ji rV (sU s n t) BS (BV _ _) (Lh n t a i.toArray m A os) #[e,0,#[_,e,0],?_])
    by_cases p:(i.toArray.isEmpty ||n == 1)=W
    .calc ji rW #[_,e,0] B1 (B5 _ _) (KS a i.toArray m A os n t () p) #[e,#[.ref a,H,I,0,k _ F H .refl ?_]];have V:(List.replicate n.toNat j).flatten=j:=by
      rw[w8]at p;rcases p with p|p
      .have:i=[]:=by exists p
       have:j=[]:=iX (by rw[K,l,this];rfl);subst this;simp
      .have:n=1:=by exists p
       subst this;simp
     rw[V];exact#[a,C,0,R,B]
    .calc ji rW #[_,e,0] B1 (B5 _ _) (KR a i.toArray m A os n t () p (by rw[bz,<- l,<- K];calc g.1)) #[e,?_];rw[Be];have w:H (~~~s)=Z:=I.h.fresh^ar _;have P:(List.replicate n.toNat C).flatten.length≤sizeLine:=by
      rw[Pn,<- K];exact aH g.1 #[]
     refine#[.ref (~~~s),_,I.laid (t':=s.toks) (o:=.u (List.replicate n.toNat C).flatten) (λb ob q=>bb _ q) (ar _) #[P,_,DL r n.toNat,qF.new _ _],0,k _ F _ (cP w)^.newTup w^B.rep n.toNat]
   .ext q
  |_=>calc f q
 |_=>calc f q
def qE:6 P->7 P
 | [.l x]=>Y^.l x
 | [.ro x]=>Y^.l x
 | [.u x]=>Y^.l x
 |_=>Z
def gj:6 P->7 P
 | [.l x]=>Y^.u x
 | [.ro x]=>Y^.u x
 | [.u x]=>Y^.u x
 |_=>Z
def JD:fN X (.type "list")^rC X.K qE:=by
  intro G s J H m u Q I r h;let(F,b,d,c,f,q,k):=h;unfold qE at q;split at q;all_goals first
    |(ext q;done)
    | (ext q
       let(x,0,p):=Fp f;let(a,y,0,t,n):=p;first
         |calc lO G s J H _ u Q I r #[a,y,0,.inl t.sq,λl e=>k _ _ _ (dt e)^.newLst e n]
         |calc lO G s J H _ u Q I r #[a,y,0,.inr t.sq,λl e=>k _ _ _ (dt e)^.newLst e n])
def Gg:fN X (.type "tuple")^rC X.K gj:=by
  intro G s J H m u Q I r h;let(F,b,d,c,f,q,k):=h;unfold gj at q;split at q;all_goals first
    |(ext q;done)
    | (ext q
       let(x,0,p):=Fp f;let(a,y,0,t,n):=p;first
         |calc nD G s J H _ u Q I r #[a,y,0,.inl #[t.sq,λl e=>k _ F _ (cP e)^.newTup e n]]
         |calc nD G s J H _ u Q I r #[a,y,0,.inr #[t.sq,k _ F H .refl #[a,y,0,t,n]]])
def qY:6 P->7 P
 | [.int i]=>Y^.int (if i < 0 then -↑i else i)
 |_=>Z
def MK:fN X (.builtin "abs")^rC X.K qY:=by
 intro G s J H n u Q I r h;let(F,e,d,f,a,q,k):=h;unfold qY at q;split at q
 .ext q;let(x,0,p):=Fp a;exact JC G s J H _ u Q I r #[_,by rw[x=_|>p],k _ F H .refl rfl]
 .ext q
variable{e:14}{es:Ab}{fs:lf}{p B:Pos}
theorem NM(g:Gl X "list")(m:X.g "list"=Z)(a:PA X (e::es)^uM X.K fs)(x:starEach (e::es) X.e=(Xk,eval e X.e)::starEach es X.e)(h:(backTo B^starEach es X.e).any (·.1)=Xk) :
  PE X (.Call (.Name "list" p) (e::es) [] B) (tV X.K^aR qE fs):=AB JD g m r9 a #[] #[] x h
theorem KC(g:Gl X "tuple")(m:X.g "tuple"=Z)(a:PA X (e::es)^uM X.K fs)(x:starEach (e::es) X.e=(Xk,eval e X.e)::starEach es X.e)(h:(backTo B^starEach es X.e).any (·.1)=Xk) :
  PE X (.Call (.Name "tuple" p) (e::es) [] B) (tV X.K^aR gj fs):=AB Gg g m Ky a #[] #[] x h
theorem Q5(g:Gl X "abs")(m:X.g "abs"=Z)(a:PA X (e::es)^uM X.K fs)(x:starEach (e::es) X.e=(Xk,eval e X.e)::starEach es X.e)(h:(backTo B^starEach es X.e).any (·.1)=Xk) :
  PE X (.Call (.Name "abs" p) (e::es) [] B) (tV X.K^aR qY fs):=N3 MK g m Ks a #[] #[] x h
@[simp] def hV(r:EE)(a:EV)(L:Lc)(S:aK):uK:=bw (r L S) λd h=>match gC d h with
 |none=>Z
 |some _=>bw (a L h) λx e=>match gC d e,x with
  |some (i,s),.l y=>if jG (-s+-y)=W then Y (.p .n,e.set i<|.l<|s++y.map .p) else Z
  |_,_=>Z
end
section
variable{X:Cx}{o e:14}{T r:EE}{C:EV}{j k B:Pos}
theorem KH(ho:PE X o^tE X.K T)(he:PE X e^tV X.K C)(E:starEach [e] X.e=[(Xk,eval e X.e)])
  (f:attributeBase o "extend" X.e^eval o X.e=eval o X.e) (c:(j.endLine == k.line)=W):PE X (.Call (.Attribute o "extend" j) [e] [] k) (tE X.K^hV T C):=
 (M8 rY BX PySem.F.type_list_extend FE ho (fy he jj (by rw[E];rfl)) f (by rw[E];rfl) c (by rw[E];rfl) rfl).imp' λJ H Q hz=>by
  let(F,m,L,S,d,S',r,l,q,h):=hz;let(x,B,e1,q):=al q;calc#[F,m,L,S,x,B,r,l,e1,λv F1 m1 H1 Z0 V R=>?_];cases D:gC x B with
  |none=>rw[D]at q;ext q
  |some z=>
   let(i,ds):=z;rw[D]at q;dsimp only at q;let(0,es):=pb D;let(a,0,hm):=id R;let(xs,hH,rs):=V.obj i a _ hm es;calc#[.inl #[0,xs,j3.of hH],?_];let(y,M,e2,q):=al q;calc#[F1,m1,L,B,y,M,V,l.mono Z0,e2,λu P G A s2 I p2=>?_];cases s:gC (.ref i) M with
   |none=>rw[s]at q;ext q
   |some z=>
    let(i2,ds2):=z;rw[s]at q;let(e3,n):=pb s;ext e3;cases y with
    |l ys=>
     dsimp only at q;split at q
     .rename_i hf;ext q;let(a2,e4,t):=RD.mono s2 R;ext e4;let(g,p,w):=I.obj i a _ t n;let(b,K,0,tb,Z1):=p2;have N:∀K,A a≠Y^.u K:=λK z=>by rw[p]at z;ext z
      have st:Stp P G A P G (cc A a<|.l<|g++K):=gf I t n trivial N;calc#[a,b,g,K,0,0,p,tb.2,by rw[<- (-w),<- (-Z1)];calc km hf,?_];exact h .n P G _ (Z0.trans^s2.trans st) (I.set t n trivial N #[_,aO,c7.mono st^w.append^c7.ofP Z1]) rfl
     .ext q
    |_=>ext q
noncomputable abbrev uH:=Lc->aK->7 (6 D×aK)
noncomputable abbrev Rk:=7<|6 D×aK
inductive tDsI(K:FG)(f:uH)(J:L2.St)(H:Hp)(Q:6 V->Hp->5):5
 |mk (F:Aa) (m:6 13) (L:Lc) (S:aK) (ds:6 D) (S':aK) (h0_:Rel K F H m S) (h1_:RL K F H m J L) (h2_:f L S=Y (ds,S')) (h3_:∀xs F' m' H',Stp F m H F' m' H'->Rel K F' H' m' S'->c7 K F' H' m' ds xs->Q xs H'):tDsI K f J H Q
def DP(K:FG)(f:uH):TA:=λJ H Q=>tDsI K f J H Q
@[simp] def b_(_L:Lc)(S:aK):Rk:=Y ([],S)
@[simp] def aB(a:EE)(r:uH)(L:Lc)(S:aK):Rk:=bw (a L S) λx h=>bw (r L h) λs e=>Y (x::s,e)
variable{es:Ab}{fs:uH}
theorem SX:PA X []^DP X.K b_:=jj.imp' λJ H Q h=>by let(F,m,L,S,d,x,r,l,q,k):=h;ext q;calc k [] F m H .refl r rfl
theorem P4(u:PE X e^tE X.K r)(g:PA X es^DP X.K fs)(i:starEach (e::es) X.e=(Xk,eval e X.e)::starEach es X.e):PA X (e::es) (DP X.K^aB r fs):=
 (fy u g i).imp' λJ H Q z=>by let(F,m,L,S,d,t,h,l,q,k):=z;let(x,a,p,q):=al q;let(B,D,w,q):=al q;ext q;calc#[F,m,L,S,x,a,h,l,p,λv f j C s P o=>?_];calc#[f,j,L,a,B,t,P,l.mono s,w,λN b y c n A K=>?_];calc k (v::N) b y c (s.trans n) A #[v,N,0,RD.mono n o,K]
noncomputable abbrev GF:=6 D->aK->7 (D×aK)
inductive spRI(K:FG)(g:GF)(vs:6 V)(H:Hp)(Q:VK):5
 |mk (F:Aa) (m:6 13) (ds:6 D) (S:aK) (d:D) (S':aK) (h0_:Rel K F H m S) (h1_:c7 K F H m ds vs) (h2_:g ds S=Y (d,S')) (h3_:∀v F' m' H',Stp F m H F' m' H'->Rel K F' H' m' S'->RD K F' H' m' d v->Q v H'):spRI K g vs H Q
def pT(K:FG)(g:GF):Sp:=λN H Q z=>spRI K g N H Q
@[simp] def d_(g:GF)(a:uH)(L:Lc)(S:aK):uK:=bw (a L S) λd h=>g d h
theorem N0(G:FnOk X.p X.w X.K X.g X.b qJ u f fd ps^pT X.K a0)(P:Room u X.A)(o:Gl X x)(K:X.g x=Y^.ref f)(hk:eT X.K^.ref f=W)(y:Binds X.K fd ps [])
  (j:PA X (e::es)^DP X.K fs) (h:(x == ("__debug__":Str))=Xk) (z:starEach (e::es) X.e=(Xk,eval e X.e)::starEach es X.e) (a:(backTo B^starEach es X.e).any (·.1)=Xk) :
  PE X (.Call (.Name x p) (e::es) [] B) (tE X.K^d_ a0 fs):=
 (xD G P o K hk y .nil tZ j h z a).imp' λJ H Q A=>by let(F,m,L,S,d,g,r,l,q,u):=A;let(k,n,i,q):=al q;calc#[F,m,L,S,k,n,r,l,i,λR b C t s I p=>?_];show pT X.K a0 (R++[]) t Q E0;rw[dQ];calc#[b,C,k,n,d,g,I,p,q,λv c D w N M E=>u v c D w (s.trans N) M E]
def y9(n:9):D->15
 | .p _=>W
 | .ref i=>decide<|i < n
def L4(n:9):SO->15
 | .l d=>d.all^y9 n
 | .E _ d=>d.all^y9 n
 | .fz _=>W
 | .B _ _ d=>d.all^y9 n
 | .C _ d=>d.all^y9 n
 | .q _ d=>d.all^y9 n
 | .fn o=>o.all^y9 n
def trunc(n:9)(S:aK):aK:=if (S.take n).all^L4 n=W then S.take n else S
@[simp] def cw(g:GF)(a:uH)(L:Lc)(S:aK):tyV:=bw (a L S) λs h=>bw (g s h) λd x=>bw (toP 09 d x) λv e=>Y (v,trunc h.length e)
end
section
variable{K:FG}{F:Aa}{H:Hp}{m:6 13}{S:aK}
def RD.low(h:RD K F H m u v)(l:y9 n u=W):RD K F H (m.take n) u v:=by
 cases u with
 |p w=>calc h
 |ref i=>let(a,e,x):=h;calc#[a,e,by rw[iW^aS l];calc x]
theorem c7.low:∀{s:6 D}{a:6 V},c7 K F H m s a->s.all^y9 n=W->c7 K F H (m.take n) s a
 | [],_,h,_=>h
 |d::s,_,h,l=>by let(x,r,e,k,f):=h;rw[cU,av]at l;calc#[x,r,e,k.low l.1,c7.low f l.2]
def Rel.trunc(r:Rel K F H m S)(B:n≤-m)(h:(S.take n).all^L4 n=W):Rel K F H (m.take n)^S.take n where
 len:=by rw[iR,iR,r.len]
 nd:=r.nd.sublist (CP _ _)
 obj:=λi a o b p=>by
  have u:i < n:=by have:=(bP.mp b).1;rw[iR]at this;lia
  rw[iW u]at b;let lo:=bc.mp h o^bq p;rw[iW u]at p;let t:=r.obj i a o b p;cases o with
  |l q=>let(A,x,s):=t;calc#[A,x,s.low lo]
  |E g q=>let(k,x,e,s):=t;calc#[k,x,e,s.low lo]
  |fz v=>calc t
  |B c g q=>let(C,j,k,l,x,e,s):=t;calc#[C,j,k,l,x,e,s.low lo]
  |C g q=>let(k,x,e,P,s):=t;calc#[k,x,e,P,s.low lo]
  |q g q=>let(k,x,e,s):=t;calc#[k,x,e,s.low lo]
  |fn D=>intro d hd;let(v,y,z):=t d hd;subst hd;exact#[v,y,z.low lo]
 sep:=λi a o b p w f=>by
  have u:i < n:=by have:=(bP.mp b).1;rw[iR]at this;lia
  rw[iW u]at b p;exact r.sep i a o b p w f
 trk:=λa h=>r.trk a (wV h)
 ft:=r.ft
def Stp.trunc(s:Stp F m H u v l):Stp F m H u (v.take (-m)) l:=by
 let(n,e):=s.pre;have x:v.take (-m)=m:=by rw[e];simp
 rw[x];calc#[#[[],∅],s.oth,s.frz,s.frk,s.tup,s.trk,s.nf,λz h=>.inl h,s.cod]
end
section
variable{X:Cx}{e:14}{es:Ab}{fs:uH}{B:Pos}
theorem KE(G:FnOk X.p X.w X.K X.g X.b qJ u f fd ps^pT X.K a0)(hr:Room u X.A)(Z0:Gl X x)(hm:X.g x=Y^.ref f)(hk:eT X.K^.ref f=W)(V:Binds X.K fd ps [])
  (T:PA X (e::es)^DP X.K fs) (b:(x == ("__debug__":Str))=Xk) (Z1:starEach (e::es) X.e=(Xk,eval e X.e)::starEach es X.e) (w:(backTo B^starEach es X.e).any (·.1)=Xk) :
  PE X (.Call (.Name x p) (e::es) [] B) (tV X.K^cw a0 fs):=
 (xD G hr Z0 hm hk V .nil tZ T b Z1 w).imp' λJ H Q hz=>by
  let(F,m,L,S,d,S',r,l,q,u):=hz;let(z,h,M,q):=al q;let(I,E,N,q):=al q;let(v1,a,R,q):=al q;ext q;calc#[F,m,L,S,z,h,r,l,M,λxs C g D A K p1=>?_];show pT X.K a0 (xs++[]) D Q E0;rw[dQ];calc#[C,g,z,h,I,E,K,p1,N,λv F2 i y s2 r2 p2=>?_];let(j,s3,P,l3,o):=p_ 09 R r2 p2;let st:=s2.trans s3;let s:=K.len;by_cases c:(a.take (-h)).all^L4 (-h)=W
  .have t:Ev.trunc h.length a=a.take (-h):=af c;rw[t]at u;have k:-g≤-i:=by
    let(nn,e):=st.pre;rw[e,bo];lia
   let rt:=P.trunc (n:=-h) (by rw[<- s];calc k) c;calc u v j (i.take (-g)) y (A.trans st.trunc) ?_ o;rw[s];exact rt
  .have t:Ev.trunc h.length a=a:=ag c;rw[t]at u;calc u v j i y (A.trans st) P o
end
section
variable{X:Cx}{a b c e o i g:14}{C I z t h:EV}{T r:EE}{B Q:Pos}
def uD (i:14):5:=∀(o:14) (B:Pos) (e:Env) (v:11),assign (.Subscript o i B) e v=(do
 let h <- holding [v]^eval o e
 let iv <- holding [v,h] (eval i e)
 standAt B
 holding [v,h,iv] (setItem h iv v)
 release [v,h,iv] [])
def Hw(o:EE)(k v:EV):ES:=λL S=>bw (v L S) λy x=>bw (o L x) λd a=>bw (k L a) λz h=>match gC d h,z with
 |some (i,s),.int n=>match Gq s.length n with
  |some j=>Y (.nx,L,h.set i^.l^s.set j^.p y)
  |none=>Z
 |_,_=>Z
theorem c7.setAt{K:FG}{F:Aa}{H:Hp}{m:6 13}{d:D}{v:V}(h:RD K F H m d v):∀{s:6 D}{e:6 V}(j:9),c7 K F H m s e->c7 K F H m (s.set j d)^e.set j v
 | [],_,_,r=>by cases (_=([]:6 V)|>r);calc rfl
 |_::_,_,0,r=>by let(x,a,0,p,r):=r;calc#[v,a,0,h,r]
 |_::_,_,j+1,r=>by let(x,a,0,p,r):=r;calc#[x,_,0,p,c7.setAt h j r]
theorem QV(ho:PE X o^tE X.K T)(hi:PE X i^tV X.K t)(hv:PE X g^tV X.K h)(hs:swapsWith g (Y^.Subscript o i Q) B.line X.e=pure Xk)(hw:swappedStores [.Subscript o i Q] g X.e=pure Z)(P:uD i) :
  PS X (.Assign [.Subscript o i Q] g B) (ma X.K^Hw T t h):=(HM hv (OO ho hi Hr^P o Q X.e) hs hw).imp' λD J H hz=>by
 let(F,m,L,S,fl,L',S',r,l,q,k):=hz;let(y,I,e1,q):=al q;let(d,M,e2,q):=al q;let(z,N,e3,q):=al q;calc#[F,m,L,S,y,I,r,l,e1,λv G V H1 b r1 p1=>?_];calc#[G,V,L,I,d,M,r1,l.mono b,e2,λx F2 m2 H2 c r2 p2=>?_];calc#[F2,m2,L,M,z,N,r2,(l.mono b).mono c,e3,λw s m3 f p E p3=>?_];cases K:gC d N with
 |none=>rw[K]at q;ext q
 |some e=>
  let(j,ds):=e;rw[K]at q;cases z with
  |int n=>
   dsimp only at q;cases u:Gq ds.length n with
   |none=>rw[u]at q;ext q
   |some C=>
    rw[u]at q;ext q;let(0,es):=pb K;let(a,0,A):=RD.mono p p2;let(xs,R,Z0):=E.obj j a _ A es;have pv:RD X.K s f m3 (.p y) v:=RD.mono p^RD.mono c (RD X.K G H1 V (.p y) v|>p1);cases (w=.int n|>p3);have Z1:∀zs,f a≠Y^.u zs:=λzs z=>by rw[R]at z;ext z
    have st:Stp s m3 f s m3 (cc f a^.l^xs.set C v):=gf E A es trivial Z1;calc#[a,xs,n,C,0,0,R,by rw[<- (-Z0)];calc u,?_];calc k J s m3 _ (b.trans^c.trans^p.trans st) (E.set A es trivial Z1 #[_,aO,c7.mono st^c7.setAt pv C Z0])^((l.mono b).mono c).mono^p.trans st
  |_=>ext q
def jO(o:EE)(k v:EV):ES:=λL S=>match yO o k v L S with
 |some r=>Y r
 |none=>Hw o k v L S
theorem QW(u:X.A.units+1 < cLine)(v:PE X o^tE X.K T)(p:PE X i^tV X.K t)(w:PE X g^tV X.K h)(d:swapsWith g (Y^.Subscript o i Q) B.line X.e=pure Xk)(hw:swappedStores [.Subscript o i Q] g X.e=pure Z)(b:uD i) :
  PS X (.Assign [.Subscript o i Q] g B) (ma X.K^jO T t h):=λG s J H D I x=>by
 let(F,m,L,S,f,a,e,r,l,q,k):=x;cases n:yO T t h L S with
 |some z=>
  have c:Y z=Y (f,a,e):=by have:=q;unfold jO at this;rw[n]at this;exact this
  ext c;calc Uk u v p w d G s J H D I #[F,m,L,S,f,a,e,r,l,n,k]
 |none=>
  have c:Hw T t h L S=Y (f,a,e):=by have:=q;unfold jO at this;rw[n]at this;exact this
  calc QV v p w d hw b G s J H D I #[F,m,L,S,f,a,e,r,l,c,k]
@[simp] def p9(g n:P->P->7 P)(a b c:EV)(L:Lc)(S:aK):tyV:=bw (a L S) λx e=>bw (b L e) λy h=>match g x y with
 |some (.d W)=>bw (c L h) λz s=>(n y z).map λv=>(v,s)
 |some (.d Xk)=>Y (.d Xk,h)
 |_=>Z
def zN{g b:P->P->7 P}{J:L2.St}{H:Hp}{Q:VK}(h:tV X.K (p9 g b C I z) J H Q):AG (rP X.K g) (rP X.K b) (tV X.K C) (tV X.K I) (tV X.K z) J H Q:=by
 let(F,m,L,S,d,S',r,l,q,k):=h;let(x,j,e1,q):=al q;let(y,o,e2,q):=al q;calc#[F,m,L,S,x,j,r,l,e1,λv N m1 H1 E r1 p1=>?_];calc#[N,m1,L,j,y,o,r1,l.mono E,e2,λu R p H2 G A K=>?_];cases f:g x y with
 |none=>rw[f]at q;ext q
 |some a=>
  rw[f]at q;cases a with
  |d t=>
   calc#[R,x,y,_,A.ft,RP.mono G p1,K,f,λw n i c p3=>#[t,p3,?_]];have vk:Stp F m H n p i:=E.trans^G.trans c.stp;let B:=A.grow c;cases t with
   |false=>rw[ag bQ];ext q;calc k _ n p i vk B rfl
   |true=>
    rw[af rfl];dsimp only at q;let(a,Z0,e3,q):=al q;calc#[n,p,L,o,a,Z0,B,l.mono vk,e3,λw' T m4 H4 M D p4=>?_];cases e:b y a with
    |none=>rw[e]at q;ext q
    |some z2=>rw[e]at q;ext q;calc#[T,y,a,_,D.ft,RP.mono M^RP.grow c K,p4,e,λw2 V Z1 s p5=>k w2 V m4 Z1 (vk.trans^M.trans s.stp) (D.grow s) p5]
  |_=>ext q
theorem NZ(n:rM X (compareOp l) v)(o:rM X (compareOp u) L)(x:PE X a^tV X.K C)(e:PE X b^tV X.K I)(s:PE X c^tV X.K z)(m:lastMarks [l,u] [b,c]=Xk) :
  PE X (.Compare a [l,u] [b,c] B) (tV X.K^p9 v L C I z):=(Ia n o x e s m).imp' λy y y h=>zN h
theorem NK(j:rM X (compareOp op) u)(o:rM X (compareOp op') g')(t:PE X a^tV X.K C)(w:PE X b^tV X.K I)(g:PE X c^tV X.K z)(i:lastMarks [op,op'] [b,c]=Xk) :
  PT X (.Compare a [op,op'] [b,c] B) (tQ X.K^bV^p9 u g' C I z):=(HH j o t w g i).imp' λJ H Q h=>by
 calc zN ?_;let(F,m,L,S,d,P,r,l,q,k):=h;let(x,A,f,q):=al q;cases x with
 |d b=>ext q;calc#[F,m,L,S,_,_,r,l,f,λv e y n s K p=>#[_,p,k e y n s K]]
 |_=>ext q
def xm:P->7 15
 | .n=>Y Xk
 | .d b=>Y b
 | .int i=>Y<|i != 0
 | .str x=>if jG (-x)=W then Y ((-x:8) != 0) else Z
 | .u s=>Y<|!s.isEmpty
 | .l s=>Y<|!s.isEmpty
 | .ro s=>Y<|!s.isEmpty
 | .E k _=>Y<|!k.isEmpty
def KU:D->aK->7 15
 | .p v,_=>xm v
 | .ref i,S=>match S[i]? with
  |some (.l d)=>Y<|!d.isEmpty
  |some (.E k _)=>Y<|!k.isEmpty
  |some (.fz v)=>xm v
  |_=>Z
@[simp] def bT(f:EE)(L:Lc)(S:aK):Qu:=bw (f L S) λd h=>(KU d h).map λb=>(b,h)
def ki{x:6 q}{y:6 v}(h:-x=-y):x.isEmpty=y.isEmpty:=by ext x<;>ext y<;>first|rfl|simp at h
def o4(p:RP X.K F H w v)(h:xm w=Y u):Qk X.K v H u:=by
 cases w with
 |n=>cases (v=.n|>p);ext h;rfl
 |d b=>cases (v=.d b|>p);ext h;rfl
 |int b=>cases (v=.int b|>p);ext h;rfl
 |str x=>
  cases (v=.str x|>p);rwa[xm]at h;split at h
  .rename_i c;ext h;exact#[km c,0]
  .ext h
 |u d=>let(a,s,0,t,r):=p;ext h;calc .inr^.inl #[s,t.sq,by rw[ki (-r)]]
 |l d=>let(a,s,0,t,r):=p;ext h;calc .inl #[s,t.sq,by rw[ki (-r)]]
 |ro d=>let(a,s,0,t,r):=p;ext h;calc .inl #[s,t.sq,by rw[ki (-r)]]
 |E n d=>let(a,k,0,_,hk,e,r):=p;ext h;calc .inr^.inr #[k,hk,by rw[<- e];ext k<;>rfl]
theorem yT(h:PE X e^tE X.K r)(D:∀o,isTrue e X.e o=(do let v <- o;standAt e.pos;holding [v] (truthy v))):PT X e (tQ X.K^bT r):=
 (HG h D).imp' λJ H Q E=>by
  let(F,m,L,S,d,N,s,l,q,k):=E;let(x,P,B,q):=al q;cases n:KU x P with
  |none=>rw[n]at q;ext q
  |some t=>
   rw[n]at q;ext q;calc#[F,m,L,S,x,_,s,l,B,λv z G K I c i=>#[_,?_,k z G K I c]];cases x with
   |p w=>calc o4 i n
   |ref j=>
    let(a,0,g):=i;rwa[KU]at n;split at n
    .rename_i A f;ext n;let(M,u,y):=c.obj j a _ g f;exact .inl #[M,j3.of u,by rw[ki (-y)]]
    .rename_i R A f;ext n;let(b,u,C,y):=c.obj j a _ g f;exact .inr^.inr #[b,u,by rw[<- C];ext b<;>rfl]
    .rename_i w f;exact o4 (c.obj j a _ g f) n
    .ext n
@[simp] def uO(g:lc)(f:EV)(L:Lc)(S:aK):DN:=bw (f L S) λv x=>match g v L with
 |some h=>Y (.nx,h,x)
 |none=>Z
theorem Uj(p:PE X e^tV X.K C)(d:PG X tg^gT X.K u)(w:swapsWithSole [tg] e B.line X.e=pure Xk)(hw:swappedStores [tg] e X.e=pure Z)(t:(assignEach [tg] X.e).map (·.2)=[assign tg X.e]) :
  PS X (.Assign [tg] e B) (ma X.K^uO u C):=(HM p d w hw t).imp' λD J H z=>by
 let(F,m,L,S,P,o,K,r,l,q,k):=z;let(v,b,c,q):=al q;calc#[F,m,L,S,v,b,r,l,c,λx h a n s y j=>?_];cases g:u v L with
 |none=>rw[g]at q;ext q
 |some L2=>rw[g]at q;ext q;calc#[h,a,L,v,_,l.mono s,j,g,λf i=>k f h a n s y i]
def ip:P->P->7 P
 | .u [],.u s=>Y^.u s
 |x,y=>yj x y
def Qc{M:18}{w:16}{A:Around}{E:VP}{s:12}{t b:13}{a:LV}{Q:VP}(n:IsTup s.heap t^10 [])(e:IsTup s.heap b a.toArray)(h:Q (.ref b) s):wpAny (model M w) A (binaryOp .Add (.ref t)^.ref b) Q E s:=by let(o,g,k,m,l):=id n;let(p,x,f,r,c):=id e;ext o;ext p;ext k;ext l;ext f;ext c;calc z3 #[_,g,0] #[_,x,0] Ae z5 wo wr (wt _ _) (tuple_addW0 t b (10 []) a.toArray m r _ _ _ _ rfl) #[g,x,h]
def O4:rM X (binaryOp .Add) ip:=by
 intro G s J H x y v u Q I r m h;let(F,e,n,d,t,c,p,q,k):=h;have o:yj e n=Y d->wx X (binaryOp .Add v u) (EP X G J Q) X.xe s:=λq=>R9 G s J H x y v u Q I r m #[F,e,n,d,t,c,p,q,k]
 cases e with
 |u f=>
  cases n with
  |u es=>
   cases f with
   |nil=>ext q;let(a,P,0,S,z):=c;let(b,C,0,K,B):=id p;cases (P=[]|>z);ext r;ext m;let(w,l,g,_):=I.tuple S.sq;let(i,A,j,_):=I.tuple K.sq;ext l;calc Qc g j #[.ref b,H,I,0,k _ F H .refl p]
   |cons _ _=>calc o q
  |_=>ext f<;>calc o q
 |_=>calc o q
def uF(K:FG)(m:SV)(x:Str)(v:P):5:=X0 λu w=>m x=Y u/\RelV w u/\∀F H,RP K F H v w
def Q_(g:Gl X x)(h:uF X.K X.g x v)(hd:(x == ("__debug__":Str))=Xk):PE X (.Name x B) (tV X.K^vC v):=by let(u,w,m,r,p):=h;calc xC (LD g m r hd) p
end
section
variable{X:Cx}{a:14}{C:EE}{p B:Pos}
end
def gI(f:Str):LS->6 D->7 D
 |k::h,d::s=>if k=f then Y d else gI f h s
 |_,_=>Z
def putK(f:Str):LS->LS
 | []=>[f]
 |k::s=>if k=f then k::s else k::putK f s
def nS(f:Str)(y:D):LS->6 D->6 D
 | [],_=>[y]
 |k::h,d::s=>if k=f then y::s else d::nS f y h s
 |_::_,[]=>[]
def k_(K:FG)(c:Str)(C:13):5:=pY K mainGlobals c=Y (Y^.ref C)
variable{K:FG}
def k_.inj(h:k_ K c v)(x:k_ K c u):v=u:=by have:=h.symm.trans x;ext this;rfl
def Ui(K:FG)(A:Str->Str->15):5:=∀c f,A c f=W->∃C,k_ K c C/\Cls K C/\oA K C f
section
variable{K:FG}{F:Aa}{H:Hp}{m:6 13}
theorem Ee:∀{a:6 (Str×V)}{s:6 D}{d:D},c7 K F H m s^a.map (·.2)->gI f (a.map (·.1)) s=Y d->∃v,a.lookup f=Y v/\RD K F H m d v
 | [],s,d,_,h=>by ext s<;>ext h
 |(k,x)::r,s,d,p,h=>by
  cases s with
  |nil=>ext h
  |cons q s=>
   let(y,w,e,c,t):=p;rwa[aI,j4]at e;let(0,0):=e;rwa[aI,gI]at h;split at h
   .rename_i hk;ext h;subst hk;exact#[x,by simp[gR],c]
   .rename_i hk;let(v,n,b):=Ee t h;calc#[v,by rw[su,(f == k)=Xk|>by exists λz=>hk z.symm];calc n,b]
theorem Ed:∀{v:6 (Str×V)},(v.map (·.1)).contains f=Xk->v.lookup f=Z
 | [],_=>rfl
 |(k,x)::r,h=>by rwa[aI,List.contains_cons,C9]at h;rw[su,h.1];calc Ed h.2
theorem HF(h:RD K F H m u v):∀{s:6 (Str×V)}{d:6 D},c7 K F H m d^s.map (·.2)->(kz f v s).map (·.1)=putK f^s.map (·.1)/\c7 K F H m (nS f u (s.map (·.1)) d)^(kz f v s).map (·.2)
 | [],d,n=>#[0,v,[],0,h,0]
 |(k,x)::r,d,n=>by
  cases d with
  |nil=>cases (_=([]:6 V)|>n)
  |cons t d=>
   let(z,p,e,b,a):=n;rwa[aI,j4]at e;let(0,0):=e;by_cases hk:k=f
   .rwa[kz,hk,fw,aI,putK,nS];first|exact#[0,v,_,0,h,a]|exact#[trivial,v,_,0,h,a]
   .let(i,c):=HF h a;rwa[kz,hk,j7,aI,putK,nS];calc#[by rw[i],x,_,0,b,c]
end
section
variable{X:Cx}{o e g:14}{f:Str}{B Q j:Pos}{T h:EE}{A:Str->Str->15}{es:Ab}{fs:uH}
@[simp] def bL(A:Str->Str->15)(o:EE)(f:Str)(L:Lc)(S:aK):uK:=bw (o L S) λd h=>match d with
 | .ref i=>match h[i]? with
  |some (.B c k s)=>if A c f=W then (gI f k s).map λz=>(z,h) else Z
  |_=>Z
 |_=>Z
theorem UJ(D:Ui X.K A)(V:PE X o^tE X.K T)(I:attributeBase o f X.e^eval o X.e=eval o X.e):PE X (.Attribute o f B) (tE X.K^bL A T f):=(OU V I).imp' λJ H Q Z0=>by
 let(F,m,L,S,d,S',r,l,q,k):=Z0;let(x,u,y,q):=al q;calc#[F,m,L,S,x,u,r,l,y,λv b m1 t s1 n p1=>?_];cases x with
 |p w=>ext q
 |ref i=>
  let(a,0,N):=p1;dsimp only at q;split at q
  .rename_i c ks g Z1;split at q
   .rename_i G;cases h:gI f ks g with
    |none=>rw[h]at q;ext q
    |some z=>rw[h]at q;ext q;let(C,j,s,P,E,0,rs):=n.obj i a _ N Z1;let(C',e,M,R):=D c f G;cases k_.inj P e;let(v,K,p3):=Ee rs h;exact#[a,C,j,s,v,0,E,M,R,K,k v b m1 t s1 n p3]
   .ext q
  .ext q
@[simp] def jv(A:Str->Str->15)(o:EE)(f:Str)(v:EE)(L:Lc)(S:aK):DN:=bw (v L S) λy x=>bw (o L x) λd h=>match d with
 | .ref i=>match h[i]? with
  |some (.B c k s)=>if (A c f && decide (-k < 900))=W then Y (.nx,L,h.set i^.B c (putK f k)^nS f y k s) else Z
  |_=>Z
 |_=>Z
theorem QX(hA:Ui X.K A)(ho:PE X o^tE X.K T)(hv:PE X g^tE X.K h)(e:swapsWith g (Y^.Attribute o f Q) B.line X.e=pure Xk):PS X (.Assign [.Attribute o f Q] g B) (ma X.K^jv A T f h):=(OI ho hv e).imp' λD J H hz=>by
 let(F,m,L,S,fl,L',S',r,l,q,k):=hz;let(y,M,e1,q):=al q;let(d,S2,e2,q):=al q;calc#[F,m,L,S,y,M,r,l,e1,λv Z0 m1 H1 G r1 p1=>?_];calc#[Z0,m1,L,M,d,S2,r1,l.mono G,e2,λx n P b I E p2=>?_];cases d with
 |p w=>ext q
 |ref i=>
  let(a,0,K):=p2;dsimp only at q;split at q
  .rename_i c ks ds e;split at q
   .rename_i j;rw[av]at j;ext q;let(C,t,s,N,R,0,rs):=E.obj i a _ K e;let(C',u,hc,hn):=hA c f j.1;cases k_.inj N u;have hl:-s < 1000:=by have:=aS j.2;rw[aU]at this;lia
    have V:∀Z1,b a≠Y^.u Z1:=λZ1 z=>by rw[R]at z;ext z
    have st:Stp n P b n P (cc b a^.B C t^kz f v s):=gf E K e trivial V;let(i1,i2):=HF (f:=f) (RD.mono st^RD.mono I p1)^c7.mono st rs;exact#[a,C,t,s,0,R,hc,hn,hl,k J n P _ (G.trans^I.trans st) (E.set K e trivial V #[C,t,_,N,aO,i1,i2])^(l.mono G).mono^I.trans st]
   .ext q
  .ext q
@[simp] def dY(M:Str->Str->7 GF)(o:EE)(y:Str)(a:uH)(L:Lc)(S:aK):uK:=bw (o L S) λd h=>match d with
 | .ref i=>match h[i]? with
  |some (.B c k _)=>match M c y with
   |some g=>if k.contains y=W then Z else bw (a L h) λN x=>g (.ref i::N) x
   |none=>Z
  |_=>Z
 |_=>Z
def Uf(X:Cx)(M:Str->Str->7 GF):5:=∀c y g,M c y=Y g->X3 λC k f d p=>k_ X.K c C/\Cls X.K C/\Meth X.K C y f/\FnOk X.p X.w X.K X.g X.b qJ k f d p^pT X.K g/\Room k X.A/\Binds X.K d p []
variable{M:Str->Str->7 GF}{y:Str}
def vw(hM:Uf X M){t:TE}{ta:TA}(n:∀C k f b u g,Cls X.K C->Meth X.K C y f->FnOk X.p X.w X.K X.g X.b qJ k f b u^pT X.K g->Room k X.A->Binds X.K b u []->PE X e (Hl C y (pT X.K g) [] E0 (tE X.K T)^DP X.K fs)):PE X e (tE X.K^dY M T y fs):=by
 intro G s J H Q I h;let(F,m,L,S,d,S',r,l,q,k):=h;let(x,K,e1,q):=al q;cases x with
 |p w=>ext q
 |ref i=>
  dsimp only at q;split at q
  .rename_i c ks ds hs;split at q
   .rename_i g hg;split at q
    .ext q
    .rename_i hk;let(N,P,e2,q):=al q;let(C,kk,f,b,u,ec,hc,hm,hF,hr,hb):=hM c y g hg;calc n C kk f b u g hc hm hF hr hb G s J H Q I #[F,m,L,S,.ref i,K,r,l,e1,λv R m1 H1 D B A=>?_];let(a,0,z):=id A;let(C',dx,o,j,hH,0,rs):=B.obj i a _ z hs;cases k_.inj ec j;calc#[a,dx,o,0,hH,Ed (by exists hk),R,m1,L,K,N,P,B,l.mono D,e2,λxs Z1 m2 H2 E r2 p2=>?_];show pT X.K g (V.ref a::(xs++[])) H2 Q E0;rw[dQ];exact#[Z1,m2,.ref i::N,P,d,S',r2,#[_,_,0,RD.mono E A,p2],q,λv Z0 m3 H3 s3 r3 p3=>k v Z0 m3 H3 (D.trans^E.trans s3) r3 p3]
   .ext q
  .ext q
theorem Q8(x:Uf X M)(s:PE X o^tE X.K T)(a:PA X (e::es)^DP X.K fs)(hst:starEach (e::es) X.e=(Xk,eval e X.e)::starEach es X.e)(h:(backTo B^starEach es X.e).any (·.1)=Xk)
  (n:eval (.Call (.Attribute o y j) (e::es) [] B) X.e=(do
   let v <- eval o X.e
   standAt j.atName
   let (f,first) <- holding [v] (getMethod v y l)
   callWith B f first (backTo B^starEach (e::es) X.e) (backToKw B^keywordEach [] X.e))) :
  PE X (.Call (.Attribute o y j) (e::es) [] B) (tE X.K^dY M T y fs):=
 vw (t:=tE X.K T) (ta:=DP X.K fs) x λC k f d p g c m F r b=>LC s c m F r b .nil tZ a hst h n
theorem NP(i:Uf X M)(D:PE X o^tE X.K T)
  (G:eval (.Call (.Attribute o y j) [] [] B) X.e=(do
   let u <- eval o X.e
   standAt j.atName
   let (f,first) <- holding [u] (getMethod u y pl)
   callWith B f first (backTo B^starEach [] X.e) (backToKw B^keywordEach [] X.e))) :
  PE X (.Call (.Attribute o y j) [] [] B) (tE X.K^dY M T y b_):=
 vw (t:=tE X.K T) (ta:=DP X.K b_) i λC k f fd ps g K A p E z=>(HV D K A p E z .nil tZ G).imp' λJ H Q h=>by let(F,m,L,S,d,n,r,l,q,k):=h;calc#[F,m,L,S,d,n,r,l,q,λv e N x s' Z0 V=>?_];let(a,c,fs,0,w,P,s,R,L2,S2,ds,b,r2,l2,Z1,I):=k v e N x s' Z0 V;ext Z1;calc#[a,c,fs,0,w,P,I [] s R x .refl r2 rfl]
@[simp] def mH(g:GF)(c:Str)(a:uH)(L:Lc)(S:aK):uK:=bw (a L S) λN h=>match g (.ref (-h)::N) (h++[.B c [] []]) with
 |some (.p .n,x)=>Y (.ref (-h),x)
 |_=>Z
theorem Q9{C f:13}{o:FuncData}{K:LS}{k:9}{x:Str}{p:Pos}{g:GF}(M:Mk X.K C f)(G:FnOk X.p X.w X.K X.g X.b qJ k f o K^pT X.K g)(hr:Room (k+1) X.A)(hg:Gl X x)(hm:X.g x=Y^.ref C)(Z0:k_ X.K x C)(hb:Binds X.K o K [])
  (ha:PA X (e::es)^DP X.K fs) (i:(x == ("__debug__":Str))=Xk) (he:starEach (e::es) X.e=(Xk,eval e X.e)::starEach es X.e) (z:(backTo B^starEach es X.e).any (·.1)=Xk) :
  PE X (.Call (.Name x p) (e::es) [] B) (tE X.K^mH g x fs):=
 (D2 M G hr hg hm hb .nil tZ ha i he z).imp' λJ H Q hz=>by
  let(F,m,L,S,d,S',r,l,q,k):=hz;let(N,t,T,q):=al q;calc#[F,m,L,S,N,t,r,l,T,λxs s a b s1 P p1=>λy h hy w j=>?_];split at q
  .rename_i _ S2 V;ext q;have A:Stp s a b s a (cc b h^.own y):=gY w;have r2:Rel X.K s (cc b h^.own y) a t:=P.new w;have u:cc b h (.own y) y=Z:=by rw[aE^b9 j];exact hy
   have D:Stp s a (cc b h^.own y) s (a++[y]) (cc (cc b h^.own y) y^.B C h []):=df u;have r3:Rel X.K s (cc (cc b h^.own y) y^.B C h []) (a++[y]) (t++[.B x [] []]):=r2.own u #[C,h,[],Z0,aO,0,0];rw[dQ];have c:(a++[y])[-t]? = Y y:=by rw[<- P.len,bZ^ar _];simp
   calc#[s,a++[y],.ref (-t)::N,_,.p .n,_,r3,#[_,_,0,#[y,0,c],c7.mono D^c7.mono A p1],V,λv I m4 R E r4 p4=>#[p4,?_]];calc k (.ref y) I m4 R (s1.trans^A.trans^D.trans E) r4 #[y,0,?_];let(n,Z1):=E.pre;rw[Z1,cG (bP.mp c).1];exact c
  .ext q
end
def Pj(h:attributeBase o y v^eval o v=eval o v)(e:methodCallForm (-u+-([]:6 Keyword)) (backTo B^starEach u v) (backToKw B^keywordEach [] v)=W)(i:(j.endLine == B.line)=W) :
  eval (.Call (.Attribute o y j) u [] B) v=(do
   let l <- eval o v
   standAt j.atName
   let (f,first) <- holding [l] (getMethod l y<|do return (<- importBound o v).getD W)
   callWith B f first (backTo B^starEach u v) (backToKw B^keywordEach [] v)):=by
 have x:methodCallPos W o v j B=pure B:=by unfold methodCallPos;rw[i];rfl
 have a:∀l,methodCall o y j B v l (-u+-([]:6 Keyword)) (backTo B^starEach u v) (backToKw B^keywordEach [] v)=(do
   let (f,first) <- holding [l] (getMethod l y<|do return (<- importBound o v).getD W)
   callWith B f first (backTo B^starEach u v) (backToKw B^keywordEach [] v)):=λl=>by
  unfold methodCall;rw[e,x];rfl
 have s:eval (.Call (.Attribute o y j) u [] B) v=(do
  let l <- attributeBase o y v (eval o v)
  standAt j.atName
  methodCall o y j B v l (-u+-([]:6 Keyword)) (backTo B^starEach u v) (backToKw B^keywordEach [] v)):=by rfl
 rw[s,h];rwa[a]
section
variable{X:Cx}{o e g:14}{f:Str}{B Q d:Pos}{T:EE}{h:EV}{A:Str->Str->15}
def xy(i:9)(v:EV):ES:=λL S=>match L[i]? with
 |some (Y^.p^.int a)=>bw (v L S) λy h=>match y with
  | .int b=>Y (.nx,L.set i<|Y<|.p<|.int<|a+b,h)
  |_=>Z
 |_=>Z
theorem Up(i:9)(N:X.N.Nodup)(s:PE X e^tV X.K h)(g:X.N[i]? = Y x)(j:L2.Loc X.e.scope x)(u:X.fn x=W\/X.e.scope.names.lookup x=Y .local):PS X (.AugAssign (.Name x Q) .Add e B) (ma X.K^xy i h):=
 (OJ N g j s PJ u).imp' λD J H z=>by
  let(F,m,L,S,I,C,E,r,l,q,k):=z;unfold xy at q;split at q
  .rename_i a w;let(y,G,p,q):=al q;cases y with
   |int b=>ext q;let(A,d,K):=l.at' i _ w;cases (A=.int a|>K);calc#[_,d,F,m,L,S,_,_,r,l,p,λv n c f t P o=>?_];cases (v=.int b|>o);calc#[a,b,0,0,k _ n c f t P^(l.mono t).set (RD X.K n f c (.p<|.int<|a+b) (.int<|a+b)|>rfl) i]
   |_=>ext q
  .ext q
end
variable{F:Aa}{H:Hp}
theorem yJ:∀h:LS,cF K F H (h.map .str)^h.map V.str
 | []=>rfl
 |s::r=>#[_,_,0,0,yJ r]
variable{x:Str}
theorem FV(s:LS)(h:u x=Y^.ref a)(hk:K.lookup a=Y #[.type "tuple",Z,.seq v n,l])(z:v.size≤sizeLine)(e:bC (s.map V.str) v.toList):uF K u x (.u^s.map .str):=
 #[.ref a,.ref a,h,0,λF H=>#[a,s.map V.str,0,.inr^.inr #[_,v,n,hk,0,0,0,z,e],yJ s]]
section
variable{prog:18}{w:16}{A:Around}{E:VP}{s:12}{D:13}{N:LV}
def zx(few:-N < 2):((arrOf^SortSt.mk' general' (N.toArray.zip N.toArray) (10 []) 07 Z).map (·.2))=N.toArray:=by
 have same:(N.toArray.zip N.toArray).map (·.2)=N.toArray:=by
  rcases N with _|⟨v,_|⟨u,r⟩⟩
  .simp
  .simp
  .exact absurd few ∅
 calc same
def Jh(few:-N < 2)(a:s.heap.get? D=Y^seqObj "list" N.toArray v)
  (g:∀x c,(∀b o,b≠D->s.heap.get? b=Y o->x.get? b=Y o)->x.get? D=Y^seqObj "list" N.toArray c->u (.done^.ret .none) { s with heap:=x }) :
  wpAny (model prog w) A (Builtin.«list.sort» #[[.ref D],[]]) u E s:=by
 have m:-N+1≤sizeLine:=by rw[pU];lia
 have cond:N.toArray.size < 2:=by exists few
 let h:=Cd a λz=>((10 []):Array 11);rw[list_sort_plain];calc ai <|listItems_at a rfl <|ai <|Ca a rfl (ai <|seqEpoch_at h rfl <|ai <|z_ (ai <|Dj (ir ?_)^cS _) (by exists wI m)) (by exists wI m)^cS _;rwa[cond,fw];have k:∀b o,(s.heap.update D (lg λz=>((10 []):Array 11))).get? b=Y o->((((s.heap.update D (lg λz=>((10 []):Array 11))).push { cls:=.type "tuple",data:=.seq N.toArray }).push { cls:=.type "list",data:=.seq ([]:LV).toArray })).get? b=Y o:=
  λz z q=>bb _^bb _ q
 let t:=k D _ h;calc ai <|aG <|ai <|aG ?_;calc ai <|seqEpoch_at t rfl <|ai <|Ca t rfl ?_ (cS _) (by rw[zx few];exists Cz^wI m);rw[zx few];let Nv:=Cd t λz=>N.toArray;rwa[bne_self_eq_false,sG,j7,failedOf];calc aG^g _ _ (λb o n e=>?_) Nv;calc((oB _ D _).2 b n).trans^k b o^((oB s.heap D _).2 b n).trans e
def K_{l:13}{T:String}{o:Obj}{n:9}{G:VP}(p:T="list"\/T="tuple")(d:s.heap.get? l=Y o)(v:o.cls=.type T)(hd:o.data=.seq N.toArray n)(few:-N < 2)
  (r:∀D x c,s.heap.get? D=Z->(∀b u,s.heap.get? b=Y u->x.get? b=Y u)->x.get? D=Y^seqObj "list" N.toArray c->G (.ref D) { s with heap:=x }) :
  wpAny (model prog w) A (call (.builtin "sorted") [.ref l]) G E s:=by
 have a:-N≤sizeLine:=by rw[pU];lia
 calc Calls.call_function_entry (b:=Builtin.«sorted») kind_sorted plain_sorted entry_sorted (args_sorted1^.ref l) (ai (m:=checkCount "sorted" 1 1 1) <|aG <|ai <|wpAny_collect_seq l p d v hd (λh k=>ai <|Dj ?_ a) a);have t:(h.push { cls:=.type "list",data:=.seq N.toArray }).get? h.objs.size=Y^seqObj "list" N.toArray 0:=bO _ rfl;have f:∀b u,s.heap.get? b=Y u->b≠h.objs.size:=λb u e z=>absurd (aN^k b u e) (by rw[z];calc gP _);calc ai (ir^pX (b:=Builtin.«list.sort») slot_list_sort #[_,t,0] entry_list_sort ?_^args_list_sort _);calc Jh (s:={ s with heap:=h.push { cls:=.type "list",data:=.seq N.toArray } }) few t λx c g e=>#[_,0,aG #[_,0,r _ x c ?_ (λb u q=>g b u (f b u q)^bb _^k b u q) e]];cases q:s.heap.get? h.objs.size with
 |none=>rfl
 |some u=>calc absurd rfl^f _ u q
end
section
variable{X:Cx}
def pJ(d:6 P):7 P:=if -d < 2 then Y^.l d else Z
theorem t4{q h:Type}{R:q->h->5}:∀{x:6 q}{y:6 h},Paired R x y->-x=-y
 |_,_,.nil=>rfl
 |_,_,.cons _ r=>by rw[aP,aP,t4 r]
def Pa{P:18}{w:16}{H:Hp}{h:17}{a:13}{o:HO}(x:dL P w H h a o):∃u,h.get? a=Y u:=by
 cases o with
 |l s=>let(_,_,_,_,e):=x;calc#[_,e]
 |u s=>let(_,_,_,_,e,_):=x;calc#[_,e]
 |dK k=>let(_,_,_,_,_,_,_,e,_):=x;calc#[_,e]
 |dT k=>let(_,_,_,_,_,_,_,e,_):=x;calc#[_,e]
 |dN k=>let(_,_,_,_,_,_,_,e,_):=x;calc#[_,e]
 |set S n=>let(_,_,_,_,e,_):=x;calc#[_,e]
 |B C d fs=>let(_,_,_,e,_):=x;calc#[_,e]
 |own y=>calc x
 |xd fs=>let(_,(_,_,_,e,_),_):=x;calc#[_,e]
 |rng lo i=>let(_,_,_,e):=x;calc#[_,e]
 |frz b u=>calc#[_,x.1]
 |tbl=>let(_,e,_):=(uC H h a|>x);calc#[_,e]
 |met f y=>calc#[_,(h.get? a=Y _|>x)]
 |ext c=>calc x.2.1
def IQ{G:PN}{J:L2.St}{H:Hp}{s:12}{D:13}(I:Inv X G J H s)(h:s.heap.get? D=Z):H D=Z:=by
 cases q:H D with
 |none=>rfl
 |some v=>let(u,e):=Pa^I.h D v q;rw[h]at e;ext e
def FN{G:PN}{J:L2.St}{H:Hp}{s:12}{x:17}{g:9}{D:13}{u:HO}(I:Inv X G J H s)(k:∀b o,s.heap.get? b=Y o->x.get? b=Y o)(a:s.heap.get? D=Z)(w:dL X.p X.w (cc H D u) x D u):Inv X G J (cc H D u) { s with heap:=x,toks:=g }:=by
 let f:=IQ I a;have d:∀b o,s.heap.get? b=Y o->b≠D:=λb o e z=>by rw[z,a]at e;ext e
 have h:∀b v,H b=Y v->b≠D:=λb v e z=>by rw[z,f]at e;ext e
 calc I.step (g':=s.gens) (d':=s.drawn) (ch:=[]) (λy z=>nomatch z) (λb o y y y e y=>k b o e) (λb o y y y e y=>#[o.slots,k b o e]) (λb o y e n=>(aE^d b o e).trans n) (λb o y e=>#[o,k b o e]) (λb i e=>(aE^h b _ e).trans e) (λb o v e=>(aE^h b _ e).trans e) (λb e=>(aE^h b _ e).trans e) (λj #[o,es,p,t,r]=>#[o,es,p,k _ _ t,r]) (λb v e=>?_) I.bare;by_cases m:b=D
 .subst m;rw[aO]at e;ext e;exact w
 .rw [aE m]at e;calc(I.h b v e).stay (λc v y q=>k c v q) (λc q=>(aE^h c _ q).trans q) (λc i q=>(aE^h c _ q).trans q) (λc l q=>(aE^h c _ q).trans q)
def yk:fN X (.builtin "sorted") (λz H Q=>X2 λF a y d=>z=[.ref a]/\(j3 X.K H a y\/rK X.K H a y)/\cF X.K F H d y/\-d < 2/\∀l S,H l=Z->cF X.K F H d S->Q (.ref l) (cc H l^.l S)):=by
 intro G s J H z L Q I r h;let(F,a,y,d,0,f,w,E,q):=h;let(u,0,C):=vals1 r;ext C;have m:∀(T:String)(v:T="list"\/T="tuple")(i:LV)(o:Obj)(n:9),bC y i->s.heap.get? a=Y o->o.cls=.type T->o.data=.seq i.toArray n->wx X (call (.builtin "sorted") [.ref a]) (EP X G J Q) X.xe s:=by intro T v i o n j g x hd;let P:=-w;let b:=t4 j;exact K_ v g x hd () λD K c p k e=>#[.ref D,_,FN (g:=s.toks) I k p (dL X.p X.w _ K _^.l y|>#[by rw[b,pU];lia,i,c,j,e]),0,q _ y (IQ I p) w]
 rcases f with f|f
 .let(i,t,B,A):=I.list f;let(o,g,x,n,hd):=B.isList;exact m "list" (.inl rfl) i o n t g x hd
 .let(i,t,(o,g,x,n,hd),A):=I.tuple f;calc m "tuple" (.inr rfl) i o n t g x hd
def Qt:6 D->7^6 P
 | []=>Y []
 | .p v::r=>(Qt r).map (v::·)
 | .ref _::_=>Z
theorem G':∀{d:6 D}{N:6 P},Qt d=Y N->d=N.map .p
 | [],N,h=>by ext h;rfl
 | .p v::r,N,h=>by
  cases e:Qt r with
  |none=>rwa[Qt,e]at h;ext h
  |some w=>rwa[Qt,e]at h;ext h;rw[G' e];rfl
 | .ref _::_,N,h=>by ext h
theorem M3:∀{N:6 P}{s:6 V},c7 K F H m (N.map .p) s->cF K F H N s
 | [],_,h=>h
 |_::_,_,h=>by let(x,r,e,a,n):=h;calc#[x,r,e,a,M3 n]
def Ld:P->7^6 P
 | .l x=>Y x
 | .ro x=>Y x
 | .u x=>Y x
 |_=>Z
def Lf:D->aK->7^6 P
 | .p v,_=>Ld v
 | .ref i,S=>match S[i]? with
  |some (.l d)=>Qt d
  |some (.fz v)=>Ld v
  |_=>Z
@[simp] def G8(r:EE)(L:Lc)(S:aK):tyV:=bw (r L S) λd h=>match Lf d h with
 |some x=>(pJ x).map λv=>(v,h)
 |none=>Z
def DR(p:RP K F H w v)(h:Ld w=Y u):X0 λa y=>v=.ref a/\(j3 K H a y\/rK K H a y)/\cF K F H u y:=by
 cases w with
 |u d=>let(a,y,0,t,r):=p;ext h;calc#[a,y,0,.inr t.sq,r]
 |l d=>let(a,y,0,t,r):=p;ext h;calc#[a,y,0,.inl t.sq,r]
 |ro d=>let(a,y,0,t,r):=p;ext h;calc#[a,y,0,.inl t.sq,r]
 |_=>ext h
def Le(r:Rel K F H m S)(p:RD K F H m u v)(h:Lf u S=Y l):X0 λa y=>v=.ref a/\(j3 K H a y\/rK K H a y)/\cF K F H l y:=by
 cases u with
 |p w=>calc DR p h
 |ref i=>
  let(a,0,x):=p;rwa[Lf]at h;split at h
  .rename_i d es;let(y,e,s):=r.obj i a _ x es;rw[G' h]at s;exact#[a,y,0,.inl^j3.of e,M3 s]
  .rename_i w es;exact DR (r.obj i a _ x es) h
  .ext h
theorem G3(g:Gl X "sorted")(i:X.g "sorted"=Z)(u:PE X e^tE X.K r)(n:starEach [e] X.e=[(Xk,eval e X.e)]:=by rfl):PE X (.Call (.Name "sorted" p) [e] [] B) (tV X.K^G8 r):=
 (o_ yk g i Kw (fy u jj (by rw[n];rfl)) #[] #[] (by rw[n];rfl) rfl).imp' λJ H Q s=>by
  let(F,m,L,S,d,G,h,l,q,k):=s;let(x,c,t,q):=al q;calc#[F,m,L,S,x,c,h,l,t,λv b y E A f o=>?_];split at q
  .rename_i C w;unfold pJ at q;split at q
   .rename_i n;ext q;let(a,D,0,j,K):=Le f o w;exact#[b,a,D,C,0,j,K,n,λz I s P=>k _ _ y _ (A.trans (dt s).stp) (f.grow^dt s)^.newLst s P]
   .ext q
  .ext q
end
section
variable{X:Cx}{B:Pos}
def Bt:fN X (.type "range") (λx H Q=>∃j:8,x=[.int j]/\∀r,H r=Z->Q (.ref r) (cc H r^.rng 0 j)):=by intro G s J H x n Q I r h;let(j,0,q):=h;let(u,0,a):=vals1 r;let(t,0):=a;calc call_range_1 ?_;calc#[.ref (~~~s),_,I.laid (o:=.rng 0 j) (λb o e=>bb _ e) (ar _) #[_,_,_,bO _ rfl],0,q _^I.h.fresh^ar _]
theorem vq:∀{s:6 q}{e:6 v},-s=-e->(∀(i:9) x y,s[i]? = Y x->e[i]? = Y y->R x y)->Paired R s e
 | [],[],_,_=>.nil
 | [],_::_,h,_=>by simp at h
 |_::_,[],h,_=>by simp at h
 |x::s,y::e,h,k=>.cons (k 0 x y rfl rfl) (vq (by exists h) λi a b n f=>k (i+1) a b (by exists n) (by exists f))
def A4(h:ItemsOf (λi v=>∃t,v=Value.int (0+i * 1) t) u n):bC ((List.range n).map λ(i:9)=>V.int (i:8)) u.toList:=by
 let(z,f):=h;calc vq (by simp[z]) λi x y a b=>?_;rw[cm]at a;cases e:(List.range n)[i]? with
 |none=>rw[e]at a;ext a
 |some k=>
  rw[e]at a;ext a;have hk:k=i:=by have:=bP.mp e;let(c,s):=this;exists s.symm
  subst hk;let(t,0):=f k y (by exists b);calc#[t,∅]
def zR(a:X.c=W):fN X (.type "list") (λk H Q=>X0 λr j=>k=[.ref r]/\H r=Y^.rng 0 j/\j.natAbs < 1000000/\∀l,H l=Z->Q (.ref l)^cc H l^.l ((List.range j.toNat).map λ(i:9)=>V.int (i:8))):=by
 intro G s J H k y Q I r h;let(p,j,0,m,g,q):=h;let(u,0,d):=vals1 r;ext d;let(t,u,v,o):=I.h p _ m;refine call_list_range (n:=j.toNat) (I.o.hd a) o (small_one () () () ()) (by rw[Di];split<;>lia) () λf w x c hk e b=>?_
 calc#[.ref (~~~s),_,I.laid (t':=w) hk (ar _) (dL X.p X.w _ f _^.l _|>#[by rw[aU,CN];calc aH (by lia:j.toNat≤1000000) #[],x.toList,c,A4 b,by exists e]),0,q _^I.h.fresh^ar _]
@[simp] def Rj(a:EV)(L:Lc)(S:aK):tyV:=bw (a L S) λv h=>match v with
 | .int j=>if decide (j.natAbs < 1000000)=W then Y (.l^intsFrom 0 j.toNat,h) else Z
 |_=>Z
theorem yP:∀s:6 9,cF K F H (s.map λ(i:9)=>P.int<|0+(i:8)) (s.map λ(i:9)=>V.int (i:8))
 | []=>rfl
 |i::s=>#[_,_,0,by show V.int _=V.int _;rw[db],yP s]
theorem KD{a:14}{C:EV}{p G i y:Pos}(h:X.c=W)(A:Gl X "list")(D:X.g "list"=Z)(g:Gl X "range")(s:X.g "range"=Z)(K:PE X a^tV X.K C)(t:starEach [a] X.e=[(Xk,eval a X.e)])
  : PE X (.Call (.Name "list" p) [.Call (.Name "range" G) [a] [] y] [] i) (tV X.K^Rj C):=
 (mY (zR h) A D r9 (fy (mY Bt g s boot_range (fy K jj (by rw[t];rfl)) #[] #[] (by rw[t];rfl) rfl) jj rfl) #[] #[] rfl rfl).imp' λJ H Q e=>by
  let(F,m,L,S,d,N,r,l,q,k):=e;let(x,u,o,q):=al q;calc#[F,m,L,S,x,u,r,l,o,λv f E b M I p=>?_];cases x with
  |int j=>
   dsimp only at q;split at q
   .rename_i P;have B:j.natAbs < 1000000:=aS P;ext q;cases (v=.int j|>p);calc#[j,0,λw n=>#[w,j,0,aO,B,λz e=>?_]];have c:Grow f b f (cc b w^.rng 0 j):=cP n;exact k _ _ E _ (M.trans^c.stp.trans (dt e).stp) ((I.grow c).grow^dt e)^.newLst e^yP _
   .ext q
  |_=>ext q
end
section
variable{X:Cx}{B:Pos}
def Ff{prog:18}{w:16}{A:Around}{E:VP}{s:12}{t l:13}{i:Array 11}{v u:11}{lo x:7 8}{Q:VP}(h:IsTup s.heap t i)(a:s.heap.IsSliceOf l v u .none)(p:IsPart v lo)(b:IsPart u x)
  (k:HT.fS i.size 0 lo=0) (f:HT.fS i.size i.size x=i.size) (q:Q (.ref t) s):wpAny (model prog w) A (getItem (.ref t)^.ref l) Q E s:=by
 have T:s.TypeIs (.ref l) "slice":=by let(o,e,n,_):=a;exact#[o,e,n]
 unfold getItem;try with_reducible refine ir ?_
 first|refine ai^aG ?_|skip
 calc ai^Dx h.typeIs #[] ?_;calc ai (s_ (name:=Str.ofString "__getitem__") h.typeIs lj^pX lj h.typeIs Cf ?_^Ce _ _);show wpAny _ _ (GB^.ref t >>= _) _ _ s;calc ai (Cb h^ai^nP T ?_);rw[af #[]];calc ai^HT.kG a p b ?_;rw[k,f];have y:((((0:9):8) == 0 && (1:8) == 1 && (i.size-0) == i.size)=W):=by simp
 show wpAny _ _ (if ((((0:9):8) == 0 && (1:8) == 1 && (i.size-0) == i.size)=W) then _ else _) _ _ s;rw[af y];calc ai (ai^nP h.typeIs ?_);calc aG ?_;rw[af (by rfl)];first
  |calc ai^aG^aG #[_,0,aG q]
  |calc ai^vZ^aG #[_,0,aG q]
  |calc aG #[_,0,aG q]
def Hq:NB X (λx lo n H Q=>X0 λa e=>x=.ref a/\rK X.K H a e/\HT.fS e.length 0 lo=0/\HT.fS e.length e.length n=-e/\Q (.ref a) H):=by
 intro G s J H x v w g lo n d Q I m b p u h;let(a,e,0,c,k,f,q):=h;ext m;let(i,r,t,_):=I.tuple c;have l:i.toArray.size=-e:=by rw[bz];exact r.length.symm
 calc#["tuple",_,lj.lookup,t.typeIs,Ff t b p u (by rw[l];calc k) (by rw[l];calc f) #[.ref a,H,I,0,q]]
def P7:P->7 8->7 8->7 P
 | .u s,lo,h=>Y^.u^cut s lo h
 |x,lo,h=>Xa x lo h
@[simp] def lC(a:EV)(lo n:EO)(L:Lc)(S:aK):tyV:=bw (a L S) λx h=>bw (lo L h) λi e=>bw (n L e) λj s=>(P7 x i j).map λv=>(v,s)
theorem Uw{e:14}{lo P:7 14}{C:EV}{K o:EO}{B p2:Pos}(Z1:PE X e^tV X.K C)(hl:PO X lo^tO X.K K)(Z0:PO X P^tO X.K o):PE X (.Subscript e (.Slice lo P Z p2) B) (tV X.K^lC C K o):=
 (HS (La.or^Ot.or Hq) Z1 hl Z0).imp' λJ H Q hz=>by
  let(F,m,L,S,d,S',r,l,q,k):=hz;let(x,y,N,q):=al q;let(i,z,R,q):=al q;let(j,M,T,q):=al q;calc#[F,m,L,S,x,y,r,l,N,λv D m1 H1 u r1 p1=>?_];calc#[D,m1,L,y,i,z,r1,l.mono u,R,λE m2 H2 g r2=>?_];calc#[E,m2,L,z,j,M,r2,(l.mono u).mono g,T,λG m3 I A b=>?_];let w:=RP.mono A^RP.mono g p1;let c:=u.trans^g.trans A;cases x with
  |l f=>ext q;let(a,s,0,t,n):=w;calc .inl #[a,s,0,t.sq,λp h=>k _ _ m3 _ (c.trans (dt h).stp) (b.grow^dt h)^.newLst h^n.cut i j]
  |ro f=>ext q;let(a,s,0,t,n):=w;calc .inl #[a,s,0,t.sq,λp h=>k _ _ m3 _ (c.trans (dt h).stp) (b.grow^dt h)^.newLst h^n.cut i j]
  |u f=>
   let(a,s,0,t,n):=w;ext q;by_cases hw:HT.fS s.length 0 i=0/\HT.fS s.length s.length j=(-s)
   .have V:cut f i j=f:=by
     unfold cut;rw[(-n),hw.1,hw.2,oQ,wG,<- (-n),oR]
    rw[V]at k;exact .inr^.inr #[a,s,0,t.sq,hw.1,hw.2,k _ G m3 I c b #[a,s,0,t,n]]
   .calc .inr^.inl #[a,s,0,t.sq,hw,λp h=>k _ _ m3 _ (c.trans (cP h).stp) (b.grow^cP h)^.newTup h^n.cut i j]
  |_=>ext q
abbrev iz:6 P->7 P:=nG
variable{e:14}{es:Ab}{fs:lf}{p:Pos}
theorem NN(g:Gl X "int")(m:X.g "int"=Z)(a:PA X (e::es)^uM X.K fs)(x:starEach (e::es) X.e=(Xk,eval e X.e)::starEach es X.e)(h:(backTo B^starEach es X.e).any (·.1)=Xk) :
  PE X (.Call (.Name "int" p) (e::es) [] B) (tV X.K^aR iz fs):=AB MJ g m Ku a #[] #[] x h
inductive PEs(X:Cx):Ab->6 EV->5
 |nil:PEs X [] []
 |cons {e es f fs}:PE X e^tV X.K f->PEs X es fs->PEs X (e::es) (f::fs)
@[simp] def G9(a b c:EV)(L:Lc)(S:aK):tyV:=bw (a L S) λd h=>bw (b L h) λy x=>bw (c L x) λz e=>match d with
 | .E s N=>match dh y with
  |some k=>Y ((cC k s N).getD z,e)
  |none=>Z
 |_=>Z
theorem vj:∀{k:6 (cD×V)}{d:6 P},cF K F H d^k.map (·.2)->cC u (k.map (·.1)) d=Z->ja k u=Z
 | [],d,r,h=>rfl
 |(a,v)::k,[],r,h=>by have:=-r;simp at this
 |(a,v)::k,f::d,r,h=>by
  let(x,c,e,p,s):=r;rw[aI]at e;injection e with b n;rwa[aI,cC]at h;by_cases hk:a=u
  .rw [af hk]at h;ext h
  .rw [ag hk]at h;rw[<- n]at s;rw[i' (p:=(a,v)) hk];calc vj s h
theorem NO{o a b:14}{T C I:EV}{B D:Pos}(hu:X.A.units+1 < cLine)(ho:PE X o^tV X.K T)(ha:PE X a^tV X.K C)(hb:PE X b^tV X.K I)(m:M2 X o "get" B a b D):PE X (.Call (.Attribute o "get" B) [a,b] [] D) (tV X.K^G9 T C I):=
 (H0 hu ho ha hb m).imp' λJ H Q hz=>by
  let(F,m,L,S,d,S',r,l,q,k):=hz;let(x,P,Z1,q):=al q;let(y,A,Z0,q):=al q;let(z,R,e3,q):=al q;calc#[F,m,L,S,x,P,r,l,Z1,λv M m1 H1 j r1 p1=>?_];cases x with
  |E ks V=>
   let(a,s,0,g,hk,ek,ra):=id p1;calc#[a,0,.inl #[s,.inl hk],?_];calc#[M,m1,L,P,y,A,r1,l.mono j,Z0,λvy N m2 H2 f r2 p2=>?_];calc#[N,m2,L,A,z,R,r2,(l.mono j).mono f,e3,λvz K m3 t c E p3=>?_];have h:t a=Y^.dK s:=(f.trans c).frk _ _ g hk;let e:=cF.mono c^cF.mono f ra;let py:=RP.mono c p2;dsimp only at q;split at q
   .rename_i i p;ext q;let u:=jT p py;subst u ek;let G:=j.trans^f.trans c;cases n:cC i (s.map (·.1)) V with
    |none=>have hm:=vj e n;calc#[Z,by rw[<- hm];calc lV.k h,?_];rw[n]at k;calc k vz K m3 t G E p3
    |some w=>let(v,h1,h2):=p7 e n;calc#[Y v,by rw[<- h1];calc lV.k h,?_];rw[n]at k;exact k v K m3 t G E h2
   .ext q
  |_=>ext q
end
end Ev
namespace Ev
open PySem PySem.Spec PyProof.Rows L2
def zu(f:9->β->Sem^ForInStep β)(I:9->β->12->5)(Q:β->12->5)(k:9)
  (turn:∀i b s,i < k->I i b s->wpAny M A (f i b) (λr s'=>match r with | .yield b'=>I (i+1) b' s' | .done b'=>Q b' s') E s)
  (fin:∀b s,I k b s->Q b s) (b:β) (h:I 0 b s):wpAny M A (forIn [0:k] b f) Q E s:=by
 rw[Std.Legacy.Range.forIn_eq_forIn_range'];refine Dr f (λrest b s=>∃i,rest=CD i (k-i)/\i≤k/\I i b s) Q (λx rest b s #[i,e,hi,hI]=>?_) (λb s #[i,e,hi,hI]=>?_) _ b #[(0),by simp[Std.Legacy.Range.size],cS _,h]
 .obtain⟨m,hm⟩:∃m,k-i=m+1:=by
   cases q:k-i with
   |zero=>rw[q]at e;simp at e
   |succ m=>exact#[m,0]
  rw[hm,wT]at e;injection e with e1 e2;subst e1;calc c_ (turn x b s () hI) (λr s' hr=>?_) λy y z=>z;cases r with
  |done b'=>calc hr
  |yield b'=>exact#[x+1,by rw[e2];congr 1;lia,(),hr]
 .have:k-i=0:=by
   cases q:k-i with
   |zero=>rfl
   |succ m=>rw[q,wT]at e;ext e
  have:i=k:=by lia
  subst this;calc fin b s hI
section
open PySem.SeqAt PySem.MeetsSeq
open PySem.AutoSeq1 (wpAny_loadPart')
theorem Fg(l:13)(items:Array 11)(n:9)(dd:7 13)(sl:Array^OV)(x:11)(e:11->15)(j:9)(hj:j < items.size)
  (hit:e items[j]=W) (hno:∀m (hm:m < items.size),m < j->e items[m]=Xk) :
  Meets (Builtin.«tuple.index» #[[.ref l,x],[]])
   (λA R s=>s.heap.get? l=Y { cls:=.type "tuple",dict:=dd,data:=.seq items n,slots:=sl }/\(∀y,y ∈ items->EqAt A.in1 s y x^e y)/\R (.ok^.ret^.int j s.toks) { s with toks:=s.toks+1 }):=
 .of_wp λprog w A R s h=>by
  let(hp,g,d,tk,os):=s;let(hl,he,h):=h
  wp_walk using nQ hl,zu _ (λi b s'=>i≤j/\b.1=Z/\s'=#[hp,g,d,tk,os]) _
  case turn=>
   rintro i b s' hi ⟨hij,hb,rfl⟩;have hi':i < items.size:=by lia
   rw[sJ hi'];calc ai^he _ (Array.getElem_mem hi') prog w _ _ ?_;by_cases hc:i=j
   .subst hc;rw[hit]
    wp_walk
    exact#[_,0,h]
   .rw [hno i hi' ()]
    wp_walk
    exact#[(),0,0]
  case fin=>rintro b s' ⟨hij,_,_⟩;exact absurd hij ()
  case h=>calc#[cS _,0,0]
end
def n7(ps:6 P)(y:P):7 9:=if (ps.all^cX 19 && cX 19 y)=W then (gM ps).findIdx? λz=>bH z^pd y else Z
@[simp] def AC(fa fb:EV)(L:Lc)(S:aK):tyV:=bw (fa L S) λv x=>match v with
 | .l ps=>bw (fb L x) λy h=>(n7 ps y).map λ(i:9)=>(.int (i:8),h)
 | .u ps=>bw (fb L x) λy h=>(n7 ps y).map λ(i:9)=>(.int (i:8),h)
 |_=>Z
section
variable{X:Cx}{x4:PN}{J:L2.St}{H:Hp}{s:12}{F:Aa}{ps:6 P}{y:P}{vy:V}{u:11}{i:9}{Q:VK}{a:13}
theorem xE:∀qs:6 P,-(gM qs)=-qs
 | []=>rfl
 |q::qs=>by simp[gM,xE qs]
def IV(j:X.A.units+64 < cLine)(I:Inv X x4 J H s)(d:RP X.K F H y vy)(g:RelV vy u)(e:n7 ps y=Y i){v:Array 11}{f:6 13}(k:ReadsAll s.heap v.toList (gM ps) f) :
  ∃t:i < v.size,bH (lu s.heap v[i])^pd y=W/\(∀m (x:m < v.size),m < i->bH (lu s.heap v[m])^pd y=Xk)/\v.size=-ps /\
   ∀z,z ∈ v->SeqAt.EqAt X.A.in1 s z u (bH (lu s.heap z)^pd y):=by
 unfold n7 at e;split at e;case isFalse=>ext e
 rename_i c;rw[av]at c;let(bs,w):=g0 I 19 d g c.2;let l:=D9 c.1;let q:=fA 19 _ c.2;let(t,b,r):=C6.mp e;let n:=Ct _ _ _ l.1 k;have h:v.size=-(gM ps):=by rw[<- n];simp
 have a:∀(m:9)(x:m < v.size),lu s.heap v[m]=(gM ps)[m]'(h ▸ x):=λm x=>by
  have:(v.toList.map^lu s.heap)[m]? = (gM ps)[m]?:=by rw[n]
  rw[cm,Array.getElem?_toList,sJ x,bt<|h ▸ x]at this;exists this
 refine#[(),?_,λm x p=>?_,by rw[h,xE],Cs k w l.1 q.1 ()]
 .rw [a];exact b
 .rw [a];exists r m p
def IU(e:n7 ps y=Y i):ps.all^cX 19=W:=by
 unfold n7 at e;split at e
 .rename_i h;rw[av]at h;exact h.1
 .ext e
def Bq(P:X.A.units+64 < cLine)(I:Inv X x4 J H s)(p:RP X.K F H (.l ps)^.ref a)(D:RP X.K F H y vy)(G:RelV vy u)(e:n7 ps y=Y i)(q:Q (.int i) H) :
  wx X (call (.builtin "list.index") [.ref a,u]) (EP X x4 J Q) X.xe s:=by
 let S:=IU e;let(R,b):=g0 I 20 p (RelV (.ref a)^.ref a|>rfl) (by simpa[cX] using S);rw[pd]at b;cases b with
 | @list l o M n _ c x k f w=>
  let(j,t,v,Z1,d):=IV P I D G e w;let(oc,B,C,h):=o;dsimp only at k f;subst k f;have V:-ps≤sizeLine:=by let(N,xs,m,K,E):=p;ext m;let(z,A,Z0,r,T,_):=I.lstM K.2;let L:=-E;lia
  have g:sizeLine < 2 ^ 63:=by decide
  calc ji B3 #[_,x,0] PySem.F.entry_list_index (PySem.F.args_list_index_2 _ _) (SeqAt.list_indexAt a M n B h u _ i j () t v) #[x,d,#[.int i,H,I.tok _,#[_,0],q]]
def zP(hu:X.A.units+64 < cLine)(I:Inv X x4 J H s)(px:RP X.K F H (.u ps)^.ref a)(py:RP X.K F H y vy)(ru:RelV vy u)(e:n7 ps y=Y i)(q:Q (.int i) H) :
  wx X (call (.builtin "tuple.index") [.ref a,u]) (EP X x4 J Q) X.xe s:=by
 let ho:=IU e;let(as,ra):=g0 I 20 px (RelV (.ref a)^.ref a|>rfl) (by simpa[cX] using ho);rw[pd]at ra;cases ra with
 | @tuple l o vs n _ as' h1 h2 h3 h4=>let(hi,e1,e2,hz,eq):=IV hu I py ru e h4;let(oc,od,odt,osl):=o;dsimp only at h2 h3;subst h2 h3;calc ji B6 #[_,h1,0] PySem.F.entry_tuple_index (PySem.F.args_tuple_index_2 _ _) (Fg a vs n od osl u _ i hi e1 e2) #[h1,eq,#[.int i,H,I.tok _,#[_,0],q]]
def NR(hu:X.A.units+64 < cLine)(ho:PE X o^tV X.K fo)(he:PE X e^tV X.K fe)(hs:starEach [e] X.e=[(Xk,eval e X.e)])
  (g:attributeBase o "index" X.e^eval o X.e=eval o X.e) (j:(M.endLine == c.line)=W):PE X (.Call (.Attribute o "index" M) [e] [] c) (tV X.K^AC fo fe):=by
 intro x4 s J H Q I #[F,m,L,S,d,S',r,l,q,k];let(x,Z1,e1,q):=al q;calc Ap g (by rw[hs];rfl) j rfl (cQ (ho x4 s J H (λv t=>X0 λf K=>Stp F m H f K t/\Rel X.K f t K Z1/\RP X.K f t x v) I #[F,m,L,S,x,Z1,r,l,e1,λv f K t Z0 r1 B=>#[f,K,Z0,r1,B]]) λu Z0 hz=>?_);let(v,t,I1,ru,f,K,R,r1,B):=hz;have w:∀(id:String)(ps:6 P),bw (fe L Z1) (λy S2=>(n7 ps y).map λ(i:9)=>((.int (i:8):P),S2))=Y (d,S') ->
   (∀(s:12)(h:Hp)(n:Aa)(y:P)(vy:V)(C:11)(i:9),Inv X x4 J h s->(∀p,RP X.K f t p v->RP X.K n h p v)->RP X.K n h y vy->RelV vy C->n7 ps y=Y i->Q (.int i) h->wx X (call (.builtin id) [u,C]) (EP X x4 J Q) X.xe s) ->
   wx X (callWith c (.builtin id) [u] (backTo c^starEach [e] X.e) []) (EP X x4 J Q) X.xe Z0:=by
  intro id ps q hc;let(y,S2,e2,q):=al q;let(i,E,q):=d6.mp q;ext q;rw[hs];calc lr rfl^lq^cR (cQ (he x4 Z0 J t (λvy h=>X0 λn A=>Stp f K t n A h/\Rel X.K n h A S'/\RP X.K n h y vy) I1 #[f,K,L,Z1,y,S',r1,l.mono R,e2,λv n A h s2 r2 p2=>#[n,A,s2,r2,p2]]) λC s2 #[vy,h,D,ruy,n,A,T,r2,p2]=>fm ?_);exact hc s2 h n y vy C i D (λp N=>RP.mono T N) p2 ruy E^k _ n A h (R.trans T) r2 rfl
 cases x with
 |l ps=>let(a,xs,0,hq,rp):=id B;cases (u=Value.ref a|>ru);let(z,its,n',rr,hl,G):=I1.lstM hq.2;calc#["list","list.index",rY,B3,PySem.F.type_list_index,#[_,G,0],λb eb=>by ext eb;calc#[_,G,0],w _ ps q λs h n y vy C i D N py ry E q=>Bq hu D (N _ B) py ry E q]
 |u ps=>let(a,xs,0,hq,rp):=id B;cases (u=Value.ref a|>ru);let(its,rr,o,G,(ec,n',ed),en):=I1.tupleN hq.sq;calc#["tuple","tuple.index",PySem.F.plainAttrs_tuple,B6,PySem.F.type_tuple_index,#[_,G,ec],λb eb=>by ext eb;calc#[_,G,en],w _ ps q λs h n y vy C i D N py ry E q=>zP hu D (N _ B) py ry E q]
 |_=>ext q
end
variable{α:Type}
def c9[DecidableEq α](k:α):6 α->6 D->7 D
 |h::s,v::x=>if h=k then Y v else c9 k s x
 |_,_=>Z
def d5[DecidableEq α](k:α)(v:D):6 α->6 D->6 α×6 D
 |h::s,w::x=>if h=k then (h::s,v::x) else (h::(d5 k v s x).1,w::(d5 k v s x).2)
 |_,_=>([k],[v])
def d8:6 P->7^6 cD
 | []=>Y []
 |p::r=>(dh p).bind λk=>(d8 r).map λs=>k::s
def nV(d:D)(S:aK):7 (9×6^6 cD×6 D):=match d with
 | .ref i=>match S[i]? with
  |some (.q k v)=>Y (i,k,v)
  |_=>Z
 |_=>Z
def sN(h:nV d S=Y (i,n,c)):d=.ref i/\S[i]? = Y^.q n c:=by
 unfold nV at h;split at h
 .split at h
  .rename_i e;ext h;exact#[0,e]
  .ext h
 .ext h
section
variable{K:FG}{F:Aa}{H:Hp}{m:6 13}
theorem kK:∀{ps:6 P}{s:6 cD}{xs:6 V},d8 ps=Y s->cF K F H ps xs->xs=s.map kV
 | [],s,xs,h,r=>by ext h;calc r
 |p::ps,s,xs,h,r=>by
  let(x,c,0,f,b):=r;unfold d8 at h;cases e:dh p with
  |none=>rw[e]at h;ext h
  |some k=>
   rw[e]at h;cases a:d8 ps with
   |none=>rw[a]at h;ext h
   |some n=>rw[a]at h;ext h;rw[aI,jT e f,kK a b]
theorem lB[DecidableEq α]:∀{C:6 (α×V)}{s:6 D},c7 K F H m s^C.map (·.2) ->
  match c9 k (C.map (·.1)) s with|some d=>∃v,ja C k=Y v/\RD K F H m d v|none=>ja C k=Z
 | [],s,r=>by have:s=[]:=iX (-r);subst this;rfl
 |(h,v)::C,[],r=>by have:=-r;simp at this
 |(h,v)::C,d::s,r=>by
  let(x,b,e,p,a):=r;rw[aI]at e;injection e with n f;rw[<- f]at a;rwa[aI,c9];by_cases hk:h=k
  .rw [af hk];exact#[v,jM (p:=(h,v)) hk,by rw[v=x|>n];calc p]
  .rw [ag hk,i' (p:=(h,v)) hk];calc lB a
theorem qc[DecidableEq α](f:RD K F H m y u):∀{C:6 (α×V)}{s:6 D},(C.map (·.1)).Nodup->c7 K F H m s^C.map (·.2) ->
  (L2.putK C k u).map (·.1)=(d5 k y (C.map (·.1)) s).1/\c7 K F H m (d5 k y (C.map (·.1)) s).2^(L2.putK C k u).map (·.2)
 | [],s,_,r=>by have:s=[]:=iX (-r);subst this;calc#[0,u,[],0,f,0]
 |(h,w)::C,[],_,r=>by have:=-r;simp at this
 |(h,w)::C,d::s,p,r=>by
  let(x,P,e,S,p2):=r;rw[aI]at e p;injection e with g i;subst g;subst i;let(b,t):=du.mp p;rwa[aI,d5];by_cases hk:h=k
  .subst hk;rw[af rfl];have same:∀l:6 (α×V),h ∉ l.map (·.1)->l.map (λv=>if v.1=h then (v.1,u) else v)=l:=by
    intro l;induction l with
    |nil=>intro _;rfl
    |cons q l o=>
     intro n;rw[aI]at n;have j:¬q.1=h:=λz=>n (by rw[<- z];calc aA)
     rw[aI,ag j,o λz=>n^aC _ z]
   have a:L2.putK ((h,w)::C) h u=(h,u)::C:=by unfold L2.putK;rw[af ∅,aI,af rfl,same C b]
   rw[a];exact#[0,u,_,0,f,p2]
  .rw [ag hk];let(G,N):=qc (k:=k) f t p2;have a:L2.putK ((h,w)::C) k u=(h,w)::L2.putK C k u:=by
    unfold L2.putK;rw[cV,bK (¬(h,w).1=k|>hk),ly];by_cases c:(C.any λv=>decide<|v.1=k)=W
    .rw [af c,af c,aI,ag (¬(h,w).1=k|>hk)]
    .rw [ag c,ag c];rfl
   rw[a,aI,aI,G];calc#[0,w,_,0,S,N]
end
section
variable{X:Cx}{pos p2:Pos}{o value:14}{es:Ab}{fo:EE}{fs:lf}{fv:EV}
@[simp] def Bk(_L:Lc)(S:aK):uK:=Y (.ref (-S),S++[.q [] []])
theorem NU:PE X (.Dict [] [] pos)^tE X.K Bk:=HX.imp' λJ H Q z=>by let(F,m,L,S,d,x,r,l,q,k):=z;ext q;intro p h;calc k (.ref p) F (m++[p]) _ (df h) (r.own h #[[],aO,0,0]) #[p,0,?_];rw[<- r.len,bZ^ar _];simp
@[simp] def zD(o:EE)(k:lf)(L:Lc)(S:aK):uK:=bw (o L S) λd x=>bw (k L x) λps h=>match nV d h,d8 ps with
 |some (_,s,v),Y B=>if few ps=W then (c9 B s v).map λz=>(z,h) else Z
 |_,_=>Z
def Md(b:X.A.units+1 < cLine):Gu X (λx y H Q=>X0 λa v=>x=.ref a/\lV H a y^Y v/\(∃C,H a=Y^.dT C)/\Q v H):=by intro value l x4 s J H x y v u Q I c m h f;let(a,w,0,g,(C,hk),q):=h;ext c;let(_,_,_,_,o,_,_,e,k,_):=I.h a _ hk;calc oG #[o,e,k.1] Ah.lookup (vN b I g m λp t n r=>#[w,H,n,r,q]) f
theorem UE {c1} (hu:X.A.units+1 < cLine) (ho:PE X o^tE X.K fo) (hk:PA X es^uM X.K fs) (hs:ni^.Tuple es c1 p2):PE X (.Subscript o (.Tuple es c1 p2) pos) (tE X.K^zD fo fs):=
 (D3 (Md hu) ho (xB hk) hs).imp' λJ H Q hz=>by
  let(F,m,L,S,d,S',r,l,q,k):=hz;let(x,y,R,q):=al q;let(ps,K,T,q):=al q;calc#[F,m,L,S,x,y,r,l,R,λv M m1 H1 E r1 p1=>?_];calc#[M,m1,L,y,ps,K,r1,l.mono E,T,λI i m2 N G D p2=>?_];cases s:nV x K with
  |none=>rw[s]at q;ext q
  |some t=>
   let(j,ks,vs):=t;rw[s]at q;cases h:d8 ps with
   |none=>rw[h]at q;ext q
   |some B=>
    rw[h]at q;dsimp only at q;split at q
    .rename_i Z0;let(z,V,q):=d6.mp q;ext q;let(0,n):=sN s;let(a,0,hm):=RD.mono G p1;let(C,f,p,rs):=D.obj j a _ hm n;subst p;let P:=lB (k:=B) rs;rw[V]at P;let(w,Z1,u):=P;calc#[by rw[<- (-p2)];calc n9 Z0,λb A=>?_];have c:a≠b:=λz=>by rw[z,A]at f;ext f
     have e:cc N b (.u I) a=Y^.dT C:=by rw[aE c];exact f
     let g:=cP (F:=i) (o:=.u I) A;rw[kK h p2]at e g ⊢;calc#[a,w,0,by rw[<- Z1];calc lV.t e aO,#[C,e],?_];exact k w i m2 _ (E.trans^G.trans g.stp) (D.grow g)^RD.mono g.stp u
    .ext q
@[simp] def vJ(o:EE)(k:lf)(L:Lc)(S:aK):uK:=bw (o L S) λd h=>match nV d h with
 |none=>Z
 |some _=>bw (k L h) λps x=>match nV d x,d8 ps with
  |some (_,s,v),Y B=>if few ps=W then Y ((c9 B s v).getD^.p .n,x) else Z
  |_,_=>Z
theorem Q' {c1} (hu:X.A.units+1 < cLine) (ho:PE X o^tE X.K fo) (hk:PA X es^uM X.K fs) (E:M1 X o "get" ap (.Tuple es c1 p2) cp) :
  PE X (.Call (.Attribute o "get" ap) [.Tuple es c1 p2] [] cp) (tE X.K^vJ fo fs):=
 (H_ hu ho (xB hk) E).imp' λJ H Q hz=>by
  let(F,m,L,S,d,S',r,l,q,k):=hz;let(x,c,e1,q):=al q;calc#[F,m,L,S,x,c,r,l,e1,λv F1 m1 H1 N r1 p1=>?_];cases e:nV x c with
  |none=>rw[e]at q;ext q
  |some t1=>
   let(j,ks1,vs1):=t1;rw[e]at q;dsimp only at q;let(ps,T,e2,q):=al q;let(0,i):=sN e;let(a,0,hm):=id p1;let(s,P,_,_):=r1.obj j a _ hm i;calc#[a,0,.inr #[s,.inl P],?_];calc#[F1,m1,L,c,ps,T,r1,l.mono N,e2,λus f Z0 H2 R I p2=>?_];cases u:nV (.ref j) T with
   |none=>rw[u]at q;ext q
   |some t=>
    let(j2,ks,vs):=t;rw[u]at q;cases p:d8 ps with
    |none=>rw[p]at q;ext q
    |some B=>
     rw[p]at q;dsimp only at q;split at q
     .rename_i hf;ext q;let(h,y):=sN u;ext h;let(a',e4,G):=RD.mono R p1;ext e4;let(C,K,D,rs):=I.obj j a _ G y;subst D;let n:=lB (k:=B) rs;calc#[by rw[<- (-p2)];calc n9 hf,λb Z1=>?_];have A:a≠b:=λz=>by rw[z,Z1]at K;ext K
      have h:cc H2 b (.u us) a=Y^.dT C:=by rw[aE A];exact K
      let g:=cP (F:=f) (o:=.u us) Z1;rw[kK p p2]at h g ⊢;calc#[ja C B,lV.t h aO,?_];cases V:c9 B (C.map (·.1)) vs with
      |none=>rw[V]at n k;rw[ja C B=Z|>n];calc k .n f Z0 _ (N.trans^R.trans g.stp) (I.grow g) rfl
      |some z=>rw[V]at n k;let(w,ev,M):=n;rw[ev];exact k w f Z0 _ (N.trans^R.trans g.stp) (I.grow g)^RD.mono g.stp M
     .ext q
@[simp] def Hv(o:EE)(k:lf)(v:EV)(L:Lc)(S:aK):DN:=bw (v L S) λy a=>bw (o L a) λd e=>bw (k L e) λps h=>match nV d h,d8 ps with
 |some (i,s,x),Y B=>if (s.Nodup/\few s=W/\few ps=W) then Y (.nx,L,h.set i^.q (d5 B (.p y) s x).1 (d5 B (.p y) s x).2) else Z
 |_,_=>Z
theorem QS {c1} (hu:X.A.units+1 < cLine) (ho:PE X o^tE X.K fo) (hk:PA X es^uM X.K fs) (hv:PE X value^tV X.K fv) (hs:swapsWith value (Y^.Subscript o (.Tuple es c1 p2) n) pos.line X.e=pure Xk) :
  PS X (.Assign [.Subscript o (.Tuple es c1 p2) n] value pos) (ma X.K^Hv fo fs fv):=(DZ hu ho (xB hk) hv hs).imp' λD J H hz=>by
 let(F,m,L,S,fl,L',S',r,l,q,k):=hz;let(y,P,e1,q):=al q;let(d,A,e2,q):=al q;let(ps,E,e3,q):=al q;calc#[F,m,L,S,y,P,r,l,e1,λv i N Z0 s r1 p1=>?_];calc#[i,N,L,P,d,A,r1,l.mono s,e2,λx Z1 m2 H2 h r2 p2=>?_];calc#[Z1,m2,L,A,ps,E,r2,(l.mono s).mono h,e3,λT K m3 H3 e r3 R=>?_];cases p:nV d E with
 |none=>rw[p]at q;ext q
 |some t=>
  let(j,ks,vs):=t;rw[p]at q;cases c:d8 ps with
  |none=>rw[c]at q;ext q
  |some B=>
   rw[c]at q;dsimp only at q;split at q
   .rename_i w;ext q;let(0,es):=sN p;calc#[by rw[<- (-R)];calc n9 w.2.2,λb hb=>?_];let G:=cP (F:=K) (o:=.u T) hb;let g:=r3.grow G;let f:=G.stp (m:=m3);let(a,0,u):=RD.mono f^RD.mono e p2;let(C,M,hk,rs):=g.obj j a _ u es;subst hk;let pv:=RD.mono f (RD.mono e^RD.mono h (RD X.K i Z0 N (.p y) v|>p1));let(h1,h2):=qc (k:=B) pv w.1 rs;have Q:∀V,cc H3 b (.u T) a≠Y^.u V:=λV z=>by rw[M]at z;ext z
    let st:=gf (o:=.dT^L2.putK C B v) g u es trivial Q;have hl:-C < sizeLine:=by have I:-(C.map (·.1))≤1000000:=aS w.2.1;rw[aU]at I;exact j8 I #[]
    refine#[a,_,0,zX.t (k:=B) M ?_ hl,?_]
    .rw [kK c R];exact aO
    .exact k J K m3 _ (s.trans^h.trans^e.trans^f.trans st) (g.set u es trivial Q #[_,aO,h1,c7.mono st h2])^(((l.mono s).mono h).mono e).mono^f.trans st
   .ext q
end
section
variable{X:Cx}{x4:PN}{J:L2.St}{H:Hp}{s:12}{a:13}{C:6 (cD×V)}{B:cD}{u r:11}{x:V}{A:Around}{E:VP}
def Jr(I:Inv X x4 J H s)(e:H a=Y^.dK C)(F:-C < sizeLine)(o:RelV (kV B) u)(y:RelV x r)
  (m:∀v w n,ja C B=Y v->RelV v w->Inv X x4 J H n->Q w n) (t:ja C B=Z->∀n,Inv X x4 J (cc H a^.dK^L2.putK C B x) n->Q r n) :
  wpAny (model X.p X.w) A (call (.builtin "dict.setdefault") [.ref a,u,r]) Q E s:=by
 let(z,hd,S,l,k):=Nn I.h e;let h:=l.val B;refine pV B7 k.typeIs PySem.F.entry_dict_setdefault (PySem.F.args_dict_setdefault_3 _ _ _) (kt_meets_setdefault (cL X.p X.w) a (qO o) hd r)
  #[S,k,by rw[<- (-l)];calc z,λv f=>?_,λc h' d i=>?_]
 .cases q:ja C B with
  |none=>rw[q,f]at h;ext h
  |some b=>rw[q,f]at h;exact m b v _ q h^I.tok _
 .have q:ja C B=Z:=by
   cases q:ja C B with
   |none=>rfl
   |some b=>rw[q,c]at h;ext h
  calc t q _ ?_;have p:∃q,h'.get? a=Y q:=let #[q,_,_,g,_]:=d;#[q,g]
  have j:-(L2.putK C B x)≤sizeLine:=by have:=my C B x;lia
  calc pF I (by rw[e];calc True.intro) i p^Jo j hd (l.put B y) d
end
section
variable{X:Cx}{o e f:14}{ap cp:Pos}{fo fd:EE}{fk:EV}
@[simp] def pE(o:EE)(k:EV)(d:EE)(L:Lc)(S:aK):uK:=bw (o L S) λx a=>match nW x a with
 |none=>Z
 |some _=>bw (k L a) λz e=>bw (d L e) λy h=>match nW x h,dh z with
  |some (i,s,v),Y B=>if (s.Nodup/\few s=W) then match c9 B s v with
    |some w=>Y (w,h)
    |none=>Y (y,h.set i^.E (d5 B y s v).1 (d5 B y s v).2)
   else Z
  |_,_=>Z
def KG(ho:PE X o^tE X.K fo)(he:PE X e^tV X.K fk)(hf:PE X f^tE X.K fd)(n:M2 X o "setdefault" ap e f cp):PE X (.Call (.Attribute o "setdefault" ap) [e,f] [] cp) (tE X.K^pE fo fk fd):=by
 intro x4 s J H Q I #[F,m,L,S,d,S',r,l,q,k];let(x,S1,e1,q):=al q;refine wb n.base n.few n.line rX B7 PySem.F.type_dict_setdefault
  (cQ (ho x4 s J H (λv K=>X0 λb i=>Stp F m H b i K/\Rel X.K b K i S1/\RD X.K b K i x v) I #[F,m,L,S,x,S1,r,l,e1,λv b i K s1 r1 p1=>#[b,i,s1,r1,p1]]) λu s1 #[v,K,I1,ru,b,i,M,r1,p1]=>?_)
 cases A:nW x S1 with
 |none=>rw[A]at q;ext q
 |some t1=>
  let(j,ks1,vs1):=t1;rw [A] at q;dsimp only at q;let(z,S2,e2,q):=al q;let(y,S3,e3,q):=al q;let(0,es1):=xF A;let(a,0,hm):=id p1;let(Z0,hH1,_,_):=r1.obj j a _ hm es1;cases (u=Value.ref a|>ru);let(t1,t2,_):=A9 I1^.inl #[Z0,.inl hH1];calc#[t1,t2,?_];rw [n.trees];refine lr rfl^lq^cR (cQ (he x4 s1 J K (fun vz P=>X0 fun c G=>Stp b i K c G P/\Rel X.K c P G S2/\RP X.K c P z vz) I1 #[b,i,L,S1,z,S2,r1,l.mono M,e2,fun v c G P s2 r2 p2=>#[c,G,s2,r2,p2]]) fun uz s2 #[vz,P,I2,rz,c,G,N,r2,p2]=>
   cR (cQ (hf x4 s2 J P (λvy g=>X0 λp m3=>Stp c G P p m3 g/\Rel X.K p g m3 S3/\RD X.K p g m3 y vy) I2 #[c,G,L,S2,y,S3,r2,(l.mono M).mono N,e3,λv p m3 g s3 T p3=>#[p,m3,s3,T,p3]]) λuy s3 #[vy,g,I3,ry,p,m3,vk,T,p3]=>fm ?_))
  cases eo:nW (.ref j) S3 with
  |none=>rw[eo]at q;ext q
  |some t=>
   let(j2,ks,vs):=t;rw[eo]at q;cases ek:dh z with
   |none=>rw[ek]at q;ext q
   |some B=>
    rw[ek]at q;dsimp only at q;split at q
    .rename_i hc;let(e4,D):=xF eo;ext e4;let(a',e5,E):=RD.mono (N.trans vk) p1;ext e5;let(C,hH,hk,rs):=T.obj j a _ E D;subst hk;let R:=lB (k:=B) rs;let pz:=RP.mono vk p2;let ez:=jT ek pz;subst ez;have hl:-C < sizeLine:=by
      have h9:-(C.map (·.1))≤1000000:=aS hc.2;rw[aU]at h9;exact j8 h9 #[]
     let stA:=M.trans^N.trans vk;refine Jr I3 hH hl rz ry (λv w s' Z1 rv I'=>?_) λZ1 s' I'=>?_
     .cases V:c9 B (C.map (·.1)) vs with
      |none=>rw[V]at R;rw[ja C B=Z|>R]at Z1;ext Z1
      |some w'=>rw[V]at R q;dsimp only at q;ext q;let(v',h,rd):=R;rw[Z1]at h;ext h;exact#[v,g,I',rv,k v p m3 g stA T rd]
     .cases V:c9 B (C.map (·.1)) vs with
      |some w'=>rw[V]at R;let(v',h,_):=R;rw[Z1]at h;ext h
      |none=>
       rw[V]at q;dsimp only at q;ext q;let(h1,h2):=qc (k:=B) p3 hc.1 rs;have nt:∀zs,g a≠Y^.u zs:=λzs z=>by rw[hH]at z;ext z
       let st:=gf (o:=.dK^L2.putK C B vy) T E D trivial nt;exact#[vy,_,I',ry,k vy p m3 _ (stA.trans st) (T.set E D trivial nt #[_,aO,h1,c7.mono st h2])^RD.mono st p3]
    .ext q
end
end Ev
set_option tactic.hygienic false
namespace PySem
open PySem PyProof.Rows
section
variable{prog:18}{w:16}{A:Around}{E:VP}{s:12}
def yF(h:s.heap.IsTupleIter g n i)(t:s.heap.IsTuple n c)(k:c[i]? = Y x)
  (e:∀h',h'.IsTupleIter g n (i+1)->fq g s.heap h'->Q x { s with heap:=h' }):wpAny (model prog w) A (iM^.ref g) Q E s:=by
 let T:=h.typeIs;let((r,p,f,b),o,a,hd):=id h;let(q,l,_,m,d):=t;dsimp only at a hd;subst a hd;unfold iM;apply ai;apply s_ (name:=Str.ofString "__next__") T rZ;calc pX rZ T BY ?_^BZ _;repeat first|with_reducible refine ai^iq o rfl (x:=.ref n) rfl ?_|wp_step
 rw[d];apply aG;rwa[rT,k];apply ai;apply Dm o rfl ∅;calc aG #[x,0,aG^e _ #[_,wA _ o rfl,0,?_]^oB ..];simp[BE,rawInt]
def xk(b:A.handled=Z)(h:s.heap.IsTupleIter g n i)(t:s.heap.IsTuple n c)(r:c[i]? = Z)
  (f:∀h' e,r_ g s.heap h'->(∃o,h'.get? e=Y o/\o.cls=.type "StopIteration")->E (.ref e) { s with heap:=h' }):wpAny (model prog w) A (iM^.ref g) Q E s:=by
 let T:=h.typeIs;let((u,j,p,q),m,a,hd):=id h;let(y,l,_,v,d):=t;dsimp only at a hd;subst a hd;unfold iM;apply ai;apply s_ (name:=Str.ofString "__next__") T rZ;calc pX rZ T BY ?_^BZ _;repeat first|with_reducible refine ai^iq m rfl (x:=.ref n) rfl ?_|wp_step
 rw[d];apply aG;rwa[rT,r];have k:A.in1.handled=Z:=b;repeat first|assumption|wp_step
 unfold raiseNew;apply ai;apply wpAny_handled;rw[k];apply wpAny_throw;calc f _ _ (((oB ..).extBut.push _).push _) #[_,bO _ rfl,0]
def u_(tp:15)(h:17)(i l:13)(k:9):5:=if tp=W then h.IsTupleIter i l k else h.IsListIter i l k
def z0(tp:15)(h:17)(l:13)(ys:Array 11):5:=if tp=W then h.IsTuple l ys else h.IsList l ys
def u_.extBut(x:u_ tp h a l i)(s:r_ b h h')(e:a≠b):u_ tp h' a l i:=by
 ext tp
 .exact Heap.IsListIter.extBut x s e
 .calc Heap.IsTupleIter.extBut x s e
def z0.extBut(x:z0 tp h a ys)(s:r_ b h h')(e:a≠b):z0 tp h' a ys:=by
 ext tp
 .exact Heap.IsList.extBut x s e
 .calc Heap.IsTuple.extBut x s e
def u_.obj(x:u_ tp h a l i):∃o,h.get? a=Y o/\(∃v,o.data=.fields v)/\∀h',h'.get? a=Y o->u_ tp h' a l i:=by
 ext tp
 .let(o,e,c,d):=x;exact#[o,e,#[_,d],λh' s=>#[o,s,c,d]]
 .let(o,e,c,d):=x;calc#[o,e,#[_,d],λh' s=>#[o,s,c,d]]
theorem u_.at(x:u_ tp h a l i)(k:∀o,h.get? a=Y o->h'.get? a=Y o):u_ tp h' a l i:=
 let #[o,e,_,r]:=x.obj;r _ (k o e)
def zi(h:u_ tp s.heap g n i)(t:z0 tp s.heap n c)(e:c[i]? = Y x)
  (a:∀h',u_ tp h' g n (i+1)->fq g s.heap h'->Q x { s with heap:=h' }):wpAny (model prog w) A (iM^.ref g) Q E s:=by
 ext tp
 .exact Aq h t e a
 .calc yF h t e a
def jf(h:17)(z TI TO:13)(f f1:11):5:=h.get? z=Y { cls:=.type "zip",data:=.fields^10 [f,f1,.bool Xk,.ref TI,.ref TO] }
def eM(h:17)(T:13)(a b:11):5:=h.get? T=Y { cls:=.type "tuple",data:=.seq^10 [a,b] }
theorem GV (L t:13) (xs ys:Array 11):Meets (Builtin.«zip.__new__» #[[.type "zip",.ref L,.ref t],[]]) (fun _ R s=>s.heap.IsList L xs/\s.heap.IsTuple t ys /\
  ∀h' G N TI TO z,(∀b o,s.heap.get? b=Y o->h'.get? b=Y o)-> ~~~s≤G->G < N->N < TI->TI < TO->TO < z->h'.IsListIter G L 0->h'.IsTupleIter N t 0->eM h' TI (.ref G)^.ref N->eM h' TO .none .none ->
   jf h' z TI TO .none (.bool Xk)->R (.ok^.ret^.ref z) { s with heap:=h' }):=
 .of_wp λprog w A R s h=>by
  let(i,g,d,X,os):=s;let(F,K,h):=h;let Z1:=sub_zip;have H:Heap.IsList (Shared.heap #[i,g,d,X,os]) L xs:=F;have S:Cm (Shared.heap #[i.push { cls:=.type "list_iterator",data:=.fields^10 [.ref L,.int 0 0] },g,d,X,os]) t ys:=K.push _
  wp_walk using Aj H,wc S
  have j:∀(u n x a f c:17)(r p q v m:Obj),n=u.push r->x=n.push p->a=x.push q->f=a.push v->c=f.push m->r.isFreed=Xk->p.isFreed=Xk->q.isFreed=Xk->v.isFreed=Xk->m.isFreed=Xk ->
    (∀b o,u.get? b=Y o->c.get? b=Y o)/\u.objs.size < n.objs.size/\n.objs.size < x.objs.size/\x.objs.size < a.objs.size/\a.objs.size < f.objs.size /\
    c.get? u.objs.size=Y r/\c.get? n.objs.size=Y p/\c.get? x.objs.size=Y q/\c.get? a.objs.size=Y v/\c.get? f.objs.size=Y m:=by
   intro u n x a f c r p q v m B C D E I f1 f2 f3 f4 f5;have M:n.get? u.objs.size=Y r:=by rw[B];exact bO _ f1
   have Q:x.get? n.objs.size=Y p:=by rw[C];exact bO _ f2
   have T:a.get? x.objs.size=Y q:=by rw[D];exact bO _ f3
   have V:f.get? a.objs.size=Y v:=by rw[E];exact bO _ f4
   have g5:c.get? f.objs.size=Y m:=by rw[I];exact bO _ f5
   have Z0:∀b o,n.get? b=Y o->x.get? b=Y o:=λb o e=>by rw[C];exact bb _ e
   have P:∀b o,x.get? b=Y o->a.get? b=Y o:=λb o e=>by rw[D];exact bb _ e
   have y:∀b o,a.get? b=Y o->f.get? b=Y o:=λb o e=>by rw[E];exact bb _ e
   have l:∀b o,f.get? b=Y o->c.get? b=Y o:=λb o e=>by rw[I];exact bb _ e
   exact#[λb o e=>l _ _^y _ _^P _ _^Z0 _ _ (by rw[B];calc bb _ e),aN M,aN Q,aN T,aN V,l _ _^y _ _^P _ _^Z0 _ _ M,l _ _^y _ _^P _ _ Q,l _ _^y _ _ T,l _ _ V,g5]
  let r:Obj:={ cls:=.type "list_iterator",data:=.fields^10 [.ref L,.int 0 0] }
  let n:_:=i.push r
  let p:Obj:={ cls:=.type "tuple_iterator",data:=.fields^10 [.ref t,.int 0 0] }
  let x:_:=n.push p
  let q:Obj:={ cls:=.type "tuple",data:=.seq^10 [.ref i.objs.size,.ref n.objs.size] }
  let a:_:=x.push q
  let v:Obj:={ cls:=.type "tuple",data:=.seq^10 [.none,.none] }
  let f:_:=a.push v
  let m:Obj:={ cls:=.type "zip",data:=.fields^10 [.none,.bool Xk,.bool Xk,.ref x.objs.size,.ref a.objs.size] }
  let(k,s1,s2,s3,s4,a1,a2,a3,a4,a5):=j i n x a f (f.push m) r p q v m rfl rfl rfl rfl rfl rfl rfl rfl rfl rfl;calc#[_,0,h (f.push m) i.objs.size n.objs.size x.objs.size a.objs.size f.objs.size k (ar _) s1 s2 s3 s4 #[_,a1,0,0] #[_,a2,0,0] a3 a4 a5]
end
structure ZO(d z TI TO i1 i2 l1 l2:13):5 where
 a:l1 < i1
 b:l2 < i1
 c:i1 < i2
 e:i2 < TI
 f:TI < TO
 g:TO < z
 h:z < d
section
variable{prog:18}{w:16}{A:Around}{E:VP}{s:12}{d z TI TO G N L t T:13}{f1:15}{k:9}{xs ys:Array 11}
theorem Gj(h:Q (s.heap.get? a) s):wpAny M A (loadIfAlive a) Q E s:=λx p z=>by unfold loadIfAlive;rw[Sem.wp_loadIfAlive];calc(Sem.wp_pure ..).mpr h
def Ba{o:Obj}{Q:15->12->5}(a:jf s.heap z TI TO (rawInt T)^.bool f1)(e:s.heap.get? T=Y o)
  (h:∀h',jf h' z TI TO (rawInt T)^.bool W->fq z s.heap h'->Q Xk { s with heap:=h' }):wpAny (model prog w) A (we^.ref z) Q E s:=by
 unfold we;calc ai^iq (s.heap.get? z=Y _|>a) rfl (x:=rawInt T) rfl ?_;unfold rawInt;dsimp only;calc ai^Gj ?_;rw[rT,e,ag ∅];calc ai^iq (s.heap.get? z=Y _|>a) rfl (x:=.bool f1) rfl ?_;cases f1 with
 |true=>rw[ag #[]];calc aG^h s.heap a #[0,λy y=>rfl]
 |false=>rw[af #[]];calc ai (Dm (s.heap.get? z=Y _|>a) rfl ∅^aG^h _ ?_^oB ..);unfold jf;rw[wA _ (s.heap.get? z=Y _|>a) rfl];simp[BE]
def GW{V:Obj}{Q:VP}(D:A.handled=Z)(o:ZO d z TI TO G N L t)(p:jf s.heap z TI TO (rawInt T)^.bool f1)(I:eM s.heap TI (.ref G)^.ref N)(B:s.heap.get? T=Y V)
  (S:s.heap.IsListIter G L k) (F:s.heap.IsTupleIter N t k) (l:s.heap.IsList L xs) (m:s.heap.IsTuple t ys) (r:xs.size≤ys.size)
  (P:∀x y,xs[k]? = Y x->ys[k]? = Y y->∀h':17,jf h' z TI TO (rawInt T)^.bool W->h'.IsListIter G L (k+1)->h'.IsTupleIter N t (k+1)->(∀c o,c ∉ [z,TO,G,N]->s.heap.get? c=Y o->h'.get? c=Y o) ->
   Q (.ref h'.objs.size) { s with heap:=h'.push { cls:=.type "tuple",data:=.seq^10 [x,y] } })
  (K:xs[k]? = Z->∀h' e,(∀c o,c ∉ [z,TO,G,N]->s.heap.get? c=Y o->h'.get? c=Y o)->(∃o,h'.get? e=Y o/\o.cls=.type "StopIteration")->E (.ref e) { s with heap:=h' }) :
  wpAny (model prog w) A (Builtin.«zip.__next__» #[[.ref z],[]]) (λi X=>∃v,i=.done^.ret v/\Q v X) E s:=by
 let(oa,Z1,oc,oe,of,og,_):=o;show wpAny _ _ (field (.ref z) 2 >>= _) _ _ _;calc ai^iq (s.heap.get? z=Y _|>p) rfl (x:=.bool Xk) rfl ?_;show wpAny _ _ (field (.ref z) 3 >>= _) _ _ _;calc ai^iq (s.heap.get? z=Y _|>p) rfl (x:=.ref TI) rfl ?_;calc ai^mf (s.heap.get? TI=Y _|>I) rfl ?_;calc ai (Ba p B λZ0 q b=>?_);rw[ag ∅];apply ai;rw[<- xa];show wpAny _ _ (forIn [Value.ref G,Value.ref N] _ _) _ _ _;rw[mS];calc ai (ai^ir ?_);show wpAny _ _ (iM^.ref G >>= _) _ _ _;apply ai;let g:=S.extBut b.extBut ();let u:=l.extBut b.extBut ();cases f:xs[k]? with
 |none=>calc An D g u f λh' e x o=>K f h' e (λc Z1 n H=>x _ _ (λz=>n (by simp[z]))^b.extBut _ _ (λz=>n (by simp[z])) H) o
 |some x=>
  obtain⟨y,j⟩:∃y,ys[k]? = Y y:=#[_,sJ^bU (sK.mp f).1 r];calc Aq g u f λha M h=>aG^aG ?_;dsimp only;rw[mS];calc ai (ai^ir ?_);show wpAny _ _ (iM^.ref N >>= _) _ _ _;calc ai (yF ((F.extBut b.extBut ()).extBut h.extBut ()) ((m.extBut b.extBut ()).extBut h.extBut ()) j λC R a=>aG^aG ?_);dsimp only;rw[CF];refine aG^ai^z_ (hsz:=by show 2≤sizeLine;decide)^aG #[_,0,P x y f j C ?_ (M.extBut a.extBut ()) R λc o n e=>?_]
  .exact a.extBut _ _ ()^h.extBut _ _ () q
  .calc a.extBut _ _ (λz=>n (by simp[z]))^h.extBut _ _ (λz=>n (by simp[z]))^b.extBut _ _ (λz=>n (by simp[z])) e
end
section
variable{prog:18}{w:16}{A:Around}{E:VP}{s:12}{d z TI TO G N L t:13}{k:9}{xs ys:Array 11}{p q:11}{tp:15}
def tz{Q:VP}(hh:A.handled=Z)(o:ZO d z TI TO G N L t)(g:jf s.heap z TI TO .none^.bool Xk)(T:eM s.heap TI (.ref G)^.ref N)(R:eM s.heap TO p q)
  (h1:s.heap.IsListIter G L k) (M:u_ tp s.heap N t k) (Z1:s.heap.IsList L xs) (X:z0 tp s.heap t ys) (Z0:xs.size≤ys.size)
  (hQ:∀x y,xs[k]? = Y x->ys[k]? = Y y->∀h':17,jf h' z TI TO (rawInt (~~~s))^.bool Xk->h'.IsListIter G L (k+1)->u_ tp h' N t (k+1)->eM h' TO x y->eM h' s.heap.objs.size x y->(∀c o,c ∉ [z,TO,G,N]->s.heap.get? c=Y o->h'.get? c=Y o) ->
   Q (.ref (~~~s)) { s with heap:=h' })
  (hE:xs[k]? = Z->∀h' e,(∀c o,c ∉ [z,TO,G,N]->s.heap.get? c=Y o->h'.get? c=Y o)->(∃o,h'.get? e=Y o/\o.cls=.type "StopIteration")->E (.ref e) { s with heap:=h' }) :
  wpAny (model prog w) A (Builtin.«zip.__next__» #[[.ref z],[]]) (λI s'=>∃v,I=.done^.ret v/\Q v s') E s:=by
 let(oa,ob,oc,oe,of,og,_):=o;show wpAny _ _ (field (.ref z) 2 >>= _) _ _ _;calc ai^iq (s.heap.get? z=Y _|>g) rfl (x:=.bool Xk) rfl ?_;show wpAny _ _ (field (.ref z) 3 >>= _) _ _ _;calc ai^iq (s.heap.get? z=Y _|>g) rfl (x:=.ref TI) rfl ?_;calc ai (mf (s.heap.get? TI=Y _|>T) rfl^ai ?_);unfold we;calc ai (iq (s.heap.get? z=Y _|>g) rfl (x:=.none) rfl^aG ?_);rw[af rfl];calc ai (vZ^ai^iq (s.heap.get? z=Y _|>g) rfl (x:=.ref TO) rfl ?_);calc ai (wd (s.heap.get? z=Y _|>g) ∅ λh0 l h=>ai ?_);show wpAny _ _ (forIn [(Value.ref G,0),(Value.ref N,1)] _ _) _ _ _;rw[mS];calc ai (ai^Dk ?_);show wpAny _ _ (iM^.ref G >>= _) _ _ _;apply ai;let g1:=h1.extBut h.extBut (G≠z|>by lia);let g3:=Z1.extBut h.extBut (L≠z|>by lia);cases j:xs[k]? with
 |none=>calc An hh g1 g3 j λh' e x g=>?_;let(ob,D,c):=g;let H:=x _ _ (z≠G|>by lia) l;calc wd (s:={ s with heap:=h' }) H ∅ λM hz2 b=>hE j M e (λc ob n ec=>b.extBut _ _ (λz=>n (by simp[z]))^x _ _ (λz=>n (by simp[z]))^h.extBut _ _ (λz=>n (by simp[z])) ec) #[ob,b.extBut _ _ (λq=>?_) D,c];rw[q,H]at D;ext D;calc absurd (Value.type "zip"=Value.type "StopIteration"|>c) #[]
 |some x=>
  obtain⟨y,hy⟩:∃y,ys[k]? = Y y:=#[_,sJ^bU (sK.mp j).1 Z0];calc Aq g1 g3 j λha ia f=>aG ?_;have B:ha.get? TO=Y { cls:=.type "tuple",data:=.seq^10 [p,q] }:=f.extBut _ _ ()^h.extBut _ _ () R;calc ai^mf B rfl^ai (DE (s:={ s with heap:=ha }) B λhb i b=>ai^wpAny_letGo^aG ?_);replace i:hb.get? TO=Y { cls:=.type "tuple",data:=.seq^10 [x,q] }:=i;dsimp only;rw[mS];calc ai (ai^Dk ?_);show wpAny _ _ (iM^.ref N >>= _) _ _ _;calc ai (zi (((M.extBut h.extBut ()).extBut f.extBut ()).extBut b.extBut ()) (((X.extBut h.extBut ()).extBut f.extBut ()).extBut b.extBut ()) hy λn ic m=>aG ?_);have C:n.get? TO=Y { cls:=.type "tuple",data:=.seq^10 [x,q] }:=m.extBut _ _ () i;calc ai^mf C rfl^ai (DE (s:={ s with heap:=n }) C λhd u r=>ai^wpAny_letGo^aG ?_);replace u:hd.get? TO=Y { cls:=.type "tuple",data:=.seq^10 [x,y] }:=u;dsimp only;rw[CF];calc aG^ai^mf u rfl^ai (z_ (hsz:=by show 2≤sizeLine;decide)^ai ?_);have S:hd.get? z=Y { cls:=.type "zip",data:=.fields^10 [.ellipsis,.bool Xk,.bool Xk,.ref TI,.ref TO] }:=r.extBut _ _ ()^m.extBut _ _ ()^b.extBut _ _ ()^f.extBut _ _ () l;let zlt:=aN S;have es:hd.objs.size= ~~~s:=by rw[r.1,m.1,b.1,f.1,h.1]
  unfold JW;calc ai (wd (bb { cls:=.type "tuple",data:=.seq^10 [x,y] } S) ∅ λhe hz6 K=>?_);refine wd hz6 ∅ λV F P=>?_
  have a:∀c o,c≠z->hd.get? c=Y o->V.get? c=Y o:=λc o c1 e=>P.extBut _ _ c1 (K.extBut _ _ c1^bb _ e);have hn:V.get? hd.objs.size=Y { cls:=.type "tuple",data:=.seq^10 [x,y] }:=P.extBut _ _ () (K.extBut _ _ ()^bO _ rfl);rw[es]at hn F;calc aG #[_,0,?_];show Q (.ref hd.objs.size) _;rw[es];exact hQ x y j hy V F ((((ia.extBut b.extBut ()).extBut m.extBut ()).extBut r.extBut ()).at λo e=>a _ o () e) ((ic.extBut r.extBut ()).at λo e=>a _ o () e) (a _ _ () u) hn
   λc o n e=>a c o (λz=>n (by simp[z]))^r.extBut _ _ (λz=>n (by simp[z]))^m.extBut _ _ (λz=>n (by simp[z]))^b.extBut _ _ (λz=>n (by simp[z]))^f.extBut _ _ (λz=>n (by simp[z]))^h.extBut _ _ (λz=>n (by simp[z])) e
end
def yw:typeLookup (.type "zip") "keys"=pure Z:=by rw[Ad,Am];kernel_rfl
def tw:typeLookup (.type "zip") "__getattr__"=pure Z:=by rw[Ad,Am];kernel_rfl
theorem p0:entryFor table "zip.__getattribute__"=Y Builtin.«object.__getattribute__»:=
 entryFor_alias (id':="object.__getattribute__") (by kernel_rfl) (by decide +kernel) (by decide +kernel) (by kernel_rfl)
section
variable{prog:18}{w:16}{A:Around}{E:VP}{s:12}
theorem GU(z TI TO:13)(f0 f1:11)(u:Tok):Meets (Builtin.«object.__getattribute__» #[[.ref z,.str "keys" u],[]]) (λA R s=>jf s.heap z TI TO f0 f1/\raisesAttr (.ref z) "keys" A R s):=
 .of_wp λprog w A R s hs=>by
  let(hp,g,d,tk,os):=s;let(hx,hs):=hs;unfold jf at hx;have hT:(#[hp,g,d,tk,os]:12).TypeIs (.ref z) "zip":=#[_,hx,0];let nk:=yw;unfold Builtin.«object.__getattribute__»;repeat any_goals first|assumption|wp_step
  calc wpAny_raiseAttrError hs.1 hs.2^attrMsg_fits (by decide +kernel) (by size_fits)
def E7(r:jf s.heap z TI TO j f1)(v:A.handled=Z)
  (h:∀h' q,(∀b o,s.heap.get? b=Y o->h'.get? b=Y o)->Q Z { s with heap:=h',toks:=q }):wpAny (model prog w) A (getAttr? (.ref z) "keys") Q E s:=by
 let(p,g,d,q,os):=s;have T:∀t,(#[p,g,d,t,os]:12).TypeIs (.ref z) "zip":=λX=>#[_,r,0];let f1:=Dy;let i:=wk.lookup;let l:=wk.bind^.ref z;let y:=tw;have step:∀(a:9)(u:Tok)(c:VP)(n:VP),(∀h' f e,Co p h' e (.ref z) "keys"->n (.ref e) #[h',g,d,f,os]) ->
   wpAny (model prog w) A (call (Value.builtin "zip.__getattribute__") ([Value.ref z]++[Value.str "keys" u]) []) c n #[p,g,d,a,os]:=λa u c n k=>
  ji wk (T _) p0 (F.args_zip_getattribute_2 _ _) (GU z TI TO _ _ u) #[r,v,k]
 unfold getAttr?;unfold getAttrBy?;unfold getAttrBy;repeat any_goals first|assumption|exact T _|(with_reducible calc step _ _ _ _ λh' t e x=>?_)|wp_step
 let m:=x.there;let(H,S,m):=m;repeat any_goals first|assumption|wp_step
 calc h _ _ x.keeps
end
section
variable{prog:18}{w:16}{A:Around}{E:VP}{s:12}{d z TI TO G N L t:13}{k:9}{xs ys:Array 11}{h h':17}
def AA(n:s.TypeIs (.ref z) "zip")
  (h:wpAny (model prog w) A.in1 (Builtin.«zip.__next__» #[[.ref z],[]]) (λf x=>∃v,f=.done^.ret v/\Q (Y v) x) (λe x=>X0 λa o=>e=.ref a/\x.heap.get? a=Y o/\o.cls=.type "StopIteration"/\Q Z x) s) :
  wpAny (model prog w) A (pyNext^.ref z) Q E s:=by
 unfold pyNext;calc ai^wpAny_attempt^s_ (name:=Str.ofString "__next__") n BL (pX BL n F.entry_zip_next (c_ h (λf x #[v,e,q]=>#[v,e,aG q]) λe x #[a,o,k,c,m,q]=>?_)^F.args_zip_next_1 _);subst k;calc ai^Ds (T:="StopIteration") (b:=W) #[_,c,m] isSubtype_stop^aG q
def QP(d:13)(h:17)(z TI TO G N L t:13)(k:9):5:=eM h TI (.ref G)^.ref N/\h.IsListIter G L k/\h.IsTupleIter N t k /\
 ((jf h z TI TO .none^.bool Xk/\eM h TO .none .none)\/X1 λ(T:13)(o:Obj)(f1:15)=>jf h z TI TO (rawInt T)^.bool f1/\h.get? T=Y o/\d < T)
def QP.but(x:QP d h z TI TO G N L t k)(o:ZO d z TI TO G N L t)(s:fq d h h'):QP d h' z TI TO G N L t k:=by let(p,q,v,w,u,g,i):=o;let(f,b,c,m):=x;calc#[s.extBut _ _ () f,b.extBut s.extBut (),c.extBut s.extBut (),m.imp (λ#[n,e]=>#[s.extBut _ _ () n,s.extBut _ _ () e]) λ#[T,r,f1,n,e,a]=>#[T,r,f1,s.extBut _ _ () n,s.extBut _ _ () e,a]]
def yy{Q:OV->12->5}{od:Obj}(M:A.handled=Z)(o:ZO d z TI TO G N L t)(a:QP d s.heap z TI TO G N L t k)(hd:s.heap.get? d=Y od)(l:s.heap.IsList L xs)(v:s.heap.IsTuple t ys)(g:xs.size≤ys.size)
  (D:∀x y,xs[k]? = Y x->ys[k]? = Y y->∀h' T,QP d h' z TI TO G N L t (k+1)->eM h' T x y->(∀c o,c ∉ [z,TO,G,N]->s.heap.get? c=Y o->h'.get? c=Y o)->Q (Y^.ref T) { s with heap:=h' })
  (C:xs[k]? = Z->∀h',(∀c o,c ∉ [z,TO,G,N]->s.heap.get? c=Y o->h'.get? c=Y o)->Q Z { s with heap:=h' }):wpAny (model prog w) A (pyNext^.ref z) Q E s:=by
 let H:=aN hd;let(i,K,P,B):=a;have Z0:s.TypeIs (.ref z) "zip":=by obtain⟨r,_⟩|⟨T,R,f1,r,_⟩:=B<;>exact#[_,r,0]
 have u:∀c,c=TI\/d≤c->c ∉ [z,TO,G,N]:=λc I m=>by let(oa,ob,oc,oe,of,og,oh):=o;rwa[a8,eO,eN]at m;lia
 calc AA Z0 ?_;obtain⟨r,j⟩|⟨T,R,f1,r,j,h⟩:=B
 .exact tz M o r i j K P l v g (tp:=W) (λx y n S h' q f b U V Z1=>D x y n S h' _ #[Z1 _ _ (u _^.inl rfl) i,f,b,.inr #[_,_,Xk,q,V,H]] V Z1) λn h' e q #[o,f,b]=>#[e,o,0,f,b,C n h' q]
 .calc GW M o r i j K P l v g (λx y n S h' q f b F=>?_) λn h' e q #[o,f,b]=>#[e,o,0,f,b,C n h' q];have p:∀c o,h'.get? c=Y o->(h'.push { cls:=.type "tuple",data:=.seq^10 [x,y] }).get? c=Y o:=λc o e=>bb _ e;calc D x y n S _ _ #[p _ _^F _ _ (u _^.inl rfl) i,f.at^p _,b.at^p _,.inr #[T,R,W,p _ _ q,p _ _^F _ _ (u _^.inr ()) j,h]] (bO _ rfl) λc o I X=>p _ _^F c o I X
end
section
variable{prog:18}{w:16}{K:Type}[DecidableEq K]{v:KeyKind prog w K}{A:Around}{E:VP}{R:Result->12->5}
inductive ZipsAt(knd:KeyKind prog w K):LV->LV->6 (K×11)->5
 |nil {vs:LV}:ZipsAt knd [] vs []
 |cons {key v:11}{k:K}{us vs:LV}{x5:6 (K×11)}:knd.is k key=W->ZipsAt knd us vs x5->ZipsAt knd (key::us) (v::vs) ((k,v)::x5)
set_option tactic.hygienic true in
def Bl(hh:A.handled=Z){f:17}(o:ZO d z TI TO G N L t)(fr:f.objs.size≤G)(I:f.IsList L xs)(M:f.IsTuple t ys)(Q:xs.size≤ys.size) :
  ∀(r:6 (K×11))(i:9)(n:6 (K×11))(s:12),(∀b o,f.get? b=Y o->s.heap.get? b=Y o)->QP d s.heap z TI TO G N L t i->s.heap.DictOf v d n->ZipsAt v (xs.toList.drop i) (ys.toList.drop i) r ->
   ((n++r).map (·.1)).Nodup->-(n++r)≤sizeLine ->
   (∀h' t',(∀b o,f.get? b=Y o->h'.get? b=Y o)->h'.DictOf v d (n++r)->R (.ok^.ret .none) { s with heap:=h',toks:=t' }) ->
   codeAny (model prog w) A (.builtin "dict.update.loop" #[[.ref d,.ref z,rawInt i,.none],[]]) R s:=by
 have g:∀c,c < f.objs.size\/c=d->c ∉ [z,TO,G,N]:=λc hc m=>by let(oa,ob,oc,oe,of,og,oh):=o;rwa[a8,eO,eN]at m;lia
 have ned:∀b o,f.get? b=Y o->b≠d:=λb u e=>by
  let(oa,ob,oc,oe,of,og,oh):=o;have:=aN e
  lia
 intro r;induction r with
 |nil=>
  intro i n s P H hd S V hz h;let(od,es,ep,p,l):=id hd;calc v_ F.entry_dict_update_loop ?_;rw[sH F.plain_dict_update_loop _];unfold Builtin.«dict.update.loop»;show wpAny _ A.in1 (pyNext^.ref z >>= _) _ _ s;refine ai (yy hh o H p (I.at^P _) (M.at^P _) Q (λx y hx W=>?_) λW h' C=>?_)
  .generalize X:xs.toList.drop i=us at S;generalize ys.toList.drop i=vs at S;ext S;have:=cA (·[0]?) X
   simp[hx]at this
  show wpAny _ A.in1 (Bz d [] >>= _) _ _ _;rw[dQ]at h;calc ai^aG^aG^h h' s.toks (λb o e=>C b o (g b^.inl^aN e)^P b o e) #[od,es,ep,C _ _ (g d^.inr rfl) p,l]
 |cons kv r ih=>
  intro i n s P H hd S V hz h;generalize X:xs.toList.drop i=us at S;generalize es:ys.toList.drop i=vs at S;cases S with
  |cons hk hps=>
   rename_i B a k us' vs';have hx:xs[i]? = Y B:=by have:=cA (·[0]?) X;exists this
   have hy:ys[i]? = Y a:=by have:=cA (·[0]?) es;exists this
   have er':xs.toList.drop (i+1)=us':=by rw[<- wO,X];rfl
   have es':ys.toList.drop (i+1)=vs':=by rw[<- wO,es];rfl
   let(od,ed1,ed2,p,l):=id hd;calc v_ F.entry_dict_update_loop ?_;rw[sH F.plain_dict_update_loop _];unfold Builtin.«dict.update.loop»;show wpAny _ A.in1 (pyNext^.ref z >>= _) _ _ s;calc ai (yy hh o H p (I.at^P _) (M.at^P _) Q (λx y q hy' Z0 T za j C=>?_) λq=>by rw[hx]at q;ext q);cases hx.symm.trans q;cases hy.symm.trans hy';have kp1:∀b o,f.get? b=Y o->Z0.get? b=Y o:=λb o e=>C b o (g b^.inl^aN e)^P b o e;have hd1:Z0.DictOf v d n:=#[od,ed1,ed2,C _ _ (g d^.inr rfl) p,l];show wpAny _ A.in1 (holding [Value.ref T] _ >>= _) _ _ _;calc ai (ir^ai^Dn ?_);unfold By;calc ai^nP (T:="tuple") #[_,j,0] ?_;rw[af #[]];calc ai (mf (Z0.get? T=Y _|>j) rfl^aG ?_);show wpAny _ A.in1 (holding [B,a]^dictSet d B a) _ _ _;calc ir ?_;calc wpAny_dictSet_pairs (s:={ s with heap:=Z0 }) hk hd1 (λh2 E Z1=>?_) (by simp at hz;lia);have hnk:k ∉ n.map (·.1):=by intro hm;rw[iQ,j_]at V;exact V.2.2 _ hm _ ∅ rfl
   have est:stored n k a=n++[(k,a)]:=by unfold stored;rw[ag];intro D;let(x,hx1,hx2):=j9.mp D;exact hnk^bg.mpr #[x,hx1,aS hx2]
   rw[est]at E;calc aG #[v0 F.plain_dict_update_loop _,?_];have e1:n++(k,a)::r=(n++[(k,a)])++r:=by simp
   rw[e1]at V hz h;calc ih (i+1) (n++[(k,a)]) { s with heap:=h2,toks:=s.toks+1 } (λb o e=>Z1.extBut _ _ (ned b o e)^kp1 b o e) (za.but ‹_› Z1) E (er' ▸ es' ▸ hps) V hz λh' t' k1 k2=>h h' t' k1 k2
end
section
variable{prog:18}{w:16}{K:Type}[DecidableEq K]{v:KeyKind prog w K}{A:Around}{E:VP}{s:12}
def qX(l:s.heap.IsList L xs)(x:s.heap.IsTuple t ys)
  (h:∀h' G N TI TO z,(∀b o,s.heap.get? b=Y o->h'.get? b=Y o)-> ~~~s≤G->G < N->N < TI->TI < TO->TO < z->h'.IsListIter G L 0->h'.IsTupleIter N t 0->eM h' TI (.ref G)^.ref N->eM h' TO .none .none ->
   jf h' z TI TO .none (.bool Xk)->Q (.ref z) { s with heap:=h' }):wpAny (model prog w) A (call (.type "zip") [.ref L,.ref t]) Q E s:=by
 calc callType_new F.called_zip #[] (F.typeCall_zip_2 _ _) (F.newCall_zip_2 _ _) (λj=>F.args_object_init_3 j _ _) F.entry_zip_new (GV L t xs ys) #[l,x,λh' G N TI TO z k e n f c m r p q v a=>?_];show _/\_;calc#[#[_,a,0],h h' G N TI TO z k e n f c m r p q v a]
def u7{a:17}(d:A.handled=Z)(Z0:∀b o,a.get? b=Y o->s.heap.get? b=Y o)(f:a.IsList L xs)(c:a.IsTuple t ys)
  (g:a.objs.size≤G) (i:G < N) (j:N < TI) (y:TI < TO) (H:TO < z) (S:s.heap.IsListIter G L 0) (K:s.heap.IsTupleIter N t 0) (P:eM s.heap TI (.ref G)^.ref N) (B:eM s.heap TO .none .none) (n:jf s.heap z TI TO .none^.bool Xk)
  (Z1:ZipsAt v xs.toList ys.toList C) (R:(C.map (·.1)).Nodup) (X:-C≤sizeLine) (p:xs.size≤ys.size)
  (h:∀h' q,(∀b o,a.get? b=Y o->h'.get? b=Y o)->h'.DictOf v s.heap.objs.size C->Q (.ref (~~~s)) { s with heap:=h',toks:=q }) :
  wpAny (model prog w) A (call (.type "dict") [.ref z]) Q E s:=by
 have fresh:(s.heap.push { cls:=.type "dict",data:=.dict^10 [] }).DictOf v (~~~s) []:=.new s.heap;have l:∀b o,s.heap.get? b=Y o->(s.heap.push { cls:=.type "dict",data:=.dict^10 [] }).get? b=Y o:=λb o=>bb _;let m:=Dp (prog:=prog) (w:=w) (A:=A.in1) (E:=E) (s:=s) (Value.ref z) (Q₁:=λx z=>x=.ref (~~~s)/\z={ s with heap:=s.heap.push { cls:=.type "dict",data:=.dict^10 [] } }) #[0,0];apply Dl BM (BQ^.ref z) BN m;rintro _ _ ⟨e,D⟩;subst e D;generalize s.heap.push { cls:=.type "dict",data:=.dict^10 [] }=h1 at fresh l;calc#[fresh.typeIs,BO (.ref (~~~s))^.ref z,?_];unfold Builtin.«dict.__init__» BA;calc ai (ai^DG fresh.typeIs^aG ?_);show wpAny _ _ (rQ "dict.__init__" s.heap.objs.size (.ref z) [] .none) _ _ _;unfold rQ;calc ai^nP (T:="zip") #[_,l _ _ n,0] ?_;rw[af #[]];calc ai (E7 (l _ _ n) d λM tk u=>?_);rw[af (by rfl)];calc ai^vZ ?_;have k:∀b o,s.heap.get? b=Y o->M.get? b=Y o:=λb o e=>u b o^l b o e;let(o,es,I,V,r):=fresh;calc ai (Ag (z:=z) (TI:=TI) (TO:=TO) (f0:=.none) (k _ _ n)^aG #[v0 F.plain_dict_update_loop _,?_]);have ll:L < a.objs.size/\t < a.objs.size:=#[let #[_,e,_]:=f;aN e,let #[_,e,_]:=c;aN e];calc Bl (A:=A.in1) (v:=v) (f:=a) d #[(),(),i,j,y,H,aN n] g f c p C 0 [] _ (λb o e=>k b o^Z0 b o e) #[k _ _ P,S.at^k _,K.at^k _,.inl #[k _ _ n,k _ _ B]] #[o,es,I,u _ _ V,r] (by exists Z1) (by exists R) (by exists X) λh' q q1 q2=>#[0,h h' q q1 q2]
end
end PySem
set_option tactic.hygienic true
namespace Ev
open PySem PySem.Spec PyProof.Rows L2
@[simp] def Bj(fa fb:EV)(L:Lc)(S:aK):uK:=bw (fa L S) λx a=>bw (fb L a) λy h=>match x,y with
 | .l k,.u v=>match d8 k with
  |some B=>if (B.Nodup/\few k=W/\-B≤-v) then Y (.ref (-h),h++[.E B^(v.take (-B)).map .p]) else Z
  |none=>Z
 |_,_=>Z
theorem DI:∀{B:6 cD}{s i:LV}{ys:6 V},bC (B.map kV) s->bC ys i->-B≤-ys->ZipsAt (cL g w) s i^B.zip i/\L2.KV (B.zip ys)^B.zip i
 | [],_,i,ys,h,_,_=>by ext h;calc#[.nil,.nil]
 |k::B,_,_,[],h,_,l=>absurd l ∅
 |k::B,_,_,y::ys,h,x,l=>by
  cases h with
  |cons r t=>
   cases x with
   |cons e n=>let(a,b):=DI (g:=g) (w:=w) t n (by exists l);calc#[.cons (qO r) a,.cons #[0,e] b]
theorem pZ:∀{xs:6 α}{ys:6 n},-xs≤-ys->(xs.zip ys).map (·.1)=xs/\(xs.zip ys).map (·.2)=ys.take (-xs)
 | [],ys,_=>by simp
 |x::xs,[],h=>absurd h ∅
 |x::xs,y::ys,h=>by let(a,b):=pZ (xs:=xs) (ys:=ys) (by exists h);simp[a,b]
section
variable{X:Cx}{a b:14}{fa fb:EV}{p p2 c1 c2:Pos}
def NT(hc:X.c=W)(gd:Gl X "dict")(md:X.g "dict"=Z)(gz:Gl X "zip")(mz:X.g "zip"=Z)(ha:PE X a^tV X.K fa)(hb:PE X b^tV X.K fb)(hs:starEach [a,b] X.e=[(Xk,eval a X.e),(Xk,eval b X.e)])(T:starEach [b] X.e=[(Xk,eval b X.e)])(hz:bootBuiltins "zip"=Y^.type "zip") :
  PE X (.Call (.Name "dict" p) [.Call (.Name "zip" p2) [a,b] [] c2] [] c1) (tE X.K^Bj fa fb):=by
 intro x4 s J H Q I #[F,m,L,S,d,S',r,l,q,k];let(x,S1,e1,q):=al q;let(y,S2,e2,q):=al q;have hh:X.A.handled=Z:=I.o.hd hc;calc jL^lF I gd md Ci ?_ #[] #[];calc lp (cR ?_) rfl rfl;calc jL^lF I gz mz hz ?_ #[] #[];calc lp ?_ (by rw [hs,T]) (by rw [T];rfl);rw [hs];refine cR (cQ (ha x4 s J H (fun h f=>X0 fun e K=>Stp F m H e K f/\Rel X.K e f K S1/\RP X.K e f x h) I #[F,m,L,S,x,S1,r,l,e1,fun h e K f s1 r1 p1=>#[e,K,s1,r1,p1]]) fun u s1 #[h,f,I1,ru,e,K,Z0,r1,p1]=>
  cR (cQ (hb x4 s1 J f (λh A=>X0 λn C=>Stp e K f n C A/\Rel X.K n A C S2/\RP X.K n A y h) I1 #[e,K,L,S1,y,S2,r1,l.mono Z0,e2,λh n C A D r2 p2=>#[n,C,D,r2,p2]]) λu2 D #[v2,A,E,ru2,n,C,st2,r2,p2]=>fm ?_))
 cases x with
 |l ks=>
  cases y with
  |u vs=>
   dsimp only at q;cases ek:d8 ks with
   |none=>rw[ek]at q;ext q
   |some B=>
    rw[ek]at q;dsimp only at q;split at q
    .rename_i c;ext q;let(ax,xs,0,hq,rp):=RP.mono st2 p1;let(ay,ys,0,ta,rq):=p2;cases (u=Value.ref ax|>ru);cases (u2=Value.ref ay|>ru2);let(z1,V,n1,rx,g,ex):=E.lstM hq.2;let(i,ry,Z1,hzy):=E.tuple ta.sq;let exs:=kK ek rp;subst exs;have j:-B≤-ys:=by rw[<- (-rq)];exact c.2.2
     let(za,zk):=DI (g:=X.p) (w:=X.w) rx ry j;have R:-B≤-i:=by rw[<- (-ry)];exact j
     let(zf1,zf2):=pZ (xs:=B) (ys:=ys) j;let(P,_):=pZ (xs:=B) (ys:=i) R;have hkl:-(B.zip i)=V.toArray.size:=by have:=cA oP P;rw[aU]at this;rw[this,bz,<- g,aU]
     have hkz:-(B.zip i)≤sizeLine:=by rw[hkl,bz,<- g];exact z1
     have M:D.heap.IsList ax V.toArray:=#[_,ex,0,n1,0];calc qX M Z1 λh' G N TI TO z k0 a1 a2 a3 a4 a5 b1 b2 b3 b4 b5=>fm ?_;calc u7 (v:=cL X.p X.w) (s:={ D with heap:=h' }) (a:=D.heap) hh k0 M Z1 a1 a2 a3 a4 a5 b1 b2 b3 b4 b5 (by exists za) (by rw[P];calc c.1) hkz (by rw[bz,bz,<- g,aU];calc R) λh'' t' k1 dd=>?_;have t: ~~~D≤h'.objs.size:=lw (j8 a1^oJ a2^oJ a3^oJ a4^oJ a5^aN b5);have hf:A h'.objs.size=Z:=E.h.fresh t;have hsm:(h'.objs.size == sysModules)=Xk:=by have:=E.big;rwa[jA];exact mR^bU this t
     have hkv:-(B.zip ys)≤sizeLine:=by let e1:=cA oP zf1;let e2:=cA oP P;rw[aU]at e1 e2;lia
     let I3:=E.laid (a:=h'.objs.size) (o:=.dK^B.zip ys) (t':=t') k1 t #[hkv,hsm,_,zk,dd];refine#[.ref h'.objs.size,_,I3,0,k (.ref h'.objs.size) n (C++[h'.objs.size]) _ (Z0.trans^st2.trans^df hf) (r2.own hf #[_,aO,zf1,?_]) #[h'.objs.size,0,?_]]
     .rw [zf2,wN];exact(c7.mono (df hf)^c7.ofP rq).take _
     .rw [<- r2.len,bZ^ar _];simp
    .ext q
  |_=>ext q
 |_=>ext y<;>ext q
end
end Ev
namespace Ev
open PySem PySem.Spec PyProof.Rows L2
def Vy:P->15
 | .u _=>W
 |_=>Xk
def bN(k:P):15:=Vy k && (cX 08 k && Nk.kd (pd k))
def jP(d:D)(S:aK):7 (9×6 P×6 D):=match d with
 | .ref i=>match S[i]? with
  |some (.C k v)=>Y (i,k,v)
  |_=>Z
 |_=>Z
def mZ(h:jP d S=Y (i,k,r)):d=.ref i/\S[i]? = Y^.C k r:=by
 unfold jP at h;split at h
 .split at h
  .ext h;exact#[0,by assumption]
  .ext h
 .ext h
def il(k:P)(s:6 P):15:=s.any λq=>bH (pd q)^pd k
def Qy(d c:D)(S:aK):7 15:=match d,jP c S with
 | .p k,Y (_,s,_)=>if (bN k && s.all bN)=W then Y^il k s else Z
 |_,_=>Z
def i3(d c:D)(S:aK):7 P:=(Qy d c S).map λb=>.d<|!b
section
variable{X:Cx}{x4:PN}{J:L2.St}{H:Hp}{s:12}{F:Aa}
def nZ(I:Inv X x4 J H s)(g:bN k=W)(r:RP X.K F H k y):kE s.heap (pd k) y:=by
 unfold bN at g;rwa[av]at g;let(t,o,h):=g;cases k with
 |u e=>let(b,z,0,x):=r;let(a,d):=g0 I 08 (p:=.u e) (v:=.ref b) (u:=.ref b) #[b,z,0,x] rfl o;calc#[b,0,h,(fA 08 _ o).2,a,d]
 |_=>ext t
theorem m9(I:Inv X x4 J H s):∀{x5:6 (PyData×V×V)}{h:6 P},h.all bN=W->x5.map (·.1)=gM h->cF X.K F H h^x5.map (·.2.1)->∀p ∈ x5,kE s.heap p.1 p.2.1
 | [],_,_,_,_,_,a=>nomatch a
 |q::x5,h,g,e,r,p,a=>by
  cases h with
  |nil=>ext r
  |cons k h=>
   rw[cU,av]at g;rw[aI,gM]at e;injection e with n f;let(x,v,b,c,m):=r;injection b with z t;subst z t;rcases a8.mp a with rfl|a
   .rw [n];exact nZ I g.1 c
   .calc m9 I g.2 f m p a
def eE(g:bN k=W):Nk.kd^pd k=W:=by unfold bN at g;rwa[av]at g;calc g.2.2
theorem xR(g:bN k=W):∀{x5:6 (PyData×V×V)}{ks:6 P},ks.all bN=W->x5.map (·.1)=gM ks->qq x5^pd k=il k ks
 | [],ks,_,e=>by
  cases ks with
  |nil=>rfl
  |cons _ _=>ext e
 |q::x5,ks,h,e=>by
  cases ks with
  |nil=>ext e
  |cons p ks=>rw[cU,av]at h;rw[aI,gM]at e;injection e with e1 e2;let ih:=xR g h.2 e2;unfold qq il at ih ⊢;rw[cV,cV,ih,e1];congr 1;rw[jB,Nk.eqv_kd _ _ (eE h.1)^eE g,oI]
def PK(h:Qy d c S=Y b):X2 λk i s v=>d=.p k/\jP c S=Y (i,s,v)/\bN k=W/\s.all bN=W/\b=il k s:=by
 unfold Qy at h;split at h
 .split at h
  .rename_i e x;rw[av]at x;ext h;exact#[_,_,_,_,0,e,x.1,x.2,0]
  .ext h
 .ext h
end
section
variable{X:Cx}
def Ij(C:X.A.units+64 < cLine):kr X (compareOp .NotIn)^rE X.K i3:=by
 intro x4 s J H x y v u Q I A B h;let(F,m,S,d,e,r,P,l,z,q,k):=h;unfold i3 at q;let(b,p,0):=d6.mp q;let(j,i,D,G,0,o,g,f,0):=PK p;let(0,N):=mZ o;let(a,0,w):=z;let(x5,t,n,K,_):=P.obj i a _ w N;ext B;refine LU () I t (m9 I f n K) (nZ I g l) A λE c=>#[.d _,H,c,0,?_]
 rw[xR g f n];calc k _ F H .refl rfl
end
section
variable{X:Cx}{B G:Pos}{o i n:14}{L:EE}{fk fv:EV}{td ty tv:TE}
def RE(X:Cx)(td ty tv:TE):TS:=λD J H=>tv J H λv e=>td J e λx n=>ty J n λy h=>X1 λa x5 d=>x=.ref a/\h a=Y^.dN x5/\(∀x4 s,Inv X x4 J h s->kE s.heap d y/\∀p ∈ x5,kE s.heap p.1 p.2.1)/\qq x5 d=Xk/\-x5 < sizeLine/\D.nx J (cc h a<|.dN<|x5++[(d,y,v)])
def Lp(F:X.A.units+09 < cLine)(z:PE X o td)(j:PE X i ty)(K:PE X n tv)(S:swapsWith n (Y^.Subscript o i G) B.line X.e=pure Xk):PS X (.Assign [.Subscript o i G] n B)^RE X td ty tv:=by intro x4 s J H D I h;calc Ao (cQ (K x4 s J H _ I h) λr R #[v,f,c,M,C]=>cQ (z x4 R J f _ c C) λu T #[x,b,m,N,E]=>cQ (j x4 T J b _ m E) λiv V P=>?_) S;let(y,Z1,k,Q,a,x5,d,p,e,g,A,l,L):=P;subst p;obtain rfl:u=Value.ref a:=N;let(q,w):=g x4 V k;calc Na F k e w q Q M A l λZ0 t=>#[J,_,t,L]
def tP(o:EE)(k v:EV):ES:=λL S=>bw (v L S) λy x=>bw (o L x) λd a=>bw (k L a) λe h=>match jP d h with
 |some (i,s,n)=>if (bN e && (s.all bN && (few s && !il e s)))=W then Y (.nx,L,h.set i<|.C (s++[e])<|n++[.p y]) else Z
 |none=>Z
theorem tY(k:P):∀s:6 P,gM (s++[k])=gM s++[pd k]
 | []=>rfl
 |x::s=>by rw[mU,gM,gM,tY k s,mU]
theorem QT(hu:X.A.units+09 < cLine)(ho:PE X o^tE X.K L)(hk:PE X i^tV X.K fk)(hv:PE X n^tV X.K fv)(hs:swapsWith n (Y^.Subscript o i G) B.line X.e=pure Xk) :
  PS X (.Assign [.Subscript o i G] n B) (ma X.K^tP L fk fv):=(Lp hu ho hk hv hs).imp' λD J H hz=>by
 let(F,m,h,S,fl,L',S',r,l,q,k):=hz;let(y,R,e1,q):=al q;let(d,T,e2,q):=al q;let(e,V,e3,q):=al q;calc#[F,m,h,S,y,R,r,l,e1,λv A m1 H1 f r1 M=>?_];calc#[A,m1,h,R,d,T,r1,l.mono f,e2,λx F2 m2 H2 b r2 C=>?_];calc#[F2,m2,h,T,e,V,r2,(l.mono f).mono b,e3,λg E m3 Q c K p3=>?_];cases w:jP d V with
 |none=>rw[w]at q;ext q
 |some t=>
  let(j,ks,vs):=t;rw[w]at q;dsimp only at q;split at q
  .rename_i hc;rwa[av,oW]at hc;let(Z1,Z0,g3,g4):=hc;ext q;let(0,N):=mZ w;let(a,0,u):=RD.mono c C;let(x5,hH,p,P,rs):=K.obj j a _ u N;have nt:∀zs,Q a≠Y^.u zs:=λzs z=>by rw[hH]at z;ext z
   let st:=gf (o:=.dN<|x5++[(pd e,g,v)]) K u N trivial nt;let pv:=RD.mono st (RD.mono c^RD.mono b (RD X.K A H1 m1 (.p y) v|>M));have pk:RP X.K E (cc Q a<|.dN<|x5++[(pd e,g,v)]) e g:=RP.kp st.kp p3;have hl:-x5 < sizeLine:=by have h9:-ks≤1000000:=aS g3;let h8:=-P;rw[aU]at h8;exact j8 () ((1000000:9) < sizeLine|>by decide)
   calc#[a,x5,pd e,0,hH,λx4 s I=>#[nZ I Z1 p3,m9 I Z0 p P],(xR Z1 Z0 p).trans g4,hl,?_];refine k J E m3 _ (f.trans^b.trans^c.trans st) (K.set u N trivial nt #[_,aO,?_,?_,?_])^(((l.mono f).mono b).mono c).mono st
   .rw [iQ,p,tY];rfl
   .rw [iQ];exact cF.append (cF.kp st.kp P) #[_,_,0,pk,0]
   .rw [iQ];exact c7.append (c7.mono st rs) #[_,_,0,pv,0]
  .ext q
end
def FO(x c:P):7 15:=match c with
 | .l s=>if (s.all^cX 19 && cX 19 x)=W then Y (s.any λy=>bH (pd y)^pd x) else Z
 | .u s=>if (s.all^cX 19 && cX 19 x)=W then Y (s.any λy=>bH (pd y)^pd x) else Z
 |_=>Z
def zY(d c:D)(S:aK):7 15:=(eX S 09 d).bind λx=>(eX S 09 c).bind λy=>FO x y
def gK(d c:D)(S:aK):7 P:=(io c S).elim ((zY d c S).map .d) λz=>PQ d c S
def iw(d c:D)(S:aK):7 P:=(zY d c S).map λb=>.d<|!b
section
variable{X:Cx}{x4:PN}{J:L2.St}{H:Hp}{s:12}{F:Aa}{m:6 13}{S:aK}{d e:D}{x y:V}{v u:11}{b:15}{Q:VK}
def IT(o:X.A.units+64 < cLine)(I:Inv X x4 J H s)(g:RelV x v)(i:RelV y u)(t:Rel X.K F H m S)(p:RD X.K F H m d x)(w:RD X.K F H m e y)(q:zY d e S=Y b) :
  (Q (.d b) H->wx X (compareOp .In v u) (EP X x4 J Q) X.xe s)/\(Q (.d<|!b) H->wx X (compareOp .NotIn v u) (EP X x4 J Q) X.xe s):=by
 unfold zY at q;cases f:eX S 09 d with
 |none=>rw[f]at q;ext q
 |some M=>
  rw[f]at q;cases c:eX S 09 e with
  |none=>rw[c]at q;ext q
  |some C=>
   rw[c]at q;rwa[oE]at q;cases C with
   |l z=>
    rwa[FO]at q;split at q
    .rename_i h;rw[av]at h;ext q;let(j,r):=eW I t 09 20 w i c (by simpa[cX] using h.1);let(bs,n):=eW I t 09 19 p g f h.2;let l:=D9 h.1;let a:=fA 19 _ h.2;rw[pd]at r;exact#[λk=>SeqAt.in_list_reads r n l.1 a.1 () #[.d _,H,I,0,by rw[pa];calc k],λk=>SeqAt.notIn_list_reads r n l.1 a.1 () #[.d _,H,I,0,by rw[pa];calc k]]
    .ext q
   |u z=>
    rwa[FO]at q;split at q
    .rename_i h;rw[av]at h;ext q;let(j,r):=eW I t 09 20 w i c (by simpa[cX] using h.1);let(bs,n):=eW I t 09 19 p g f h.2;let l:=D9 h.1;let a:=fA 19 _ h.2;rw[pd]at r;exact#[λk=>SeqAt.in_tuple_reads r n l.1 a.1 () #[.d _,H,I,0,by rw[pa];calc k],λk=>SeqAt.notIn_tuple_reads r n l.1 a.1 () #[.d _,H,I,0,by rw[pa];calc k]]
    .ext q
   |_=>ext q
end
section
variable{X:Cx}
def R5(n:X.A.units+64 < cLine):kr X (compareOp .In)^rE X.K gK:=by
 intro x4 s J H x y v u Q I c t h;let(F,m,S,d,e,r,l,p,f,q,k):=h;unfold gK at q;cases a:io e S with
 |some g=>rw[a]at q;calc R4 n x4 s J H x y v u Q I c t #[F,m,S,d,e,r,l,p,f,q,k]
 |none=>rw[a]at q;let(b,w,0):=d6.mp ((zY d e S).map P.d=Y r|>q);calc(IT n I c t l p f w).1^k _ F H .refl rfl
def Ik(n:X.A.units+64 < cLine):kr X (compareOp .NotIn)^rE X.K iw:=by intro x4 s J H x y v u Q I c t h;let(F,m,S,d,e,r,l,p,f,q,k):=h;unfold iw at q;let(b,a,0):=d6.mp q;calc(IT n I c t l p f a).2^k _ F H .refl rfl
end
section
variable{X:Cx}{B:Pos}{a b c:14}{qa:EB}{t T:EE}{va vb:EV}
@[simp] def T6(c:EB)(a b:EE)(L:Lc)(S:aK):uK:=bw (c L S) λt h=>if t=W then a L h else b L h
theorem UI(o:PT X c^tQ X.K qa)(y:PE X a^tE X.K t)(z:PE X b^tE X.K T):PE X (.IfExp c a b B) (tE X.K^T6 qa t T):=
 (yX o y z).imp' λJ H Q K=>by
  let(F,m,L,S,d,u,r,l,q,k):=K;let(c,e,j,q):=al q;calc#[F,m,L,S,c,e,r,l,j,λw g P s i=>?_];cases c with
  |true=>rw[af rfl]at q ⊢;calc#[w,g,L,e,d,u,i,l.mono s,q,λv h n x p f=>k v h n x (s.trans p) f]
  |false=>rw[ag bQ]at q ⊢;calc#[w,g,L,e,d,u,i,l.mono s,q,λv h n x p f=>k v h n x (s.trans p) f]
end
end Ev
namespace L2
open PySem PySem.Spec PyProof.Rows
def FH(x5:6 (PyData×V×V))(d:PyData):7 V:=(x5.find? λp=>decide<|p.1=d).map (·.2.2)
def KN.look(r:KN x5 k)(h:FH x5 d=Y v):∃p,atKey k d=Y p/\RelV v p.2:=by
 induction r with
 |nil=>ext h
 | @cons p q j qs a t i=>
  unfold FH at h;by_cases e:p.1=d
  .have x:q.1=d:=a.1.symm.trans e;rw[CZ (by exists e)]at h;ext h;exact#[q.2,by simp[atKey,iP,x],a.2.2]
  .have x:¬q.1=d:=λz=>e^a.1.trans z;rw[sD (by exists e)]at h;let(z,s,n):=i h;calc#[z,by rw[<- s];simp[atKey,iP,x],n]
section
variable{X:Cx}{x4:PN}{J:St}{H:Hp}{s:12}{a:13}{d:PyData}{y v:V}{u:11}{A:Around}{E:VP}{x5:6 (PyData×V×V)}
def Sg(hu:A.units+09 < cLine)(I:Inv X x4 J H s)(e:H a=Y^.dN x5)(ks:∀p ∈ x5,kE s.heap p.1 p.2.1)(ky:kE s.heap d y)(ry:RelV y u)(hl:FH x5 d=Y v)
  (h:∀w s',Inv X x4 J H s'->RelV v w->Q w s'):wpAny (model X.p X.w) A (getItem (.ref a) u) Q E s:=by
 let(b,0,k):=ky;cases (u=Value.ref b|>ry);let(z,hd,xs,rel,dd):=zG I.h e ks;let(p,e1,e2):=rel.look hl;calc Dz (knd:=Nk.nest X.p X.w) ((A.in1).units+08 < cLine|>by rw[ka];lia) k dd e1^h _ _ (I.tok _) e2
def Me(t:X.A.units+09 < cLine):Gu X (λx y H Q=>X2 λa x5 d v=>x=.ref a/\H a=Y^.dN x5/\(∀x4 J s,Inv X x4 J H s->kE s.heap d y/\∀p ∈ x5,kE s.heap p.1 p.2.1)/\FH x5 d=Y v/\Q v H):=by intro n l x4 s J H x y v u Q I j z h r;let(a,x5,d,w,0,hk,g,m,q):=h;ext j;let(b,c):=g x4 J s I;let(_,_,_,_,o,_,_,e,f,_):=I.h a _ hk;calc oG #[o,e,f.1] Ah.lookup (Sg t I hk c b z m λF S k i=>#[w,H,k,i,q]) r
def Ol:TE:=λz H Q=>∀p,H p=Z->Q (.ref p) (cc H p^.dN [])
end
end L2
namespace Ev
open PySem PySem.Spec PyProof.Rows L2
def eR(k:P):6 P->6 D->7 D
 |q::s,v::h=>if bH (pd q)^pd k=W then Y v else eR k s h
 |_,_=>Z
@[simp] def MA(o:EE)(k:EV)(L:Lc)(S:aK):uK:=bw (o L S) λd x=>bw (k L x) λe h=>(jP d h).elim Z λz=>if (bN e && z.2.1.all bN)=W then (eR e z.2.1 z.2.2).map λv=>(v,h) else Z
theorem xI{K:FG}{F:Aa}{H:Hp}{m:6 13}{k:P}{v:D}(g:bN k=W):∀{x5:6 (PyData×V×V)}{ks:6 P}{vs:6 D},ks.all bN=W->x5.map (·.1)=gM ks->c7 K F H m vs^x5.map (·.2.2)->eR k ks vs=Y v->∃w,FH x5^pd k=Y w/\RD K F H m v w
 | [],ks,vs,_,e,r,h=>by
  cases ks with
  |nil=>ext h
  |cons _ _=>ext e
 |q::x5,ks,vs,gs,e,r,h=>by
  cases ks with
  |nil=>ext e
  |cons p ks=>
   cases vs with
   |nil=>ext h
   |cons d vs=>
    rw[cU,av]at gs;rw[aI,gM]at e;injection e with e1 e2;let(x,r',er,r1,r2):=r;injection er with z1 z2;subst z1 z2;have iff:bH (pd p)^pd k=decide (q.1=pd k):=by rw[e1,jB,Nk.eqv_kd _ _ (eE gs.1)^eE g,oI]
    unfold eR at h;unfold FH;rw[iff]at h;by_cases hq:q.1=pd k
    .rw [af^fx hq]at h;ext h;rw[CZ (by exists hq)];exact#[_,0,r1]
    .rw [ag (by exists hq)]at h;rw[sD (by exists hq)];calc xI g gs.2 e2 r2 h
section
variable{X:Cx}{B:Pos}{o i:14}{L:EE}{fk:EV}
theorem UF(hu:X.A.units+09 < cLine)(ho:PE X o^tE X.K L)(hk:PE X i^tV X.K fk)(hs:ni i):PE X (.Subscript o i B) (tE X.K^MA L fk):=
 (D3 (Me hu) ho hk hs).imp' λJ H Q hz=>by
  let(F,m,h,S,d,R,r,l,q,k):=hz;let(x,u,T,q):=al q;let(e,n,V,q):=al q;calc#[F,m,h,S,x,u,r,l,T,λv E m1 H1 A r1 M=>?_];calc#[E,m1,h,u,e,n,r1,l.mono A,V,λy G m2 N D P C=>?_];cases f:jP x n with
  |none=>rw[f]at q;ext q
  |some t=>
   let(j,K,vs):=t;rw[f]at q;replace q:(if (bN e && K.all bN)=W then (eR e K vs).map λv=>(v,n) else Z)=Y (d,R):=q;split at q
   .rename_i c;rw[av]at c;let(z,Z1,q):=d6.mp q;ext q;let(0,b):=mZ f;let(a,0,hm):=RD.mono D M;let(x5,hH,g,rk,rs):=P.obj j a _ hm b;let(w,Z0,p):=xI c.1 c.2 g rs Z1;exact#[a,x5,pd e,w,0,hH,λx4 J s I=>#[nZ I c.1 C,m9 I c.2 g rk],Z0,k w G m2 N (A.trans D) P p]
   .ext q
end
theorem HY:PE X (.Dict [] [] B) Ol:=λx4 s J H Q I h=>
 Af #[.ref (~~~s),_,I.laid (a:= ~~~s) (o:=.dN []) (t':=s.toks) (λz z q=>bb _ q) (ar _)^Jn s.heap I.big,0,h _^I.h.fresh^ar _]
@[simp] def yf(_L:Lc)(S:aK):uK:=Y (.ref (-S),S++[.C [] []])
theorem NW:PE X (.Dict [] [] B)^tE X.K yf:=HY.imp' λJ H Q z=>by let(F,m,L,S,d,x,r,l,q,k):=z;ext q;intro p h;calc k (.ref p) F (m++[p]) _ (df h) (r.own h #[[],aO,0,0,0]) #[p,0,?_];rw[<- r.len,bZ^ar _];simp
@[simp] def Fc(va vb:EV)(L:Lc)(S:aK):tyV:=bw (va L S) λx h=>(xm x).bind λt=>if t=W then Y (.d Xk,h) else bw (vb L h) λy a=>(xm y).map λu=>(.d<|!u,a)
section
variable{X:Cx}{a b:14}{M C:Pos}{va vb:EV}
def Uz(ha:PE X a^tV X.K va)(hb:PE X b^tV X.K vb):PE X (.UnaryOp .Not (.BoolOp .Or [a,b] M) C) (tV X.K^Fc va vb):=by
 intro x4 s J H Q I #[F,m,L,S,d,Z0,r,l,q,k];let(x,E,e1,q):=al q;calc wv^BoolOp_or (cQ (ha x4 s J H (λv w=>X0 λe f=>Stp F m H e f w/\Rel X.K e w f E/\RP X.K e w x v) I #[F,m,L,S,x,E,r,l,e1,λv e f w T A M=>#[e,f,T,A,M]]) λu T n=>?_);let(v,w,I1,ru,e,f,g,A,M):=n;let(t,et,q):=Option.bind_eq_some_iff.mp q;refine c_ (xl x4 T J w v u (λc i=>c=t/\i=w) I1 ru #[t,o4 M et,0,0]) (λc B n=>?_) λZ Z z=>z
 let(i,Z1,o,K):=n;subst o K;cases c with
 |true=>ext q;rw[af rfl];calc not_of (c_ (xl x4 B J i v u (λc h=>c=W/\h=i) Z1 ru #[W,o4 M et,0,0]) (λc s3 n=>?_) λZ Z z=>z);let(h,D,o,K):=n;subst o K;calc#[.d Xk,h,D,0,k _ e f h g A rfl]
 |false=>rw[ag bQ]at q ⊢;let(y,S2,e2,q):=al q;let(t2,G,q):=d6.mp q;ext q;calc cQ (HU hb x4 B J i (λv h=>X0 λp j=>Stp e f i p j h/\Rel X.K p h j Z0/\RP X.K p h y v) Z1 #[e,f,L,E,y,Z0,A,l.mono g,e2,λv p j h B N C=>#[p,j,B,N,C]]) λu2 s3 n=>?_;let(v2,h,D,R,p,j,V,N,C):=n;calc not_of (c_ (xl x4 s3 J h v2 u2 (λc P=>c=t2/\P=h) D R #[t2,o4 C G,0,0]) (λc s4 n=>?_) λZ Z z=>z);let(P,I4,o,K):=n;subst o K;calc#[.d<|!c,P,I4,0,k _ p j P (g.trans V) N rfl]
end
def gD(g:GF):GF:=λd S=>g (d++[.p .n]) S
section
variable{X:Cx}{B:Pos}{e:14}{N:Ab}{fs:uH}
theorem NQ(o:Mk X.K h z)(G:FnOk X.p X.w X.K X.g X.b qJ k z fd j^pT X.K g)(hr:Room (k+1) X.A)(hg:Gl X x)(hm:X.g x=Y^.ref h)(hC:k_ X.K x h)(hb:Binds X.K fd j [.none])
  (ha:PA X (e::N)^DP X.K fs) (P:(x == ("__debug__":Str))=Xk) (he:starEach (e::N) X.e=(Xk,eval e X.e)::starEach N X.e) (C:(backTo B^starEach N X.e).any (·.1)=Xk) :
  PE X (.Call (.Name x p) (e::N) [] B) (tE X.K^mH (gD g) x fs):=
 (D2 o G hr hg hm hb (dvs:=[.n]) (.cons rfl .nil) tZ ha P he C).imp' λJ H Q hz=>by
  let(F,m,L,S,d,E,r,l,q,k):=hz;let(i,c,e1,q):=al q;calc#[F,m,L,S,i,c,r,l,e1,λxs f s b s1 I M=>λy a hy w A=>?_];split at q
  .rename_i _ S2 eg;ext q;have R:Stp f s b f s (cc b a^.own y):=gY w;have r2:Rel X.K f (cc b a^.own y) s c:=I.new w;have u:cc b a (.own y) y=Z:=by rw[aE^b9 A];exact hy
   have T:Stp f s (cc b a^.own y) f (s++[y]) (cc (cc b a^.own y) y^.B h a []):=df u;have r3:Rel X.K f (cc (cc b a^.own y) y^.B h a []) (s++[y]) (c++[.B x [] []]):=r2.own u #[h,a,[],hC,aO,0,0];have t:(s++[y])[-c]? = Y y:=by rw[<- I.len,bZ^ar _];simp
   let p3:=c7.mono T^c7.mono R M;have K:g (.ref (-c)::(i++[.p .n])) (c++[.B x [] []])=Y (.p .n,E):=eg;have D:RD X.K f (cc (cc b a^.own y) y^.B h a []) (s++[y]) (.p .n) .n:=V.n=V.n|>rfl;have pp:c7 X.K f (cc (cc b a^.own y) y^.B h a []) (s++[y]) (i++[.p .n]) (xs++[.n]):=c7.append p3 #[_,_,0,D,0];calc#[f,s++[y],.ref (-c)::(i++[.p .n]),_,.p .n,E,r3,#[_,_,0,#[y,0,t],pp],K,λv Z0 m4 H4 Z1 r4 p4=>#[p4,?_]];calc k (.ref y) Z0 m4 H4 (s1.trans^R.trans^T.trans Z1) r4 #[y,0,?_];let(n,en):=Z1.pre;rw[en,cG (bP.mp t).1];exact t
  .ext q
end
section
variable{X:Cx}{x4:PN}{J:L2.St}{H:Hp}{s:12}{l:6 13}{f:17}
def zn(I:Inv X x4 J H s)(t:∀b ∈ l,uG X x4 H b)(k:∀b o,b ∉ l->s.heap.get? b=Y o->f.get? b=Y o)
  (w:f.get? (~~~s)=Y { cls:=.type "tuple",data:=.seq^10 [u,v] }) (A:RelV x u) (B:RelV y v):Inv X x4 J (cc H (~~~s)^.u [x,y]) { s with heap:=f }:=by
 have h:H (~~~s)=Z:=I.h.fresh^ar _;have p:∀{b:13}{o:HO},H b=Y o->b ∉ l:=λ{b o} q z=>by rw[(t b z).1]at q;ext q
 refine I.step (g':=s.gens) (d':=s.drawn) (t':=s.toks) (ch:=l) (λb e=>?_) (λb o W W a q W=>k b o a q) (λb o W W a q W=>#[o.slots,k b o a q]) (λb o W q n=>?_) (λb o a q=>#[o,k b o a q])
  (λb d q=>?_) (λb o d q=>?_) (λb q=>?_) (λm K=>?_) (λb C q=>?_) I.bare
 .let(_,i,_,j,S,F):=t b e;exact#[j,i,S,F]
 .rw [aE^bS^aN q];exact n
 .rw [aE^c6 q h];exact q
 .rw [aE^c6 q h];exact q
 .rw [aE^c6 q h];exact q
 .let(o,N,g,P,r):=K;exact#[o,N,g,k _ o (λz=>(t _ z).2.1 rfl) P,r]
 .by_cases e:b=(~~~s)
  .subst e;rw[aO]at q;ext q;exact#[by show 2≤sizeLine;decide,[u,v],.cons A^.cons B .nil,#[_,w,#[0,_,0],0]]
  .rw [aE e]at q;refine(I.h b C q).stay (λc v a z=>k c v ?_ z) (λc z=>by rw[aE^c6 z h];calc z) λc d z=>by rw[aE^c6 z h];exact z
   rcases a with rfl|a
   .exact p q
   .calc p a
def IR(I:Inv X x4 J H s)(x:∀b ∈ l,uG X x4 H b)(k:∀b o,b ∉ l->s.heap.get? b=Y o->f.get? b=Y o):Inv X x4 J H { s with heap:=f }:=by
 have e:∀{b:13}{o:HO},H b=Y o->b ∉ l:=λ{b o} q z=>by rw[(x b z).1]at q;ext q
 refine I.step (g':=s.gens) (d':=s.drawn) (t':=s.toks) (ch:=l) (λb u=>?_) (λb o Z Z h q Z=>k b o h q) (λb o Z Z h q Z=>#[o.slots,k b o h q]) (λZ Z Z Z n=>n) (λb o h q=>#[o,k b o h q])
  (λZ Z q=>q) (λZ Z Z q=>q) (λZ q=>q) (λm g=>?_) (λb j q=>?_) I.bare
 .let(_,a,_,t,d,w):=x b u;exact#[t,a,d,w]
 .let(o,N,p,i,r):=g;exact#[o,N,p,k _ o (λz=>(x _ z).2.1 rfl) i,r]
 .calc (I.h b j q).stay (λc v h z=>k c v ?_ z) (λc z=>z) λc y z=>z;rcases h with rfl|h
  .exact e q
  .calc e h
def Gr(t:15)(K:FG)(H:Hp)(a:13)(x:6 V):5:=if t=W then rK K H a x else j3 K H a x
def AN(I:Inv X x4 J H s)(h:Gr k X.K H a q):∃i:LV,bC q i/\z0 k s.heap a i.toArray:=by
 ext k
 .let(i,r,p,_):=I.list h;exact#[i,r,p.isList]
 .let(i,r,(o,e,c,n),_):=I.tuple h;calc#[i,r,o,e,c,n]
def K9(p:z0 k h a r)(q:z0 k h a g):r=g:=by ext k<;>(let(o,e,c,n,d):=p;let(m,s,f,b,x):=q;rw[e]at s;ext s;rw[d]at x;ext x;rfl)
def yM(I:Inv X x4 J H s)(p:Gr g X.K H a z)(q:Gr g X.K H a ys):z=ys:=by
 let(i,r,k):=AN I p;let(x,n,f):=AN I q;let e:=K9 k f;have h:i=x:=by exists cA w_ e
 subst h;calc bC.inj r n
end
def Qo(K:FG)(t:15)(a b:13):It:=
 #[λi H=>X2 λs h x y=>-s≤-h/\j3 K H a s/\Gr t K H b h/\s[i]? = Y x/\h[i]? = Y y,λi H x e=>X1 λp u v=>x=.ref p/\H p=Z/\e=cc H p^.u [u,v]/\(∀s,j3 K H a s->s[i]? = Y u)/\∀h,Gr t K H b h->h[i]? = Y v,λi H=>X0 λs h=>-s≤-h/\j3 K H a s/\Gr t K H b h/\-s≤i]
def Hb{P:18}{w:16}{K:FG}{N:Ab}{n:9}{B:Pos}(tp:15){a b z TI TO C D:13}(o:PySem.ZO (z+1) z TI TO C D a b) :
  Turn P w K (.Tuple N n B) (Qo K tp a b) [z,TI,TO,C,D] z (λi h=>jf h z TI TO .none^.bool Xk/\eM h TI (.ref C)^.ref D/\(X0 λp q=>eM h TO p q)/\h.IsListIter C a i/\u_ tp h D b i) where
 mem:=by simp
 obj:=λi h st c m=>by
  let(t,l,(p,q,A),(o1,e1,c1,d1),F):=st;let(o2,e2,(vs,d2),_):=F.obj;rwa[a8,eO,eN]at m;rcases m with rfl|rfl|rfl|rfl|rfl
  .exact#[_,t,λv x=>nomatch (Data.fields _=Data.cell v|>x)]
  .exact#[_,l,λv x=>nomatch (Data.seq _ _=Data.cell v|>x)]
  .exact#[_,A,λv x=>nomatch (Data.seq _ _=Data.cell v|>x)]
  .exact#[o1,e1,λv x=>by rw[d1]at x;ext x]
  .exact#[o2,e2,λv x=>by rw[d2]at x;ext x]
 keep:=λi h f st k=>by let(t,l,(p,q,A),M,F):=st;exact#[k z ∅ _ t,k TI ∅ _ l,#[p,q,k TO ∅ _ A],M.at^k C ∅,F.at^k D ∅]
 item:=by
  intro X Z0 hw Z1 m i x4 s J H E I R st hg;subst Z0 hw Z1;let(xs,ys,x,y,S,T,d,hx,hy):=hg;let(its,Q,pl,_):=I.list T;let(u,hu,ru):=Q.get hx;let(L,g,s2):=AN I d;let(v,hv,rv'):=g.get hy;let(t,l,(p,q,A),M,F):=st;let zlt:=aN t;calc AA #[_,t,0] (tz (X.A.in1.handled=Z|>I.o.hd m) o t l A M F pl.isList s2 (by simp[<- (-Q),<- (-g),S]) (λx' y' r G f q1 q2 q3 q4 q5 q7=>?_) λz=>by simp[hu]at z);simp[hu,hv]at r G;subst r G;calc#[_,0,wpAny_letOwnedTupleGo_zip (s:={ s with heap:=f }) q1 λV z2 j=>?_];replace j:fq z f V:=j;let(oa,ob,oc,oe,of,og,oh):=o;have kp:∀c o,c ∉ [z,TI,TO,C,D]->s.heap.get? c=Y o->V.get? c=Y o:=λc o m e=>
   j.extBut _ _ (λx=>m (by simp[x])) (q7 c o (λx=>m (by simp at x ⊢;rcases x with x|x|x|x<;>simp[x])) e)
  have hfr:H (~~~s)=Z:=I.h.fresh^ar _;have I2:Inv X x4 J (cc H (~~~s)^.u [x,y]) { s with heap:=V }:=zn I R kp (j.extBut _ _ (mR zlt) q5) ru rv';refine#[.ref (~~~s),_,I2,0,#[_,x,y,0,hfr,0,fun xs' h=>by rw [I.list_inj h T];calc hx,fun ys' h=>by rw [yM I h d];calc hy],
   #[z2,j.extBut _ _ ()^q7 _ _ (by simp;lia) l,#[_,_,j.extBut _ _ () q4],q2.extBut j.extBut (),q3.extBut j.extBut ()],λc m=>?_]
  rw[aE (by simp at m;rcases m with rfl|rfl|rfl|rfl|rfl<;>lia)];exact(R c m).1
 done:=by intro X Z0 hw Z1 m i x4 s J H E I R st hg;subst Z0 hw Z1;let(xs,ys,S,T,d,hx):=hg;let(its,Q,pl,_):=I.list T;let(L,g,s2):=AN I d;let(t,l,(p,q,A),M,F):=st;let hl:=-Q;refine AA #[_,t,0] (tz (X.A.in1.handled=Z|>I.o.hd m) o t l A M F pl.isList s2 (by simp[<- (-Q),<- (-g),S]) (λx y r=>by simp at r;calc absurd (bP.mp r).1 ()) λW f e kp #[o,eo,co]=>#[e,o,0,eo,co,0,IR I R λc ob m ec=>kp c ob (λx=>m (by simp at x ⊢;rcases x with x|x|x|x<;>simp[x])) ec])
 self:=λW W W W W st h=>Ag st.1 h
def Ge(t:15)(l:s.heap.IsList r g)(x:z0 t s.heap q I)
  (h:∀f i a TI TO z,(∀b o,s.heap.get? b=Y o->f.get? b=Y o)-> ~~~s≤i->i < a->a < TI->TI < TO->TO < z->f.IsListIter i r 0->u_ t f a q 0->eM f TI (.ref i)^.ref a->eM f TO .none .none ->
   jf f z TI TO .none (.bool Xk)->Q (.ref z) { s with heap:=f }):wpAny (model prog w) A (call (.type "zip") [.ref r,.ref q]) Q E s:=by
 ext t
 .calc call_zip_2 l x λf c T e n k y hk=>?_;exact h f s.heap.objs.size (~~~s+1) (~~~s+2) (~~~s+3) (~~~s+4) hk (ar _) (gQ _) (gQ _) (gQ _) (gQ _) n k T e c
 .calc qX l x h
def q_(x y:6 P):6 P:=(x.zip y).map λz=>.u [z.1,z.2]
@[simp] def A5(a b:EV)(L:Lc)(S:aK):Ha:=bw (a L S) λv e=>bw (b L e) λw h=>match v,w with
 | .l x,.l y=>if -x≤-y then Y (q_ x y,h) else Z
 | .l x,.u y=>if -x≤-y then Y (q_ x y,h) else Z
 |_,_=>Z
def IH{K:FG}{F:Aa}{m:6 13}{H:Hp}{E:15}{a b:13}{d w:6 P}{s n:6 V}(A:-d≤-w)(Q:∀f t k,Stp F m H f t k->j3 K k a s/\Gr E K k b n)(r:cF K F H d s)(D:cF K F H w n):Qq K (Qo K E a b) (q_ d w) F m H:=by
 intro f t k st;let(c,h):=Q f t k st;let C:=-r;have l:-s≤-n:=by rw[<- C,<- (-D)];exact A
 calc#[λi v e=>?_,#[s,n,l,c,h,by unfold q_;rw[aU,List.length_zip,wH A,C];calc ar _]];unfold q_ at e;rw[cm]at e;let((Z1,X),G,0):=d6.mp e;let(I,L):=List.getElem?_zip_eq_some.mp G;let(x,o,p):=r.get I;let(y,S,R):=D.get L;calc#[#[s,n,x,y,l,c,h,o,S],λz T q=>?_];let(Z0,u,v,0,B,0,M,N):=q;let g:=M s c;let j:=N n h;rw[o]at g;rw[S]at j;ext g;ext j;calc#[f,cP B,RP.newTup B #[_,_,0,RP.mono st p,_,_,0,RP.mono st R,0]]
def iZ{X:Cx}{B:Pos}{N:Ab}{n:9}{a b:14}{t T:EV}{p Q:Pos}(gz:Gl X "zip")(mz:X.g "zip"=Z)(ha:PE X a^tV X.K t)(hb:PE X b^tV X.K T)(hs:starEach [a,b] X.e=[(Xk,eval a X.e),(Xk,eval b X.e)])(Z0:starEach [b] X.e=[(Xk,eval b X.e)]) :
  PI X (.Tuple N n B) (.Call (.Name "zip" p) [a,b] [] Q) (tI X.K^A5 t T):=by
 intro x4 s J H R I #[F,m,L,S,vs,S',r,l,q,k];let(x,S1,e1,q):=al q;let(y,S2,e2,q):=al q;calc jL^lF I gz mz Ch ?_ #[] #[];calc lp ?_ (by rw [hs,Z0]) (by rw [Z0];rfl);rw [hs];refine cR (cQ (ha x4 s J H (fun v i=>X0 fun w K=>Stp F m H w K i/\Rel X.K w i K S1/\RP X.K w i x v) I #[F,m,L,S,x,S1,r,l,e1,fun v w K i s1 r1 M=>#[w,K,s1,r1,M]]) fun u s1 #[v,i,I1,ru,w,K,D,r1,M]=>
  cR (cQ (hb x4 s1 J i (λv h=>X0 λg P=>Stp w K i g P h/\Rel X.K g h P S2/\RP X.K g h y v) I1 #[w,K,L,S1,y,S2,r1,l.mono D,e2,λv g P h A r2 C=>#[g,P,A,r2,C]]) λu2 A #[v2,h,G,ru2,g,P,d,r2,C]=>fm ?_))
 have go:∀(E:15){j o:13}{xs ys:6 V},v=.ref j->v2=.ref o->j3 X.K h j xs->Gr E X.K h o ys->R (Qo X.K E j o) h->wx X (call (.type "zip") [u,u2]) (λv s1=>wx X (pyIter v) (Tx X x4 J (.Tuple N n B) R) X.xe s1) X.xe A:=λE {j o xs ys} ea eb hq hq2 qR=>by
  subst ea eb;ext ru;ext ru2;let(its,_,pl,_):=G.list hq;let(its2,_,sq):=AN G hq2;have la:j < ~~~A:=by let(_,e,_):=pl.isList;exact aN e
  have lb:o < ~~~A:=by ext E<;>(let(_,e,_):=sq;calc aN e)
  calc Ge E pl.isList sq λf i1 i2 TI TO z kp n0 n1 n2 n3 n4 hi1 hi2 hTI hTO hz=>Ag hz ?_;calc#[z,[z,TI,TO,i1,i2],_,_,h,0,G.kept (t':=A.toks) kp,Hb E #[bU la n0,bU lb n0,n1,n2,n3,n4,gQ _],#[hz,hTI,#[_,_,hTO],hi1,hi2],λc hc=>?_,qR];have Z1: ~~~A≤c:=by rwa[a8,eO,eN]at hc;grind
  exact G.fpOk Z1^G.h.fresh Z1
 cases x with
 |l ds=>
  cases y with
  |l ds2=>
   dsimp only at q;split at q
   .rename_i hl;ext q;let(j,xs,0,ta,ra):=RP.mono d M;let(o,ys,0,tb,rb):=C;exact go Xk rfl rfl ta.sq tb.sq^k _ g P h (D.trans d) r2^IH (E:=Xk) hl (λF3 m3 H3 s=>#[(ta.kp s.kp).sq,(tb.kp s.kp).sq]) ra rb
   .ext q
  |u ds2=>
   dsimp only at q;split at q
   .rename_i hl;ext q;let(j,xs,0,ta,ra):=RP.mono d M;let(o,ys,0,tb,rb):=C;exact go W rfl rfl ta.sq tb.sq^k _ g P h (D.trans d) r2^IH (E:=W) hl (λF3 m3 H3 s=>#[(ta.kp s.kp).sq,(tb.kp s.kp).sq]) ra rb
   .ext q
  |_=>ext q
 |_=>ext q
def Jy(j:6 P)(y:P):7 9:=if (j.all^cX 19 && cX 19 y)=W then Y ((gM j).countP λz=>bH z^pd y) else Z
@[simp] def N4(t T:EV)(L:Lc)(S:aK):tyV:=bw (t L S) λv h=>match v with
 | .l j=>bw (T L h) λy x=>(Jy j y).map λ(i:9)=>(.int (i:8),x)
 |_=>Z
section
variable{X:Cx}{x4:PN}{J:L2.St}{H:Hp}{s:12}{F:Aa}{j:6 P}{y:P}{vy:V}{u:11}{i:9}{Q:VK}{a:13}
def Bs(D:X.A.units+64 < cLine)(I:Inv X x4 J H s)(K:RP X.K F H (.l j)^.ref a)(P:RP X.K F H y vy)(B:RelV vy u)(e:Jy j y=Y i)(q:Q (.int i) H) :
  wx X (call (.builtin "list.count") [.ref a,u]) (EP X x4 J Q) X.xe s:=by
 unfold Jy at e;split at e;case isFalse=>ext e
 rename_i h;ext e;rw[av]at h;let(C,r):=g0 I 20 K (RelV (.ref a)^.ref a|>rfl) (by simpa[cX] using h.1);let(bs,A):=g0 I 19 P B h.2;let m:=D9 h.1;let w:=fA 19 _ h.2;rw[pd]at r;cases r with
 | @list l o v n _ t k f b c=>
  let(E,g,S,x):=o;dsimp only at f b;subst f b;let d:=Ct _ _ _ m.1 c;have p:v.toList.countP (λz=>bH (lu s.heap z)^pd y)=(gM j).countP λz=>bH z^pd y:=by rw[<- d,List.countP_map];rfl
  calc ji B2 #[_,k,0] PySem.F.entry_list_count (PySem.F.args_list_count_2 _ _) (SeqAt.list_countAt a v n g x u (λz=>bH (lu s.heap z)^pd y)) #[k,Cs c A m.1 w.1 (),#[.int _,H,I.tok _,#[_,0],by rw[p];calc q]]
def NX(hu:X.A.units+64 < cLine)(ho:PE X o^tV X.K L)(he:PE X e^tV X.K fe)(Z1:starEach [e] X.e=[(Xk,eval e X.e)])
  (t:attributeBase o "count" X.e^eval o X.e=eval o X.e) (p:(apos.endLine == cpos.line)=W):PE X (.Call (.Attribute o "count" apos) [e] [] cpos) (tV X.K^N4 L fe):=by
 intro x4 s J H Q I #[F,m,h,S,d,T,r,l,q,k];let(x,B,e1,q):=al q;calc Ap t (by rw[Z1];rfl) p rfl (cQ (ho x4 s J H (λv c=>X0 λn w=>Stp F m H n w c/\Rel X.K n c w B/\RP X.K n c x v) I #[F,m,h,S,x,B,r,l,e1,λv n w c N D M=>#[n,w,N,D,M]]) λu N hz=>?_);let(v,c,R,ru,n,w,P,D,M):=hz;cases x with
 |l j=>let(y,S2,e2,q):=al q;let(i,ei,q):=d6.mp q;ext q;let(a,xs,0,hq,rp):=id M;cases (u=Value.ref a|>ru);let(z,its,n',rr,hl,V):=R.lstM hq.2;calc#["list","list.count",rY,B2,PySem.F.type_list_count,#[_,V,0],λb eb=>by ext eb;calc#[_,V,0],?_];rw[Z1];calc lr rfl^lq^cR (cQ (he x4 N J c (λvy g=>X0 λf K=>Stp n w c f K g/\Rel X.K f g K T/\RP X.K f g y vy) R #[n,w,h,B,y,T,D,l.mono P,e2,λv f K g Z0 E C=>#[f,K,Z0,E,C]]) λuy Z0 #[vy,g,I2,G,f,K,A,E,C]=>fm ?_);calc Bs hu I2 (RP.mono A M) C G ei^k _ f K g (P.trans A) E rfl
 |_=>ext q
end
def Tg:P->7^6 P
 | .l x=>Y x
 | .u x=>Y x
 |_=>Z
@[simp] def vK(a:EV)(L:Lc)(S:aK):uK:=bw (a L S) λv h=>(Tg v).map λx=>(.ref (-h),h++[.l^x.map .p])
@[simp] def Mz(a b:EV)(L:Lc)(S:aK):uK:=bw (a L S) λv e=>bw (b L e) λw h=>match v,w with
 | .l x,.int n=>if (jG (-x * n.toNat) && decide (n.natAbs < 1000000))=W then Y (.ref (-h),h++[.l^(List.replicate n.toNat x).flatten.map .p]) else Z
 |_,_=>Z
section
variable{X:Cx}
theorem G4{a:14}{t:EV}{p B:Pos}(C:Gl X "list")(D:X.g "list"=Z)(A:PE X a^tV X.K t)(i:starEach [a] X.e=[(Xk,eval a X.e)]):PE X (.Call (.Name "list" p) [a] [] B) (tE X.K^vK t):=
 (mY lO C D r9 (fy A jj (by rw[i];rfl)) #[] #[] (by rw[i];rfl) rfl).imp' λJ H Q z=>by
  let(F,m,L,S,d,E,r,l,q,k):=z;let(x,o,P,q):=al q;let(G,w,q):=d6.mp q;ext q;calc#[F,m,L,S,x,o,r,l,P,λv h e f j c M=>?_];cases x with
  |l K=>ext w;let(a,y,0,g,u):=M;calc#[a,y,0,.inl g.sq,λb s=>?_];have n:Stp h e f h (e++[b]) (cc f b^.l y):=df s;calc k (.ref b) h (e++[b]) _ (j.trans n) (c.own s #[y,aO,c7.ofP^cF.mono n u]) #[b,0,?_];rw[<- c.len,bZ^ar _];simp
  |u K=>ext w;let(a,y,0,g,u):=M;calc#[a,y,0,.inr g.sq,λb s=>?_];have n:Stp h e f h (e++[b]) (cc f b^.l y):=df s;calc k (.ref b) h (e++[b]) _ (j.trans n) (c.own s #[y,aO,c7.ofP^cF.mono n u]) #[b,0,?_];rw[<- c.len,bZ^ar _];simp
  |_=>ext w
theorem DT{K:FG}{F:Aa}{H:Hp}{d:6 P}{x:6 V}(r:cF K F H d x):∀n:9,cF K F H (List.replicate n d).flatten (List.replicate n x).flatten
 |0=>rfl
 |n+1=>by rw[cK,cK,gb,gb];calc r.append^DT r n
theorem Ux{a b:14}{t T:EV}{B:Pos}(R:PE X a^tV X.K t)(V:PE X b^tV X.K T):PE X (.BinOp a .Mult b B) (tE X.K^Mz t T):=
 (M7 Ie R V).imp' λJ H Q Z1=>by
  let(F,m,L,S,d,S',r,l,q,k):=Z1;let(v,f,G,q):=al q;let(w,A,I,q):=al q;calc#[F,m,L,S,v,f,r,l,G,λx P Z0 H1 j r1 M=>?_];calc#[P,Z0,L,f,w,A,r1,l.mono j,I,λy h e s z g C=>?_];cases v with
  |l E=>
   cases w with
   |int n=>
    dsimp only at q;split at q
    .rename_i c;rw[av]at c;ext q;let(D,K,0,ta,i):=RP.mono z M;cases (y=.int n|>C);let h1:=aS c.2;have N:-E * n.toNat≤1000000:=aS c.1;refine#[D,n,K,0,0,ta.2,(),(),?_,λp u=>?_]
     .rw [<- (-i)];exact aH N #[]
     .have o:Stp h e s h (e++[p]) (cc s p^.l (List.replicate n.toNat K).flatten):=df u;calc k (.ref p) h (e++[p]) _ (j.trans^z.trans o) (g.own u #[_,aO,c7.ofP^cF.mono o^DT i n.toNat]) #[p,0,?_];rw[<- g.len,bZ^ar _];simp
    .ext q
   |_=>ext q
  |_=>ext q
end
section
variable{X:Cx}{a:14}{t:EE}{p B:Pos}
def IK(T:String)(d:D)(S:aK):7 15:=match d with
 | .p (.d _)=>if T="bool" then Y W else Z
 | .p (.l _)=>if T="list" then Y W else Z
 | .ref i=>(match S[i]? with
  |some (.l _)=>if T="list" then Y W else Z
  |_=>Z)
 |_=>Z
@[simp] def nv(T:String)(f:EE)(L:Lc)(S:aK):tyV:=bw (f L S) λd h=>(IK T d h).map λb=>(.d b,h)
def Gf(T:k="list"\/k="bool"):fN X (.builtin "isinstance") (λt H Q=>X4 λF m S d b x=>t=[x,.ty k]/\Rel X.K F H m S/\RD X.K F H m d x/\IK k d S=Y b/\Q (.d b) H):=by
 intro x4 s J H t V Q I r #[F,m,S,d,b,x,e,L,pd,i,q];subst e;let(u,M,0,P,A):=vals2 r;cases (M=Value.type k|>A);have f:∀B,EP X x4 J Q (.bool b) { s with toks:=B }:=λB=>#[.d b,H,I.tok _,0,q]
 unfold IK at i;cases d with
 |p w=>
  cases w with
  |d c=>
   dsimp only at i;split at i
   .rename_i h;subst h;ext i;cases (x=.d c|>pd);cases (u=Value.bool c|>P);exact As PySem.W.kitx_bool I.kIn True.intro rfl (λz=>nomatch z) f
   .ext i
  |l C=>
   dsimp only at i;split at i
   .rename_i h;subst h;ext i;let(N,t,0,E,_):=pd;ext P;let(y,_,K,_):=I.list^j3.of E.2;let(o,n,v,g,_):=K;exact As GJ I.kIn #[o,v,g] rfl (λz=>nomatch z) f
   .ext i
  |_=>ext i
 |ref j=>
  let(a,0,G):=pd;dsimp only at i;cases l:S[j]? with
  |none=>rw[l]at i;ext i
  |some o=>
   rw[l]at i;cases o with
   |l C=>
    dsimp only at i;split at i
    .rename_i h;subst h;ext i;let(t,D,R):=L.obj j a _ G l;ext P;let(y,_,K,_):=I.list^j3.of D;let(o,n,v,g,_):=K;exact As GJ I.kIn #[o,v,g] rfl (λz=>nomatch z) f
    .ext i
   |_=>ext i
theorem MT(T:h="list"\/h="bool")(K:Gl X "isinstance")(P:X.g "isinstance"=Z)(e:Gl X g)(n:X.g g=Z)(o:bootBuiltins g=Y^.type h)(z:PE X a^tE X.K t)
  (A:g≠"__name__") (hd:(g == ("__debug__":Str))=Xk) (c:starEach [a,.Name g C] X.e=[(Xk,eval a X.e),(Xk,eval (.Name g C) X.e)]):PE X (.Call (.Name "isinstance" p) [a,.Name g C] [] B) (tV X.K^nv h t):=
 (o_ (Gf T) K P Kv (fy z (fy (LG (v:=.ty h) e n o rfl A hd) jj rfl) (by rw[c];rfl)) #[] #[] (by rw[c];rfl) rfl).imp' λJ H Q D=>by let(F,m,L,S,d,G,r,l,q,k):=D;let(x,I,j,q):=al q;let(b,y,q):=d6.mp q;ext q;calc#[F,m,L,S,_,_,r,l,j,λv f w i s u E=>#[f,w,_,x,b,v,0,u,E,y,k _ f w i s u rfl]]
end
end Ev
namespace PySem
open PySem PyProof.Rows
section
variable{prog:18}{w:16}{A:Around}{E:VP}{s:12}
def z0.obj(x:z0 k h a q):∃o,h.get? a=Y o/\(o.cls=.type "tuple"\/o.cls=.type "list")/\∀f,f.get? a=Y o->z0 k f a q:=by
 ext k
 .let(o,e,c,r):=x;exact#[o,e,.inr c,λf s=>#[o,s,c,r]]
 .let(o,e,c,r):=x;calc#[o,e,.inl c,λf s=>#[o,s,c,r]]
def Ex(a:A.handled=Z)(t:u_ q s.heap r h i)(n:z0 q s.heap h k)(b:k[i]? = Z)
  (x:∀f e,r_ r s.heap f->(∃o,f.get? e=Y o/\o.cls=.type "StopIteration")->E (.ref e) { s with heap:=f }):wpAny (model prog w) A (iM^.ref r) Q E s:=by
 ext q
 .exact An a t n b x
 .calc xk a t n b x
theorem P2(u:A.handled=Z)(a t:13)(n:t≠a)(e:Array 11):Draws prog w A a [a,t] e.size (λi v=>e[i]? = Y v) (λi h=>u_ z h a t i/\z0 z h t e) where
 live:=λy y st=>by let(o,k,_):=st.1.obj;exact#[o,k]
 frame:=λy y y st hk=>by let(o,k,_,r):=st.1.obj;let(g,b,_,j):=st.2.obj;exact#[r _^hk a ∅ o k,j _^hk t ∅ g b]
 item:=λi s Q E m st d=>zi st.1 st.2 (x:=e[i]) (by simp[m]) λf c p=>d _ f s.toks (by simp[m]) #[c,st.2.extBut p.extBut n] p
 done:=λs Q E st q=>Ex u st.1 st.2 ∅ q
theorem F5(n:A.handled=Z)(b:g[k]? = Z):Draws prog w A z [z,q] k (λy y=>True) (λj h=>j=k/\u_ I h z q k/\z0 I h q g) where
 live:=λy y st=>by let(o,x,_):=st.2.1.obj;exact#[o,x]
 frame:=λy y y st hk=>by let(o,x,_,r):=st.2.1.obj;let(c,a,_,m):=st.2.2.obj;exact#[st.1,r _^hk z ∅ o x,m _^hk q ∅ c a]
 item:=λi s Q E f st y=>absurd st.1 (bS f)
 done:=λs Q E st e=>Ex n st.2.1 st.2.2 b e
theorem Ho(t:z0 r h a k)(e:h.get? b=Y o)(n:o.cls≠.type "tuple")(s:o.cls≠.type "list"):b≠a:=λz=>by let(f,x,c,_):=t.obj;rw[<- z,e]at x;ext x;calc c.elim n s
def Mf(x:u_ q h r k i):∃o,h.get? r=Y o/\o.cls≠.type "tuple"/\o.cls≠.type "list":=by
 ext q
 .let(o,e,c,_):=x;exact#[o,e,by rw[c];decide,by rw[c];decide]
 .let(o,e,c,_):=x;calc#[o,e,by rw[c];decide,by rw[c];decide]
theorem FY (t:13) (m:Array 11):Meets (Builtin.«enumerate.__new__» #[[.type "enumerate",.ref t],[]]) (fun _ R s=>s.heap.IsTuple t m /\
  ∀f,IsEnum f (~~~s+1) (~~~s) 0 .none->f.IsTupleIter s.heap.objs.size t 0->f.objs.size= ~~~s+2->(∀b o,s.heap.get? b=Y o->f.get? b=Y o)->R (.ok<|.ret<|.ref<| ~~~s+1) { s with heap:=f }):=
 .of_wp λprog w A R s h=>by
  let(p,g,d,H,os):=s;let(k,h):=h;let u:=sub_enumerate;let((S,v,j,y),l,a,n,hd):=id k;dsimp only at a hd;subst a hd;have T:Cm (Shared.heap #[p,g,d,H,os]) t m:=k
  wp_walk using wf l
  let e:Obj:={ cls:=.type "tuple_iterator",data:=.fields^10 [.ref t,.int 0 0] }
  let q:Obj:={ cls:=.type "enumerate",data:=.fields^10 [.none,.bool Xk,.ref p.objs.size,rawInt 0,.none,.none] }
  have z:(p.push e).objs.size=p.objs.size+1:=oH ..;have r:IsEnum ((p.push e).push q) (p.objs.size+1) p.objs.size 0 .none:=by rw[<- z];exact bO _ rfl
  let i:=h _ r #[_,bb _^bO _ rfl,0,0] ((oH ..).trans (by rw[z])) λb o x=>bb _^bb _ x;rw[Array.size p.objs+1=(p.push e).objs.size|>z.symm]at i;apply wpAny_stack_any;intro st;apply aG;split
  .rename_i c _ _ _ _ _;rcases c == Value.type "enumerate" with _|_;all_goals
    wp_walk using wf l,wc T
    exact#[_,0,i]
  .wp_walk using wf l,wc T
   calc#[_,0,i]
theorem Br(t:s.heap.IsTuple k r)
  (h:∀f,IsEnum f (~~~s+1) (~~~s) 0 .none->f.IsTupleIter s.heap.objs.size k 0->f.objs.size= ~~~s+2->(∀b o,s.heap.get? b=Y o->f.get? b=Y o)->Q (.ref<| ~~~s+1) { s with heap:=f }) :
  wpAny (model prog w) A (call (.type "enumerate") [.ref k]) Q E s:=callType_new F.called_enumerate #[] (F.typeCall_enumerate_1 _) (F.newCall_enumerate_1 _) (λj=>F.args_object_init_2 j _) F.entry_enumerate_new (FY k r) #[t,λf e i z hk=>#[#[_,e,0],h f e i z hk]]
end
end PySem
namespace Ev
open PySem PySem.Spec PyProof.Rows L2
section
variable{X:Cx}{B:Pos}
def Qp(t:15)(K:FG)(a:13):It:=
 #[λi H=>X0 λs x=>Gr t K H a s/\s[i]? = Y x,λi H x h=>X0 λp y=>x=.ref p/\H p=Z/\h=cc H p^.u [.int i,y]/\∀s,Gr t K H a s->s[i]? = Y y,λi H=>∃s,Gr t K H a s/\-s≤i]
def AF{Z1:15}{P:18}{w:16}{K:FG}{N:Ab}{n:9}(a e j:13)(y:e≠j):Turn P w K (.Tuple N n B) (Qp Z1 K a) [e,j] e (λi h=>(∃l,IsEnum h e j i l)/\u_ Z1 h j a i) where
 mem:=by simp
 obj:=λi h st b g=>by
  let((l,m),c):=st;let(o,ho,(vs,d),_):=c.obj;have:b=e\/b=j:=by exists g
  rcases this with rfl|rfl
  .exact#[_,m,λv z=>by have z':Data.fields _=Data.cell v:=z;ext z']
  .exact#[o,ho,λv z=>by rw[d]at z;ext z]
 keep:=λi h f st k=>by let((l,m),c):=st;exact#[#[l,k e ∅ _ m],c.at^k j ∅]
 item:=by
  intro X hP hw Z0 hc i x4 s J H E I R st hg;subst hP hw Z0;let(xs,x,V,hx):=hg;let(S,rv,T):=AN I V;let(u,hu,ru):=rv.get hx;let((l,m),c):=st;let(oi,G,n1,n2):=Mf c;let hai:=(Ho T G n1 n2).symm;let hae:=Ho T (s.heap.get? e=_|>m) (Value.type "enumerate"≠.type "tuple"|>by decide) (Value.type "enumerate"≠.type "list"|>by decide);let D:=P2 (prog:=X.p) (w:=X.w) (A:=X.A.in1) (z:=Z1) (I.o.hd hc) j a hai S.toArray;refine wpAny_pyNext_enum_itemD D m #[c,T] (by exists (bP.mp hu).1) y (by simp[y,hae]) λu2 h1 M L ho1 r ht1 hz1 hk1=>?_
  let(r,_):=r;have hu3:u2=u:=by simp[hu]at L;exact L.symm
  subst hu3;calc#[_,0,wpAny_letOwnedTupleGo_enum (s:={ s with heap:=h1,toks:=M+1 }) ho1 λQ he2 p=>?_];replace p:fq e h1 Q:=p;have F:e < ~~~s:=aN m;have hkk:∀b o,b≠e->b≠j->s.heap.get? b=Y o->Q.get? b=Y o:=λb o b1 b2 q=>(p.2 b b1).trans^hk1 b o b1 b2 q
  have C:Q.get? (~~~s)=Y { cls:=.type "tuple",data:=.seq^10 [.int i M,u2] }:=(p.2 _^mR F).trans ht1;have hfr:H (~~~s)=Z:=I.h.fresh^ar _;have I':Inv X x4 J (cc H (~~~s)^.u [.int i,x]) { s with heap:=Q,gens:=s.gens,drawn:=s.drawn,toks:=M+1 }:=zn (s:={ s with toks:=M+1 }) (I.tok<|M+1) R (λb o g q=>hkk b o (λz=>g (by simp[z])) (λz=>g (by simp[z])) q) C #[_,0] ru;calc#[.ref (~~~s),_,I',0,#[~~~s,x,0,hfr,0,λys hy=>by rw[yM I hy V];calc hx],#[#[u2,by exists he2],r.at λo q=>(p.2 j^b9 y).trans q],λb g=>?_];rw[aE (by simp at g;rcases g with rfl|rfl;calc bS F;calc bS^aN G)];exact(R b g).1
 done:=by intro X hP hw Z0 hc i x4 s J H E I R st hg;subst hP hw Z0;let(xs,V,hx):=hg;let(S,rv,T):=AN I V;let((l,m),c):=st;let hl:=-rv;exact wpAny_pyNext_enum_endD (F5 (I:=Z1) (prog:=X.p) (w:=X.w) (A:=X.A.in1) (I.o.hd hc) (z:=j) (q:=a) (g:=S.toArray) (k:=i) (by simp;lia)) m #[0,c,T] λf eb=>#[0,IR I R λb o g e=>eb b o (λz=>g (by simp[z])) e]
 self:=λt t t t t st h=>by let((l,m),_):=st;calc Dw m h
def xN{t:15}{K:FG}{F:Aa}{m:6 13}{H:Hp}{a:13}{c:6 P}{s:6 V}(u:∀h k n,Stp F m H h k n->Gr t K n a s)(r:cF K F H c s):Qq K (Qp t K a) (cy 0 c) F m H:=by
 intro h k n st;let q:=u h k n st;let l:=-r;calc#[λi v e=>?_,#[s,q,by rw[fB,l];calc ar _]];let(d,w,0):=qv e;let(x,f,p):=r.get w;calc#[#[s,x,q,f],λz j y=>?_];let(o,y,0,b,0,g):=y;have:y=x:=by have:=g s q;rw[f]at this;ext this;rfl
 subst this;calc#[h,cP b,RP.newTup b #[_,_,0,?_,_,_,0,RP.mono st p,0]];show V.int (i:8)=V.int (0+(i:8));rw[db]
@[simp] def lG(a:EV)(L:Lc)(S:aK):Ha:=bw (a L S) λv h=>match v with
 | .l x=>Y (cy 0 x,h)
 | .ro x=>Y (cy 0 x,h)
 | .u x=>Y (cy 0 x,h)
 |_=>Z
def WY{N:Ab}{n:9}{a:14}{t:EV}{p c:Pos}(hg:Gl X "enumerate")(hm:X.g "enumerate"=Z)(ha:PE X a^tV X.K t)(hs:starEach [a] X.e=[(Xk,eval a X.e)]):PI X (.Tuple N n B) (.Call (.Name "enumerate" p) [a] [] c) (tI X.K^lG t):=by
 intro x4 s J H R I #[F,m,L,S,vs,S',r,l,q,k];let(v,S1,e1,q):=al q;have hA:PA X [a] (uM X.K^ae t ao):=Nz ha Qi (by rw[hs];rfl);refine Call_^lF I hg hm boot_enumerate^lp (cQ (hA c x4 s J H (λK x=>X0 λe w=>Stp F m H e w x/\Rel X.K e x w S1/\cF X.K e x [v] K) I #[F,m,L,S,[v],S1,r,l,?_,λK e w x h D M=>#[e,w,h,D,M]]) λus h #[K,x,j,G,e,w,st,D,M]=>?_) (by rw[hs];rfl) rfl
 .rwa[ae,ao,e1,aq]
 let(x1,0,V):=Fp M;let(u,0,Z1):=vals1 G;have P:∀b,~~~h≤b->x b=Z:=λb Q=>j.h.fresh Q;have y:∀(Z0:15)(b:13),R (Qp Z0 X.K b) x->∀f:17,IsEnum f (~~~h+1) (~~~h) 0 .none->u_ Z0 f h.heap.objs.size b 0->(∀b o,h.heap.get? b=Y o->f.get? b=Y o)->wx X (pyIter<|.ref<| ~~~h+1) (Tx X x4 J (.Tuple N n B) R) X.xe { h with heap:=f }:=λZ0 b kk f d i hk=>by
  calc Dw d ?_;calc#[~~~h+1,[~~~h+1,~~~h],_,_,x,0,j.kept (t':=h.toks) hk,AF b _ _^mR^gQ _,#[#[_,d],i],λb Q=>?_,kk];have T:b= ~~~h+1\/b= ~~~h:=by exists Q
  rcases T with rfl|rfl
  .exact j.fpOk (mP _)^P _^mP _
  .exact j.fpOk (ar _)^P _^ar _
 cases v with
 |l ds=>ext q;let(b,K,0,g,E):=V;ext Z1;let(z,G,C,hz):=j.list g.sq;calc DA C.isList λf d i A hk=>y Xk b (k _ e w x st D^xN (t:=Xk) (λF2 m2 H2 s=>(g.kp s.kp).sq) E) f d i hk
 |ro ds=>ext q;let(b,K,0,g,E):=V;ext Z1;let(z,G,C,hz):=j.list g.sq;calc DA C.isList λf d i A hk=>y Xk b (k _ e w x st D^xN (t:=Xk) (λF2 m2 H2 s=>(g.kp s.kp).sq) E) f d i hk
 |u ds=>ext q;let(b,K,0,g,E):=V;ext Z1;let(z,G,C,hz):=j.tuple g.sq;calc Br (h.heap.IsTuple b z.toArray|>C) λf d i A hk=>y W b (k _ e w x st D^xN (t:=W) (λF2 m2 H2 s=>(g.kp s.kp).sq) E) f d i hk
 |_=>ext q
end
end Ev
set_option tactic.hygienic false
namespace Ev
open PySem PySem.Spec PyProof.Rows L2
section
variable{X:Cx}{x4:PN}{J:L2.St}{H:Hp}{s:12}
set_option tactic.hygienic true in
def L9(G:FnOk X.p X.w X.K X.g X.b qJ k fe fd ps sp)(D:Room (k+1) X.A)(V:X.g "ends_on"=Y^.ref fe)(hk:eT X.K^.ref fe=W)(c:Binds X.K fd ps [])
  (I:Inv X x4 J H s) (Z1:s.heap.get? f=Y^zc p1 p2 p3 p4 p5 l pm c' T) (S:s.heap.CodeRec (.ref c') A2) (M:s.heap.IsCell l^Y g) (Z0:RelV vb g) (rv:RelV v u) (h:sp [vb,v] H Q E0) :
  wx X (call (.ref f) [u]) (EP X x4 J Q) X.xe s:=by
 calc sW^PySem.W.kla_callFunE (body:=xK p2 p3 p4 p5) D.depth Z1 rfl rfl rfl rfl S ?_;rw[bindArgs (PySem.W.kla_fn "<lambda>" A2 (xL p1) (xK p2 p3 p4 p5) ri [(Str.ofString "board",l)] pm (.ref c') T) #[[u],[]]=pure [(Str.ofString "standing",u)]|>rfl];calc aG^DD (show ∀x ∈ ri.names,x.2≠.cell by decide) (show ∀x ∈ [(Str.ofString "standing",u)],ri.names.lookup x.1=Y .local by simp) (λa t j=>#[I.nolimit.fresh _ j,?_]) rfl;have m:∀b o,s.heap.get? b=Y o->a.get? b=Y o:=λb o e=>j.extBut b o (bS^aN e)^bb _ e;have y:a.IsCell l^Y g:=let #[o,e,d]:=M;#[o,m _ _ e,d]
 have F:a.Ns mainGlobals X.g:=I.mod.glob.keeps λb o e=>m b o^I.bk b o e;have C:X.K.In a:=I.o.mod.kin.keeps λb o e=>m b o^I.bk b o e;have R:[g,u].length=-ps:=G.len _ _ _ _ h;calc PySem.W.kla_codeExpr^jL^wy rfl rfl (Cj F V ?_) #[];calc tt (h₀:=X.b) I.o.mod.kin hk ?_ rfl rfl;show wpAny _ _ (spliced ((Xk,eval (.Name "board" p3) _)::(Xk,eval (.Name "standing" p4) _)::[])) _ _ _;calc cR (sV^DC rfl rfl rfl y^cR^sV^Al rfl rfl t rfl^fm #[C,?_]);refine sW (pW (G.run _ (_::X.k) { s with heap:=a,toks:=s.toks+1 } H #[[g,u],[]] [g,u] [vb,v] Q E0 (D.deeper _) #[C_ I.o.frames,I.o.mod,λb o e=>#[m b o (I.bs b o e).1,(I.bs b o e).2],?_,?_,?_,λP L=>I.base.tbls P^I.o.tab P L,I.h.kept m,I.bare] (c _ [g,u] C R) (.cons Z0^.cons rv .nil) h) λr s' i=>?_)
 .calc aH (aH I.o.bsz I.sz) ?_;exact lw t.lt
 .refine .cons (ScopeKind.function≠ScopeKind.module|>by decide) rfl t (Cp^aH I.o.bsz I.sz) (I.stack.of_keeps λb o e Z=>#[o,m b o e,0])
 .intro b c;have c:b= ~~~s\/b ∈ FW X.k:=a8.mp c;rcases c with rfl|c
  .exact I.h.fresh^ar _
  .exact I.stkFree b c
 .cases r with
  |error e=>calc False.elim i
  |ok E=>
   cases E with
   |ret w=>
    let(v',N,os,p,un,K,B,q):=i;refine I.after #[v',N,os,p,#[λb o e n c Z=>?_,λb o e n c Z=>?_,λb o e n A=>un.free b o (m b o e) n A,λb o e A=>un.there b o (m b o e) A,un.tups,un.frzs,un.tbls],K,B,q]
    .calc un.keep b o (m b o e) n (λz=>?_) ∅;have z:b= ~~~s\/b ∈ FW X.k:=a8.mp z;rcases z with rfl|z
     .exact absurd (aN e)^gP _
     .exact c z
    .calc un.slot b o (m b o e) n (aC _ c) ∅
   |next=>calc False.elim i
   |brk=>calc False.elim i
   |cont=>calc False.elim i
def IC{E:VP}{Q:VP}{c P F:13}{Z0 p2 p3 p4 p5:Pos}(I:Inv X x4 J H s)(i:X.e.code=.ref c)(C:tf X.b c P)(hP:P ∈ cO X.K)(hq:X.e.qual++Str.ofString "<lambda>"=A2)(cl:X.e.cells.lookup^Str.ofString "board"=Y F)
  (k:∀f h j pm p w S N,Inv X x4 J N { s with heap:=w,toks:=S }->(N=cc H f (.frz (zc Z0 p2 p3 p4 p5 F pm h p)^.own f)\/H h=Z/\h≠f/\N=cc (cc H h^.frz j^.own P) f (.frz (zc Z0 p2 p3 p4 p5 F pm h p)^.own f))->H f=Z->N h=Y (.frz j^.own P)->A7 j->Q (.ref f) { s with heap:=w,toks:=S }) :
  wx X (eval (.Lambda (xL Z0) (xK p2 p3 p4 p5) ri xJ) X.e) Q E s:=by
 have l:H P=Y .tbl:=I.base.tbls P^I.o.tab P hP;let(ps,e0,z):=(uC H s.heap P|>I.h P _ l);let C':=C.keeps I.bk;let(bm,ob,b1,b2,b3,b4,b5,b6):=I.mod.bmain;have A:s.heap.Ns mainGlobals X.g:=I.mod.glob.keeps I.bk;have hgP:mainGlobals≠P:=λq=>by let(o,es,ep,e,hd,_):=A;rw[q,e0]at e;ext e;ext hd
 have y:bm≠P:=λq=>by let e:=I.bk _ _ b3;rw[q,e0]at e;ext e;ext b4
 have hbG:bm≠mainGlobals:=λq=>by let(o,es,ep,e,hd,_):=I.mod.glob;rw[q,e]at b3;ext b3;rw[hd]at b6;ext b6
 have hB:s.heap.BuiltinsAt X.g P:=#[bm,ob,b1,b2,hbG,y,I.bk _ _ b3,b4,b5,b6];have L:closureFor ri X.e=pure [(Str.ofString "board",F)]:=by
  have:cellOf X.e^Str.ofString "board"=pure F:=by unfold cellOf;rw[cl]
  simp[closureFor,this]
 calc PySem.W.kla_eval rfl ?_;rw[hq];rcases z with rfl|⟨h,j,rfl,h1,h2⟩
 .calc PySem.W.kla_makeFunction (mg:=X.g) L I.o.glob A i C' e0 trivial rfl hgP hB λh p w S Z1 K R T V=>?_;let(x,j,vs,t,ex,ec,d1,d2):=T;ext ex;have G:H h=Z:=I.h.fresh K;have B:∀b,H b=Z->b≠P:=λb n q=>by rw[q,l]at n;ext n
  have g:∀b o,H b=Y o->b≠h:=λb o e q=>by rw[q,G]at e;ext e
  have hs': ~~~s≤w.objs.size:=aH K^lw R;have I1:Inv X x4 J (cc H h^.frz j^.own P) { s with heap:=w,toks:=S }:=by
   refine I.step (g':=s.gens) (d':=s.drawn) (ch:=[]) (λU z=>nomatch z) (λb o U U U e n=>Z1 b o (B b n) e) (λb o U U U e n=>#[o.slots,Z1 b o (B b n) e]) (λb o U e n=>?_) (λb o U e=>?_) (λb xs q=>(aE^g b _ q).trans q) (λb o u q=>(aE^g b _ q).trans q) (λb q=>(aE^g b _ q).trans q) (λm hm=>?_) (λb u q=>?_) I.bare
   .rw [aE^bS^bU (aN e) K];exact n
   .by_cases D:b=P
    .subst D;exact#[_,V]
    .exact#[o,Z1 b o D e]
   .let(o,es,ep,ho,r):=hm;exact#[o,es,ep,Z1 _ o (B _ I.free) ho,r]
   .by_cases D:b=h
    .subst D;rw[aO]at q;ext q;exact#[ec,#[j,ec]]
    .rw [aE D]at q;by_cases y:b=P
     .subst y;rw[l]at q;ext q;exact#[_,V,.inr #[h,j,∅,aO,vs,t,d1,d2]]
     .calc (I.h b u q).stay (λd v hd e=>Z1 d v (λz=>?_) e) (λd e=>(aE^g d _ e).trans e) (λd xs e=>(aE^g d _ e).trans e) (λd xs e=>(aE^g d _ e).trans e);rcases hd with hd|hd
      .exact y<|hd ▸ z
      .rw [z,l]at hd;ext hd
  have M:h≠w.objs.size:=bS R;calc k w.objs.size h j ((X.g "__name__").getD .none) p _ S _ (I1.laid (a:=w.objs.size) (o:=.frz (zc Z0 p2 p3 p4 p5 F ((X.g "__name__").getD .none) h p)^.own w.objs.size) (λb u e=>bb _ e) (ar _) #[bO _ rfl,#[_,bO _ rfl]]) (.inr #[G,M,0]) (I.h.fresh hs') ?_ #[vs,t,d1,d2];rw[aE M];exact aO
 .refine PySem.W.kla_makeFunctionHit (mg:=X.g) (cv:=.ref h) L I.o.glob A i C' e0 ?_ ?_ hB λp w S hk hsz=>?_
  .exact trivial
  .simp [codeAmong,rawInt]
  .have I1:Inv X x4 J H { s with heap:=w,toks:=S }:=I.kept hk;have hf:H w.objs.size=Z:=I1.h.fresh^ar _;calc k w.objs.size h j ((X.g "__name__").getD .none) p _ S _ (I1.laid (a:=w.objs.size) (o:=.frz (zc Z0 p2 p3 p4 p5 F ((X.g "__name__").getD .none) h p)^.own w.objs.size) (λb u e=>bb _ e) (ar _) #[bO _ rfl,#[_,bO _ rfl]]) (.inl rfl) hf ?_ h2;rw[aE^c6 h1 hf];calc h1
end
def fnOf(d:D)(S:aK):7 D:=match d with
 | .ref i=>match S[i]? with
  |some (.fn^Y b)=>Y b
  |_=>Z
 |_=>Z
def Mq(h:fnOf d S=Y b):∃i,d=.ref i/\S[i]? = Y (.fn^Y b):=by
 unfold fnOf at h;split at h
 .split at h
  .ext h;exact#[_,0,by assumption]
  .ext h
 .ext h
def tF(g:GF)(i:9)(a:EV):EV:=λL S=>bw (U i L S) λf z=>(fnOf f S).elim Z λb=>bw (a L S) λv h=>bw (g [b,.p v] h) λd x=>bw (toP 09 d x) λr e=>Y (r,trunc h.length e)
section
variable{X:Cx}{e:14}{L:EV}{M p:Pos}{x:Str}{i:9}
def N2(G:FnOk X.p X.w X.K X.g X.b qJ k fe fd ps^pT X.K g)(hr:Room (k+1) X.A)(hm:X.g "ends_on"=Y^.ref fe)(hk:eT X.K^.ref fe=W)(hb:Binds X.K fd ps [])
  (hx:PE X (.Name x p) (tE X.K^U i)) (ha:PE X e^tV X.K L) (he:starEach [e] X.e=[(Xk,eval e X.e)]):PE X (.Call (.Name x p) [e] [] M) (tV X.K^tF g i L):=by
 intro x4 s J H Q I #[F,m,h,S,d,S',r,l,q,kk];let(f,E,V,q):=al q;have hS:E=S:=by
  unfold U at V;split at V
  .ext V;rfl
  .ext V
 subst hS;cases eb:fnOf f E with
 |none=>rw[eb]at q;ext q
 |some b=>
  rw[eb]at q;let(v,z,e1,q):=al (bw (L h E) _=_|>q);let(d1,S2,e2,q):=al q;let(v1,T,e3,q):=al q;ext q;let(j,0,es):=Mq eb;calc jL (cQ (hx x4 s J H (λv D=>X0 λK A=>Stp F m H K A D/\Rel X.K K D A E/\RD X.K K D A (.ref j) v) I #[F,m,h,E,_,E,r,l,V,λv K A D s1 r1 Z0=>#[K,A,s1,r1,Z0]]) λfu s1 hz=>?_);let(vf,D,I1,rf,K,A,N,r1,Z0):=hz;let(a,0,hma):=Z0;cases (fu=Value.ref a|>rf);let(vb,(Z0,p2,p3,p4,p5,cr,c',P,o,oc,pm,ctv,ub,h1,h2,h3,h4,h5,h6),rb):=r1.obj j a _ hma es _ rfl;calc callWith_def (o:=zc Z0 p2 p3 p4 p5 cr pm c' ctv) rfl ?_ he;calc cQ ((fy ha jj (by rw[he];rfl)) M x4 s1 J D (λxs R=>X1 λy C B=>xs=[y]/\Stp K A D C B R/\Rel X.K C R B z/\RP X.K C R v y) I1 #[K,A,h,E,v,z,r1,l.mono N,e1,λy C B R s2 r2 p2=>#[y,C,B,0,s2,r2,p2]]) λus s2 hz=>?_;let(vs,R,I2,rv,y,C,B,ev,c,r2,p2):=hz;subst ev;let(u,0,ru):=vals1 rv;let h1':=c.cod _ _ _ h1;let h2':=c.cod _ _ _ h2;let h5':=c.cod _ _ _ h5;let oa:=(I2.h _ _ h1').1;let ocr:=(I2.h _ _ h2').1;let occ:=(I2.h _ _ h5').1;let(vs,t,d1',d2'):=h6;calc#[oa,L9 G hr hm hk hb I2 oa #[c',oc,vs,t,0,occ,d1',d2'] #[o,ocr,h3] h4 ru ?_];calc#[C,B,[b,.p v],z,d1,S2,r2,#[vb,_,0,RD.mono c rb,_,_,0,p2,0],e2,λw F3 m3 H3 s3 r3 p3=>?_];let(F4,s4,r4,l4,p4):=p_ 09 e3 r3 p3;let st:=s3.trans s4;let Z1:=r2.len;by_cases hc:(T.take (-z)).all^L4 (-z)=W
  .have et:Ev.trunc z.length T=T.take (-z):=af hc;rw[et]at kk;have hle:-B≤-m3:=by
    let(nn,e):=st.pre;rw[e,bo];lia
   let rt:=r4.trunc (n:=-z) (by rw[<- Z1];calc hle) hc;calc kk w F4 (m3.take (-B)) H3 (N.trans^c.trans st.trunc) ?_ p4;rw[Z1];exact rt
  .have et:Ev.trunc z.length T=T:=ag hc;rw[et]at kk;calc kk w F4 m3 H3 (N.trans^c.trans st) r4 p4
end
def era(H:Hp)(c:13):Hp:=λb=>if b=c then Z else H b
section
variable{K:FG}{F F':Aa}{H N:Hp}{m m':6 13}{S:aK}{c:13}{x:Obj}{y:13}
theorem iy(h:b≠c):era H c b=H b:=ag h
def jn(a:H c=Y (.frz x^.own y))(h:H b=Y o)(n:o≠.frz x^.own y):era H c b=Y o:=by rw[iy];calc h;rintro rfl;rw[a]at h;ext h;calc n rfl
mutual
theorem RP.era(hc:H c=Y (.frz x^.own y)):∀{d:P}{v:V},RP K F H d v->RP K F (era H c) d v
 | .n,_,h=>h
 | .d _,_,h=>h
 | .int _,_,h=>h
 | .str _,_,h=>h
 | .u _,_,h=>by let(a,xs,e,t,r):=h;calc#[a,xs,e,t.imp (λz=>jn hc z ∅) id,cF.era hc r]
 | .l _,_,h=>by let(a,xs,e,t,r):=h;calc#[a,xs,e,#[t.1,jn hc t.2 ∅],cF.era hc r]
 | .ro _,_,h=>by let(a,xs,e,t,r):=h;calc#[a,xs,e,t.imp (λz=>?_) id,cF.era hc r];let(f,o,z):=z;calc#[f,o,jn hc z ∅]
 | .E _ _,_,h=>by let(a,x5,e,f,t,k,r):=h;calc#[a,x5,e,f,jn hc t ∅,k,cF.era hc r]
theorem cF.era(hc:H c=Y (.frz x^.own y)):∀{ds:6 P}{xs:6 V},cF K F H ds xs->cF K F (era H c) ds xs
 | [],_,h=>h
 |_::_,_,h=>by let(x,r,e,h1,h2):=h;calc#[x,r,e,RP.era hc h1,cF.era hc h2]
end
theorem RD.era(a:H c=Y (.frz x^.own y)):∀{d:D}{v:V},RD K F H m d v->RD K F (era H c) m d v
 | .p _,_,h=>RP.era a h
 | .ref _,_,h=>h
theorem c7.era(a:H c=Y (.frz x^.own y)):∀{d:6 D}{s:6 V},c7 K F H m d s->c7 K F (era H c) m d s
 | [],_,h=>h
 |_::_,_,h=>by let(x,r,e,n,k):=h;calc#[x,r,e,RD.era a n,c7.era a k]
def Pd:SO->15
 | .fn (Y _)=>Xk
 |_=>W
def RO.era(s:H c=Y (.frz x^.own y))(p:Pd o=W)(h:RO K F H m a o):RO K F (era H c) m a o:=by
 cases o with
 |l f=>let(w,e,r):=h;calc#[w,jn s e ∅,r.era s]
 |E b f=>let(x5,e,k,r):=h;calc#[x5,jn s e ∅,k,r.era s]
 |fz v=>calc RP.era s (RP K F H v^.ref a|>h)
 |B c b f=>let(C,t,x5,n,e,k,r):=h;calc#[C,t,x5,n,jn s e ∅,k,r.era s]
 |C b f=>let(x5,e,k,q,r):=h;calc#[x5,jn s e ∅,k,q.era s,r.era s]
 |q b f=>let(x5,e,k,r):=h;calc#[x5,jn s e ∅,k,r.era s]
 |fn u=>intro d hd;subst hd;ext p
theorem Rel.era(r:Rel K F H m S)(k:H c=Y (.frz x^.own y))(n:¬F c)(b:c ∉ m)(t:S.all Pd=W):Rel K F (era H c) m S where
 len:=r.len
 nd:=r.nd
 obj:=λi a o s e=>(r.obj i a o s e).era k (bc.mp t o^bq e)
 sep:=r.sep
 trk:=λa h=>by rw[iy (by rintro rfl;calc b h)];exact r.trk a h
 ft:=λa f=>by rw[iy (by rintro rfl;calc n f)];calc r.ft a f
def Stp.era(s:Stp F m (cc H c^.frz x^.own y) F' m' N)(a:H c=Z):Stp F m H F' m'^era N c:=by
 have n:∀{b:13}{o:HO},H b=Y o->b≠c:=λh z=>by rw[z,a]at h;ext h
 have p:∀{b:13}{o:HO},H b=Y o->cc H c (.frz x^.own y) b=Y o:=λh=>(aE^n h).trans h;refine#[s.pre,λb o h k=>?_,s.frz,λb o f h=>?_,λb r h=>?_,λb h=>?_,λb h=>?_,λb h=>?_,λb o u h=>?_]
 .rw [iy^n h];exact s.oth b o (p h) k
 .rw [iy^n h];exact s.frk b o f^p h
 .rw [iy^n h];exact s.tup b r^p h
 .cases q:H b with
  |none=>calc absurd q h
  |some o=>rw[iy^n q];exact s.trk b (by rw[p q];calc λz=>nomatch z)
 .rcases s.nf b h with z|z|z
  .exact .inl z
  .by_cases e:b=c
   .subst e;exact .inr^.inl a
   .rw [aE e]at z;exact .inr^.inl z
  .exact .inr^.inr z
 .rcases s.nm b h with z|z
  .exact .inl z
  .by_cases e:b=c
   .subst e;exact .inr a
   .rw [aE e]at z;exact .inr z
 .rw [iy^n h];calc s.cod b o u^p h
def Rel.swap(r:Rel K F H m S)(n:m[i]? = Y a)(k:RO K F H m a o)(hw:¬o.own):Rel K F H m^S.set i o where
 len:=by rw[de];exact r.len
 nd:=r.nd
 obj:=λj b u h e=>by
  by_cases x:i=j
  .subst x;rw[n]at h;ext h;have s:i < -S:=by rw[<- r.len];exact(bP.mp n).1
   rw[bY s]at e;ext e;exact k
  .rw [aV x]at e;exact r.obj j b u h e
 sep:=λj b u h e w=>by
  by_cases x:i=j
  .subst x;have s:i < -S:=by rw[<- r.len];exact(bP.mp n).1
   rw[bY s]at e;ext e;exact absurd w hw
  .rw [aV x]at e;exact r.sep j b u h e w
 trk:=r.trk
 ft:=r.ft
end
def Gd:SO->SO
 | .fn _=>.fn Z
 |o=>o
def Rel.clr{K:FG}{F:Aa}{H:Hp}{m:6 13}{S:aK}(r:Rel K F H m S):Rel K F H m^S.map Gd where
 len:=by rw[aU];exact r.len
 nd:=r.nd
 obj:=λi a o h e=>by
  rw[cm]at e;cases q:S[i]? with
  |none=>rw[q]at e;ext e
  |some u=>
   rw[q]at e;ext e;have:=r.obj i a u h q
   cases u with
   |fn _=>calc λd z=>nomatch z
   |_=>exact this
 sep:=λi a o h e w=>by
  rw[cm]at e;cases q:S[i]? with
  |none=>rw[q]at e;ext e
  |some u=>
   rw[q]at e;ext e;cases u with
   |fn _=>calc absurd w id
   |_=>exact r.sep i a _ h q w
 trk:=r.trk
 ft:=r.ft
def Qa(S:aK):(S.map Gd).all Pd=W:=by rw[List.all_map];calc bc.mpr λo z=>?_;ext o<;>rfl
def yg(g:GF)(i:9)(a:EV):EE:=λL S=>bw (a L S) λv h=>bw (U i L h) λd z=>bw (g [.p v,.ref (-h)]<|h++[.fn^Y d]) λr x=>Y (r,x.map Gd)
def ND(X:Cx):5:=X.e.qual++Str.ofString "<lambda>"=A2/\X0 λc P=>X.e.code=.ref c/\Aw X.K c P=W/\P ∈ cO X.K
theorem kF.cell{P:18}{w:16}{H:Hp}{h:17}{c:13}{o:Obj}(ok:kF P w H h)(a:H c=Z)(e:h.get? c=Y o):kF P w (cc H c^.frz o^.own c) h:=λb u q=>by
 have n:∀{b:13}{o:HO},H b=Y o->b≠c:=λh z=>by rw[z,a]at h;ext h
 by_cases x:b=c
 .subst x;rw[aO]at q;ext q;exact#[e,o,e]
 .rw [aE x]at q;calc(ok b u q).stay (λy y y z=>z) (λd z=>(aE^n z).trans z) (λd s z=>(aE^n z).trans z) (λd s z=>(aE^n z).trans z)
theorem kF.era{P:18}{w:16}{H:Hp}{h:17}{c:13}{o:Obj}(ok:kF P w H h)(a:H c=Y (.frz o^.own c)):kF P w (era H c) h:=λb u q=>by
 by_cases x:b=c
 .subst x;cases ((Z:7 HO)=Y u|>(af rfl).symm.trans q)
 .rw [iy x]at q;calc(ok b u q).stay (λy y y z=>z) (λd z=>jn a z ∅) (λd s z=>jn a z ∅) (λd s z=>?_);calc jn a z λw=>?_;injection w with _ w;injection w with w;calc x w
section
variable{X:Cx}{e:14}{L:EV}{M p:Pos}{x:Str}{i:9}
set_option tactic.hygienic true in
def N1(G:FnOk X.p X.w X.K X.g X.b qJ k f fd ps^pT X.K g)(hr:Room k X.A)(hg:Gl X x)(hm:X.g x=Y^.ref f)(hk:eT X.K^.ref f=W)(V:Binds X.K fd ps [])
  (lm:ND X) (hN:X.N[i]? = Y^Str.ofString "board") (hK:X.e.scope.names.lookup^Str.ofString "board"=Y .cell) (hfn:X.fn^Str.ofString "board"=W) (ha:PE X e^tV X.K L) (hdb:(x == ("__debug__":Str))=Xk)
  (he:starEach [e,.Lambda (xL p1) (xK p2 p3 p4 p5) ri xJ] X.e=(Xk,eval e X.e)::starEach [.Lambda (xL p1) (xK p2 p3 p4 p5) ri xJ] X.e) :
  PE X (.Call (.Name x p) [e,.Lambda (xL p1) (xK p2 p3 p4 p5) ri xJ] [] M) (tE X.K^yg g i L):=by
 intro x4 s J H Q I #[F,m,a,S,d,S',r,l,q,kk];let(v,Z0,e1,q):=al q;let(b,S0,e0,q):=al q;let(d2,S2,e2,q):=al q;ext q;let(hq,c,P,hcode,C,hP):=lm;calc jL^sP I hg hm ?_ hdb;calc tt (h₀:=X.b) I.o.mod.kin hk ?_ he rfl;rw[he];show wpAny _ _ (spliced ((Xk,eval e X.e)::(Xk,eval (.Lambda (xL p1) (xK p2 p3 p4 p5) ri xJ) X.e)::[])) _ _ _;have eL:a[i]? = Y^Y b:=by
  unfold U at e0;split at e0
  .ext e0;assumption
  .ext e0
 let(vb,hJ,rb):=l.at' i b eL;calc cR (cQ (ha x4 s J H (λv1 H1=>X0 λA E=>Stp F m H A E H1/\Rel X.K A H1 E Z0/\RP X.K A H1 v v1) I #[F,m,a,S,v,Z0,r,l,e1,λv A E H1 s1 r1 p1=>#[A,E,s1,r1,p1]]) λu1 s1 hz=>?_);let(v1,H1,I1,ru1,A,E,st1,r1,pv):=hz;let(t,cl):=I1.o.has (Str.ofString "board")^.inl hK;calc cR (IC (Z0:=p1) (p2:=p2) (p3:=p3) (p4:=p4) (p5:=p5) I1 hcode (GL I1.mod.kin C) hP hq cl λj c' oc pm ctv h' tk B Z1 hH hf0 hc' hlam=>fm #[Z1.kIn,?_]);have hf2:B j=Y (.frz (zc p1 p2 p3 p4 p5 t pm c' ctv)^.own j):=by rcases hH with rfl|⟨_,_,rfl⟩<;>exact aO
 have st2:Stp A E H1 A (E++[j]) B/\Rel X.K A B (E++[j]) (Z0++[.fn Z]):=by
  rcases hH with rfl|⟨hc0,hcf,rfl⟩
  .exact#[df hf0,r1.own hf0 λd z=>nomatch z]
  .have hf1:cc H1 c' (.frz oc^.own P) j=Z:=(aE^b9 hcf).trans hf0;exact#[(gY hc0).trans^df hf1,(r1.new hc0).own hf1 λd z=>nomatch z]
 let(st2,r2):=st2;let(mm,_,hl):=id Z1.loc;let(ub,rub,lk):=hl i _ _ hN hJ (.inr^.inl hK);have hcell:h'.IsCell t^Y ub:=by
  rcases lk with ⟨z,_⟩|⟨_,cr',z1,z2⟩
  .have z:X.e.scope.names.lookup^Str.ofString "board"=Y .local:=z;rw[hK]at z;ext z
  .rw [cl]at z1;ext z1;exact z2
 let(o,ocr,od):=hcell;have D:B t=Z:=Z1.freeC _ _ cl;have N:∀{b:13}{o:HO},B b=Y o->b≠t:=λh z=>by rw[z,D]at h;ext h
 have sab:X.z.heap.objs.size≤t:=Z1.o.cab _ _ hfn cl;have vk:Stp A (E++[j]) B A (E++[j]) (cc B t^.frz o^.own t):=gY D;have hfm:(E++[j])[-Z0]? = Y j:=by rw[<- r1.len,bZ^ar _];simp
 have rb3:RD X.K A (cc B t^.frz o^.own t) (E++[j]) b vb:=RD.mono (st1.trans^st2.trans vk) rb;have up:∀{b:13}{K:HO},B b=Y K->cc B t (.frz o^.own t) b=Y K:=λh=>(aE^N h).trans h;have r3:Rel X.K A (cc B t^.frz o^.own t) (E++[j]) (Z0++[.fn^Y b]):=by
  let z:=(r2.new (o:=.frz o^.own t) D).swap (i:=-Z0) (o:=.fn^Y b) hfm (λd hd=>by ext hd;calc#[vb,#[p1,p2,p3,p4,p5,t,c',P,o,oc,pm,ctv,ub,up hf2,aO,od,rub,up hc',hlam],rb3]) id
  have e:(Z0++[SO.fn Z]).set Z0.length (.fn^Y b)=Z0++[.fn^Y b]:=by simp
  rw[e]at z;exact z
 have hnF:¬A t:=r2.fresh_F D;have hnm:t ∉ E++[j]:=r2.fresh_m D;have hsp:pT X.K g [v1,.ref j] (cc B t^.frz o^.own t) (λv H4=>Q v^era H4 t) E0:=by
  calc#[A,E++[j],[.p v,.ref (-Z0)],Z0++[.fn^Y b],_,S2,r3,#[_,_,0,RP.mono (st2.trans vk) pv,_,_,0,#[j,0,hfm],0],e2,λw F4 m4 H4 JR r4 p4=>?_];have R:H4 t=Y (.frz o^.own t):=JR.cod _ _ _ aO;have hF4:¬F4 t:=λz=>by
   rcases JR.nf t z with z|z|z
   .exact hnF z
   .rw [aO]at z;ext z
   .exact hnm z
  have hm4:t ∉ m4:=λz=>by
   rcases JR.nm t z with z|z
   .exact hnm z
   .rw [aO]at z;ext z
  exact kk w F4 m4 (era H4 t) (st1.trans^st2.trans^JR.era D) (r4.clr.era R hF4 hm4^Qa _)^p4.era R
 have hps:[u1,Value.ref j].length=-ps:=G.len _ _ _ _ hsp;have E3:Env0 X.p X.w X.K X.g X.b X.A X.k { s1 with heap:=h',toks:=tk } (cc B t^.frz o^.own t):=by
  let z:=Z1.env0;refine#[z.frames,z.mod,λb K e=>#[(z.bs b K e).1,?_],z.bsz,z.funs,λb V=>?_,λT hT=>up^z.tab T hT,kF.cell z.h D ocr,z.bare]
  .rw [aE];calc(z.bs b K e).2;rintro rfl;exact absurd (bU (aN e)^aH Z1.o.bsz sab)^gP _
  .rw [aE];calc z.frf b V;rintro rfl;rcases a8.mp^Z1.stkSub b V with V|V
   .exact Z1.cne _ _ cl V
   .let(_,K,ho',_):=Z1.o.funs.mem V;exact absurd (bU (aN ho') sab)^gP _
 calc sW (pW (G.run X.A X.k _ _ #[[u1,.ref j],[]] [u1,.ref j] [v1,.ref j] _ E0 hr E3 (V _ [u1,.ref j] Z1.kIn hps) (.cons ru1^.cons rfl .nil) hsp) λr s' hq=>?_);cases r with
 |error e=>calc False.elim hq
 |ok fl'=>
  cases fl' with
  |ret w=>
   let(v',H4,os,bare,un,hok,rw',q4):=hq;have R:H4 t=Y (.frz o^.own t):=un.frzs t o _ aO;have dn:∀{b:13},b≠t->B b=Z->cc B t (.frz o^.own t) b=Z:=λh z=>(aE h).trans z;refine Z1.after #[v',era H4 t,os,bare,#[λb K e n V hx=>?_,λb K e n V hx=>?_,λb K e n hx=>?_,λb K e hx=>un.there b K e hx,λb xs z=>?_,λb K u z=>?_,λb z=>?_],kF.era hok R,rw',q4]
   .by_cases y:b=t
    .subst y;have e:h'.get? b=Y K:=e;rw[ocr]at e;ext e;exact(hok _ _ R).1
    .exact un.keep b K e (dn y n) V hx
   .by_cases y:b=t
    .subst y;have e:h'.get? b=Y K:=e;rw[ocr]at e;ext e;exact#[o.slots,(hok _ _ R).1]
    .exact un.slot b K e (dn y n) V hx
   .by_cases y:b=t
    .exact af y
    .rw [iy y];exact un.free b K e (dn y n) hx
   .rw [iy^N z];exact un.tups b xs^up z
   .rw [iy^N z];exact un.frzs b K u^up z
   .rw [iy^N z];calc un.tbls b^up z
  |next=>calc False.elim hq
  |brk=>calc False.elim hq
  |cont=>calc False.elim hq
end
end Ev
set_option tactic.hygienic true
namespace PySem
open PySem PyProof.Rows
section
variable{prog:18}{w:16}{A:Around}{E:VP}{R:Result->12->5}
def vr(k:∀c o,h.get? c=Y o->h'.get? c=Y o)(x:(Nk.nest prog w).is h d b):(Nk.nest prog w).is h' d b:=by let(x1,x2,as,r):=x;calc#[x1,x2,as,Nk.stay _ x1 r λc o hc z z=>k c o hc]
inductive PairsN(prog:18)(w:16)(h:17):LV->6 (PyData×13×11)->5
 |nil:PairsN prog w h [] []
 |cons {t b:13}{v:11}{d:PyData}{us:LV}{xs:6 (PyData×13×11)}:IsTup h t^10 [.ref b,v]->(Nk.nest prog w).is h d b->PairsN prog w h us xs->PairsN prog w h (.ref t::us) ((d,b,v)::xs)
def rL(w:16)(h:17)(d:13)(xs:6 (PyData×13×11)):5:=X1 λo es ep=>h.get? d=Y o/\o.ExactDict/\o.data=.dict es ep/\es.toList=xs.map (λx=>(#[Nk.hk w x.1,.ref x.2.1,x.2.2]:DictEntry))/\(xs.map (·.1)).Nodup
theorem rL.of(x:rL w h d xs)(k:∀y ∈ xs,(Nk.nest prog w).is h y.1 y.2.1):h.DictOfH (Nk.nest prog w) d xs:=
 let #[o,es,ep,h1,h2,h3,h4,h5]:=x;#[o,es,ep,h1,h2,h3,h4,k,h5]
theorem rL.to(x:h.DictOfH (Nk.nest prog w) d xs):rL w h d xs:=
 let #[o,es,ep,h1,h2,h3,h4,_,h5]:=x;#[o,es,ep,h1,h2,h3,h4,h5]
theorem rL.at(x:rL w h d b)(k:∀o,h.get? d=Y o->h'.get? d=Y o):rL w h' d b:=
 let #[o,s,e,a,r]:=x;#[o,s,e,k o a,r]
def FD(hh:A.handled=Z)(hu:A.units+09 < cLine)(hd₀:h₀.get? d=Z)(hi₀:h₀.get? it=Z)(hdi:d≠it)(hl:h₀.IsList l items) :
  ∀(rest:6 (PyData×13×11))(i:9)(acc:6 (PyData×13×11))(s:12),(∀b o,h₀.get? b=Y o->s.heap.get? b=Y o)->s.heap.IsListIter it l i->rL w s.heap d acc->(∀y ∈ acc,(Nk.nest prog w).is h₀ y.1 y.2.1)->PairsN prog w h₀ (items.toList.drop i) rest ->
   ((acc++rest).map (·.1)).Nodup->-(acc++rest)≤sizeLine->i+-rest=items.size ->
   (∀h' t',(∀b o,h₀.get? b=Y o->h'.get? b=Y o)->rL w h' d (acc++rest)->R (.ok^.ret .none) { s with heap:=h',toks:=t' }) ->
   codeAny (model prog w) A (.builtin "dict.update.loop" #[[.ref d,.ref it,rawInt i,.none],[]]) R s:=by
 intro rest;induction rest with
 |nil=>
  intro i acc s kp hit hd ha hp hn hz hi h;have hl1:s.heap.IsList l items:=let #[o,ho,r]:=hl;#[o,kp _ _ ho,r]
  calc v_ F.entry_dict_update_loop ?_;rw[sH F.plain_dict_update_loop _];unfold Builtin.«dict.update.loop»;show wpAny _ A.in1 (pyNext^.ref it >>= _) _ _ s;calc ai (DH hh hit hl1 (by simp at hi ⊢;lia) λh1 eb=>?_);show wpAny _ A.in1 (Bz d [] >>= _) _ _ _;rw[dQ]at h;calc ai^aG^aG^h h1 s.toks (λb o e=>eb b o (λz=>by rw[z,hi₀]at e;ext e)^kp b o e) (hd.at λo e=>eb d o hdi e)
 |cons kv rest ih=>
  intro i acc s kp hit hd ha hp hn hz hi h;have hl1:s.heap.IsList l items:=let #[o,ho,r]:=hl;#[o,kp _ _ ho,r]
  generalize er:items.toList.drop i=us at hp;cases hp with
  | @cons t b v k us1 _ hpt hk hps=>
   have hx:items[i]? = Y^.ref t:=by have:=cA (·[0]?) er;exists this
   have er1:items.toList.drop (i+1)=us1:=by rw[<- wO,er];rfl
   calc v_ F.entry_dict_update_loop ?_;rw[sH F.plain_dict_update_loop _];unfold Builtin.«dict.update.loop»;show wpAny _ A.in1 (pyNext^.ref it >>= _) _ _ s;calc ai (Gy hit hl1 hx λh1 hit1 sb1=>?_);have kp1:∀c o,h₀.get? c=Y o->h1.get? c=Y o:=λc o e=>(sb1.2 c (λz=>by rw[z,hi₀]at e;ext e)).trans^kp c o e;let(ot,hot,hct,nt,hdt):=hpt;let hot1:=kp1 _ _ hot;show wpAny _ A.in1 (holding [Value.ref t] _ >>= _) _ _ _;calc ai (ir^ai^Dn ?_);unfold By;calc ai^nP (T:="tuple") #[ot,hot1,hct] ?_;rw[af #[]];calc ai (mf hot1 hdt^aG ?_);show wpAny _ A.in1 (holding [Value.ref b,v]^dictSet d (.ref b) v) _ _ _;let dd:=(hd.at (h':=h1) λo e=>(sb1.2 d hdi).trans e).of (prog:=prog) λy hy=>vr kp1^ha y hy;calc ir (wpAny_dictSet_heap (knd:=Nk.nest prog w) (s:={ s with heap:=h1 }) (hsz:=by simp at hz;lia) (A.in1.units+08 < cLine|>by rw[ka];lia) (vr kp1 hk) dd λh2 dd2 sb2=>?_);have hnk:k ∉ acc.map (·.1):=λhm=>by rw[iQ,j_]at hn;exact hn.2.2 _ hm _ ∅ rfl
   have Z:atKey acc k=Z:=by unfold atKey;rw[B',CQ];intro y hy z;exact hnk^bg.mpr #[y,hy,aS z]
   rw[storedH_new Z]at dd2;calc aG #[v0 F.plain_dict_update_loop _,?_];have e1:acc++(k,b,v)::rest=(acc++[(k,b,v)])++rest:=by simp
   rw[e1]at hn hz h;refine ih (i+1) (acc++[(k,b,v)]) { s with heap:=h2,toks:=s.toks+(Nk.nest prog w).draws k } (λc o e=>(sb2.2 c (λz=>by rw[z,hd₀]at e;ext e)).trans^kp1 c o e) ?_ (.to dd2) (λy hy=>?_) (er1 ▸ hps) hn hz (by simp at hi;lia) λh3 t3 k1 k2=>h h3 t3 k1 k2
   .let(o,ho,r):=hit1;exact#[o,(sb2.2 it^b9 hdi).trans ho,r]
   .rcases cj.mp hy with hy|hy
    .exact ha y hy
    .cases cJ.mp hy;calc hk
def call_dict_nest(i:A.handled=Z)(R:A.units+010 < cLine)(j:s.heap.get? a=Y { cls:=.type "list",data:=.seq t n })(B:PairsN prog w s.heap t.toList x5)
  (K:(x5.map (·.1)).Nodup) (D:-x5≤sizeLine) (N:-x5=t.size)
  (h:∀x g,(∀b o,s.heap.get? b=Y o->x.get? b=Y o)->rL w x s.heap.objs.size x5->Q (.ref (~~~s)) { s with heap:=x,toks:=g }) :
  wpAny (model prog w) A (call (.type "dict") [.ref a]) Q E s:=by
 have fresh:(s.heap.push { cls:=.type "dict",data:=.dict^10 [] }).DictOf (intKind prog w) (~~~s) []:=.new s.heap;have r:rL w (s.heap.push { cls:=.type "dict",data:=.dict^10 [] }) (~~~s) []:=#[_,(10 []),(0),bO _ rfl,#[0,0,0],0,0,sj];have d:∀b o,s.heap.get? b=Y o->(s.heap.push { cls:=.type "dict",data:=.dict^10 [] }).get? b=Y o:=λb o=>bb _;let m:=Dp (prog:=prog) (w:=w) (A:=A.in1) (E:=E) (s:=s) (Value.ref a) (Q₁:=λv z=>v=.ref (~~~s)/\z={ s with heap:=s.heap.push { cls:=.type "dict",data:=.dict^10 [] } }) #[0,0];apply Dl BM (BQ^.ref a) BN m;rintro _ _ ⟨e,y⟩;subst e y;generalize s.heap.push { cls:=.type "dict",data:=.dict^10 [] }=M at fresh d r;let u:=d _ _ j;calc#[fresh.typeIs,BO (.ref (~~~s))^.ref a,?_];unfold Builtin.«dict.__init__» BA;apply ai;apply ai;apply DG fresh.typeIs;apply aG;show wpAny _ _ (rQ "dict.__init__" s.heap.objs.size (.ref a) [] .none) _ _ _;unfold rQ;calc ai^nP (T:="list") #[_,u,0] ?_;rw[af #[]];calc ai (A1 (name:="keys") u rfl rfl rfl F.list_no_keys #[] i λk V q=>?_);rw[af (by rfl)];calc ai^vZ ?_;let p:=q _ _ u;have G:∀b o,s.heap.get? b=Y o->k.get? b=Y o:=λb o e=>q b o^d b o e;have f:rL w k (~~~s) []:=r.at λo e=>q _ _ e;calc ai^Aj (l:=a) (items:=t) #[_,p,0,n,0] ?_;calc aG #[v0 F.plain_dict_update_loop _,?_];have c: ~~~s < k.objs.size:=by let(o,_,_,P,_):=f;exact aN P
 have H:s.heap.get? k.objs.size=Z:=by
  cases e:s.heap.get? k.objs.size with
  |none=>rfl
  |some o=>exact absurd (aN e)^wE.mpr^lw c
 have S:s.heap.get? (~~~s)=Z:=by
  cases e:s.heap.get? (~~~s) with
  |none=>rfl
  |some o=>exact absurd (aN e)^gP _
 refine FD (A:=A.in1) (w:=w) i (by rw[ka];lia) (h₀:=s.heap) (items:=t) (l:=a) S H (bS c) #[_,j,0,n,0] x5 0 [] _ (λb o e=>bb _^G b o e) ?_ (f.at λo e=>bb _ e) (λX C=>nomatch C) (by exists B) (by exists K) (by exists D) () λx g I L=>?_
 .exact#[_,bO _ rfl,0,0]
 .calc#[0,h x g I L]
end
end PySem
namespace Ev
open PySem PySem.Spec PyProof.Rows L2
def yV:6 P->7 (6 P×6 P)
 | []=>Y ([],[])
 | .u [k,v]::r=>(yV r).map λz=>(k::z.1,v::z.2)
 |_=>Z
def M':6 P->15
 | []=>W
 |k::s=>!il k s && M' s
theorem ui(g:bN k=W):∀{ks:6 P},ks.all bN=W->(il k ks=W↔pd k ∈ gM ks)
 | [],_=>by simp[il,gM]
 |q::ks,h=>by rw[cU,av]at h;let ih:=ui g h.2;unfold il at ih ⊢;rw[cV,w8,ih,gM,a8,Nk.eqv_kd _ _ (eE h.1)^eE g];calc#[λz=>z.imp Eq.symm id,λz=>z.imp Eq.symm id]
theorem Io:∀{s:6 P},s.all bN=W->M' s=W->(gM s).Nodup
 | [],_,_=>sj
 |k::s,h,n=>by rw[cU,av]at h;rwa[M',av,oW]at n;calc du.mpr #[λz=>?_,Io h.2 n.2];rw[(ui h.1 h.2).mpr z]at n;cases n.1
def Ft(e:yV (p::t)=Y (b,q)):X2 λk v s x=>p=.u [k,v]/\yV t=Y (s,x)/\b=k::s/\q=v::x:=by
 unfold yV at e;split at e
 .rename_i h;ext h
 .rename_i k v r h;ext h;let(z,a,e):=d6.mp e;ext e;exact#[k,v,z.1,z.2,0,a,0,0]
 .ext e
theorem vp(I:Inv X x4 J H s):∀{f h c:6 P}{m:6 V}{a:LV},cF X.K F H f m->bC m a->yV f=Y (h,c)->h.all bN=W ->
  X0 λ(x5:6 (PyData×V×V))(n:6 (PyData×13×11))=>x5.map (·.1)=gM h/\cF X.K F H h^x5.map (·.2.1)/\cF X.K F H c^x5.map (·.2.2)/\KN x5 n/\PySem.PairsN X.p X.w s.heap a n/\-x5=-a
 | [],_,_,_,_,r,v,e,_=>by ext e;ext r;ext v;calc#[[],[],0,0,0,.nil,.nil,0]
 |p::f,_,_,_,_,r,v,e,g=>by
  let(k,w,h,c,0,o,0,0):=Ft e;rw[cU,av]at g;let(x,Z1,0,D,E):=r;let(t,ys,0,N,L):=D;let(Z0,T,0,q,G):=U6 L;cases v with
  | @cons _ u _ a v1 v2=>cases (u=Value.ref t|>v1);let(B,M,A,_):=I.tuple N.sq;let(Q,R,0,S,K):=vals2 M;let(x5,n,d,i,j,l,y,z):=vp I E v2 o g.2;let(b,0,C):=nZ I g.1 q;cases (Q=Value.ref b|>S);calc#[(pd k,.ref b,T)::x5,(pd k,b,R)::n,by rw[aI,d];rfl,#[_,_,0,q,i],#[_,_,0,G,j],.cons #[0,0,K] l,.cons A C y,by simp[z]]
def ye(L:EV):EE:=λh S=>bw (L h S) λx a=>match x with
 | .l p=>match yV p with
  |some (k,v)=>if (k.all bN && (M' k && few p))=W then Y (.ref (-a),a++[.C k^v.map .p]) else Z
  |none=>Z
 |_=>Z
section
variable{X:Cx}{a:14}{L:EV}{p c1:Pos}
def NV(hc:X.c=W)(hu:X.A.units+010 < cLine)(gd:Gl X "dict")(md:X.g "dict"=Z)(ha:PE X a^tV X.K L)(Z1:starEach [a] X.e=[(Xk,eval a X.e)]) :
  PE X (.Call (.Name "dict" p) [a] [] c1) (tE X.K^ye L):=by
 intro x4 s J H Q I #[F,m,e,S,d,S',r,l,q,k];let(x,M,e1,q):=al q;have hh:X.A.handled=Z:=I.o.hd hc;calc jL^lF I gd md Ci ?_ #[] #[];calc lp ?_ (by rw[Z1];rfl) rfl;rw[Z1];calc cR (cQ (ha x4 s J H (λv w=>X0 λb t=>Stp F m H b t w/\Rel X.K b w t M/\RP X.K b w x v) I #[F,m,e,S,x,M,r,l,e1,λv b t w f y D=>#[b,t,f,y,D]]) λu f #[v,w,g,ru,b,t,E,y,D]=>fm ?_);cases x with
 |l ps=>
  dsimp only at q;cases B:yV ps with
  |none=>rw[B]at q;ext q
  |some z=>
   let(ks,vs):=z;rw[B]at q;dsimp only at q;split at q
   .rename_i c;rwa[av]at c;let(V,g2,g3):=c;ext q;let(A,xs,0,hq,rp):=D;cases (u=Value.ref A|>ru);obtain⟨zl,i,n,Z0,ho⟩:-xs≤sizeLine/\X0 λ(i:LV)(n:9)=>bC xs i/\f.heap.get? A=Y { cls:=.type "list",data:=.seq i.toArray n }:=g.h A _ hq.2
    let(x5,G,K,N,R,P,T,a6):=vp g rp Z0 B V;have el:-x5=-G:=Paired.length P;let e2:=-Z0;have C:G.map (·.1)=x5.map (·.1):=by
     clear K N R T a6 el;induction P with
     |nil=>rfl
     |cons h _ ih=>rw[aI,aI,ih,h.1]
    calc PySem.call_dict_nest hh hu ho (by exists T) (by rw[C,K];calc Io V g2) () (by simp;lia) λh' t' k1 k2=>?_;have j:w (~~~f)=Z:=g.h.fresh^ar _;let(ob,es,ep,h1,h2,h3,h4,h5):=k2;let I3:=g.laid (a:= ~~~f) (o:=.dN x5) (t':=t') k1 (ar _) #[(),jA.mpr^b9^bS g.big,G,P,ob,es,ep,h1,h2,h3,h4,h5];calc#[.ref (~~~f),_,I3,0,k (.ref (~~~f)) b (t++[~~~f]) _ (E.trans^df j) (y.own j #[_,aO,K,cF.kp (df (m:=t) j).kp N,c7.mono (df j)^c7.ofP R]) #[~~~f,0,?_]];rw[<- y.len,bZ^ar _];simp
   .ext q
 |_=>ext q
end
section
variable{X:Cx}{G:Scope}{N':LS}{ts:6 9}{n:9}
def NJ(i:9)(hN:X.N.Nodup)(B:BlockOk X G N' ts n)(h:X.c=W)
  (Z1:uI X T iter f ts n g fc fe) (hg:∀s H C w,PG (inn X G N' s H C w) T^gT X.K g) (hc:∀s H C w,PIfs (inn X G N' s H C w) b fc) (he:∀s H C w,PE (inn X G N' s H C w) t^tV X.K fe)
  (c:closureFor G X.e=pure^om G X.e) (A:swapsWith (.ListComp t [#[T,iter,b,(0)]] G M) (Y^.Name x px) z.line X.e=pure W:=by rfl)
  (hs:∀x,foldedSetIterable iter X.e x=pure x:=by intro _;rfl) (K:X.N[i]? = Y x:=by rfl) (hx:Loc X.e.scope x:=by first|calc Or.inl rfl|calc Or.inr rfl)
  (hf:X.fn x=W\/X.e.scope.names.lookup x=Y .local:=by first|calc .inl rfl|calc .inr rfl|assumption) :
  PS X (.Assign [.Name x px] (.ListComp t [#[T,iter,b,(0)]] G M) z) (ma X.K^az i^e_ f):=by
 intro x4 s J H D I #[F,m,L,S,fl,L',S',r,l,q,k];let(d,S1,e1,q):=al q;ext q;let(v,Z0,e2,e3):=al e1;rw[DF _ _ _ _ A];calc ai (v9^ai ?_);show wpAny _ _ (do let _ <- comprehension (.ListComp t [#[T,iter,b,(0)]] G M) G X.e _ (newList []) Xk (eval iter X.e) (Y^assign (.Name x px) X.e)) _ _ s;let(wi,hi,Z1):=Z1;let(ok,vs,S3,ds,0,j,hw,e4):=Z1 J H F m L S v _ r l e2;ext e3;calc ai (c_ (nh (use:=Y^assign (.Name x px) X.e) (Q:=λZ E=>SP X x4 D .next E) B h hi hg hc he c hs I r l hw j e4 λp F' m' N sx C xs I' V r0 f hC h0 h1 h2 h3 hz=>?_) (λZ E hq=>aG^aG hq) λZ Z e=>e);let(mC,P):=hz;let(st,r'):=zL V r0 f;have rp:RD X.K F' N (m'++[p]) (.ref (-Z0))^.ref p:=#[p,0,by rw[<- r0.len,bZ^ar _];simp];calc Ai^p' I' hN K hx (v:=.ref p) rfl (λE o y=>?_) hf;calc#[mC,?_,λh' sb=>#[_,N,o.letGo sb hC h0 h1 h2 h3,k _ _ (m'++[p]) N st r'^(l.mono st).set (d:=.ref (-Z0)) rp i]];let(a,R,u):=y;calc P.sameBut R ?_;rcases u with u|u
 .rw [u];exact h1
 .calc b9^h2 x a u
end
end Ev
namespace L2
open PySem PySem.Spec PyProof.Rows
def G_(x5:6 (PyData×V×V))(d:PyData)(v:V):6 (PyData×V×V):=x5.map λp=>if p.1=d then (p.1,p.2.1,v) else p
def KN.up(r:KN x5 k)(d:PyData)(n:RelV v u):KN (G_ x5 d v) (k.map^putAt d u):=by
 induction r with
 |nil=>calc .nil
 | @cons p q f qs h t i=>
  calc .cons ?_ i;let(x,a,s):=h;dsimp only;unfold putAt;by_cases e:p.1=d
  .rw [af e,af^x.symm.trans e];exact#[x,a,n]
  .rw [ag e,ag (λz=>e^x.trans z)];calc#[x,a,s]
def KN.lookD(r:KN x5 k)(d:PyData)(a:RelV z w):RelV ((FH x5 d).getD z)^((atKey k d).map (·.2)).getD w:=by
 cases e:FH x5 d with
 |some v=>let(p,h,x):=r.look e;rw[h];calc x
 |none=>
  have n:qq x5 d=Xk:=by unfold FH at e;unfold qq;rw[B',CQ]at e;rw[CK];exact e
  have:=r.has d;rw[n]at this;rw[Option.isSome_eq_false_iff,wu]at this;rw[this];calc a
section
variable{X:Cx}{x4:PN}{J:St}{H:Hp}{s:12}{a:13}{d:PyData}{y v:V}{u r:11}{A:Around}{E:VP}{x5:6 (PyData×V×V)}
def Sf(hu:A.units+09 < cLine)(I:Inv X x4 J H s)(e:H a=Y^.dN x5)(ks:∀p ∈ x5,kE s.heap p.1 p.2.1)(ky:kE s.heap d y)(ry:RelV y u)(rv:RelV v r)(old:qq x5 d=W)
  (h:∀s',Inv X x4 J (cc H a^.dN^G_ x5 d v) s'->Q PUnit.unit s'):wpAny (model X.p X.w) A (setItem (.ref a) u r) Q E s:=by
 let(b,0,k):=ky;cases (u=Value.ref b|>ry);let(z,hd,xs,rel,dd):=zG I.h e ks;have hz:-xs≤sizeLine:=by rw[<- Paired.length rel];exact z
 calc Ak (knd:=Nk.nest X.p X.w) (hsz:=hz) ((A.in1).units+08 < cLine|>by rw[ka];lia) k dd λh' dd' hs=>h _ ?_;obtain⟨p,hp⟩:∃p,atKey xs d=Y p:=by have:=rel.has d;rw[old]at this;exact oF.mp this
 rw[storedH_old hp]at dd';let(q,es,ep,hq,h2,h3,h4,_,h5):=dd';calc pF I (by rw[e];calc True.intro) hs #[q,hq] #[by unfold G_;rw[aU];calc z,hd,_,rel.up d rv,q,es,ep,hq,h2,h3,h4,h5]
def Pf(hu:A.units+09 < cLine)(I:Inv X x4 J H s)(e:H a=Y^.dN x5)(ks:∀p ∈ x5,kE s.heap p.1 p.2.1)(ky:kE s.heap d y)(ry:RelV y u)(rz:RelV z r)
  (h:∀w s',Inv X x4 J H s'->RelV ((FH x5 d).getD z) w->Q w s'):wpAny (model X.p X.w) A (call (.builtin "dict.get") [.ref a,u,r]) Q E s:=by
 let(b,0,k):=ky;cases (u=Value.ref b|>ry);let(_,hd,xs,rel,dd):=zG I.h e ks;calc pV j6 dd.typeIs oD (wq _ _ _) (Gz (Nk.nest X.p X.w) a b hd r) #[show(A.in1).units+08 < cLine by rw[ka];lia,d,xs,k,dd,h _ _ (I.tok _)^rel.lookD d rz]
end
section
variable{X:Cx}{o e f:14}{apos cpos:Pos}{td ty tx:TE}
def Rs(X:Cx)(td ty tx:TE):TE:=λJ H Q=>td J H λx e=>∃a,x=.ref a/\(∃x5,e a=Y^.dN x5)/\ty J e λy n=>tx J n λz h=>X0 λx5 d=>h a=Y^.dN x5/\(∀x4 s,Inv X x4 J h s->kE s.heap d y/\∀p ∈ x5,kE s.heap p.1 p.2.1)/\Q ((FH x5 d).getD z) h
def LF(E:X.A.units+09 < cLine)(D:PE X o td)(B:PE X e ty)(C:PE X f tx)(m:M2 X o "get" apos e f cpos):PE X (.Call (.Attribute o "get" apos) [e,f] [] cpos)^Rs X td ty tx:=by
 intro x4 s J H Q I h;calc wb m.base m.few m.line rX j6 wn (cQ (D x4 s J H _ I h) fun u V #[x,i,c,N,a,K,#[v,k],G]=>?_);subst K;obtain rfl:u=Value.ref a:=N;let(_,_,_,_,w,_,_,p,n,_):=c.h a _ k;calc#[#[w,p,n.1],fun b q=>by ext q;calc#[w,p,n.2.1],?_];rw [m.trees];refine lr rfl^lq^cR (cQ (B x4 V J i _ c G) fun iv Z1 #[y,j,S,R,L]=>
  cR (cQ (C x4 Z1 J j _ S L) λfv Z0 #[z,l,t,T,x5,d,hk,g,M]=>fm ?_))
 let(P,A):=g x4 Z0 t;calc Pf E t hk A P R T λw' s4 F r=>#[_,l,F,r,M]
end
end L2
namespace Ev
open PySem PySem.Spec PyProof.Rows L2
theorem vD(g:bN k=W):∀{x5:6 (PyData×V×V)}{ks:6 P}{vs:6 D}{K:FG}{F:Aa}{H:Hp}{m:6 13},ks.all bN=W->x5.map (·.1)=gM ks->c7 K F H m vs^x5.map (·.2.2)->eR k ks vs=Z->FH x5^pd k=Z
 | [],ks,vs,_,_,_,_,_,_,_,_=>rfl
 |q::x5,ks,vs,K,F,H,m,gs,e,r,h=>by
  cases ks with
  |nil=>ext e
  |cons p ks=>
   cases vs with
   |nil=>obtain⟨⟩:=-r
   |cons d vs=>
    rw[cU,av]at gs;rw[aI,gM]at e;injection e with e1 e2;let(x,r',er,r1,r2):=r;injection er with z1 z2;subst z1 z2;have iff:bH (pd p)^pd k=decide (q.1=pd k):=by rw[e1,jB,Nk.eqv_kd _ _ (eE gs.1)^eE g,oI]
    unfold eR at h;unfold FH;rw[iff]at h;by_cases hq:q.1=pd k
    .rw [af^fx hq]at h;ext h
    .rw [ag (by exists hq)]at h;rw[sD (by exists hq)];calc vD g gs.2 e2 r2 h
@[simp] def ml (o:EE) (k z:EV) (L:Lc) (S:aK):tyV:=bw (o L S) fun d a=>(jP d a).elim Z fun _=>bw (k L a) fun e s=>bw (z L s) fun w h=>(jP d h).elim Z fun t=>if (bN e && t.2.1.all bN)=W then (match eR e t.2.1 t.2.2 with
 |none=>Y (w,h)
 |some (.p x)=>Y (x,h)
 |_=>Z) else Z
section
variable{X:Cx}{M C ap cp:Pos}{o i j B:14}{fo:EE}{fk fv fz:EV}
theorem Ra(hu:X.A.units+09 < cLine)(ho:PE X o^tE X.K fo)(hk:PE X i^tV X.K fk)(E:PE X j^tV X.K fz)(m:M2 X o "get" ap i j cp):PE X (.Call (.Attribute o "get" ap) [i,j] [] cp) (tV X.K^ml fo fk fz):=
 (LF hu ho hk E m).imp' λJ H Q E=>by
  let(F,m,L,S,d,S',r,l,q,k):=E;let(x,f,e1,q):=al q;calc#[F,m,L,S,x,f,r,l,e1,λv Z0 m1 H1 T r1 p1=>?_];cases h:jP x f with
  |none=>rw[h]at q;ext q
  |some t1=>
   let(z,ks1,vs1):=t1;rw[h]at q;let(e,S2,e2,q):=al (bw (fk L f) _=_|>q);let(w,b,e3,q):=al q;let(0,A):=mZ h;let(a,0,hm):=id p1;let(n,C,_,_,_):=r1.obj z a _ hm A;calc#[a,0,#[n,C],?_];calc#[Z0,m1,L,f,e,S2,r1,l.mono T,e2,λy F2 m2 H2 V r2 p2=>?_];calc#[F2,m2,L,S2,w,b,r2,(l.mono T).mono V,e3,λvz F3 m3 H3 Z1 N p3=>?_];cases P:jP (.ref z) b with
   |none=>rw[P]at q;ext q
   |some t=>
    let(j2,G,vs):=t;rw[P]at q;replace q:(if (bN e && G.all bN)=W then (match eR e G vs with|none=>Y (w,b)|some (.p x)=>Y (x,b)|_=>Z) else Z)=Y (d,S'):=q;split at q
    .rename_i c;rw[av]at c;let(e4,B):=mZ P;ext e4;let(a',e5,D):=RD.mono (V.trans Z1) (RD X.K Z0 H1 m1 (.ref z)^.ref a|>p1);ext e5;let(x5,hH,K,rk,rs):=N.obj z a _ D B;let M:=RP.mono Z1 p2;let ss:=T.trans^V.trans Z1;calc#[x5,pd e,hH,λx4 s I=>#[nZ I c.1 M,m9 I c.2 K rk],?_];cases g:eR e G vs with
     |none=>rw[g]at q;ext q;rw[vD c.1 c.2 K rs g];calc k vz F3 m3 H3 ss N p3
     |some u=>
      rw[g]at q;let(w',ew,R):=xI c.1 c.2 K rs g;cases u with
      |p u=>ext q;rw[ew];calc k w' F3 m3 H3 ss N R
      |ref _=>ext q
    .ext q
def Ox(X:Cx)(td ty t:TE):TS:=λD J H=>t J H λv e=>td J e λx n=>ty J n λy h=>X1 λa x5 d=>x=.ref a/\h a=Y^.dN x5/\(∀x4 s,Inv X x4 J h s->kE s.heap d y/\∀p ∈ x5,kE s.heap p.1 p.2.1)/\-x5 < sizeLine/\D.nx J (cc h a^.dN (if qq x5 d=W then G_ x5 d v else x5++[(d,y,v)]))
def HK(m:X.A.units+09 < cLine)(P:PE X o td)(F:PE X i ty)(E:PE X B tv)(A:swapsWith B (Y^.Subscript o i C) M.line X.e=pure Xk):PS X (.Assign [.Subscript o i C] B M)^Ox X td ty tv:=by
 intro x4 s J H D I h;calc Ao (cQ (E x4 s J H _ I h) λr R #[v,w,l,t,L]=>cQ (P x4 R J w _ l L) λu T #[x,j,z,Q,N]=>cQ (F x4 T J j _ z N) λiv V G=>?_) A;let(y,Z0,n,p,a,x5,d,S,e,g,K,q):=G;subst S;obtain rfl:u=Value.ref a:=Q;let(f,b):=g x4 V n;by_cases c:qq x5 d=W
 .rw [af c]at q;exact Sf m n e b f p t c λZ1 k=>#[J,_,k,q]
 .rw [ag c]at q;calc Na m n e b f p t (by exists c) K λZ1 k=>#[J,_,k,q]
def rh(k:P)(y:D):6 P->6 D->6 D
 |q::h,v::s=>(if bH (pd q)^pd k=W then y else v)::rh k y h s
 |_,s=>s
def vl(o:EE)(k v:EV):ES:=λL S=>bw (v L S) λy x=>bw (o L x) λd a=>bw (k L a) λe h=>(jP d h).elim Z λt=>
 if (bN e && (t.2.1.all bN && few t.2.1))=W then Y (.nx,L,h.set t.1 (if il e t.2.1=W then .C t.2.1^rh e (.p y) t.2.1 t.2.2 else .C (t.2.1++[e]) (t.2.2++[.p y]))) else Z
theorem DX{K:FG}{F:Aa}{H:Hp}{m:6 13}{k:P}{y:D}{v:V}(g:bN k=W)(hy:RD K F H m y v):∀{x5:6 (PyData×V×V)}{ks:6 P}{vs:6 D},ks.all bN=W->x5.map (·.1)=gM ks->c7 K F H m vs^x5.map (·.2.2)->c7 K F H m (rh k y ks vs)^(G_ x5 (pd k) v).map (·.2.2)
 | [],ks,vs,gs,e,r=>by
  cases ks with
  |nil=>calc r
  |cons _ _=>ext e
 |q::x5,ks,vs,gs,e,r=>by
  cases ks with
  |nil=>ext e
  |cons p ks=>
   cases vs with
   |nil=>obtain⟨⟩:=-r
   |cons d vs=>
    rw[cU,av]at gs;rw[aI,gM]at e;injection e with e1 e2;let(x,r',er,r1,r2):=r;injection er with z1 z2;subst z1 z2;have iff:bH (pd p)^pd k=decide (q.1=pd k):=by rw[e1,jB,Nk.eqv_kd _ _ (eE gs.1)^eE g,oI]
    let ih:=DX g hy gs.2 e2 r2;unfold rh;rw[iff];by_cases hq:q.1=pd k
    .rw [af^fx hq];calc#[v,_,?_,hy,ih];simp[G_,hq]
    .rw [ag (by exists hq)];calc#[q.2.2,_,?_,r1,ih];simp[G_,hq]
def MZ(x5:6 (PyData×V×V))(d:PyData)(v:V):(G_ x5 d v).map (·.1)=x5.map (·.1)/\(G_ x5 d v).map (·.2.1)=x5.map (·.2.1):=by unfold G_;rw[gU,gU];calc#[sB λp z=>by dsimp;split<;>rfl,sB λp z=>by dsimp;split<;>rfl]
theorem QU(hu:X.A.units+09 < cLine)(ho:PE X o^tE X.K fo)(hk:PE X i^tV X.K fk)(hv:PE X B^tV X.K fv)(hs:swapsWith B (Y^.Subscript o i C) M.line X.e=pure Xk) :
  PS X (.Assign [.Subscript o i C] B M) (ma X.K^vl fo fk fv):=(HK hu ho hk hv hs).imp' λD J H hz=>by
 let(F,m,L,S,fl,L',S',r,l,q,k):=hz;let(y,Z0,e1,q):=al q;let(d,S2,e2,q):=al q;let(e,E,e3,q):=al q;calc#[F,m,L,S,y,Z0,r,l,e1,λv V m1 H1 n r1 p1=>?_];calc#[V,m1,L,Z0,d,S2,r1,l.mono n,e2,λx F2 m2 H2 f r2 p2=>?_];calc#[F2,m2,L,S2,e,E,r2,(l.mono n).mono f,e3,λR A m3 Z1 b K p3=>?_];cases G:jP d E with
 |none=>rw[G]at q;ext q
 |some t=>
  let(j,h,vs):=t;rw[G]at q;replace q:(if (bN e && (h.all bN && few h))=W then Y (Fl.nx,L,E.set j (if il e h=W then .C h^rh e (.p y) h vs else .C (h++[e]) (vs++[.p y]))) else Z)=Y (fl,L',S'):=q;split at q
  .rename_i hc;rwa[av]at hc;let(N,Q,g3):=hc;ext q;let(0,w):=mZ G;let(a,0,u):=RD.mono b p2;let(x5,hH,p,P,rs):=K.obj j a _ u w;have T:∀zs,Z1 a≠Y^.u zs:=λzs z=>by rw[hH]at z;ext z
   have he:qq x5^pd e=il e h:=xR N Q p;have hl:-x5 < sizeLine:=by have h9:-h≤1000000:=aS g3;let h8:=-P;rw[aU]at h8;exact j8 () ((1000000:9) < sizeLine|>by decide)
   calc#[a,x5,pd e,0,hH,λx4 s I=>#[nZ I N p3,m9 I Q p P],hl,?_];rw[he];let st:=gf (o:=.dN (if il e h=W then G_ x5 (pd e) v else x5++[(pd e,R,v)])) K u w trivial T;let g:=RD.mono st (RD.mono b^RD.mono f (RD X.K V H1 m1 (.p y) v|>p1));by_cases c:il e h=W
   .rwa[af c]at st g k ⊢;refine k J A m3 _ (n.trans^f.trans^b.trans st) (K.set u w trivial T #[_,aO,?_,?_,?_])^(((l.mono n).mono f).mono b).mono st
    .rw [(MZ ..).1,p]
    .rw [(MZ ..).2];exact cF.kp st.kp P
    .exact DX N g Q p^c7.mono st rs
   .rwa[ag c]at st g k ⊢;have pk:RP X.K A (cc Z1 a<|.dN<|x5++[(pd e,R,v)]) e R:=RP.kp st.kp p3;refine k J A m3 _ (n.trans^f.trans^b.trans st) (K.set u w trivial T #[_,aO,?_,?_,?_])^(((l.mono n).mono f).mono b).mono st
    .rw [iQ,p,tY];rfl
    .rw [iQ];exact cF.append (cF.kp st.kp P) #[_,_,0,pk,0]
    .rw [iQ];exact c7.append (c7.mono st rs) #[_,_,0,g,0]
  .ext q
end
end Ev
namespace Ev
open PySem PySem.Spec PyProof.Rows L2
def ba(g:GF)(p:6 P):7 P:=match g (p.map .p) [] with
 |some (d,S)=>(toP 09 d S).map (·.1)
 |none=>Z
@[simp] noncomputable def b8:7 (Fl×Lc×aK)->7 (D×aK)
 |some (.rt d,_,S)=>Y (d,S)
 |some (.nx,_,S)=>Y (.p .n,S)
 |_=>Z
def np(p n:9)(b:ES):GF:=λd S=>if -d=p then b8^b (d.map Y++List.replicate (n-d.length) Z) S else Z
theorem Rel.nil{K:FG}{F:Aa}{H:Hp}(f:∀a,F a->H a≠Z):Rel K F H [] []:=#[0,∅,∅,∅,∅,f]
variable{K:FG}{H:Hp}
def tL(h:TF K (ba g) A H a s):pT K g A H a s:=by
 let(F,f,d,t,r,q,k):=h;unfold ba at q;cases e:g (f.map .p) [] with
 |none=>rw[e]at q;ext q
 |some z=>
  let(n,S):=z;rw[e]at q;dsimp only at q;cases x:toP 09 n S with
  |none=>rw[x]at q;ext q
  |some y=>let(p,P):=y;rw[x]at q;ext q;calc#[F,[],f.map .p,[],n,S,.nil t,c7.ofP r,e,λv o B c j w i=>?_];let(b,l,u,_,m):=p_ 09 x w i;calc k v b c ((j.trans l).toGrow u.ft) m
theorem FnOk.pure(G:FnOk a w K m base qJ k f d p^pT K g):FnOk a w K m base qJ k f d p (TF K^ba g):=
 FnOk.imp G λz z z z h=>tL h
def c7.toSt(r:c7 K F H m s k):RL K F H m (L2.start N k) (s.map Y++List.replicate (-N-s.length) Z):=by
 let l:=-r;calc#[by unfold L2.start;simp[l],λi d e=>?_];by_cases h:i < (-s)
 .rw [cG (by exists h),cm]at e;cases q:s[i]? with
  |none=>rw[q]at e;ext e
  |some v=>rw[q]at e;ext e;let(x,a,p):=r.get q;calc#[x,?_,p];unfold L2.start;rw[cG (by simpa[<- l] using h),cm,a];rfl
 .rw [bZ (by exists h),w1]at e;split at e<;>ext e
def Mm{P:18}{w:16}{K:FG}{m:SV}{base:17}{x u:Str}{st:Stmt}{f:13}{n:FuncData}{N a:LS}{k:9}{e:Sp}(F:Fun K x u st f n)(S:FnScope N a^bJ st)(len:∀v H Q E,e v H Q E->-v=-a)
  (b:∀(c:11),ku K c u=W->∀(A:Around) (o:6 Env) (s:12) (H:Hp) (v:6 V) (Q:VK) (E:XK),Room k (A.deeper^envOfC u (bJ st) s.heap.objs.size f c)->e v H Q E ->
   ∃t,qH (zH qJ P w K m base N u (bJ st) f c A o s H E).nox (gi st) t/\t { nx:=λZ r=>Q .n r,rt:=Q } (start N v) H):FnOk P w K m base qJ (k+1) f n a e:=by
 let(B,C,z,kV,g,D,j,c,y,l,0,lk,d):=F.ex;calc SK lk d S len λA o s H v Q E i p=>?_;let(t,h,q):=b c d A o s H v Q E i p;calc#[t,h.nox,q]
def PY{P:18}{w:16}{K:FG}{y:SV}{base:17}{x u:Str}{st:Stmt}{f:13}{i:FuncData}{N p:LS}{k:9}{b:ES}(F:Fun K x u st f i)(S:FnScope N p^bJ st)
  (M:∀(c:11),ku K c u=W->∀(A:Around) (o:6 Env) (s:12) (H:Hp) (E:XK),Room k (A.deeper^envOfC u (bJ st) s.heap.objs.size f c) ->
   qH (zH qJ P w K y base N u (bJ st) f c A o s H E).nox (gi st) (ma K b)):FnOk P w K y base qJ (k+1) f i p^pT K^np p.length N.length b:=by
 refine Mm F S (λV H Q E h=>?_) (λc n A o s H V Q E R h=>#[_,M c n A o s H E R,?_])
 .let(F,m,a,S,d,G,C,r,q,k):=h;rw[<- (-r)];unfold np at q;split at q
  .assumption
  .ext q
 .let(F,m,a,S,d,G,C,r,q,k):=h;unfold np at q;split at q
  .cases e:b (a.map Y++List.replicate (-N-a.length) Z) S with
   |none=>rw[e]at q;ext q
   |some z=>
    let(l,L,I):=z;rw[e]at q;calc#[F,m,_,S,l,L,I,C,r.toSt,e,λZ1 t j g D B Z0=>?_];cases l with
    |nx=>ext q;calc k .n t j g D B rfl
    |bk=>ext q
    |ct=>ext q
    |rt X=>intro v T;ext q;exact k v t j g D B T
  .ext q
def Jf{P:18}{w:16}{K:FG}{g:SV}{base:17}{f:13}{x:FuncData}{p:LS}{k:9}:FnOk P w K g base qJ k f x p (pT K λz z=>Z):=by
 have n:∀v H Q E,¬pT K (λz z=>Z) v H Q E:=λv H Q E h=>by let(F,m,b,S,d,e,_,_,q,_):=h;ext q
 calc#[λv H Q E h=>absurd h^n v H Q E,λA o s H a u v Q E z z z z h=>absurd h^n v H Q E]
structure Tr where
 v:7 EV:=Z
 e:7 EE:=Z
 b:7 EB:=Z
 w:7 EB:=Z
def Tr.ofV(f:7 EV):Tr:=#[f,f.map O,f.map λg=>bT^O g,f.map bV]
def Tr.ofC(f:7 EV):Tr:=#[f,f.map O,f.map bV,f.map bV]
def Tr.ofE(f:7 EE):Tr:=#[f.map vE,f,f.map bT,f.map λg=>bV^vE g]
def Tr.ofB(b w:7 EB):Tr:=#[w.map vB,w.map λg=>O^vB g,b,w]
structure Cn where
 N:LS
 own:LS
 deep:LS
 refs:LS
 ks:6 (Str×NameKind)
 F:Str->7 GF
 G:Str->7 P
 A:Str->Str->15
 M:Str->Str->7 GF
 I:Str->7 GF
 L:7 GF
def mB:LS->Str->7 9
 | [],_=>Z
 |y::r,x=>if y=x then Y 0 else (mB r x).map (·+1)
theorem ua:∀{N:LS}{x:Str}{i:9},mB N x=Y i->N[i]? = Y x
 | [],_,_,h=>by ext h
 |y::r,x,i,h=>by
  unfold mB at h;split at h
  .rename_i e;ext h;simp[e]
  .cases q:mB r x with
   |none=>rw[q]at h;ext h
   |some j=>rw[q]at h;ext h;exists ua q
def qP:∀{N:LS}{x:Str}{i:9},N.Nodup->N[i]? = Y x->mB N x=Y i
 | [],_,_,_,h=>by simp at h
 |y::r,x,0,_,h=>by
  have:y=x:=by exists h
  unfold mB;rw[af this]
 |y::r,x,i+1,d,h=>by
  have a:r[i]? = Y x:=by exists h
  have n:¬y=x:=λe=>by subst e;exact(du.mp d).1^bq a
  unfold mB;rw[ag n,qP (du.mp d).2 a];rfl
def dB(s:6 (Str×NameKind))(x:Str)(l:6 NameKind):15:=match s.lookup x with
 |some k=>l.contains k
 |none=>Xk
def kA(x:Str):15:=!(x == ("__debug__":Str)) && !(x == ("__classdict__":Str))
def Vo:LS:=["listed","known","firm"]
def JS:LS:=["Scene"]
def Wg:Operator->7 (P->P->7 P)
 | .Add=>Y ip
 | .Sub=>Y MB
 | .Mult=>Y jY
 | .FloorDiv=>Y hX
 | .Mod=>Y oj
 | .Pow=>Y P8
 |_=>Z
def QL:CmpOp->7 (P->P->7 P)
 | .Lt=>Y JU
 | .LtE=>Y QH
 | .Gt=>Y No
 | .GtE=>Y S_
 |_=>Z
def Th:CmpOp->7 (D->D->aK->7 P)
 | .Eq=>Y eS
 | .NotEq=>Y Jd
 | .In=>Y gK
 | .NotIn=>Y iw
 | .Is=>Y uR
 | .IsNot=>Y d9
 |_=>Z
def Jx (n:15) (o:CmpOp):7 (D->D->aK->7 P):=if n=W then (match o with
 | .NotIn=>Y i3
 |_=>Z) else Th o
def uL:6^7 EV->7 lf
 | []=>Y ao
 |a::r=>a.bind λf=>(uL r).map λg=>ae f g
def Fi:6^7 EE->7 uH
 | []=>Y b_
 |a::r=>a.bind λf=>(Fi r).map λg=>aB f g
def yC(o:BoolOp):6^7 EB->7 EB
 | []=>Z
 | [a]=>a
 |a::r=>a.bind λf=>(yC o r).map λg=>match o with | .And=>iL f g | .Or=>zS f g
def UP(o:7^7 EV):7 EO:=match o with
 |none=>Y g7
 |some a=>a.map fM
def IJ(t:Str):7 String:=if t=("list":Str) then Y "list" else if t=("bool":Str) then Y "bool" else Z
def JE(f:Str):7 (6 P->7 P):=
 if f=("int":Str) then Y iz else if f=("list":Str) then Y qE else if f=("tuple":Str) then Y gj else if f=("abs":Str) then Y qY else Z
def MM:LS:=["len","isinstance","int","bool","tuple","list","str","max","min","dict","range","abs","enumerate","sorted","all","any","sum","set","zip"]
def vm(a s:6 (Str×NameKind)):6 (Str×NameKind):=a.map λ(n,k)=>if (k == .free && s.lookup n == Y .cell) then (n,.cell) else (n,k)
def Bu(j:Cn)(E:Scope)(o:LS)(Q:6 9)(n:9):15:=
 decide (E.kind=.function) && E.names.all (λx=>x.2 != .cell) && E.names.all (λx=>x.2 != .local ||E.names.lookup x.1 == Y .local)
  && E.names.all (λx=>x.2 != .free ||(E.names.lookup x.1 == Y .free && (j.ks.lookup x.1 == Y .cell ||j.ks.lookup x.1 == Y .free)))
  && decide (j.N=o.take (-j.N)) && decide (-o=-j.N+n)
  && E.names.all (λx=>x.2 != .local ||match mB j.N x.1 with|some i=>Q.contains i|none=>W)
def ue(j:Cn)(f g:Str):15:=decide (f=g) && dB j.ks f [.globalImplicit]
variable{B:Type}
def nX:6 B->7 B
 | [a]=>Y a
 |_=>Z
def o0{B:Type}:6 B->7 (B×B)
 | [a,b]=>Y (a,b)
 |_=>Z
def eQ{B:Type}{l:6 B}{a:B}(h:nX l=Y a):l=[a]:=by
 unfold nX at h;split at h
 .ext h;rfl
 .ext h
def iY{B:Type}{l:6 B}{a b:B}(h:o0 l=Y (a,b)):l=[a,b]:=by
 unfold o0 at h;split at h
 .ext h;rfl
 .ext h
def au{B e:Type}{x:7 B}{f:B->7 e}{r:e}(h:x.bind f=Y r):∃a,x=Y a/\f a=Y r:=by
 cases x with
 |none=>ext h
 |some a=>calc#[a,0,h]
def aF{B e:Type}{x:7 B}{f:B->e}{r:e}(h:x.map f=Y r):∃a,x=Y a/\r=f a:=by
 cases x with
 |none=>ext h
 |some a=>ext h;calc#[a,0,0]
def JT{B:Type}{c:5}[Decidable c]{f:c->7 B}{x:B}(h:(if q:c then f q else Z)=Y x):c:=by
 by_cases q:c
 .exact q
 .rw [dif_neg q]at h;ext h
section
variable{e:14}
def FC(e:14):7 Str:=if h:e.ctorIdx=23 then Expr.Name.elim e h λx z=>Y x else Z
def mw{x:Str}(h:FC e=Y x):∃p,e=.Name x p:=by let c:=JT h;revert h;calc Expr.Name.elim e c λz p h=>by ext h;calc#[p,0]
def mq(e:14):7^Ab:=if h:e.ctorIdx=25 then Expr.Tuple.elim e h λs z z=>Y s else Z
def jN{s:Ab}(h:mq e=Y s):X0 λc p=>e=.Tuple s c p:=by let c:=JT h;revert h;calc Expr.Tuple.elim e c λz c p h=>by ext h;calc#[c,p,0]
def IN(e:14):7^Ab:=if h:e.ctorIdx=24 then Expr.List.elim e h λs z=>Y s else Z
def zm{s:Ab}(h:IN e=Y s):∃p,e=.List s p:=by let c:=JT h;revert h;calc Expr.List.elim e c λz p h=>by ext h;calc#[p,0]
def Tt(e:14):7 (14×Str×Pos):=if h:e.ctorIdx=20 then Expr.Attribute.elim e h λo m p=>Y (o,m,p) else Z
def JM{o:14}{m:Str}{p:Pos}(h:Tt e=Y (o,m,p)):e=.Attribute o m p:=by let c:=JT h;revert h;calc Expr.Attribute.elim e c λz z z h=>by ext h;rfl
def U3(e:14):7 (14×14):=if h:e.ctorIdx=21 then Expr.Subscript.elim e h λo i z=>Y (o,i) else Z
def Ow{o i:14}(h:U3 e=Y (o,i)):∃p,e=.Subscript o i p:=by let c:=JT h;revert h;calc Expr.Subscript.elim e c λz z p h=>by ext h;calc#[p,0]
def V5(e:14):7 (7 14×7 14×7 14):=if h:e.ctorIdx=26 then Expr.Slice.elim e h λi j k z=>Y (i,j,k) else Z
def Ou{i j k:7 14}(h:V5 e=Y (i,j,k)):∃p,e=.Slice i j k p:=by let c:=JT h;revert h;calc Expr.Slice.elim e c λz z z p h=>by ext h;calc#[p,0]
def VM(e:14):7 (14×Ab×Pos):=if h:e.ctorIdx=016 then Expr.Call.elim e h λf a k p=>if k.isEmpty=W then Y (f,a,p) else Z else Z
def Qd{f:14}{a:Ab}{p:Pos}(h:VM e=Y (f,a,p)):e=.Call f a [] p:=by
 let c:=JT h;revert h;exact Expr.Call.elim e c λz z k z h=>by
  cases k with
  |nil=>ext h;rfl
  |cons _ _=>ext h
end
def pI(e:14):7 (Str×Ab):=(VM e).bind λz=>(FC z.1).map λr=>(r,z.2.1)
def hY{e:14}{r:Str}{a:Ab}(h:pI e=Y (r,a)):X0 λp c=>e=.Call (.Name r p) a [] c:=by let((f,s,c),x,n):=au h;let(m,k,b):=aF n;let(p,0):=mw k;ext b;calc#[p,c,Qd x]
def Wi(e:14):7 ((14×Str×Pos)×Ab×Pos):=(VM e).bind λz=>(Tt z.1).map λr=>(r,z.2)
def Nb(j:Cn)(f:Str)(a:14):7 14:=(pI a).bind λz=>(nX z.2).bind λb=>if (decide (f=("list":Str)) && ue j z.1 "range")=W then Y b else Z
def GX(j:Cn)(f:Str)(a:14):7 (14×14):=(pI a).bind λz=>(o0 z.2).bind λb=>if (decide (f=("dict":Str)) && ue j z.1 "zip")=W then Y b else Z
def KZ(j:Cn)(T:14->Tr)(t e:14):7 lf:=(pI e).elim ((T e).v.map d4) λz=>if ue j z.1 "range"=W then (nX z.2).bind λa=>(T a).v.map jE
  else if ue j z.1 "enumerate"=W then (nX z.2).bind λa=>if (mq t).isSome=W then (T a).v.map lG else Z
  else if ue j z.1 "zip"=W then (o0 z.2).bind λa=>if (mq t).isSome=W then (T a.1).v.bind λx=>(T a.2).v.map λy=>A5 x y else Z
  else (T e).v.map d4
def N9(N:LS)(s:6 (Str×NameKind))(k:6 NameKind)(e:14):7 lc:=(FC e).bind λx=>if dB s x k=W then (mB N x).map am else Z
def He(N:LS)(s:6 (Str×NameKind))(k:6 NameKind):Ab->7^6 lc
 | []=>Y []
 |e::r=>(N9 N s k e).bind λg=>(He N s k r).map λh=>g::h
def KY(N:LS)(s:6 (Str×NameKind))(k:6 NameKind)(e:14):7 lc:=(mq e).elim (N9 N s k e) λh=>(He N s k h).map bu
def jQ(e:14):LS:=((mq e).getD [e]).filterMap FC
def rJ(N:LS):LS->LS
 | []=>[]
 |t::r=>if (N.contains t ||(rJ N r).contains t)=W then rJ N r else t::rJ N r
def VN(N:LS)(Q:LS):6 9:=Q.filterMap λt=>mB N t
def kx(j:Cn)(T:Cn->14->Tr)(y t iter:14)(i:Ab)(E:Scope):7 EV:=
 if (Bu j E (j.N++rJ j.N^jQ t) (VN j.N^jQ t) (-(rJ j.N^jQ t)) && decide (j.N++rJ j.N^jQ t).Nodup)=W then
  (KY (j.N++rJ j.N^jQ t) (vm E.names j.ks) [.local] t).bind λg=>
   (match i with | []=>Y dD | [c]=>(T #[j.N++rJ j.N^jQ t,j.own.filter (λx=>!(jQ t).contains x),[],j.refs,vm E.names j.ks,j.F,j.G,j.A,j.M,j.I,Z] c).b|_=>Z).bind λc=>
   (T #[j.N++rJ j.N^jQ t,j.own.filter (λx=>!(jQ t).contains x),[],j.refs,vm E.names j.ks,j.F,j.G,j.A,j.M,j.I,Z] y).v.bind λe=>
   (KZ j (T j) t iter).map λh=>bf h (VN j.N^jQ t) (rJ j.N^jQ t).length g c e
 else Z
def isOwn(j:Cn):9->14->15
 |0,_=>Xk
 |n+1,e=>(FC e).any (j.own.contains ·) ||(U3 e).any (λz=>isOwn j n z.1) ||(Tt e).any (λz=>isOwn j n z.1) ||(Wi e).any λz=>decide (z.1.2.1=("setdefault":Str)) && isOwn j n z.1.1
def M0(a:Ab):7 14:=(o0 a).bind λz=>(IN z.2).bind λe=>if e.isEmpty=W then Y z.1 else Z
def zj(e:14):15:=[20,21,23].contains e.ctorIdx ||(Wi e).isSome
def IL(e:14):15:=(FC e).any (Vo.contains ·)
def Vz(e:14):15:=(FC e).any λx=>decide<|x=("firm":Str)
def Sb(e:14):7 (14×14):=if h:e.ctorIdx=0 then Expr.BoolOp.elim e h λo s y=>(o0 s).bind λz=>if (decide (o.ctorIdx=BoolOp.Or.ctorIdx) && (pI z.1).isSome)=W then Y z else Z else Z
variable{e:14}
def LQ(h:Sb e=Y (a,b)):∃p,e=.BoolOp .Or [a,b] p:=by
 let c:=JT h;revert h;exact Expr.BoolOp.elim e c λo k p h=>by
  let(z,n,x):=au h;split at x
  .rename_i s;ext x;rw[av]at s;cases o with
   |Or=>calc#[p,by rw[iY n]]
   |And=>cases aS s.1
  .ext x
def jk(e:14):15:=e.ctorIdx == 08
def Qv(j:Cn)(o:7 EE)(os:14)(m:Str)(s:6^7 EE)(p c:Pos):Tr:=
 if (zj os && (p.endLine == c.line) && decide (-s < 29))=W then .ofE (o.bind λx=>(Fi s).map λa=>dY j.M x m a) else {}
def Qx(j:Cn)(o:14)(m:Str)(n:Str)(a c:Pos):15:=decide (m=n) && isOwn j 4 o && zj o && (a.endLine == c.line)
def WR(a:Ab):7 (14×Str):=(o0 a).bind λz=>(FC z.2).map λt=>(z.1,t)
def QM(s:6 Comprehension):7 (14×14×Ab):=(nX s).bind λg=>if g.is_async=0 then Y (g.target,g.iter,g.ifs) else Z
def V2(j:Cn)(T:14->Tr)(f:Str)(s:Ab):Tr:=if (dB j.ks f [.globalImplicit] && kA f && !s.isEmpty)=W then
  (j.I f).elim ((j.F f).elim
   ((nX s).elim
    ((WR s).elim {} λz=>if (decide (f=("isinstance":Str)) && dB j.ks z.2 [.globalImplicit])=W then (IJ z.2).elim {} (λt=>.ofV ((T z.1).e.map λx=>nv t x)) else {})
    λa=>if f=("len":Str) then .ofV^(T a).e.map dF else if f=("sorted":Str) then .ofV^(T a).e.map G8 else
     (Nb j f a).elim ((GX j f a).elim (.ofV ((JE f).bind λg=>(uL [(T a).v]).map λx=>aR g x)) λz=>.ofE ((T z.1).v.bind λx=>(T z.2).v.map λy=>Bj x y)) λb=>.ofV^(T b).v.map Rj)
   λg=>if j.refs.contains f=W then .ofV ((Fi (s.map λx=>(T x).e)).map λa=>cw g a) else .ofV ((uL (s.map λx=>(T x).v)).map λa=>aR (ba g) a))
  λg=>.ofE ((Fi (s.map λx=>(T x).e)).map λa=>mH (if JS.contains f=W then gD g else g) f a)
 else if (dB j.ks f [.local] && kA f)=W then (nX s).elim {} λa=>.ofV (j.L.bind λg=>(mB j.N f).bind λi=>(T a).v.map λx=>tF g i x) else {}
def V3(j:Cn)(T:14->Tr)(o:14)(m:Str)(p:Pos)(s:Ab)(c:Pos):Tr:=(nX s).elim
  (if (decide (m=("get":Str)) && zj o && (p.endLine == c.line))=W then (o0 s).elim {} (fun z=>if IL o=W then .ofV ((T o).e.bind fun x=>(T z.1).v.bind fun y=>(T z.2).v.map fun z=>ml x y z) else .ofV ((T o).v.bind fun x=>(T z.1).v.bind fun y=>(T z.2).v.map fun z=>G9 x y z)) else
   (M0 s).elim (Qv j (T o).e o m (s.map λx=>(T x).e) p c) λa=>if Qx j o m "setdefault" p c=W then .ofE ((T o).e.bind λx=>(T a).v.map λy=>pE x y^dI ao) else Qv j (T o).e o m (s.map λx=>(T x).e) p c)
  λa=>if Qx j o m "append" p c=W then .ofE ((T o).e.bind λx=>(T a).e.map λy=>b0 x y) else
   if Qx j o m "extend" p c=W then .ofE ((T o).e.bind λx=>(T a).v.map λy=>hV x y) else
   if (decide (m=("index":Str)) && zj o && (p.endLine == c.line))=W then .ofV ((T o).v.bind λx=>(T a).v.map λy=>AC x y) else
   if (decide (m=("count":Str)) && zj o && (p.endLine == c.line))=W then .ofV ((T o).v.bind λx=>(T a).v.map λy=>N4 x y) else
   (mq a).elim (Qv j (T o).e o m (s.map λx=>(T x).e) p c) λe=>if Qx j o m "get" p c=W then .ofE ((T o).e.bind λx=>(uL (e.map λz=>(T z).v)).map λy=>vJ x y) else Qv j (T o).e o m (s.map λx=>(T x).e) p c
def WA(j:Cn)(T:14->Tr)(t:Cn->14->Tr)(e:14):Tr:=match e with
  | .Constant c _ _=>match c with
   | .int i=>.ofV^Y^vC^.int i
   | .bool i=>.ofV^Y^vC^.d i
   | .none=>.ofV^Y^vC .n
   | .str i=>.ofV^Y^vC^.str i
   |_=>{}
  | .Name x _=>if (dB j.ks x [.local,.cell,.free] && kA x)=W then .ofE^(mB j.N x).map U else
    if (dB j.ks x [.globalImplicit] && kA x)=W then .ofV^(j.G x).map vC else {}
  | .BinOp a p b _=>.ofV ((Wg p).bind λg=>(T a).v.bind λx=>(T b).v.map λh=>aY g x h)
  | .UnaryOp p a _=>match p with
   | .USub=>.ofV^(T a).v.map^Ri F7
   | .Not=>(Sb a).elim (.ofB ((T a).b.map l7)^(T a).w.map l7) λz=>{ Tr.ofV ((T z.1).v.bind λx=>(T z.2).v.map λh=>Fc x h) with b:=Z }
   |_=>{}
  | .BoolOp p s _=>.ofB (yC p (s.map λx=>(T x).b))^yC p (s.map λx=>(T x).w)
  | .Compare a n bs _=>(nX n).elim (.ofC ((o0 n).bind λo=>(o0 bs).bind λz=>(QL o.1).bind λg=>(QL o.2).bind λw=>(T a).v.bind λx=>(T z.1).v.bind λh=>(T z.2).v.map λz=>p9 g w x h z))
    λp=>(nX bs).elim {} λb=>(QL p).elim (.ofC ((Jx (IL b) p).bind λg=>(T a).e.bind λx=>(T b).e.map λh=>a9 g x h)) λg=>.ofC ((T a).v.bind λx=>(T b).v.map λh=>aY g x h)
  | .IfExp c a b _=>if (isOwn j 4 a ||isOwn j 4 b)=W then { Tr.ofE ((T c).b.bind λq=>(T a).e.bind λx=>(T b).e.map λh=>T6 q x h) with b:=Z } else { Tr.ofV ((T c).b.bind λq=>(T a).v.bind λx=>(T b).v.map λh=>Qs q x h) with b:=Z }
  | .Tuple s _ _=>.ofV^(uL (s.map λx=>(T x).v)).map aQ
  | .List s _=>.ofV^(uL (s.map λx=>(T x).v)).map bj
  | .Dict k l _=>if (k.isEmpty && l.isEmpty)=W then { e:=Y nC,v:=Y^vE nC } else {}
  | .Subscript a i _=>(V5 i).elim (if IL a=W then .ofE ((T a).e.bind λx=>(T i).v.map λh=>MA x h) else if isOwn j 4 a=W then (mq i).elim (.ofE ((T a).e.bind λx=>(T i).v.map λh=>nc x h)) λs=>.ofE ((T a).e.bind λx=>(uL (s.map λz=>(T z).v)).map λh=>zD x h) else .ofV ((T a).v.bind λx=>(T i).v.map λh=>aY bA x h))
    λz=>if z.2.2.isSome=W then {} else .ofV ((T a).v.bind λx=>(UP (z.1.map λh=>(T h).v)).bind λh=>(UP (z.2.1.map λz=>(T z).v)).map λz=>lC x h z)
  | .Call r m k d=>if k.isEmpty=W then (FC r).elim ((Tt r).elim {} λz=>V3 j T z.1 z.2.1 z.2.2 m d) (λf=>V2 j T f m) else {}
  | .Attribute o f _=>if zj o=W then .ofE ((T o).e.map λx=>bL j.A x f) else {}
  | .ListComp y u E _=>(QM u).elim {} λz=>.ofV^kx j t y z.1 z.2.1 z.2.2 E
  |_=>{}
def tr(j:Cn):9->14->Tr
 |0,_=>{}
 |n+1,e=>WA j (λx=>tr j n x) (λh x=>tr h n x) e
def Pr(a:Arguments):15:=a.posonlyargs.isEmpty && a.vararg.isNone && a.kwonlyargs.isEmpty && a.kw_defaults.isEmpty && a.kwarg.isNone && a.defaults.isEmpty && (nX a.args).any λx=>x.annotation.isNone && decide (x.arg=Str.ofString "standing")
def L_(h:Pr a=W):∃p,a=xL p:=by rwa[Pr,av,mW,wu,B_,se]at h;let((((((e,s),k),f),b),c),(x,n,p),m,r,t):=h;let(q,v,d,w,u,g,i):=a;ext e;ext s;ext k;ext f;ext b;ext c;cases eQ m;ext r;ext t;calc#[p,0]
def Pq(a:Arguments)(b:14)(s:Scope)(p:Pos):15:=decide (s=ri) && decide (p=xJ) && Pr a && (pI b).any λz=>decide (z.1=Str.ofString "ends_on") && (o0 z.2).any λw=>decide (FC w.1=Y^Str.ofString "board") && decide (FC w.2=Y^Str.ofString "standing")
def Ps(e:14):15:=if h:e.ctorIdx=4 then Expr.Lambda.elim e h Pq else Xk
def Ma(h:Ps e=W):X3 λn k m r t=>e=.Lambda (xL n) (xK k m r t) ri xJ:=by
 have c:e.ctorIdx=4:=by
  by_cases c:e.ctorIdx=4
  .exact c
  .rw [Ps,dif_neg c]at h;ext h
 revert h;refine Expr.Lambda.elim e c λa b s p h=>?_
 have h:Pq a b s p=W:=h;rwa[Pq,av,B_,se]at h;let(((0,0),q),(f,g),v,0,(x,y),d,w,u):=h;let(n,0):=L_ q;let(k,m,0):=hY v;cases iY d;let(r,0):=mw w;let(t,0):=mw u;calc#[_,_,_,_,_,0]
def Pt(j:Cn)(a:Ab):7 14:=(o0 a).bind λz=>if (Ps z.2 && j.deep.contains (Str.ofString "<lambda>") && dB j.ks (Str.ofString "board") [.cell])=W then Y z.1 else Z
def K0(j:Cn)(n _k:9)(e:14):7 EE:=(pI e).elim (tr j n e).e λz=>if (dB j.ks z.1 [.globalImplicit] && kA z.1 && !z.2.isEmpty && j.deep.contains z.1)=W then
   (j.F z.1).elim (tr j n e).e λg=>(Pt j z.2).elim ((Fi (z.2.map λx=>(tr j n x).e)).map λa=>d_ g a) λa=>(mB j.N^Str.ofString "board").bind λi=>(tr j n a).v.map λx=>yg g i x
  else (tr j n e).e
structure XOk(Γ:Cn)(X:Cx):5 where
 hN:X.N=Γ.N
 nd:X.N.Nodup
 ks:X.e.scope.names=Γ.ks
 kd:X.e.scope.kind=.function
 calm:X.c=W
 hu:X.A.units+64 < cLine
 fns:∀x g,Γ.F x=Y g->X2 λk f fd ps=>FnOk X.p X.w X.K X.g X.b qJ k f fd ps^pT X.K g/\Room k X.A/\X.g x=Y^.ref f/\eT X.K^.ref f=W/\Binds X.K fd ps []
 blt:∀x ∈ MM,X.g x=Z
 glb:∀x v,Γ.G x=Y v->uF X.K X.g x v
 attrs:Ui X.K Γ.A
 meths:Uf X Γ.M
 mks:∀c g,Γ.I c=Y g->X3 λC k f fd ps=>k_ X.K c C/\X.g c=Y^.ref C/\Mk X.K C f/\FnOk X.p X.w X.K X.g X.b qJ k f fd ps^pT X.K g/\Room (k+1) X.A/\Binds X.K fd ps (if JS.contains c=W then [.none] else [])
 lam:Γ.deep.contains^Str.ofString "<lambda>"=W->ND X/\∀x,X.fn x=W
 lmf:∀g,Γ.L=Y g->X2 λk f fd ps=>FnOk X.p X.w X.K X.g X.b qJ k f fd ps^pT X.K g/\Room (k+1) X.A/\X.g "ends_on"=Y^.ref f/\eT X.K^.ref f=W/\Binds X.K fd ps []
structure Good(X:Cx)(ex:14)(t:Tr):5 where
 v:∀f,t.v=Y f->PE X ex (tV X.K f)
 e:∀f,t.e=Y f->PE X ex (tE X.K f)
 b:∀f,t.b=Y f->PT X ex (tQ X.K f)
 w:∀f,t.w=Y f->PE X ex (tV X.K^vB f)
section
variable{X:Cx}{e:14}
theorem Good.no:Good X e {}:=#[λz h=>(by ext h),λz h=>(by ext h),λz h=>(by ext h),λz h=>(by ext h)]
def Good.el{B:Type}{o:7 B}{b:Tr}{f:B->Tr}(h:∀a,o=Y a->Good X e^f a)(x:o=Z->Good X e b):Good X e^o.elim b f:=by
 cases o with
 |none=>calc x rfl
 |some a=>calc h a rfl
def Good.ite{c:5}[Decidable c]{a b:Tr}(h:c->Good X e a)(x:Good X e b):Good X e (if c then a else b):=by
 by_cases q:c
 .rw [af q];exact h q
 .rw [ag q];calc x
def JP(e:14):5:=∀env w,isTrue e env w=(do let v <- w;standAt e.pos;holding [v] (truthy v))
theorem Good.ofV{t:7 EV}(h:∀f,t=Y f->PE X e^tV X.K f)(p:JP e):Good X e^.ofV t where
 v:=h
 e:=λf q=>by
  cases t with
  |none=>ext q
  |some g=>ext q;exact NS (h _ rfl)
 b:=λf q=>by
  cases t with
  |none=>ext q
  |some g=>ext q;exact yT (NS^h _ rfl) (p _)
 w:=λf q=>by
  cases t with
  |none=>ext q
  |some g=>ext q;calc ve^h _ rfl
theorem Good.ofC{t:7 EV}(h:∀f,t=Y f->PE X e^tV X.K f)(x:∀f,t=Y f->PT X e (tQ X.K^bV f)):Good X e^.ofC t where
 v:=h
 e:=λf q=>by
  cases t with
  |none=>ext q
  |some g=>ext q;exact NS (h _ rfl)
 b:=λf q=>by
  cases t with
  |none=>ext q
  |some g=>ext q;exact x _ rfl
 w:=λf q=>by
  cases t with
  |none=>ext q
  |some g=>ext q;calc ve^h _ rfl
theorem Good.ofE{t:7 EE}(h:∀f,t=Y f->PE X e^tE X.K f)(p:JP e):Good X e^.ofE t where
 v:=λf q=>by
  cases t with
  |none=>ext q
  |some g=>ext q;exact Q7 (h _ rfl)
 e:=h
 b:=λf q=>by
  cases t with
  |none=>ext q
  |some g=>ext q;exact yT (h _ rfl) (p _)
 w:=λf q=>by
  cases t with
  |none=>ext q
  |some g=>ext q;calc ve^Q7^h _ rfl
theorem Good.ofB{b w:7 EB}(h:∀f,b=Y f->PT X e^tQ X.K f)(hw:∀f,w=Y f->PE X e (tV X.K^vB f)):Good X e^.ofB b w where
 v:=λf q=>by
  cases w with
  |none=>ext q
  |some g=>ext q;exact hw _ rfl
 e:=λf q=>by
  cases w with
  |none=>ext q
  |some g=>ext q;exact NS (hw _ rfl)
 b:=h
 w:=hw
end
def jw{B x:Type}{o:7 B}{b r:x}{f:B->x}(h:o.elim b f=r):(∃a,o=Y a/\f a=r)\/(o=Z/\b=r):=by
 cases o with
 |none=>calc .inr #[0,h]
 |some a=>calc .inl #[a,0,h]
def ig(e:14):5:=∀s env,starEach (e::s) env=(Xk,eval e env)::starEach s env
structure RdE(e:14):5 where
 st:ig e
 ix:ni e
 mr:∀op,behindInMarks op e=Xk
 ms:∀op op' b,lastMarks [op,op'] [b,e]=Xk
 ps:uD e
 sw:jk e=Xk->∀t l env,swapsWith e t l env=pure Xk
 fs:∀env x,foldedSetIterable e env x=pure x
def rd_of{j:Cn}{n:9}{e:14}(h:(tr j n e).v.isSome=W\/(tr j n e).e.isSome=W):RdE e:=by
 cases n with
 |zero=>rcases h with h|h<;>ext h
 |succ n=>ext e<;>first|(rcases h with h|h<;>ext h;done)|calc#[λz z=>rfl,λz z=>rfl,λz=>rfl,λz z z=>rfl,λz z z z=>rfl,λc z z z=>(by first|rfl|ext c),λz z=>rfl]
theorem fU{j:Cn}{n:9}{e:14}{f:EV}(h:(tr j n e).v=Y f):RdE e:=rd_of^.inl (by rw[h];rfl)
theorem tU{j:Cn}{n:9}{e:14}{f:EE}(h:(tr j n e).e=Y f):RdE e:=rd_of^.inr (by rw[h];rfl)
variable{env:Env}{u:Pos}
def lU(h:∀e ∈ s,ig e):(backTo u^starEach s env).any (·.1)=Xk:=by
 induction s with
 |nil=>rfl
 |cons e s i=>
  rw[h e aA s env];have:=i λx a=>h x^aC _ a
  unfold backTo at this ⊢;rw[aI,cV,this];rfl
section
variable{j:Cn}{X:Cx}(h:XOk j X)
include h
def XOk.gl(q:dB j.ks x [.globalImplicit]=W):Gl X x:=by
 unfold Gl Env.kindOf;rw[h.ks];unfold dB at q;cases e:j.ks.lookup x with
 |none=>rw[e]at q;ext q
 |some k=>rw[e]at q;ext k<;>first|rfl|ext q
def XOk.vis(q:dB j.ks x [.local,.cell,.free]=W):MP X.e.scope x:=by
 unfold MP;rw[h.ks];unfold dB at q;cases e:j.ks.lookup x with
 |none=>rw[e]at q;ext q
 |some k=>rw[e]at q;ext k<;>first|calc .inl rfl|calc .inr^.inl rfl|calc .inr^.inr rfl|ext q
def XOk.loc(q:dB j.ks x [.local,.cell]=W):L2.Loc X.e.scope x:=by
 unfold L2.Loc;rw[h.ks];unfold dB at q;cases e:j.ks.lookup x with
 |none=>rw[e]at q;ext q
 |some k=>rw[e]at q;ext k<;>first|calc .inl rfl|calc .inr rfl|ext q
def XOk.local(q:dB j.ks x [.local]=W):X.e.scope.names.lookup x=Y .local:=by
 rw[h.ks];unfold dB at q;cases e:j.ks.lookup x with
 |none=>rw[e]at q;ext q
 |some k=>rw[e]at q;ext k<;>first|rfl|ext q
omit h in
def dW{x:Str}(q:kA x=W):(x == ("__debug__":Str))=Xk/\(x == ("__classdict__":Str))=Xk:=by unfold kA at q;rw[av]at q;calc#[by simpa using q.1,by exists q.2]
def XOk.get(q:mB j.N x=Y i):X.N[i]? = Y x:=by rw[h.hN];exact ua q
omit h in
theorem jC{j:Cn}{n:9}:∀{s:Ab}{k:lf},(∀e ∈ s,Good X e^tr j n e)->uL (s.map λx=>(tr j n x).v)=Y k->PA X s^uM X.K k/\∀e ∈ s,ig e
 | [],k,_,q=>by ext q;calc#[Qi,λy z=>by ext z]
 |e::s,k,g,q=>by
  let(f,b,p):=au q;let(r,v,0):=aF p;let(m,t):=jC (λx a=>g x^aC _ a) v;have b:(tr j n e).v=Y f:=b;have c:ig e:=(fU b).st;calc#[Nz ((g e aA).v f b) m^c _ _,λx a=>?_];rcases a8.mp a with a|a
  .subst a;exact c
  .exact t x a
omit h in
theorem o6{j:Cn}{n:9}:∀{s:Ab}{k:uH},(∀e ∈ s,Good X e^tr j n e)->Fi (s.map λx=>(tr j n x).e)=Y k->PA X s^DP X.K k/\∀e ∈ s,ig e
 | [],k,_,q=>by ext q;calc#[SX,λy z=>by ext z]
 |e::s,k,g,q=>by
  let(f,b,p):=au q;let(r,v,0):=aF p;let(m,t):=o6 (λx a=>g x^aC _ a) v;have b:(tr j n e).e=Y f:=b;have c:ig e:=(tU b).st;calc#[P4 ((g e aA).e f b) m^c _ _,λx a=>?_];rcases a8.mp a with a|a
  .subst a;exact c
  .exact t x a
omit h in
theorem yA{o:BoolOp}{u:Pos}{j:Cn}{n:9}:∀{s:Ab}{f:EB},(∀e ∈ s,Good X e^tr j n e)->yC o (s.map λx=>(tr j n x).b)=Y f->PW X (.BoolOp o s u)^tQ X.K f
 | [],f,_,q=>by ext q
 | [a],f,g,q=>by
  cases o with
  |And=>calc Q3^(g a aA).b f q
  |Or=>calc Uq^(g a aA).b f q
 |a::b::s,f,g,q=>by
  let(x,k,m):=au q;let(r,t,0):=aF m;let i:=yA (s:=b::s) (u:=u) (λx c=>g x^aC _ c) t;cases o with
  |And=>calc Ut ((g a aA).b x k) i
  |Or=>exact Ws ((g a aA).b x k) i
omit h in
theorem yB{o:BoolOp}{u:Pos}{j:Cn}{n:9}:∀{s:Ab}{f:EB},(∀e ∈ s,Good X e^tr j n e)->yC o (s.map λx=>(tr j n x).w)=Y f->PE X (.BoolOp o s u) (tV X.K^vB f)
 | [],f,_,q=>by ext q
 | [a],f,g,q=>Rg^(g a aA).w f q
 |a::b::s,f,g,q=>by
  let(x,k,m):=au q;let(r,t,0):=aF m;let i:=yB (s:=b::s) (u:=u) (λx c=>g x^aC _ c) t;cases o with
  |And=>calc UL ((g a aA).w x k) i
  |Or=>exact Wt ((g a aA).w x k) i
omit h in
def Hd{j:Cn}{n:9}{o:7 14}{f:EO}(g:∀e,Good X e^tr j n e)(q:UP (o.map λy=>(tr j n y).v)=Y f):PO X o^tO X.K f:=by
 cases o with
 |none=>ext q;calc Pc
 |some e=>let(x,a,0):=aF (((tr j n e).v).map fM=Y f|>q);calc Pb^(g e).v x a
def Qe{o:Operator}{g:P->P->7 P}(q:Wg o=Y g):rM X (binaryOp o) g:=by ext o<;>first|(ext q;calc O4)|(ext q;calc RX)|(ext q;calc O3)|(ext q;calc LM)|(ext q;calc R1)|(ext q;calc RY)|ext q
omit h in
def qA{o:CmpOp}{g:P->P->7 P}(q:QL o=Y g):rM X (compareOp o) g:=by ext o<;>first|(ext q;calc Vg)|(ext q;calc Vh)|(ext q;calc Vi)|(ext q;calc Vj)|ext q
def ME{o:CmpOp}{g:D->D->aK->7 P}(q:Th o=Y g):kr X (compareOp o)^rE X.K g:=by ext o<;>first|(ext q;calc R7 h.hu)|(ext q;calc RZ h.hu)|(ext q;calc R5 h.hu)|(ext q;calc Ik h.hu)|(ext q;calc R3)|(ext q;calc Il)|ext q
def zJ(q:Jx k p=Y g):kr X (compareOp p)^rE X.K g:=by
 ext k
 .exact ME h q
 .ext p<;>first|(ext q;calc Ij h.hu)|ext q
def MH{f:Str}{g:GF}{a:14}{s:Ab}{x:lf}{b u:Pos}(t:j.F f=Y g)(hk:dB j.ks f [.globalImplicit]=W)(v:kA f=W)(c:PA X (a::s)^uM X.K x)(n:∀e ∈ a::s,ig e) :
  PE X (.Call (.Name f b) (a::s) [] u) (tV X.K^aR (ba g) x):=by
 let(k,w,i,l,G,d,q,p,m):=h.fns f g t;calc Rf (FnOk.pure G) d (h.gl hk) q p m c (dW v).1 (n a aA _ _) (lU λe r=>n e^aC _ r)
def zQ{f:Str}{g:GF}{a:14}{s:Ab}{x:uH}{c u:Pos}(d:j.F f=Y g)(hk:dB j.ks f [.globalImplicit]=W)(q:kA f=W)(m:PA X (a::s)^DP X.K x)(n:∀e ∈ a::s,ig e) :
  PE X (.Call (.Name f c) (a::s) [] u) (tV X.K^cw g x)/\PE X (.Call (.Name f c) (a::s) [] u) (tE X.K^d_ g x):=by
 let(k,w,i,l,G,v,t,p,r):=h.fns f g d;calc#[KE G v (h.gl hk) t p r m (dW q).1 (n a aA _ _) (lU fun e b=>n e^aC _ b),
  N0 G v (h.gl hk) t p r m (dW q).1 (n a aA _ _) (lU λe b=>n e^aC _ b)]
def Qf{f:Str}{g:6 P->7 P}{a:14}{n:Ab}{b:lf}{m u:Pos}(x:JE f=Y g)(hk:dB j.ks f [.globalImplicit]=W)(k:PA X (a::n)^uM X.K b)(c:∀e ∈ a::n,ig e) :
  PE X (.Call (.Name f m) (a::n) [] u) (tV X.K^aR g b):=by
 let s:=c a aA n X.e;let p:=lU (env:=X.e) (u:=u) λe s=>c e^aC _ s;unfold JE at x;split at x
 .rename_i e;subst e;ext x;exact NN (h.gl hk) (h.blt _ #[]) k s p
 split at x
 .rename_i e;subst e;ext x;exact NM (h.gl hk) (h.blt _ #[]) k s p
 split at x
 .rename_i e;subst e;ext x;exact KC (h.gl hk) (h.blt _ #[]) k s p
 split at x
 .rename_i e;subst e;ext x;exact Q5 (h.gl hk) (h.blt _ #[]) k s p
 .ext x
def PF{t:Str}{T:String}{a:14}{f:EE}{b p u:Pos}(x:IJ t=Y T)(hk:dB j.ks ("isinstance":Str) [.globalImplicit]=W)(k:dB j.ks t [.globalImplicit]=W)(s:PE X a^tE X.K f)(c:ig a) :
  PE X (.Call (.Name "isinstance" b) [a,.Name t p] [] u) (tV X.K^nv T f):=by
 have n:starEach [a,.Name t p] X.e=[(Xk,eval a X.e),(Xk,eval (.Name t p) X.e)]:=by rw[c];rfl
 let m:=h.blt ("isinstance":Str) #[];unfold IJ at x;split at x
 .rename_i e;subst e;ext x;exact MT (.inl rfl) (h.gl hk) m (h.gl k) (h.blt _ #[]) r9 s #[] #[] n
 split at x
 .rename_i e;subst e;ext x;exact MT (.inr rfl) (h.gl hk) m (h.gl k) (h.blt _ #[]) Kt s #[] #[] n
 .ext x
omit h in
def kg{f g:Str}(q:ue j f g=W):f=g/\dB j.ks f [.globalImplicit]=W:=by unfold ue at q;rw[av]at q;calc#[aS q.1,q.2]
def Nc{n:9}{v e:14}{f:lf}(g:∀x,Good X x^tr j n x)(q:KZ j (λx=>tr j n x) v e=Y f):PI X v e^tI X.K f:=by
 have plain:((tr j n e).v.map d4=Y f)->PI X v e^tI X.K f:=λq=>by let(x,s,0):=aF q;exact iS^(g e).v x s
 let H:=jw q;clear q;rcases H with ⟨⟨S,d⟩,z,q⟩|⟨_,q⟩
 .let(F,u,0):=hY z;dsimp only at q;split at q
  .rename_i r;let(0,r):=kg r;let(a,m,k):=au q;clear q;cases eQ m;let(x,s,0):=aF k;exact WX (h.gl r) (h.blt ("range":Str) #[]) ((g a).v x s)^(fU s).st _ _
  .split at q
   .rename_i r;let(0,r):=kg r;let(a,m,k):=au q;clear q;cases eQ m;split at k
    .rename_i t;let(x,s,0):=aF k;let(l,t):=oF.mp t;let(c,p,0):=jN t;exact WY (h.gl r) (h.blt ("enumerate":Str) #[]) ((g a).v x s)^(fU s).st _ _
    .ext k
   .split at q
    .rename_i r;let(0,r):=kg r;let((a,b),m,k):=au q;clear q;cases iY m;split at k
     .rename_i t;let(x,s,o):=au k;let(y,w,0):=aF o;let(l,t):=oF.mp t;let(c,p,0):=jN t;have i:starEach [b] X.e=[(Xk,eval b X.e)]:=(fU w).st _ _;exact iZ (h.gl r) (h.blt ("zip":Str) #[]) ((g a).v x s) ((g b).v y w) (by rw[(fU s).st,i]) i
     .ext k
    .exact plain q
 .exact plain q
omit h in
def E8{f:Str}{a b c:14}(q:GX j f a=Y (b,c)):f="dict"/\X1 λr p x=>a=.Call (.Name r p) [b,c] [] x/\ue j r "zip"=W:=by
 let((r,m),z,n):=au q;let((t,v),k,s):=au n;clear q n;let(p,x,0):=hY z;cases iY k;split at s
 .rename_i e;ext s;rwa[av]at e;exact#[aS e.1,r,p,x,0,e.2]
 .ext s
omit h in
def Ix{f:Str}{a b:14}(q:Nb j f a=Y b):f="list"/\X1 λr p c=>a=.Call (.Name r p) [b] [] c/\ue j r "range"=W:=by
 let((r,m),z,s):=au q;let(t,k,e):=au s;clear q s;let(p,n,0):=hY z;cases eQ k;split at e
 .rename_i x;ext e;rwa[av]at x;exact#[aS x.1,r,p,n,0,x.2]
 .ext e
omit h in
def zh{n:9}{t e:14}{f:lf}(q:KZ j (λx=>tr j n x) t e=Y f)(env:Env)(x:11):foldedSetIterable e env x=pure x:=by
 let s:=jw q;clear q;rcases s with ⟨⟨b,a⟩,z,q⟩|⟨_,q⟩
 .let(p,u,0):=hY z;rfl
 .let(x,k,0):=aF q;calc(fU k).fs _ _
def JF(q:Bu j E o Q n=W):BlockOk X E o Q n:=by
 unfold Bu at q;rwa[av]at q;let((((((f,b),c),m),r),p),v):=q;have s:j.N=o.take (-j.N):=aS r;refine#[aS f,λx a=>?_,λx a l=>?_,λx a l=>?_,?_,?_,λx a l i k=>?_]
 .exists bc.mp b x a
 .have:=bc.mp c x a;rw[l]at this;exists this
 .have:=bc.mp m x a;rw[l]at this;have t:E.names.lookup x.1=Y .free/\(j.ks.lookup x.1=Y .cell\/j.ks.lookup x.1=Y .free):=by exists this
  calc#[t.1,?_];unfold Env.kindOf;rw[h.ks];exact t.2
 .rw [h.hN];exact s
 .rw [h.hN];exact aS p
 .have:=bc.mp v x a;rw[l]at this;have e:mB j.N x.1=Y i:=qP (by rw[<- h.hN];calc h.nd) (by rw[<- h.hN];calc k);rw[e]at this;exists this
end
def M_{X:Cx}{N:LS}{s:6 (Str×NameKind)}{k:6 NameKind}{e:14}{g:lc}(f:X.N=N)(d:X.N.Nodup)(hk:∀x,dB s x k=W->L2.Loc X.e.scope x/\(X.fn x=W\/X.e.scope.names.lookup x=Y .local))(q:N9 N s k e=Y g):X0 λx p=>e=.Name x p/\PG X (.Name x p)^gT X.K g:=by
 let(x,b,h):=au q;clear q;let(p,0):=mw b;split at h
 .rename_i c;let(i,m,0):=aF h;let(a,n):=hk _ c;exact#[x,p,0,PP i d (by rw[f];calc ua m) a n]
 .ext h
def tg_ok{X:Cx}{N:LS}{n:6 (Str×NameKind)}{k:6 NameKind}{e:14}{g:lc}(t:X.c=W)(b:X.N=N)(d:X.N.Nodup)(hk:∀x,dB n x k=W->L2.Loc X.e.scope x/\(X.fn x=W\/X.e.scope.names.lookup x=Y .local))(q:KY N n k e=Y g):PG X e^gT X.K g:=by
 have all:∀{s:Ab}{h:6 lc},He N n k s=Y h->GsOk X s h:=by
  intro s;induction s with
  |nil=>intro h q;ext q;calc .nil
  |cons e s i=>intro h q;let(g,f,m):=au q;let(r,w,0):=aF m;clear q m;let(x,p,0,a):=M_ b d hk f;exact .cons a^i w
 let v:=jw q;clear q;rcases v with ⟨s,z,q⟩|⟨_,q⟩
 .let(c,p,0):=jN z;let(h,f,0):=aF q;exact PM t^all f
 .let(x,p,0,a):=M_ b d hk q;calc a
variable{E:Scope}
def HC(hk:env.scope.kind=.function):(relabel E env).names=vm E.names env.scope.names:=by unfold relabel vm Env.kindOf;rw[hk];simp
variable{j:Cn}{X:Cx}{o:LS}{Q:6 9}{n:9}
theorem XOk.inn(h:XOk j X)(B:BlockOk X E o Q n)(d:o.Nodup)(s:12)(H:Hp)(C:13)(f:6 13) :
  XOk #[o,[],[],j.refs,vm E.names j.ks,j.F,j.G,j.A,j.M,j.I,Z] (Ev.inn X E o s H C f) where
 hN:=rfl
 nd:=d
 ks:=by show(relabel E X.e).names=_;rw[HC h.kd,h.ks]
 kd:=B.kind
 calm:=h.calm
 hu:=h.hu
 fns:=h.fns
 blt:=h.blt
 glb:=h.glb
 attrs:=h.attrs
 meths:=h.meths
 mks:=h.mks
 lam:=λz=>by ext z
 lmf:=λg z=>by ext z
def lN(B:BlockOk X E o Q n)(I:Inv X m J H s):closureFor E X.e=pure^om E X.e:=by
 have all:∀x ∈ E.names,x.2=.free->∃c,X.e.cells.lookup x.1=Y c:=λx v h=>I.o.has x.1 (B.fr x v h).2;unfold closureFor om;have f:∀(l:6 (Str×NameKind))(a:6 (Str×13)),(∀x ∈ l,x.2=.free->∃c,X.e.cells.lookup x.1=Y c) ->
   (forIn l a fun (x:Str×NameKind) (r:6 (Str×13))=>(do
    if x.2 == .free then do
     let c <- cellOf X.e x.1
     pure (ForInStep.yield ((x.1,c)::r))
    else pure^ForInStep.yield r:Sem (ForInStep<|6<|Str×13)))=pure ((((l.filter λx=>x.2 == .free).map λx=>(x.1,(X.e.cells.lookup x.1).getD 0)).reverse)++a):=by
  intro l;induction l with
  |nil=>intro a _;rfl
  |cons x l i=>
   intro a h;rw[mS];by_cases hk:(x.2 == NameKind.free)=W
   .let(c,b):=h x aA (by exists hk);rw[af hk,wZ (p:=λ(x:Str×NameKind)=>x.2 == .free) hk,aI,List.reverse_cons,dS];have q:cellOf X.e x.1=pure c:=by unfold cellOf;rw[b]
    rw[q,b];show(forIn l ((x.1,c)::a) _:Sem _)=_;rw[i ((x.1,c)::a) λy e=>h y^aC _ e];rfl
   .rw [ag hk,wY (p:=λ(x:Str×NameKind)=>x.2 == .free) hk];show(forIn l a _:Sem _)=_;rw[i a λy e=>h y^aC _ e]
 let k:=f E.names [] all;rw [dQ] at k;show (Bind.bind (forIn E.names [] fun (x:Str×NameKind) (r:6 (Str×13))=>(do
    if x.2 == .free then do
     let c <- cellOf X.e x.1
     pure (ForInStep.yield ((x.1,c)::r))
    else pure^ForInStep.yield r:Sem (ForInStep<|6<|Str×13))) λt=>pure t:Sem^6 (Str×13))=_
 rw[k];rfl
def pS(n:9):5:=∀(j:Cn)(X:Cx),XOk j X->∀e,Good X e^tr j n e
theorem XOk.own(h:XOk j X)(o:LS):XOk #[j.N,o,j.deep,j.refs,j.ks,j.F,j.G,j.A,j.M,j.I,j.L] X:=#[h.hN,h.nd,h.ks,h.kd,h.calm,h.hu,h.fns,h.blt,h.glb,h.attrs,h.meths,h.mks,h.lam,h.lmf]
def mI{j:Cn}{X:Cx}(h:XOk j X){n:9}(G:pS n){y t iter:14}{k:Ab}{E:Scope}{f:EV}(q:kx j (λd x=>tr d n x) y t iter k E=Y f) :
  X4 λo Q m g w u=>BlockOk X E o Q m/\uI X t iter f Q m g w u/\(∀s H C p,PG (inn X E o s H C p) t^gT X.K g)/\(∀s H C p,PIfs (inn X E o s H C p) k w)/\(∀s H C p,PE (inn X E o s H C p) y^tV X.K u) /\
   ∀x,foldedSetIterable iter X.e x=pure x:=by
 unfold kx at q;generalize N:j.N++rJ j.N^jQ t=o at q;generalize K:VN j.N^jQ t=Q at q;generalize D:-(rJ j.N^jQ t)=m at q;split at q
 .rename_i b;rw[av]at b;let(l,P,q):=au q;let(c,v,q):=au q;let(e,A,q):=au q;have B:BlockOk X E o Q m:=JF h b.1;have S:o.Nodup:=aS b.2;let i:=λs H C p=>(h.inn B S s H C p).own^j.own.filter (λx=>!(jQ t).contains x)
  have Z1:uI X t iter f Q m l c e/\∀x,foldedSetIterable iter X.e x=pure x:=by let(I,F,0):=aF q;exact#[Ti^Nc h (G j X h) F,λx=>zh F _ x]
  refine#[o,Q,m,l,c,e,B,Z1.1,λs H C p=>?_,λs H C p=>?_,λs H C p=>?_,Z1.2]
  .exact tg_ok h.calm rfl S (λx z=>#[.inl^(i s H C p).local z,.inr^(i s H C p).local z]) P
  .cases k with
   |nil=>ext v;calc PIfs.none
   |cons a r=>
    cases r with
    |nil=>calc PIfs.one^(G _ _ (i s H C p) a).b c v
    |cons _ _=>ext v
  .exact (G _ _ (i s H C p) y).v e A
 .ext q
def zK{j:Cn}{X:Cx}(h:XOk j X){n:9}(G:pS n){y t iter:14}{k:Ab}{E:Scope}{u:Pos}{f:EV}(q:kx j (λr x=>tr r n x) y t iter k E=Y f) :
  PE X (.ListComp y [#[t,iter,k,(0)]] E u) (tV X.K f)/\∀(i:9){x:Str}{c e:Pos},X.N.Nodup->swapsWith (.ListComp y [#[t,iter,k,(0)]] E u) (Y^.Name x c) e.line X.e=pure W->X.N[i]? = Y x->L2.Loc X.e.scope x->(X.fn x=W\/X.e.scope.names.lookup x=Y .local) ->
   PS X (.Assign [.Name x c] (.ListComp y [#[t,iter,k,(0)]] E u) e) (ma X.K^az i^O f):=by
 let(o,Q,m,P,F,K,B,Z1,v,d,w,g):=mI h G q;calc#[λp s J H a I q=>Rb B h.calm Z1 v d w (lN B I) g p s J H a I q,λi x c e N S b z l p s J H D I q=>Q0 i N B h.calm Z1 v d w (lN B I) S g b z l p s J H D I q]
variable{y:14}{f:EV}
def vP(h:XOk j X)(G:pS n)(q:kx j (λe x=>tr e n x) y t iter i E=Y f):PE X (.ListComp y [#[t,iter,i,(0)]] E u) (tE X.K^e_ f):=by let(o,Q,m,g,v,d,B,Z1,k,b,c,r):=mI h G q;calc λp s J H a I q=>NY B h.calm Z1 k b c (lN B I) r p s J H a I q
variable{x:Str}
def Gb(h:XOk j X)(G:pS n)(q:kx j (λb x=>tr b n x) y t iter a E=Y f)(i:9)(z:swapsWith (.ListComp y [#[t,iter,a,(0)]] E u) (Y^.Name x l) k.line X.e=pure W)
  (e:X.N[i]? = Y x) (r:L2.Loc X.e.scope x) (c:X.fn x=W\/X.e.scope.names.lookup x=Y .local):PS X (.Assign [.Name x l] (.ListComp y [#[t,iter,a,(0)]] E u) k) (ma X.K^az i^e_ f):=by
 let(o,Q,m,K,S,F,B,Z1,v,d,w,g):=mI h G q;calc λp s J H D I q=>NJ i h.nd B h.calm Z1 v d w (lN B I) z g e r c p s J H D I q
def Ht{s:Ab}{a:14}(h:M0 s=Y a):∃p,s=[a,.List [] p]:=by
 let((c,b),e,f):=au h;let(m,n,x):=au f;let(p,0):=zm n;split at x
 .rename_i k;ext x;cases mW.mp k;exact#[p,iY e]
 .ext x
def xG{j:Cn}{o:14}{m n:Str}{a c:Pos}(h:Qx j o m n a c=W):m=n/\zj o=W/\(a.endLine == c.line)=W:=by unfold Qx at h;rwa[av]at h;calc#[aS h.1.1.1,h.1.2,h.2]
def di{o:14}{x:Str}{env:Env}(h:zj o=W):attributeBase o x env^eval o env=eval o env:=by
 cases o with
 |Call f a k p=>
  cases f with
  |Name x q=>ext k<;>ext h
  |_=>rfl
 |_=>rfl
def Mp(h:∀e ∈ a,ig e)(l:-a < 29):methodCallForm (-a+-([]:6 Keyword)) (backTo u^starEach a env) (backToKw u^keywordEach [] env)=W:=by
 unfold methodCallForm;let s:=lU (env:=env) (u:=u) h;have n:(backTo u^starEach a env).all (λx=>!x.1)=W:=by
  rw[bc];intro x f;cases b:x.1 with
  |false=>rfl
  |true=>have:(backTo u^starEach a env).any (·.1)=W:=j9.mpr #[x,f,b];rw[s]at this;ext this
 rw[n];have k:(backToKw u^keywordEach [] env)=[]:=rfl;rw[k];simp;lia
def xn{j:Cn}{X:Cx}(h:XOk j X){n:9}(g:∀x,Good X x^tr j n x){o:14}{m:Str}{r:Ab}{p k:Pos}:Good X (.Call (.Attribute o m p) r [] k)^Qv j (tr j n o).e o m (r.map λx=>(tr j n x).e) p k:=by
 unfold Qv;split
 .rename_i c;rwa[av]at c;have l:-r < 29:=by have:=aS c.2;(rw [aU]at this;assumption)
  calc .ofE (λf q=>?_) λz z=>rfl;let(x,t,q):=au q;let(a,v,0):=aF q;let(d,s):=o6 (λe z=>g e) v;let b:=Pj (o:=o) (y:=m) (j:=p) (B:=k) (u:=r) (v:=X.e) (di c.1.1) (Mp s l) c.1.2;cases r with
  |nil=>ext v;calc NP h.meths ((g o).e x t) b
  |cons e i=>exact Q8 h.meths ((g o).e x t) d (s e aA _ _) (lU λy w=>s y^aC _ w) b
 .calc .no
def LZ{j:Cn}{X:Cx}(h:XOk j X){f:Str}{g:GF}{a:14}{s:Ab}{x:uH}{d u:Pos}(i:j.I f=Y g)(hk:dB j.ks f [.globalImplicit]=W)(r:kA f=W)(c:PA X (a::s)^DP X.K x)(v:∀e ∈ a::s,ig e) :
  PE X (.Call (.Name f d) (a::s) [] u) (tE X.K^mH (if JS.contains f=W then gD g else g) f x):=by
 let(C,k,l,y,z,n,m,mk,G,t,b):=h.mks f g i;let p:=v a aA s X.e;let q:=lU (env:=X.e) (u:=u) λe w=>v e^aC _ w;by_cases hd:JS.contains f=W
 .rw [af hd]at b ⊢;exact NQ mk G t (h.gl hk) m n b c (dW r).1 p q
 .rw [ag hd]at b ⊢;calc Q9 mk G t (h.gl hk) m n b c (dW r).1 p q
def Bp{g:6 Comprehension}{t iter:14}{i:Ab}(h:QM g=Y (t,iter,i)):g=[#[t,iter,i,(0)]]:=by
 let((a,b,c,d),x,p):=au h;split at p
 .rename_i hd;ext p;cases (d=0|>hd);exact eQ x
 .ext p
section
variable{j:Cn}{X:Cx}(h:XOk j X){n:9}(g:∀x,Good X x^tr j n x)
include h g
def Oa{f:Str}{z:Ab}{I D:Pos}:Good X (.Call (.Name f I) z [] D)^V2 j (λx=>tr j n x) f z:=by
 calc .ite (λs=>?_)^.ite (λs=>.el (λa u=>?_) λZ=>.no) .no;rotate_left
 .rw [av]at s;cases eQ u;calc .ofV (λf2 q=>?_) λZ Z=>rfl;let(M,q0,q):=au q;let(i,m,q):=au q;let(x,p,0):=aF q;let(k,fe,fd,ps,G,v,N,hk,l):=h.lmf M q0;have Q:MP X.e.scope f:=by
   unfold MP;rw[h.ks];let s:=s.1;unfold dB at s;split at s
   .rename_i R E;rw[E];ext R<;>first|exact .inl rfl|ext s
   .ext s
  exact N2 G v N hk l (Q6 i (h.get m) Q (dW s.2).1 (dW s.2).2) ((g _).v x p)^(fU p).st _ _
 rwa[av,oW]at s;cases z with
 |nil=>cases s.2
 |cons a z=>
 refine .el (λL H=>?_) λZ=>.el (λL H=>.ite (λZ=>?_) ?_) λZ=>.el (λP u=>?_) λZ=>.el (λ#[P,t] u=>?_) λZ=>.no
 .calc .ofE (λf q=>?_) λZ Z=>rfl;let(x,m,0):=aF q;let(d,w):=o6 (λe Z=>g e) m;exact LZ h H s.1.1 s.1.2 d w
 .calc .ofV (λf q=>?_) λZ Z=>rfl;let(x,m,0):=aF q;let(d,w):=o6 (λe Z=>g e) m;exact(zQ h H s.1.1 s.1.2 d w).1
 .calc .ofV (λf q=>?_) λZ Z=>rfl;let(x,m,0):=aF q;let(d,w):=jC (λe Z=>g e) m;exact MH h H s.1.1 s.1.2 d w
 .cases eQ u;refine .ite (λF=>?_)^.ite (λF=>?_) (.el (λb l=>?_) λZ=>.el (λ#[b,c] l=>?_) λZ=>?_)
  .subst F;refine .ofV (λf q=>?_) λZ Z=>rfl
   let(x,m,0):=aF q;exact UD (h.gl s.1.1) (h.blt _ #[]) ((g _).e x m)^(tU m).st _ _
  .subst F;refine .ofV (λf q=>?_) λZ Z=>rfl
   let(x,m,0):=aF q;exact G3 (h.gl s.1.1) (h.blt _ #[]) ((g _).e x m)^(tU m).st _ _
  .let(0,r,Z0,C,0,v):=Ix l;calc .ofV (λf q=>?_) λZ Z=>rfl;let(x,m,0):=aF q;let(0,v):=kg v;exact KD h.calm (h.gl s.1.1) (h.blt _ #[]) (h.gl v) (h.blt _ #[]) ((g _).v x m)^(fU m).st _ _
  .let(0,r,Z0,C,0,v):=E8 l;calc .ofE (λf q=>?_) λZ Z=>rfl;let(x,m,q):=au q;let(y,p,0):=aF q;let(0,v):=kg v;have K:starEach [c] X.e=[(Xk,eval c X.e)]:=(fU p).st _ _;exact NT h.calm (h.gl s.1.1) (h.blt _ #[]) (h.gl v) (h.blt _ #[]) ((g _).v x m) ((g _).v y p) (by rw[(fU m).st,K]) K Ch
  .calc .ofV (λf q=>?_) λZ Z=>rfl;let(o,m,q):=au q;let(x,p,0):=aF q;let(d,w):=jC (s:=[a]) (λe Z=>g e) p;exact Qf h m s.1.1 d w
 .calc .ite (λS=>?_) .no;rw[av]at S;cases aS S.1;let((d,w),A,V):=au u;let(t',B,Z1):=aF V;ext Z1;let(tp,0):=mw B;cases iY A;calc .el (λT m=>?_) λZ=>.no;calc .ofV (λf q=>?_) λZ Z=>rfl;let(x,p,0):=aF q;calc PF h m s.1.1 S.2 ((g _).e x p) (tU p).st
def Ob{o:14}{m:Str}{H:Ab}{l S:Pos}:Good X (.Call (.Attribute o m l) H [] S)^V3 j (λx=>tr j n x) o m l H S:=by
 have F:X.A.units+1 < cLine:=by have:=h.hu;lia
 refine .el (λa d=>?_) λZ=>?_
 .cases eQ d;refine .ite (λs=>?_)^.ite (λs=>?_)^.ite (λs=>?_)^.ite (λs=>?_) (.el (λA P=>.ite (λs=>?_)^xn h g) λZ=>xn h g)
  .let(0,t,v):=xG s;calc .ofE (λf q=>?_) λZ Z=>rfl;let(x,r,q):=au q;let(y,k,0):=aF q;exact KJ ((g _).e x r) ((g _).e y k) ((tU k).st _ _) (di t) v
  .let(0,t,v):=xG s;calc .ofE (λf q=>?_) λZ Z=>rfl;let(x,r,q):=au q;let(y,k,0):=aF q;exact KH ((g _).e x r) ((g _).v y k) ((fU k).st _ _) (di t) v
  .rwa[av]at s;cases aS s.1.1;calc .ofV (λf q=>?_) λZ Z=>rfl;let(x,r,q):=au q;let(y,k,0):=aF q;exact NR h.hu ((g _).v x r) ((g _).v y k) ((fU k).st _ _) (di s.1.2) s.2
  .rwa[av]at s;cases aS s.1.1;calc .ofV (λf q=>?_) λZ Z=>rfl;let(x,r,q):=au q;let(y,k,0):=aF q;exact NX h.hu ((g _).v x r) ((g _).v y k) ((fU k).st _ _) (di s.1.2) s.2
  .let(c,p,0):=jN P;let(0,t,v):=xG s;calc .ofE (λf q=>?_) λZ Z=>rfl;let(x,r,q):=au q;let(y,k,0):=aF q;exact Q' F ((g _).e x r) (jC (λe Z=>g e) k).1 #[di t,0,v,0]
 .refine (.ite (λs=>.el (λ#[a,b] d=>?_) λZ=>.no) (.el (λa d=>.ite (λs=>?_)^xn h g) λZ=>xn h g))
  .rwa[av]at s;cases aS s.1.1;cases iY d;refine .ite (λZ=>.ofV (λf q=>?_) λZ Z=>rfl) (.ofV (λf q=>?_) λZ Z=>rfl)
   .let(x,r,q):=au q;let(y,k,q):=au q;let(z,w,0):=aF q;have i:starEach [b] X.e=[(Xk,eval b X.e)]:=(fU w).st _ _;have u:starEach [a,b] X.e=[(Xk,eval a X.e),(Xk,eval b X.e)]:=by rw[(fU k).st,i]
    exact Ra (by have:=h.hu;lia) ((g _).e x r) ((g _).v y k) ((g _).v z w) #[di s.1.2,by rw[u];rfl,s.2,by rw[u];rfl]
   let(x,r,q):=au q;let(y,k,q):=au q;let(z,w,0):=aF q;have i:starEach [b] X.e=[(Xk,eval b X.e)]:=(fU w).st _ _;have u:starEach [a,b] X.e=[(Xk,eval a X.e),(Xk,eval b X.e)]:=by rw[(fU k).st,i]
   exact NO F ((g _).v x r) ((g _).v y k) ((g _).v z w) #[di s.1.2,by rw[u];rfl,s.2,by rw[u];rfl]
  .let(p,0):=Ht d;let(0,t,v):=xG s;calc .ofE (λf q=>?_) λZ Z=>rfl;let(x,r,q):=au q;let(y,k,0):=aF q;let K:=(fU k).st;calc KG ((g _).e x r) ((g _).v y k) (MW Qi) #[di t,by rw[K];rfl,v,by rw[K];rfl]
end
theorem o5:∀n,pS n
 |0=>λj X h e=>Good.no
 |n+1=>by
  let G:=o5 n;intro j X h e;let g:=G j X h;cases e with
  |Constant c k p=>
   cases c with
   |int i=>calc .ofV (λf q=>by ext q;calc UH) λZ Z=>rfl
   |bool i=>calc .ofV (λf q=>by ext q;calc Wx) λZ Z=>rfl
   |none=>calc .ofV (λf q=>by ext q;calc UA) λZ Z=>rfl
   |str i=>calc .ofV (λf q=>by ext q;calc Uv) λZ Z=>rfl
   |_=>calc .no
  |Name x p=>
   refine .ite (λw=>?_)^.ite (λw=>?_) .no
   .rw [av]at w;calc .ofE (λf q=>?_) λZ Z=>rfl;let(i,r,0):=aF q;exact Q6 i (h.get r) (h.vis w.1) (dW w.2).1 (dW w.2).2
   .rw [av]at w;calc .ofV (λf q=>?_) λZ Z=>rfl;let(v,r,0):=aF q;calc Q_ (h.gl w.1) (h.glb _ v r) (dW w.2).1
  |BinOp a H b p=>calc .ofV (λf q=>?_) λZ Z=>rfl;let(o,r,q):=au q;let(x,t,q):=au q;let(s,d,0):=aF q;calc Wu (Qe h r) ((g _).v x t)^(g _).v s d
  |UnaryOp H a p=>
   cases H with
   |USub=>calc .ofV (λf q=>?_) λZ Z=>rfl;let(x,r,0):=aF q;calc UB^(g _).v x r
   |Not=>
    refine .el (λ#[b,c] C=>?_) λZ=>.ofB (λf q=>?_) λf q=>?_
    .let(p3,0):=LQ C;have l:∀f,((tr j n b).v.bind λx=>(tr j n c).v.map λs=>Fc x s)=Y f->PE X (.UnaryOp .Not (.BoolOp .Or [b,c] p3) p)^tV X.K f:=λf q=>by
      let(x,r,q):=au q;let(s,t,0):=aF q;exact Uz ((g _).v x r)^(g _).v s t
     refine#[l,λf q=>?_,λf q=>(by ext q),λf q=>?_]
     .let(x,r,0):=aF (lh O _=Y f|>q);exact NS^l _ r
     .let(x,r,0):=aF (lh bV _=Y f|>q);exact ve^l _ r
    .let(x,r,0):=aF q;exact Ur^(g _).b x r
    .let(x,r,0):=aF q;calc Uy^(g _).w x r
   |_=>calc .no
  |BoolOp H K p=>calc .ofB (λf q=>(yA (λe Z=>g e) q).pt) λf q=>yB (λe Z=>g e) q
  |Compare a S bs p=>
   refine .el (λH A=>?_) λZ=>?_
   .cases eQ A;refine .el (λb Q=>?_) λZ=>.no
    cases eQ Q;refine .el (λP r=>?_) λZ=>?_
    .have u:∀f,((tr j n a).v.bind λx=>(tr j n b).v.map λs=>aY P x s)=Y f->PE X (.Compare a [H] [b] p)^tV X.K f/\PT X (.Compare a [H] [b] p) (tQ X.K^bV f):=λf q=>by
      let(x,t,q):=au q;let(s,d,0):=aF q;exact#[UK (qA r) ((g _).v x t) ((g _).v s d)^(fU d).mr _,Us (qA r) ((g _).v x t) ((g _).v s d)^(fU d).mr _]
     exact .ofC (λf q=>(u f q).1) λf q=>(u f q).2
    .have u:∀f,((Jx (IL b) H).bind λg=>(tr j n a).e.bind λx=>(tr j n b).e.map λs=>a9 g x s)=Y f->PE X (.Compare a [H] [b] p)^tV X.K f/\PT X (.Compare a [H] [b] p) (tQ X.K^bV f):=λf q=>by
      let(o,r,q):=au q;let(x,t,q):=au q;let(s,d,0):=aF q;exact#[Rc (zJ h r) ((g _).e x t) ((g _).e s d)^(tU d).mr _,Q2 (zJ h r) ((g _).e x t) ((g _).e s d)^(tU d).mr _]
     exact .ofC (λf q=>(u f q).1) λf q=>(u f q).2
   .have u:∀f,((o0 S).bind λo=>(o0 bs).bind λz=>(QL o.1).bind λg=>(QL o.2).bind λP=>(tr j n a).v.bind λx=>(tr j n z.1).v.bind λs=>(tr j n z.2).v.map λz=>p9 g P x s z)=Y f->PE X (.Compare a S bs p)^tV X.K f/\PT X (.Compare a S bs p) (tQ X.K^bV f):=λf q=>by
     let((o1,o2),L,D):=au q;let((b,c),M,Z0):=au D;clear q D;cases iY L;cases iY M;let(o,r,q):=au Z0;let(o',t,q):=au q;let(x,d,q):=au q;let(s,I,q):=au q;let(z,F,0):=aF q;exact#[NZ (qA r) (qA t) ((g _).v x d) ((g _).v s I) ((g _).v z F)^(fU F).ms _ _ _,NK (qA r) (qA t) ((g _).v x d) ((g _).v s I) ((g _).v z F)^(fU F).ms _ _ _]
    calc .ofC (λf q=>(u f q).1) λf q=>(u f q).2
  |IfExp c a b p=>
   refine .ite (λZ=>?_) ?_
   .have l:∀f,((tr j n c).b.bind λq=>(tr j n a).e.bind λx=>(tr j n b).e.map λs=>T6 q x s)=Y f->PE X (.IfExp c a b p)^tE X.K f:=λf q=>by
     let(o,r,q):=au q;let(x,t,q):=au q;let(s,d,0):=aF q;exact UI ((g _).b o r) ((g _).e x t)^(g _).e s d
    refine#[λf q=>?_,l,λf q=>(by ext q),λf q=>?_]
    .let(x,r,0):=aF (lh vE _=Y f|>q);exact Q7^l _ r
    .let(x,r,0):=aF (lh (λg=>bV^vE g) _=Y f|>q);exact ve^Q7^l _ r
   have l:∀f,((tr j n c).b.bind λq=>(tr j n a).v.bind λx=>(tr j n b).v.map λs=>Qs q x s)=Y f->PE X (.IfExp c a b p)^tV X.K f:=λf q=>by let(o,r,q):=au q;let(x,t,q):=au q;let(s,d,0):=aF q;exact Ww ((g _).b o r) ((g _).v x t)^(g _).v s d
   refine#[l,λf q=>?_,λf q=>(by ext q),λf q=>?_]
   .let(x,r,0):=aF (lh O _=Y f|>q);exact NS^l _ r
   .let(x,r,0):=aF (lh bV _=Y f|>q);calc ve^l _ r
  |Tuple K c p=>calc .ofV (λf q=>?_) λZ Z=>rfl;let(x,r,0):=aF q;calc Uu (jC (λe Z=>g e) r).1
  |List K p=>calc .ofV (λf q=>?_) λZ Z=>rfl;let(x,r,0):=aF q;calc UC (jC (λe Z=>g e) r).1
  |Dict Z1 vs p=>calc .ite (λw=>?_) .no;rw[av]at w;cases mW.mp w.1;cases mW.mp w.2;calc#[λf q=>(by ext q;calc Q7 G5),λf q=>(by ext q;calc G5),λf q=>(by ext q),λf q=>(by ext q)]
  |Subscript a i p=>
   have B:X.A.units+1 < cLine:=by have:=h.hu;lia
   refine .el (λ#[lo,hi,st] T=>?_) λZ=>.ite (λZ=>?_)^.ite (λZ=>.el (λK N=>?_) λZ=>?_) ?_
   .let(p,0):=Ou T;cases st with
    |some _=>calc .no
    |none=>
     refine .ite (λZ=>.no) (.ofV (λf q=>?_) λZ Z=>rfl)
     .let(x,r,q):=au q;let(s,t,q):=au q;let(z,d,0):=aF q;exact Uw ((g _).v x r) (Hd g t)^Hd g d
   .calc .ofE (λf q=>?_) λZ Z=>rfl;let(x,r,q):=au q;let(s,t,0):=aF q;exact UF (by have:=h.hu;lia) ((g _).e x r) ((g _).v s t) (fU t).ix
   .let(c,p,0):=jN N;calc .ofE (λf q=>?_) λZ Z=>rfl;let(x,r,q):=au q;let(s,t,0):=aF q;exact UE B ((g _).e x r) (jC (λe Z=>g e) t).1 λZ Z=>rfl
   .calc .ofE (λf q=>?_) λZ Z=>rfl;let(x,r,q):=au q;let(s,t,0):=aF q;exact UG B ((g _).e x r) ((g _).v s t) (fU t).ix
   .calc .ofV (λf q=>?_) λZ Z=>rfl;let(x,r,q):=au q;let(s,t,0):=aF q;calc Wv B ((g _).v x r) ((g _).v s t) (fU t).ix
  |Call fn as Z1 cp=>
   calc .ite (λhk=>?_) .no;cases mW.mp hk;refine .el (λf R=>?_) λZ=>.el (λ#[o,m,ap] A=>?_) λZ=>.no
   .let(fp,0):=mw R;exact Oa h g
   .cases JM A;calc Ob h g
  |Attribute o f p=>calc .ite (λw=>?_) .no;calc .ofE (λf q=>?_) λZ Z=>rfl;let(x,r,0):=aF q;calc UJ h.attrs ((g _).e x r)^di w
  |ListComp y gs E p=>calc .el (λ#[tg,iter,V] C=>?_) λZ=>.no;cases Bp C;calc .ofV (λf q=>(zK h G q).1) λZ Z=>rfl
  |_=>calc .no
def o7{j:Cn}{X:Cx}(h:XOk j X){n k:9}{e:14}{f:EE}(q:K0 j n k e=Y f):PE X e^tE X.K f/\(jk e=Xk->∀t l env,swapsWith e t l env=pure Xk)/\ig e:=by
 let g:=o5 n j X h;have v:∀{e},(tr j n e).e=Y f->PE X e^tE X.K f/\(jk e=Xk->∀t l env,swapsWith e t l env=pure Xk)/\ig e:=λq=>#[(g _).e f q,(tU q).sw,(tU q).st];let I:=jw q;clear q;rcases I with ⟨⟨Q,r⟩,z,q⟩|⟨_,q⟩
 .let(T,N,0):=hY z;dsimp only at q;split at q
  .rename_i c;rwa[av,oW]at c;rcases jw q with ⟨F,w,q⟩|⟨_,q⟩
   .calc#[?_,(λZ Z Z Z=>rfl),λZ Z=>rfl];cases r with
    |nil=>cases c.1.2
    |cons a L=>
     rcases jw q with ⟨b,A,d⟩|⟨_,q⟩
     .let((M,V),H,p):=au A;split at p
      .rename_i y;ext p;rwa[av]at y;cases iY H;let(p,Z1,Z0,p4,p5,0):=Ma y.1.1;let(i,qi,d):=au d;let(x,s,0):=aF d;let(k,f,R,ps,G,C,B,hk,P):=h.fns _ F w;let(E,m):=h.lam y.1.2;have K:X.e.scope.names.lookup^Str.ofString "board"=Y .cell:=by
        rw[h.ks];let z:=y.2;unfold dB at z;split at z
        .rename_i D S;rw[S];ext D<;>first|rfl|ext z
        .ext z
       exact N1 G C (h.gl c.1.1.1) B hk P E (h.get qi) K (m _) ((g _).v x s) (dW c.1.1.2).1^(fU s).st _ _
      .ext p
     .let(x,s,0):=aF q;let(u,o):=o6 (λe Z=>g e) s;exact(zQ h w c.1.1.1 c.1.1.2 u o).2
   .exact v q
  .exact v q
 .calc v q
def yI(T:Stmt->7 ES):6 Stmt->7 ES
 | []=>Y cN
 | [s]=>T s
 |s::r=>(T s).bind λf=>(yI T r).map λg=>ah f g
def PH(e:14):7 Unit:=if h:e.ctorIdx=06 then Expr.Dict.elim e h λk v z=>if (k.isEmpty && v.isEmpty)=W then Y PUnit.unit else Z else Z
def Ey{e:14}{u:Unit}(h:PH e=Y u):∃p,e=.Dict [] [] p:=by
 let c:=JT h;revert h;exact Expr.Dict.elim e c λk v p h=>by
  cases k with
  |cons _ _=>ext h
  |nil=>
   cases v with
   |cons _ _=>ext h
   |nil=>calc#[p,0]
def W'(j:Cn)(e:14):7 14:=(pI e).bind λz=>(nX z.2).bind λa=>if ue j z.1 "dict"=W then Y a else Z
def Tf(j:Cn)(e:14):7 14:=(pI e).bind λz=>(nX z.2).bind λa=>if ue j z.1 "list"=W then Y a else Z
def V1(j:Cn)(n:9)(t v:14):7 ES:=
 (FC t).elim ((U3 t).elim ((Tt t).elim (if jk v=W then Z else (mq t).bind fun _=>if (mq v).isSome=W then Z else (KY j.N j.ks [.local,.cell] t).bind fun g=>(tr j n v).v.map fun z=>uO g z)
   λz=>if ((PH v).isSome && j.deep.contains z.2.1)=W then (tr j n z.1).e.map λx=>jv j.A x z.2.1 Bk else (tr j n z.1).e.bind λx=>(K0 j n 05 v).map λy=>jv j.A x z.2.1 y)
  λz=>if jk v=W then Z else (tr j n z.1).e.bind λx=>(tr j n v).v.bind λw=>if IL z.1=W then (tr j n z.2).v.map λy=>(if Vz z.1=W then vl x y w else tP x y w) else (mq z.2).elim ((tr j n z.2).v.map λy=>jO x y w) λe=>(uL (e.map λz=>(tr j n z).v)).map λy=>Hv x y w)
 λx=>if dB j.ks x [.local,.cell]=W then (mB j.N x).bind λi=>(if Vo.contains x=W then W' j v else Z).elim ((if Vo.contains x=W then PH v else Z).elim (if (j.deep.contains x && !jk v)=W then (K0 j n 05 v).map^az i else (if j.own.contains x=W then Tf j v else Z).elim ((if j.own.contains x=W then IN v else Z).elim (if (j.own.contains x && jk v)=W then (tr j n v).v.map λf=>az i^e_ f else (tr j n v).e.map^az i) λe=>(uL (e.map λy=>(tr j n y).v)).map λa=>az i^dI a) λa=>(tr j n a).v.map λf=>az i^vK f) λu=>Y^az i yf) λa=>(tr j n a).v.map λf=>az i^ye f
  else Z
def Sh(e:14):7 (14×14):=if h:e.ctorIdx=2 then Expr.BinOp.elim e h λa o b z=>if o.ctorIdx=Operator.Mult.ctorIdx then Y (a,b) else Z else Z
def LW(h:Sh e=Y (a,b)):∃p,e=.BinOp a .Mult b p:=by
 let c:=JT h;revert h;exact Expr.BinOp.elim e c λx o s p h=>by
  cases o with
  |Mult=>ext h;calc#[p,0]
  |_=>ext h
def UO(j:Cn)(n:9)(e:14):7 ES:=if jk e=W then (tr j n e).v.map λf=>aD^e_ f else
 (Sh e).elim ((Tf j e).elim ((K0 j n 05 e).map aD) λa=>(tr j n a).v.map λf=>aD^vK f) λz=>(tr j n z.1).v.bind λx=>(tr j n z.2).v.map λy=>aD^Mz x y
def N7(j:Cn):9->Stmt->7 ES
 |0,_=>Z
 |n+1,st=>match st with
  | .Assign Q v _=>(nX Q).bind λt=>V1 j n t v
  | .Return r _=>r.bind λe=>if j.own.contains ("return":Str)=W then UO j n e else (tr j n e).e.map aD
  | .AugAssign t p v _=>(FC t).bind λx=>if (dB j.ks x [.local,.cell] && decide (p.ctorIdx=Operator.Add.ctorIdx))=W then (mB j.N x).bind λi=>(tr j n v).v.map^xy i else Z
  | .Raise ..=>Y xx
  | .Expr e _=>if jk e=W then Z else (tr j n e).e.map cE
  | .If c a b _=>(tr j n c).b.bind λq=>(yI (N7 j n) a).bind λx=>(yI (N7 j n) b).map λy=>cg q x y
  | .While c o l _=>if l.isEmpty=Xk then Z else (tr j n c).b.bind λq=>(yI (N7 j n) o).map λb=>xw 1000 q b
  | .For h iter o l _=>if l.isEmpty=Xk then Z else (KY j.N j.ks [.local,.cell] h).bind λg=>(KZ j (λy=>tr j n y) h iter).bind λs=>(yI (N7 j n) o).map λb=>bR s g b
  |_=>Z
def Im{e:Ab}{c:9}{p:Pos}{v:14}{env:Env}(h:¬(mq v).isSome=W):swappedStores [.Tuple e c p] v env=pure Z:=by ext v<;>first|rfl|calc absurd rfl h
def KW{j:Cn}{n:9}{y:14}{g:6 Comprehension}{E:Scope}{u:Pos}{f:EE}(h:(tr j n^.ListComp y g E u).e=Y f) :
  X3 λk t iter i s=>n=k+1/\g=[#[t,iter,i,(0)]]/\kx j (λa x=>tr a k x) y t iter i E=Y s/\f=O s:=by
 cases n with
 |zero=>ext h
 |succ n=>
  replace h:((QM g).elim {} λz=>Tr.ofV^kx j (λa x=>tr a n x) y z.1 z.2.1 z.2.2 E).e=Y f:=h;cases e:QM g with
  |none=>rw[e]at h;ext h
  |some z=>rw[e]at h;let(x,q,0):=aF (lh O _=Y f|>h);calc#[n,_,_,_,x,0,Bp e,q,0]
theorem mX{X:Cx}{T:Stmt->7 ES}(h:∀st f,T st=Y f->PS X st^ma X.K f):∀{a:6 Stmt}{f:ES},yI T a=Y f->qH X a^ma X.K f
 | [],f,q=>by ext q;calc Um
 | [s],f,q=>Ul^h s f q
 |s::t::r,f,q=>by let(x,e,q):=au q;let(y,n,0):=aF q;calc QZ (h s x e)^mX h n
def yH(h:(tr j n^.ListComp y s E u).v=Y f) :
  X2 λk t iter i=>n=k+1/\s=[#[t,iter,i,(0)]]/\kx j (λa x=>tr a k x) y t iter i E=Y f:=by
 cases n with
 |zero=>ext h
 |succ n=>
  replace h:((QM s).elim {} λz=>Tr.ofV^kx j (λa x=>tr a n x) y z.1 z.2.1 z.2.2 E).v=Y f:=h;cases e:QM s with
  |none=>rw[e]at h;ext h
  |some z=>rw[e]at h;calc#[n,_,_,_,0,Bp e,h]
def N8{j:Cn}{X:Cx}(h:XOk j X){n:9}{e:14}{p:Pos}{f:ES}(q:UO j n e=Y f):PS X (.Return (Y e) p)^ma X.K f:=by
 let g:=o5 n j X h;unfold UO at q;split at q
 .rename_i l;have c:e.ctorIdx=08:=eq_of_beq l;let(P,s,0):=aF q;clear q l;revert s;refine Expr.ListComp.elim e c λa B c d s=>?_
  let(k,D,iter,H,0,0,u):=yH s;exact GY^vP h (o5 k) u
 .let w:=jw q;clear q;rcases w with ⟨⟨a,b⟩,m,q⟩|⟨_,q⟩
  .let(C,0):=LW m;let(x,s,q):=au q;let(y,u,0):=aF q;exact GY^Ux ((g _).v x s)^(g _).v y u
  .let w:=jw q;clear q;rcases w with ⟨a,m,q⟩|⟨_,q⟩
   .let((r,F),z,i):=au m;let(S,o,v):=au i;clear m i;let(A,K,0):=hY z;cases eQ o;split at v
    .rename_i t;ext v;let(0,t):=kg t;let(x,s,0):=aF q;exact GY (G4 (h.gl t) (h.blt ("list":Str) #[]) ((g _).v x s)^(fU s).st _ _)
    .ext v
   .let(x,s,0):=aF q;calc GY (o7 h s).1
def N_{j:Cn}{X:Cx}(h:XOk j X)(H:∀x,X.fn x=W){n:9}{t l:14}{T:Pos}{f:ES}(q:V1 j n t l=Y f):PS X (.Assign [t] l T)^ma X.K f:=by
 let g:=o5 n j X h;have V:X.A.units+1 < cLine:=by have:=h.hu;lia
 rcases jw q with ⟨x,hx,C⟩|⟨_,C⟩
 .clear q;let(Q,0):=mw hx;split at C
  .rename_i hk;let(i,qi,q):=au C;let R:=jw q;clear q C;rcases R with ⟨a,A,q⟩|⟨_,C⟩
   .split at A
    .let((r,as),Z1,S):=au A;let(a',Z0,S):=au S;clear A;let(fp,cp,0):=hY Z1;cases eQ Z0;split at S
     .rename_i L;ext S;let(0,L):=kg L;let(z,m,0):=aF q;exact yz i h.nd (NV h.calm (by have:=h.hu;lia) (h.gl L) (h.blt ("dict":Str) #[]) ((g _).v z m)^(fU m).st _ _) (h.get qi) (h.loc hk) rfl^.inl^H x
     .ext S
    .ext A
   let R:=jw C;clear C;rcases R with ⟨s,A,q⟩|⟨_,q⟩
   .split at A
    .let(p,0):=Ey A;ext q;exact yz i h.nd NW (h.get qi) (h.loc hk) rfl^.inl^H x
    .ext A
   split at q
   .rename_i hd;rw[av]at hd;let(fe,m,0):=aF q;exact yz i h.nd (o7 h m).1 (h.get qi) (h.loc hk) ((o7 h m).2.1 (by exists hd.2) _ _ _)^.inl^H x
   .let R:=jw q;clear q;rcases R with ⟨a,A,q⟩|⟨_,q⟩
    .split at A
     .let((r,as),Z1,S):=au A;let(a',Z0,S):=au S;clear A;let(fp,cp,0):=hY Z1;cases eQ Z0;split at S
      .rename_i L;ext S;let(0,L):=kg L;let(z,m,0):=aF q;exact yz i h.nd (G4 (h.gl L) (h.blt ("list":Str) #[]) ((g _).v z m)^(fU m).st _ _) (h.get qi) (h.loc hk) rfl^.inl^H x
      .ext S
     .ext A
    rcases jw q with ⟨es,E,q⟩|⟨_,q⟩
    .split at E
     .let(a,m,0):=aF q;let(p,0):=zm E;exact yz i h.nd (MW (jC (λe Z=>g e) m).1) (h.get qi) (h.loc hk) rfl^.inl^H x
     .ext E
    split at q
    .rename_i B;rw[av]at B;let B:=B.2;let(fe,m,0):=aF q;have c:l.ctorIdx=08:=eq_of_beq B;clear q B;revert m;refine Expr.ListComp.elim l c λa gs c d m=>?_
     let(k,N,iter,K,0,0,F):=yH m;have P:swapsWith (.ListComp a [#[N,iter,K,(0)]] c d) (Y^.Name x Q) T.line X.e=pure (X.e.blockKind == .function && X.e.kindOf x == Y .local && Q.line == (Expr.ListComp a [#[N,iter,K,(0)]] c d).pos.line
       && !(c.names.any λ(n,k)=>n == x && (k == .local ||k == .cell))):=rfl
     revert P;generalize (X.e.blockKind == .function && X.e.kindOf x == Y .local && Q.line == (Expr.ListComp a [#[N,iter,K,(0)]] c d).pos.line && !(c.names.any λ(n,k)=>n == x && (k == .local ||k == .cell)))=b;intro P;cases b with
     |true=>calc Gb h (o5 k) F i P (h.get qi) (h.loc hk)^.inl^H x
     |false=>exact yz i h.nd (vP h (o5 k) F) (h.get qi) (h.loc hk) P^.inl^H x
    .let(fe,m,0):=aF q;cases B:jk l with
     |false=>calc yz i h.nd ((g l).e fe m) (h.get qi) (h.loc hk) ((tU m).sw B _ _ _)^.inl^H x
     |true=>
      have c:l.ctorIdx=08:=eq_of_beq B;clear q B;revert m;calc Expr.ListComp.elim l c fun a gs c d m=>?_;let(k,N,iter,K,f',0,0,F,0):=KW m;let cu:=zK (u:=d) h (o5 k) F;have P:swapsWith (.ListComp a [#[N,iter,K,(0)]] c d) (Y^.Name x Q) T.line X.e=pure (X.e.blockKind == .function && X.e.kindOf x == Y .local && Q.line == (Expr.ListComp a [#[N,iter,K,(0)]] c d).pos.line
       && !(c.names.any λ(n,k)=>n == x && (k == .local ||k == .cell))):=rfl
      revert P;generalize (X.e.blockKind == .function && X.e.kindOf x == Y .local && Q.line == (Expr.ListComp a [#[N,iter,K,(0)]] c d).pos.line && !(c.names.any λ(n,k)=>n == x && (k == .local ||k == .cell)))=b;intro P;cases b with
      |true=>calc cu.2 i h.nd P (h.get qi) (h.loc hk)^.inl^H x
      |false=>exact yz i h.nd (NS cu.1) (h.get qi) (h.loc hk) P^.inl^H x
  .ext C
 rcases jw C with ⟨⟨o,i⟩,hz,S⟩|⟨_,S⟩
 .clear q C;let(p,0):=Ow hz;split at S
  .ext S
  rename_i M;let(x,m,D):=au S;let(w,I,G):=au D;let P:=(fU I).sw (by exists M);clear S D;split at G
  .let(y,F,0):=aF G;split
   .exact QU (by have:=h.hu;lia) ((g o).e x m) ((g i).v y F) ((g l).v w I)^P _ _ _
   .exact QT (by have:=h.hu;lia) ((g o).e x m) ((g i).v y F) ((g l).v w I)^P _ _ _
  let q0:=jw G;clear G;rcases q0 with ⟨es,et,q⟩|⟨_,q⟩
  .let(c,p,0):=jN et;let(y,F,0):=aF q;exact QS V ((g o).e x m) (jC (λe Z=>g e) F).1 ((g l).v w I)^P _ _ _
  .let(y,F,0):=aF q;exact QW V ((g o).e x m) ((g i).v y F) ((g l).v w I) (P _ _ _) rfl (fU F).ps
 rcases jw S with ⟨⟨o,f,ap⟩,hz,D⟩|⟨_,D⟩
 .clear q C S;cases JM hz;split at D
  .rename_i hd;rw[av]at hd;let(s,V):=oF.mp hd.1;let(p,0):=Ey V;let(x,m,0):=aF D;exact QX h.attrs ((g o).e x m) NU rfl
  let(x,m,q):=au D;let(z,F,0):=aF q;calc QX h.attrs ((g o).e x m) (o7 h F).1 ?_;cases B:jk l with
  |false=>calc(o7 h F).2.1 B _ _ _
  |true=>have c:l.ctorIdx=08:=eq_of_beq B;clear q F D B;exact Expr.ListComp.elim (motive_1:=λv=>swapsWith v (Y^.Attribute o f ap) T.line X.e=pure Xk) l c λZ Z Z Z=>rfl
 .clear q C S;split at D
  .ext D
  rename_i M;let(es,E,G):=au D;clear D;let(c,p,0):=jN E;split at G
  .ext G
  .rename_i hnt;let(gg,m,q):=au G;let(z,I,0):=aF q;calc Uj ((g l).v z I) (tg_ok h.calm h.hN h.nd (λx hx=>#[h.loc hx,.inl^H x]) m) (swapsWith l (Y^.Tuple es c p) T.line X.e=pure Xk|>(fU I).sw (by exists M) _ _ _) (Im hnt) rfl
theorem Hc{j:Cn}{X:Cx}(h:XOk j X)(k:∀x,X.fn x=W)(S:PassesOwn (model X.p X.w) X.A X.e X.xe):∀n (st:Stmt) (f:ES),N7 j n st=Y f->PS X st^ma X.K f
 |0,st,f,q=>by ext q
 |n+1,st,f,q=>by
  let u:=Hc h k S n;let g:=o5 n j X h;cases st with
  |Assign Q v I=>let(t,d,m):=au q;clear q;cases eQ d;calc N_ h k m
  |Return r p=>
   let(e,d,m):=au q;cases (r=Y e|>d);clear q d;split at m
   .exact N8 h m
   .let(x,s,0):=aF m;calc GY^(g _).e x s
  |AugAssign t P v p=>
   let(x,d,m):=au q;clear q;let(G,0):=mw d;split at m
   .rename_i z;rw[av]at z;let(i,qi,A):=au m;let(F,s,0):=aF A;cases P with
    |Add=>calc Up i h.nd ((g _).v F s) (h.get qi) (h.loc z.1)^.inl^k x
    |_=>cases aS z.2
   .ext m
  |Raise a b p=>ext q;calc NI
  |Expr e p=>
   replace q:(if jk e=W then Z else (tr j n e).e.map cE)=Y f:=q;split at q
   .ext q
   .rename_i H;let(x,s,0):=aF q;calc QY ((g _).e x s)^(tU s).sw (by exists H) _ _ _
  |If c a b p=>let(c,s,q):=au q;let(x,w,q):=au q;let(y,C,0):=aF q;calc Wr ((g _).b c s) (mX u w)^mX u C
  |While c o l p=>
   cases l with
   |cons _ _=>ext q
   |nil=>let(c,s,q):=au q;let(b,w,0):=aF q;calc NH S ((g _).b c s)^mX u w
  |For L iter o l p=>
   cases l with
   |cons _ _=>ext q
   |nil=>let(D,B,q):=au q;let(E,s,q):=au q;let(b,w,0):=aF q;calc Uo S h.calm (Nc h g s) (tg_ok h.calm h.hN h.nd (λx K=>#[h.loc K,.inl^k x]) B) (mX u w) λx=>zh s _ x
  |_=>ext q
structure Df where
 name:Str
 short:Str
 cls:Str
 st:Stmt
 N:LS
 ps:LS
 own:LS
 deep:LS
 refs:LS
noncomputable abbrev At:=6<|Str×LS
def aT(T:At)(c f:Str):15:=T.any λx=>decide (x.1=c) && x.2.contains f
def fT(D:6 Df)(h:Str->GF)(x:Str):7 GF:=if (D.any λd=>decide (d.name=x) && d.cls.cps.isEmpty)=W then Y^h x else Z
def isM(c m:Str)(d:Df):15:=decide (d.cls=c) && decide (d.short=m) && !d.cls.cps.isEmpty
def mT(D:6 Df)(h:Str->GF)(c m:Str):7 GF:=if m=("__init__":Str) then Z else (D.find?^isM c m).map λd=>h d.name
def inT(D:6 Df)(h:Str->GF)(c:Str):7 GF:=(D.find?^isM c "__init__").map λd=>h d.name
noncomputable abbrev P3:=(Str->GF)×(Str->7 GF)×7 GF
def VD(G:Str->7 P)(T:At)(D:6 Df)(p:P3)(d:Df):Cn:=#[d.N,d.own,d.deep,d.refs,(bJ d.st).names,fT D p.1,G,aT T,mT D p.1,p.2.1,p.2.2]
def yo(G:Str->7 P)(T:At)(D:6 Df)(p:P3)(d:Df):ES:=(yI (N7 (VD G T D p d) 60)^gi d.st).getD xx
def stays(n:9)(x:Str):15:=(decide (x=("ends_on":Str)) && lv 014 n) ||((decide (x=("hand_ends":Str)) ||decide (x=("flaw_ends":Str))) && lv 013 n)
def qG(G:Str->7 P)(T:At)(D:6 Df):9->P3
 |0=>(λz z z=>Z,λz=>Z,Z)
 | n+1=>(fun x=>cond (stays n x) ((qG G T D n).1 x) (match D.find? fun d=>decide (d.name=x) with
  |some d=>np d.ps.length (-d.N)^yo G T D (qG G T D n) d
  |none=>λz z=>Z),inT D (qG G T D n).1,fT D (qG G T D n).1 "ends_on")
def MQ(G:Str->7 P)(T:At)(D:6 Df)(n:9):Str->GF:=(qG G T D n).1
def qd{G:Str->7 P}{T:At}{D:6 Df}{n:9}{x:Str}(h:stays n x=W):MQ G T D (n+1) x=MQ G T D n x:=by show cond (stays n x) _ _=_;rw[h];rfl
def cond_ok{B:Type}{c:15}{a b:B}{p:B->5}(h:p b)(x:p a):p^cond c a b:=by ext c<;>assumption
def TJ(d:Df):15:=decide ((bJ d.st).kind=.function) && !(bJ d.st).isCoroutine && !(bJ d.st).isGenerator && decide d.N.Nodup && decide (d.N.take (-d.ps)=d.ps)
 && d.ps.all (λx=>(bJ d.st).names.lookup x == Y .local ||(bJ d.st).names.lookup x == Y .cell) && (bJ d.st).names.all (λy=>y.2 != .free)
def Ov{d:Df}(h:TJ d=W):FnScope d.N d.ps^bJ d.st:=by
 unfold TJ at h;rwa[av]at h;let((((((a,e),s),n),k),f),b):=h;refine#[aS a,by simpa using e,by simpa using s,aS n,aS k,λx c=>?_,λy m=>?_]
 .have:=bc.mp f x c;exists this
 .have:=bc.mp b y m;exists this
structure DOk(K:FG)(mg:SV)(d:Df)(f:13)(fd:FuncData):5 where
 fn:Fun K d.short d.name d.st f fd
 bd:Binds K fd d.ps []
 pl:d.cls.cps.isEmpty=W->X4 λkV doc pm an cdv ct=>fd=kt d.short d.name (jF d.st) (gi d.st) (bJ d.st) .none kV doc pm an cdv ct
 bn:d.short=("__init__":Str)->JS.contains d.cls=W->Binds K fd d.ps [.none]
 gl:d.cls.cps.isEmpty=W->mg d.name=Y (.ref f)
 cl:d.cls.cps.isEmpty=Xk->∃C,k_ K d.cls C/\mg d.cls=Y^.ref C/\Cls K C/\(d.short=("__init__":Str)->Mk K C f)/\(d.short≠("__init__":Str)->Meth K C d.short f)
def xO(o:Obj):15:=match o.data with
 | .fields v=>(match v.toList with|_::.str n _::_=>n == IE|_=>Xk)
 |_=>Xk
def Ep(K:FG):15:=K.all λp=>!xO p.2 ||(match Hh p with|some P=>Aw K p.1 P|none=>Xk)
def ID(h:Ep K=W)(x:ku K d IE=W):X0 λc P=>d=.ref c/\Aw K c P=W/\P ∈ cO K:=by
 unfold ku at x;split at x
 .rename_i c;split at x
  .rename_i l i v n hk;let m:=GQ hk;let a:=bc.mp h _ m;have e:xO #[l,i,.fields v,n]=W:=x;rw[e]at a;rwa[sF,ly]at a;split at a
   .rename_i P s;exact#[c,P,0,a,sv.mpr #[_,m,s]]
   .ext a
  .ext x
 .ext x
structure TOk(w:16)(G:Str->7 P)(T:At)(D:6 Df)(K:FG)(mg:SV):5 where
 fn:∀d ∈ D,X0 λf fd=>DOk K mg d f fd
 sc:D.all TJ=W
 un:(D.map (·.name)).Nodup
 z:∀x ∈ MM,mg x=Z
 gl:∀x v,G x=Y v->uF K mg x v
 at':Ui K (aT T)
 lam:Ep K=W
 lm:∀d ∈ D,d.deep.contains^Str.ofString "<lambda>"=W->d.name=IE
theorem uo:∀{D:6 Df}{d:Df},(D.map (·.name)).Nodup->d ∈ D->(D.find? λe=>decide<|e.name=d.name)=Y d
 | [],_,_,h=>by ext h
 |a::r,d,x,h=>by
  rw[aI,du]at x;rcases a8.mp h with h|h
  .subst h;simp
  .have n:¬a.name=d.name:=λz=>x.1 (by rw[z];calc bg.mpr #[d,h,0]);rw[sD (by exists n)];calc uo x.2 h
def zU{D:6 Df}{x:Str}{a:Str->GF}{g:GF}(h:fT D a x=Y g):∃d ∈ D,d.name=x/\d.cls.cps.isEmpty=W/\g=a x:=by
 unfold fT at h;split at h
 .rename_i c;ext h;let(d,hd,e):=j9.mp c;rw[av]at e;exact#[d,hd,aS e.1,e.2,0]
 .ext h
def IM(h:isM c m d=W):d.cls=c/\d.short=m/\d.cls.cps.isEmpty=Xk:=by unfold isM at h;rwa[av]at h;calc#[aS h.1.1,aS h.1.2,by exists h.2]
def JN{D:6 Df}{x:Str->GF}{c m:Str}{g:GF}(h:mT D x c m=Y g):m≠("__init__":Str)/\∃d ∈ D,d.cls=c/\d.short=m/\d.cls.cps.isEmpty=Xk/\g=x d.name:=by
 unfold mT at h;split at h
 .ext h
 .rename_i n;let(d,q,0):=aF h;let(a,e,s):=IM^CG q;calc#[n,d,C5 q,a,e,s,0]
def JO{D:6 Df}{x:Str->GF}{c:Str}{g:GF}(h:inT D x c=Y g):∃d ∈ D,d.cls=c/\d.short=("__init__":Str)/\d.cls.cps.isEmpty=Xk/\g=x d.name:=by unfold inT at h;let(d,q,0):=aF h;let(a,e,s):=IM^CG q;calc#[d,C5 q,a,e,s,0]
theorem EL {G:Str->7 P}{T:At}{D:6 Df}{Pg:18}{w:16}{K:FG}{mg:SV}{base:17} (Tk:TOk w G T D K mg):∀n,(∀d ∈ D,
  ∀f fd,Fun K d.short d.name d.st f fd->FnOk Pg w K mg base qJ n f fd d.ps (pT K^MQ G T D n d.name)) /\
  (∀c g,(qG G T D n).2.1 c=Y g->∃m,n=m+1/\X2 λC f fd ps=>k_ K c C/\mg c=Y^.ref C/\Mk K C f/\FnOk Pg w K mg base qJ m f fd ps^pT K g/\Binds K fd ps (if JS.contains c=W then [.none] else [])) /\
  ∀g,(qG G T D n).2.2=Y g->∃m,n=m+1/\X1 λf fd ps=>FnOk Pg w K mg base qJ m f fd ps^pT K g/\mg "ends_on"=Y^.ref f/\eT K^.ref f=W/\Binds K fd ps []
 |0=>#[λd hd f fd hF=>Jf,λc g h=>(by cases ((Z:7 GF)=Y g|>h)),λg h=>(by cases ((Z:7 GF)=Y g|>h))]
 |n+1=>by
  let ih:=EL (Pg:=Pg) (w:=w) (base:=base) Tk n;refine#[λd hd f fd hF=>?_,λc g h=>?_,λg h=>?_]
  .have e:MQ G T D (n+1) d.name=cond (stays n d.name) (MQ G T D n d.name) (np d.ps.length (-d.N)^yo G T D (qG G T D n) d):=by
    show cond _ _ (match D.find? λd'=>decide (d'.name=d.name) with|some d=>np d.ps.length d.N.length^yo G T D (qG G T D n) d|none=>λy y=>Z)=_;rw[uo Tk.un hd];rfl
   rw[e];let hsc:=Ov^bc.mp Tk.sc d hd;have XO:∀(cdv:11),ku K cdv d.name=W->∀(A:Around)(outer:6 Env)(s:12)(H:Hp)(E':XK),Room n (A.deeper^envOfC d.name (bJ d.st) s.heap.objs.size f cdv) ->
     XOk (VD G T D (qG G T D n) d) (zH qJ Pg w K mg base d.N d.name (bJ d.st) f cdv A outer s H E').nox:=fun cdv hcd A outer s H E' hr=>{
    hN:=rfl
    nd:=hsc.nd
    ks:=rfl
    kd:=hsc.kind
    calm:=rfl
    hu:=by have:=hr.un;show(A.deeper^envOfC d.name (bJ d.st) s.heap.objs.size f cdv).units+64 < _;lia
    fns:=λx g hg=>by let(d',hd',hn,hc,0):=zU hg;let(f',fd',h1):=Tk.fn d' hd';subst hn;exact#[n,f',fd',d'.ps,(ih.1 d' hd' f' fd' h1.fn),hr,h1.gl hc,h1.fn.kp,h1.bd]
    blt:=Tk.z
    glb:=Tk.gl
    attrs:=Tk.at'
    meths:=λc m g hg=>by let(hm,d',hd',0,0,hc,0):=JN hg;let(f',fd',h1):=Tk.fn d' hd';let(C,c1,c2,c3,c4,c5):=h1.cl hc;exact#[C,n,f',fd',d'.ps,c1,c3,c5 hm,(ih.1 d' hd' f' fd' h1.fn),hr,h1.bd]
    mks:=λc g hg=>by let(m,0,C,f',fd',ps,c1,c2,c3,c4,c5):=ih.2.1 c g hg;exact#[C,m,f',fd',ps,c1,c2,c3,c4,hr,c5]
    lam:=λz=>by let hn:=Tk.lm d hd z;rw[hn]at hcd;let(c,P,e1,e2,e3):=ID Tk.lam hcd;exact#[#[by show d.name++Str.ofString ".<locals>."++Str.ofString "<lambda>"=A2;rw[hn];decide,c,P,e1,e2,e3],λy=>rfl]
    lmf:=λg hg=>by let(m,0,f',fd',ps,c1,c2,c3,c4):=ih.2.2 g hg;calc#[m,f',fd',ps,c1,hr,c2,c3,c4] }
   calc cond_ok (p:=λg=>FnOk Pg w K mg base qJ (n+1) f fd d.ps^pT K g) (PY (N:=d.N) hF hsc λcdv hcd A outer s H E' hr=>?_) ((ih.1 d hd f fd hF).mono^mP n);let X:=XO cdv hcd A outer s H E' hr;unfold yo;cases q:yI (N7 (VD G T D (qG G T D n) d) 60)^gi d.st with
   |none=>calc Fs.imp' λD J H hz=>by let(F,m,L,S,fl,L',S',r,l,q,k):=hz;ext q
   |some b=>exact mX (λst f q=>Hc X (λy=>rfl) PassesOwn.never 60 st f q) q
  .let(d,hd,0,hs,hc,0):=JO (x:=(qG G T D n).1) h;let(f,fd,h1):=Tk.fn d hd;let(C,c1,c2,c3,c4,c5):=h1.cl hc;calc#[n,0,C,f,fd,d.ps,c1,c2,c4 hs,(ih.1 d hd f fd h1.fn),?_];by_cases hn:JS.contains d.cls=W
   .rw [af hn];exact h1.bn hs hn
   .rw [ag hn];exact h1.bd
  .let(d',hd',hn,hc,0):=zU (fT D (qG G T D n).1 "ends_on"=Y g|>h);let(f',fd',h1):=Tk.fn d' hd';let e:=ih.1 d' hd' f' fd' h1.fn;let e2:=h1.gl hc;rw[hn]at e e2;calc#[n,0,f',fd',d'.ps,e,e2,h1.fn.kp,h1.bd]
theorem zo:∀s:6 8,cF K F H (s.map .int)^s.map V.int
 | []=>rfl
 |n::r=>#[_,_,0,0,zo r]
def Pp{K:FG}{H:Hp}{a:13}{n:6 8}{g:GF}{E:XK}(e:Gm H)(S:j3 K H a^n.map V.int)(h:ba g [.ro^n.map .int]=Y^.d W):pT K g [.ref a] H (λv y=>v=.d W) E:=by
 calc tL #[λb=>b=a/\H a≠Z,[.ro^n.map .int],.d W,λb x=>(by rw[x.1];calc x.2),#[_,_,0,#[a,_,0,?_,zo n],0],h,λv F k y r=>r];rcases S with S|S
 .rcases e a with z|z|⟨o,f,z⟩
  .rcases S with S|⟨o,S⟩<;>rw[z]at S<;>ext S
  .rcases S with S|⟨o,S⟩<;>rw[z]at S<;>ext S
  .rcases S with S|⟨s,S⟩
   .rw [z]at S;ext S
   .exact .inl #[#[0,by rw[z];calc λq=>nomatch q],s,S]
 .exact .inr^.inr S
open PySem L2
section
variable(L:Lc)(S:aK)
@[simp] theorem EK(i:9):U i L S=match L[i]? with|some (Y d)=>Y (d,S)|_=>Z:=rfl
@[simp] theorem xi(r:EE):dF r L S=bw (r L S) λd h=>match dj d h with|some n=>Y (.int (n:8),h)|none=>Z:=by
 unfold dF;cases r L S with
 |none=>rfl
 |some z=>let(d,h):=z;rw[aq,aq];cases dj d h<;>rfl
@[simp] theorem TZ(i:9)(v:P):am i v L=Y (L.set i^Y^.p v):=rfl
end
@[simp] theorem kB(x:6 B):(few x=W)=(-x≤1000000):=by unfold few;simp
@[simp] theorem pH(n:9):(jG n=W)=(n≤1000000):=by unfold jG;simp
def ca{B:Type}{s:6 B}{i:8}{x:B}(a:0≤i)(h:s[i.toNat]? = Y x):L2.atI s i=Y x:=by let l:=(bP.mp h).1;unfold L2.atI L2.Gq;rw[af a,af ()];calc h
@[simp] theorem JK(x:B)(s:6 B):L2.atI (x::s) 0=Y x:=ca () rfl
@[simp] theorem Ue(x y:B)(s:6 B):L2.atI (x::y::s) 1=Y y:=ca () rfl
@[simp] theorem Ud(x y z:B)(s:6 B):L2.atI (x::y::z::s) 2=Y z:=ca () rfl
@[simp] theorem QN(x y z w:B)(s:6 B):L2.atI (x::y::z::w::s) 3=Y w:=ca () rfl
@[simp] theorem T_(x:6 P)(i:8):bA (.u x)^.int i=L2.atI x i:=rfl
@[simp] theorem Ua(x:6 P)(i:8):bA (.l x)^.int i=L2.atI x i:=rfl
@[simp] theorem VL(x:6 P)(i:8):bA (.ro x)^.int i=L2.atI x i:=rfl
@[simp] theorem Ub(k:6 cD)(v:6 P)(x:Str):bA (.E k v)^.str x=cC (.inr x) k v:=rfl
@[simp] theorem Tc(i j:8):Bn (.int i)^.int j=Y (.d<|decide<|i=j):=rfl
@[simp] theorem Ta(i j:Str):Bn (.str i)^.str j=Y (.d<|decide<|i=j):=rfl
@[simp] theorem Uc(i j:15):Bn (.d i)^.d j=Y (.d<|decide<|i=j):=rfl
@[simp] theorem T9(i j:8):QD (.int i)^.int j=Y (.d<|!decide (i=j)):=rfl
@[simp] theorem T8(i j:Str):QD (.str i)^.str j=Y (.d<|!decide (i=j)):=rfl
@[simp] theorem VJ(i j:15):QD (.d i)^.d j=Y (.d<|!decide (i=j)):=rfl
@[simp] theorem Td(i j:8):yj (.int i)^.int j=Y (.int<|i+j):=rfl
@[simp] theorem S7(i j:8):yi (.int i)^.int j=if g8 i j=W then Y (.int<|i * j) else Z:=rfl
@[simp] theorem QE(x:6 P)(n:8):jY (.u x)^.int n=if (jG (-x * n.toNat) && decide (n.natAbs < 1000000))=W then Y^.u (List.replicate n.toNat x).flatten else Z:=rfl
@[simp] theorem QF(x:Str)(n:8):jY (.str x)^.int n=yi (.str x)^.int n:=rfl
@[simp] theorem S6(i:8):F7^.int i=Y (.int<|-↑i):=rfl
def aL(a n:9)(b:ES)(s:6 P):ba (np a n b) s=if -s=a then match b (s.map (λp=>Y^.p p)++List.replicate (n-s.length) Z) [] with
 |some (.rt d,_,S)=>(toP 09 d S).map (·.1)
 |some (.nx,_,_)=>Y .n
 |_=>Z else Z:=by
 unfold ba np;rw[aU,gU];by_cases h:-s=a
 .rw [af h,af h];show (match b8^b (s.map (fun p=>Y^D.p p)++List.replicate (n-s.length) Z) [] with
   |some (d,S)=>(toP 09 d S).map (λ(x:P×aK)=>x.1)
   |none=>Z)=_
  cases b (s.map (λp=>Y^D.p p)++List.replicate (n-s.length) Z) [] with
  |none=>rfl
  |some z=>let(f,L,S):=z;ext f<;>simp[b8]
 .rw [ag h,ag h]
def bx{g:lc}{b:ES}{v:P}{r:6 P}{L h L2:Lc}{S x:aK}(a:g v L=Y h)(e:b h S=Y (.nx,L2,x)):bv g b (v::r) L S=bv g b r L2 x:=by simp[bv,a,e]
def um{g:lc}{b:ES}{v:P}{r:6 P}{L h L2:Lc}{S x:aK}{d:D}(a:g v L=Y h)(e:b h S=Y (.rt d,L2,x)):bv g b (v::r) L S=Y (.rt d,L2,x):=by simp[bv,a,e]
section
variable(L:Lc)(S:aK)
@[simp] theorem Ew(a:EV):jE a L S=bw (a L S) λx h=>match x with | .int n=>if (decide<|n.natAbs < 1000000)=W then Y (intsFrom 0 n.toNat,h) else Z|_=>Z:=by
 unfold jE;cases a L S with
 |none=>rfl
 |some z=>let(x,h):=z;ext x<;>first|rfl|simp
@[simp] theorem SI(g:6 lc)(v:6 P):bu g (.u v) L=uj g v L:=rfl
@[simp] theorem SH:uj [] [] L=Y L:=rfl
@[simp] theorem QA(g:lc)(s:6 lc)(v:P)(h:6 P):uj (g::s) (v::h) L=match g v L with|some a=>uj s h a|none=>Z:=rfl
@[simp] theorem UN(v:P):KU (.p v) S=xm v:=rfl
@[simp] theorem TD(b:15):xm^.d b=Y b:=rfl
@[simp] theorem Rl(i:8):xm^.int i=Y (i != 0):=rfl
@[simp] theorem Wd(x y:P):eS (.p x) (.p y) S=(zZ x y).map .d:=rfl
@[simp] theorem Wc(x y:P):Jd (.p x) (.p y) S=(LR x y).map .d:=rfl
end
@[simp] theorem T5(i j:8):zZ (.int i)^.int j=Y (decide<|i=j):=rfl
@[simp] theorem T4(i j:Str):zZ (.str i)^.str j=Y (decide<|i=j):=rfl
@[simp] theorem VH(i j:15):zZ (.d i)^.d j=Y (decide<|i=j):=rfl
@[simp] theorem TU(i j:8):LR (.int i)^.int j=Y (!decide (i=j)):=rfl
@[simp] theorem TR(i j:Str):LR (.str i)^.str j=Y (!decide (i=j)):=rfl
@[simp] theorem Vp(i j:15):LR (.d i)^.d j=Y (!decide (i=j)):=rfl
@[simp] theorem QK(i j:8):ip (.int i)^.int j=Y (.int<|i+j):=rfl
@[simp] theorem QI(x y:Str):ip (.str x)^.str y=yj (.str x)^.str y:=rfl
@[simp] theorem QJ(x y:6 P):ip (.l x)^.l y=if jG (-x+-y)=W then Y (.l<|x++y) else Z:=rfl
@[simp] theorem QG(i j:8):jY (.int i)^.int j=if g8 i j=W then Y (.int<|i * j) else Z:=rfl
@[simp] theorem F_(x:6 P)(n:8):jY (.l x)^.int n=if (jG (-x * n.toNat) && decide (n.natAbs < 1000000))=W then Y^.l (List.replicate n.toNat x).flatten else Z:=rfl
def Jj(h:cX 20 v=W):zZ v v=Y W:=by
 unfold zZ;have e:bH (pd v)^pd v=W:=wB _ (fA 20 v h).1;cases q:Bn v v with
 |none=>simp[h,e]
 |some z=>
  cases v with
  |int i=>ext q;simp
  |str i=>ext q;simp
  |d i=>ext q;simp
  |n=>ext q
  |u _=>ext q
  |l _=>ext q
  |ro _=>ext q
  |E _ _=>ext h
def xU(h:cX 20 (.l s)=W):zZ (.l s)^.l []=Y s.isEmpty:=by unfold zZ;have e:cX 20 (.l [])=W:=rfl;show(if (cX 20 (.l s) && cX 20 (.l []))=W then Y (bH (pd^.l s)^pd^.l []) else Z)=_;rw[h,e];ext s<;>rfl
def pe(h:cX 20 (.l s)=W):LR (.l s)^.l []=Y (!s.isEmpty):=by unfold LR;have e:cX 20 (.l [])=W:=rfl;show(if (cX 20 (.l s) && cX 20 (.l []))=W then Y (!PyData.eqv (pd^.l s) (pd^.l [])) else Z)=_;rw[h,e];ext s<;>rfl
section
variable{L:Lc}{S:aK}
@[simp high] theorem W_(d:D):U 0 (Y d::L) S=Y (d,S):=rfl
@[simp high] theorem W9(a:7 D)(i:9):U (i+1) (a::L) S=U i L S:=rfl
@[simp ↓ high] theorem W7(x y:a):(if few ([]:6 B)=W then x else y)=x:=rfl
@[simp ↓ high] theorem W6(a:B)(x y:s):(if few ([a]:6 B)=W then x else y)=x:=rfl
@[simp ↓ high] theorem W5(a h:B)(x y:s):(if few ([a,h]:6 B)=W then x else y)=x:=rfl
@[simp ↓ high] theorem W4(a h e:B)(x y:s):(if few ([a,h,e]:6 B)=W then x else y)=x:=rfl
@[simp ↓ high] theorem W3(a h e s:B)(x y:k):(if few ([a,h,e,s]:6 B)=W then x else y)=x:=rfl
@[simp ↓ high] theorem W2(a h e s n:B)(x y:k):(if few ([a,h,e,s,n]:6 B)=W then x else y)=x:=rfl
@[simp ↓ high] theorem W1(a h e s n k:B)(x y:b):(if few ([a,h,e,s,n,k]:6 B)=W then x else y)=x:=rfl
@[simp ↓ high] theorem W0(a h e s n k f:B)(x y:b):(if few ([a,h,e,s,n,k,f]:6 B)=W then x else y)=x:=rfl
@[simp high] theorem Xc(v:P)(S:aK):toP 09 (.p v) S=Y (v,S):=rfl
@[simp ↓ high] theorem Wh(x:7 (B×aK))(f:B->aK->7 s):bw x f=match x with|some (a,S)=>f a S|none=>Z:=rfl
@[simp ↓ high] theorem WU(x y:a):(if W=W then x else y)=x:=rfl
@[simp ↓ high] theorem WV(x y:a):(if Xk=W then x else y)=y:=rfl
end
@[simp] theorem Ve(a b:String):(Str.ofString a=Str.ofString b)=(a=b):=by rw[BG,BG];calc propext #[λh=>String.toList_inj.mp^(CS λz z=>Char.toNat_inj.mp).mp (by exists h),λh=>by rw[h]]
end Ev
set_option tactic.hygienic false
namespace My
open PySem L2 Ev
noncomputable abbrev qp(x:P):7 D:=Y^.p x
noncomputable abbrev qi(x:8):7 D:=Y^.p^.int x
noncomputable abbrev qs(x:Str):7 D:=Y^.p^.str x
noncomputable abbrev ql(x:6 P):7 D:=Y^.p^.l x
noncomputable abbrev qt(x:6 P):7 D:=Y^.p^.u x
noncomputable abbrev qr(x:9):7 D:=Y^.ref x
@[simp] abbrev vv(k:9):EV:=vE^U k
@[simp] abbrev vi(i:8):EV:=vC^.int i
@[simp] abbrev vt(x:Str):EV:=vC^.str x
@[simp] abbrev v1(a:EV):lf:=ae a ao
@[simp] abbrev v2(a b:EV):lf:=ae a^ae b ao
@[simp] abbrev v3(a b c:EV):lf:=ae a^ae b^ae c ao
@[simp] abbrev v4(a b c d:EV):lf:=ae a^ae b^ae c^ae d ao
@[simp] abbrev v5(a b c d e:EV):lf:=ae a^ae b^ae c^ae d^ae e ao
@[simp] abbrev v6(a b c d e f:EV):lf:=ae a^ae b^ae c^ae d^ae e^ae f ao
@[simp] abbrev v7(a b c d e f g:EV):lf:=ae a^ae b^ae c^ae d^ae e^ae f^ae g ao
@[simp] abbrev v8(a b c d e f g h:EV):lf:=ae a^ae b^ae c^ae d^ae e^ae f^ae g^ae h ao
@[simp] abbrev Q4(a:EE):uH:=aB a b_
@[simp] abbrev Qr(a b:EE):uH:=aB a^aB b b_
@[simp] abbrev Gn(a b c:EE):uH:=aB a^aB b^aB c b_
@[simp] abbrev V0(a b c d:EE):uH:=aB a^aB b^aB c^aB d b_
@[simp] abbrev NL(a b c d e:EE):uH:=aB a^aB b^aB c^aB d^aB e b_
@[simp] abbrev VZ(a b c d e f:EE):uH:=aB a^aB b^aB c^aB d^aB e^aB f b_
@[simp] abbrev cq(a b:EE):EB:=bV^a9 eS a b
@[simp] abbrev lW(a b:EE):EB:=bV^a9 Jd a b
@[simp] abbrev aX:EV->EV->EV:=aY hX
@[simp] abbrev MV:EV->EV->EV:=aY S_
@[simp] abbrev G1:EV->EV->EV:=aY P8
@[simp] abbrev xf:EV->EV->EV:=aY MB
@[simp] abbrev aW:EV->EV->EV:=aY oj
@[simp] abbrev dU:EV->EV->EV:=aY jY
@[simp] abbrev be:EV->EV->EV:=aY ip
@[simp] abbrev G2:EV->EV->EV:=aY JU
@[simp] abbrev aj:EV->EV->EV:=aY bA
@[simp] abbrev MU:EV->EV->EV:=aY No
@[simp] abbrev dz(g:GF):lf->EV:=aR^ba g
@[simp] abbrev cW:EV:=vE^U 0
@[simp] abbrev ij:EV:=vE^U 1
@[simp] abbrev ik:EV:=vE^U 3
@[simp] abbrev sL:EV:=vE^U 05
@[simp] abbrev oZ:EV:=vE^U 07
@[simp] abbrev l_:EV:=vE^U 4
@[simp] abbrev nj:EV:=vE^U 06
@[simp] abbrev xc:EV:=vE^U 08
@[simp] abbrev jg:EV:=vE^U 2
@[simp] abbrev p6:EV:=vE^U 010
@[simp] abbrev oY:EV:=vE^U 09
@[simp] abbrev nl:EV:=vE^U 011
@[simp] abbrev eC:EV:=vC^.int 1
@[simp] abbrev iu:EV:=vC^.int 2
@[simp] abbrev fR:EV:=vC^.int 0
@[simp] abbrev vd:EV:=vC^.int 4
@[simp] abbrev jH:EV:=vC^.int 3
@[simp] abbrev xg:EV:=vC^.int 05
@[simp] abbrev im:EE:=U 0
@[simp] abbrev mj:EE:=U 2
@[simp] abbrev lz:EE:=U 1
@[simp] abbrev E9:EE:=U 3
@[simp] abbrev DJ:EE:=U 4
@[simp] abbrev rc:EE:=U 010
def Go(i:9):Stmt:=PySem.Challenge.pw_roadsall_k42_whole_what_hands_know.main.body.getD i^.Pass #[(0),(0),(0),(0)]
def Gv(x:Str):7 P:=if x=("HAND_PARTS":Str) then Y^.u [.str "some",.str "all",.str "many"] else if x=("HIGHEST_LETTER":Str) then Y^.int 999 else if x=("MOST_STANDINGS":Str) then Y^.int 2000 else if x=("NOBODY":Str) then Y (.int<|-1) else Z
def Qw:LS:=["Board.family_of","Board.__init__","flaw_ends","Board.hands_beside","takeable","targets_of","posted","sendings","step_ends","hand_ends","ends_on","known_truths","knowing_truths","fitting_numbers","hand_truths","letter_truths","is_dry","Scene.dry_truths","truths_in","Scene.__init__"]
def Vt(st:Stmt):LS:=((bJ st).names.filter λx=>[NameKind.local,.cell].contains x.2).map (·.1)
def Vq(x:Str)(t k:9)(N o d:LS):Df:=#[x,x,"",Go t,N,N.take k,o,d,Qw]
def gh(x:Str)(t k:9)(o d:LS:=[]):Df:=Vq x t k (Vt^Go t) o d
def sR:Df:=gh "law" 76 1
def Att:At:=[("Board",["families","homes","members","pairs","places"]),("Scene",["around","board","dries","standings"])]
def QQ:6 Df:=[gh "_law_mix" 52 2,gh "_law_cell_at" 51 2,gh "_law_roads" 58 2 ["_law_roads_here"],gh "_law_name" 53 2,gh "_law_cells" 54 2 ["_law_cells_here"],gh "_law_rooms" 57 2,gh "_law_sum" 55 2,gh "_law_sends" 59 05 ["_law_sends_here"],gh "_law_condition" 56 2,gh "_law_step" 60 06 ["_law_changes"],Vq "_law_plan" 61 2 ["_law_script","_law_most","_law_many","_law_names","_law_roads_here","_law_families_here","_law_k","_law_family","_law_crew_here","_law_cells_here","_law_rooms_here","_law_whos","_law_steps","_law_j","_law_place","_law_drawn","_law_wishes","_law_still","_law_when","_law_step_here"] ["_law_families_here","_law_steps","_law_wishes"] [],gh "families_of" 011 1 ["homes"],gh "pairs_of" 012 1 ["pairs"],gh "rows_from" 38 2 ["listed","rows"],gh "begin" 013 1 ["hands"],gh "has_flaw" 28 3,gh "unlike_spots" 20 2,gh "replaced" 31 3,gh "without" 30 2,gh "flawed" 29 3,gh "flaw_ends" 27 3 ["board","ends"],gh "values_of" 018 2,gh "compared" 06 3,gh "value_of" 4 2,gh "holds" 05 2,gh "takeable" 19 4 ["board","found"],gh "cells_behind" 22 4 ["given","numbers"],gh "whos_behind" 23 4,gh "targets_of" 25 05 ["board"],gh "posted" 26 05 ["board"],gh "sendings" 24 06 ["board","further"],gh "step_ends" 21 05 ["board","ends","values"] ["values","values_of"],gh "hand_ends" 017 3 ["board","ends"],gh "ends_on" 016 2 ["board","ends"],gh "coming_rows" 37 1 ["board","return"] ["<lambda>","rows_from"],gh "comings" 36 1 ["return"],gh "_law_part" 69 3,gh "_law_fact" 70 05,gh "known_truths" 49 3 ["firm","scene"],gh "joined" 41 3 ["return"],gh "knowing_truths" 48 2 ["return","scene"],gh "fits" 45 4,gh "fitting_numbers" 44 4 ["known","members","numbers","scene"],gh "hand_truths" 43 2 ["members","return","scene"],gh "letter_number" 47 3,gh "letter_truths" 46 2 ["return","scene"],gh "is_dry" 42 2 ["board"],gh "truths_in" 40 2 ["return","scene"] ["hand_truths","joined","knowing_truths","letter_truths"],gh "truths" 39 3 ["return"] ["truths_in"],gh "_law_known" 74 4 ["_law_found"],gh "_law_relation" 66 3,gh "_law_families" 62 1,gh "_law_value" 65 2,gh "_law_true" 67 2,gh "_law_values" 68 2 ["_law_found"],gh "_law_fits" 71 05,gh "ends_from" 015 2 ["return"] ["ends_on"],gh "deeds" 014 2 ["return"],gh "_law_crew" 63 2,gh "_law_pairs" 64 1 ["_law_found"],gh "_law_count" 72 3,gh "_law_plain" 73 3,gh "_law_table" 75 3 ["_law_found"],sR]
def Wj:6 Df:=[#["Board.family_of","family_of","Board",(L2.i0 (Go 010) 1),["self","hand"],["self","hand"],["self"],[],Qw],#["Board.__init__","__init__","Board",(L2.i0 (Go 010) 0),["self","plan","place","pair","hand"],["self","plan"],["self"],["families_of","pairs_of","places","self"],Qw],#["Board.hands_beside","hands_beside","Board",(L2.i0 (Go 010) 2),["self","hand","name"],["self","hand","name"],["self"],[],Qw],#["Scene.dry_truths","dry_truths","Scene",(L2.i0 (Go 35) 1),["self"],["self"],["return","self"],[],Qw],#["Scene.__init__","__init__","Scene",(L2.i0 (Go 35) 0),["self","plan","standings","around"],["self","plan","standings","around"],["self"],[],Qw]]
def Tb:6 Df:=QQ++Wj
def Ph(n:9):Str->GF:=MQ Gv Att Tb n
abbrev EQ(x:Str)(a b:9)(f:(Str->GF)->ES):5:=∀n,Ph (n+2) x=np a b (f<|Ph<|n+1)
def jZ(h:Str->GF):ES:=(az 0<|O^aX cW^vi 2147483648)
def mK (h:Str->GF):ES:=(ah (cg (bV^MV cW^G1 (vi 010)^vi 012) (ah (az 0<|O^xf (aX cW^G1 (vi 010)^vi 012) eC)
  (ah (bR (jE^aW ij^vi 61) (am 2)^jZ h)
  (aD^O^aW cW^vi 2147483648))) cN)
  (ah (az 3<|O^aW (dU (be (be (aW cW^vi 1000003)^dU (dU ij ij)^vi 7919) ij)^vi 48271)^vi 2147483629)
  (ah (az 3<|O^aW (dU ik ik)^vi 2147483587)
  (aD^O^aX (aW (dU ik^be ik iu)^vi 2147483579)^vi 07))))
theorem qT:EQ "_law_mix" 2 4 mK:=λz=>by kernel_rfl
def js (h:Str->GF):ES:=(ah (cg (bV^G2 ij^dF im) (aD^O^aj cW ij) cN)
  (aD^O fR))
theorem lY:EQ "_law_cell_at" 2 2 js:=λz=>by kernel_rfl
def fH (h:Str->GF):ES:=(ah (az 07<|O^dz (h "_law_mix")^v2 (dz (h "_law_cell_at")^v2 cW vd)^be (dU jH ik) sL)
  (cg (bV^MU (aW oZ vd) fR) (ah (az 08<|O^aj (bj^v2 (vt "row")^vt "heap")^aW (aX oZ vd) iu)
  (cE^b0 mj^O^aQ^v6 l_ nj xc eC (a9 eS (O^aW (aX oZ^vi 016) jH)^O eC)^a9 eS (O^aW (aX oZ^vi 48) jH)^O eC)) cN))
def iD(h:Str->GF):ES:=(bR (lG ij) (bu [am 05,am 06])^fH h)
def nK (h:Str->GF):ES:=(ah (az 2<|dI ao)
  (ah (bR (lG ij) (bu [am 3,am 4])^iD h)
  (aD mj)))
theorem uX:EQ "_law_roads" 2 09 nK:=λz=>by kernel_rfl
def pO (h:Str->GF):ES:=(ah (az 2<|O^dz (h "_law_mix")^v2 (dz (h "_law_cell_at")^v2 cW eC) ij)
  (aD^O^be (dU (aj (vt "abcdefghijklmnop") ij)^be eC^aW jg vd)^aj (vt "xyz")^aW (aX jg vd) jH))
theorem yb:EQ "_law_name" 2 3 pO:=λz=>by kernel_rfl
def iG (h:Str->GF):ES:=(ah (az 4<|O^dz (h "_law_mix")^v2 (dz (h "_law_cell_at")^v2 cW^be iu ij)^be iu ik)
  (ah (az 05<|O^aj (bj^v4 fR fR (Ri F7 eC) xg)^aW l_ vd)
  (ah (az 06<|O^be sL^aj (bj^v4 eC eC fR eC)^aW (aX l_ vd) vd)
  (cE^b0 mj^O^aQ^v4 (dz (h "_law_name")^v2 cW^be iu ik) sL nj^be sL^aW (aX l_^vi 016)^be (xf nj sL) eC))))
def nN (h:Str->GF):ES:=(ah (az 2<|dI ao)
  (ah (bR (jE^aW (dz (h "_law_mix")^v2 (dz (h "_law_cell_at")^v2 cW^be iu ij) eC) iu) (am 3)^iG h)
  (aD mj)))
theorem u3:EQ "_law_cells" 2 07 nN:=λz=>by kernel_rfl
def nJ (h:Str->GF):ES:=(ah (az 2<|O^be eC^aW (dz (h "_law_mix")^v2 (dz (h "_law_cell_at")^v2 cW^be iu ij)^vi 09) iu)
  (aD^O^bf (jE jg) [] 1 (am 3) dD^dz (h "_law_name")^v2 cW^be vd ik))
theorem uW:EQ "_law_rooms" 2 3 nJ:=λz=>by kernel_rfl
def fg (h:Str->GF):ES:=(ah (cg (zS (cq lz^O^bj ao)^cq (O^aW cW xg)^O fR) (aD^O^aQ^v2 (vt "number")^aW (aX cW xg) jH) cN)
  (ah (az 2<|O^aQ^v2 (vt "name")^aj ij^aW (aX cW xg)^dF lz)
  (ah (cg (cq (O^aW cW xg)^O eC) (aD mj) cN)
  (ah (cg (cq (O^aW cW xg)^O iu) (aD^O^aQ^v3 (vt "plus") jg^aQ^v2 (vt "number")^aW (aX cW^vi 20) jH) cN)
  (ah (cg (cq (O^aW cW xg)^O jH) (aD^O^aQ^v3 (vt "minus") (aQ^v3 (vt "times") jg^aQ^v2 (vt "number")^aW (aX cW^vi 20) jH)^aQ^v2 (vt "number")^aW (aX cW^vi 60) iu) cN)
  (aD^O^aQ^v3 (vt "minus") (aQ^v2 (vt "number") eC) jg))))))
theorem gJ:EQ "_law_sum" 2 3 fg:=λz=>by kernel_rfl
def fG (h:Str->GF):ES:=(ah (az 08<|O^aX cW iu)
  (ah (az 09<|O^dz (h "_law_sum")^v2 (aW (aX xc^vi 012)^vi 300) jg)
  (ah (az 010<|O^aj (bj^v2 (vt "ma")^vt "mb")^dU (aW xc iu)^aW (aX xc^vi 2000) iu)
  (cg (iL (lW E9^O^bj ao)^cq (O^aW (aX xc iu) jH)^O eC) (cE^b0 (U 06)^O^aQ^v4 p6 oY (vt "who")^aj ik fR)^cg (lW (U 05)^O^bj ao) (cE^b0 (U 06)^O^aQ^v4 p6 oY (aj (bj^v2 (vt "all")^vt "any")^aW (aX xc^vi 06) iu)^aj sL^aW (aX xc jH)^dF^U 05) cN))))
def nI (h:Str->GF):ES:=(ah (az 05<|O^bf (d4 l_) [] 1 (am 011) (cq (O^aj nl fR) lz)^aj nl eC)
  (ah (az 06<|dI ao)
  (ah (bR (jE^aW cW iu) (am 07)^fG h)
  (aD^U 06))))
theorem uV:EQ "_law_sends" 05 011 nI:=λz=>by kernel_rfl
def cY (h:Str->GF):ES:=(ah (cg (zS (cq lz^O^bj ao)^bV^G2 (aW cW xg) iu) (aD^O^aQ^v1^vt "true") cN)
  (ah (az 2<|O^aj (bj^v6 (vt "=") (vt "!=") (vt "<") (vt "<=") (vt ">")^vt ">=")^aW (aX cW xg)^vi 06)
  (ah (az 3<|O^aQ^v4 (vt "is") jg (aQ^v2 (vt "name")^aj ij^aW (aX cW^vi 30)^dF lz)^dz (h "_law_sum")^v2 (aX cW^vi 90) ij)
  (ah (cg (cq (O^aW cW xg)^O iu) (aD^O^aQ^v2 (vt "not") ik) cN)
  (ah (cg (cq (O^aW cW xg)^O jH) (aD^O^aQ^v3 (vt "or") ik^aQ^v3 (vt "and") (aQ^v1^vt "true")^aQ^v4 (vt "is") (vt "=") (aQ^v2 (vt "number") eC)^aQ^v2 (vt "name")^aj ij fR) cN)
  (aD E9))))))
theorem dH:EQ "_law_condition" 2 4 cY:=λz=>by kernel_rfl
def gw (h:Str->GF):ES:=(cg (iL (lW (U 07)^O^bj ao)^cq (O^aW (aj cW fR) jH)^O eC) (ah (az 011<|O^vt "")
  (ah (cg (iL (lW (U 06)^O^bj ao)^cq (O^aW (aX (aj cW fR) jH) iu)^O eC) (ah (az 011<|O^aj nj^Ri F7 eC)
  (az 09<|O^lC nj g7^fM^Ri F7 eC)) cN)
  (ah (az 012<|O^vt "")
  (ah (cg (iL (lW DJ^O^bj ao)^cq (O^aW (aX (aj cW fR)^vi 06) iu)^O eC) (az 012<|O^aj l_ fR) cN)
  (ah (az 08<|O^aQ^v4 (aj (bj^v2 (vt "ma")^vt "mb")^aW (aX (aj cW fR)^vi 012) iu) (aj oZ^aW (aX (aj cW fR)^vi 24)^dF^U 07) nl^vv 012)
  (az 010<|O^bj^v1^vt "it")))))) cN)
def gu(h:Str->GF):ES:=(cg (cq (O^aW (aX (aj cW eC)^aj (bj^v2 eC^vi 1000)^vv 014) iu)^O eC) (cE^b0 (U 013)^O^aQ^v2 (vv 015)^dz (h "_law_sum")^v2 (aW (aX (aj cW eC)^aj (bj^v2 iu^vi 2000)^vv 014)^vi 300)^be nj p6) cN)
def pN (h:Str->GF):ES:=(ah (az 06<|O^bf (d4 ik) [] 1 (am 018) dD^aj (vv 018) fR)
  (ah (az 07<|O^bf (d4 sL) [] 1 (am 018) (cq (O^aj (vv 018) eC) lz)^aj (vv 018) fR)
  (ah (az 08<|O^vC^.n)
  (ah (az 09<|O^aR qE^v1 nj)
  (ah (az 010<|O^bj ao)
  (ah (gw h)
  (ah (az 013<|dI ao)
  (ah (bR (lG oY) (bu [am 014,am 015])^gu h)
  (ah (az 016<|O^dz (h "_law_sends")^v5 (aj cW iu) ij nj l_ sL)
  (ah (az 017<|O^dz (h "_law_condition")^v2 (aW (aj cW jH)^vi 27000) nj)
  (aD^O^aQ^v6 (aj jg^aW (aX (aj cW jH)^vi 27000)^dF mj) (vv 017) xc (vv 013) (vv 016)^aj jg^aW (aX (aj cW jH)^vi 81000)^dF mj)))))))))))
theorem xZ:EQ "_law_step" 06 018 pN:=λz=>by kernel_rfl
def gA (h:Str->GF):ES:=(ah (az 014<|O^be xg^dU vd^be (dU jH nj)^vv 013)
  (ah (az 015<|O^bf (jE vd) [] 1 (am 20) dD^dz (h "_law_mix")^v2 (dz (h "_law_cell_at")^v2 cW^be (vv 014)^vv 20)^vi 011)
  (cE^b0 (U 012)^O^be (aQ^v1^dz (h "_law_name")^v2 cW^be (vi 011)^vv 013)^dz (h "_law_step")^v6 (vv 015) oZ p6 oY nl l_)))
def gy (h:Str->GF):ES:=(ah (az 08<|O^aj (bj^v2 (be eC^aW (aX (dz (h "_law_cell_at")^v2 cW fR) iu) iu) eC)^xf jg eC)
  (ah (az 09<|O^dz (h "_law_cells")^v2 cW nj)
  (ah (az 010<|O^dz (h "_law_rooms")^v2 cW nj)
  (ah (az 011<|O^dU (bj^v1^dz (h "_law_name")^v2 cW^vi 010)^dU (aW (dz (h "_law_mix")^v2 (dz (h "_law_cell_at")^v2 cW^be iu nj)^vi 08) iu)^aR iz^v1^a9 eS (O^dF rc)^O eC)
  (ah (az 012<|dI ao)
  (ah (bR (jE^be eC^aW (dz (h "_law_mix")^v2 (dz (h "_law_cell_at")^v2 cW^be iu nj)^vi 07) iu) (am 013)^gA h)
  (cE^b0 (U 05)^O^aQ^v6 oZ xc p6 oY nl^vv 012)))))))
def gx (h:Str->GF):ES:=(ah (az 015<|O^dz (h "_law_mix")^v2 (dz (h "_law_cell_at")^v2 cW vd)^be (vi 20) nj)
  (ah (az 07<|nc (U 05)^aW (vv 015) jg)
  (cE^b0 (U 016)^O^aQ^v3 (aj (bj^v2 (vt "weak")^vt "strong")^aW (aX (vv 015) iu) iu) (aj oZ fR)^aj (aj (aj oZ xg)^aW (aX (vv 015) vd)^dF^O^aj oZ xg) fR)))
def lQ (h:Str->GF):ES:=(ah (az 2<|O^be eC^aW (dz (h "_law_cell_at")^v2 cW fR) iu)
  (ah (az 3<|O^bf (jE jg) [06] 0 (am 06) dD^dz (h "_law_name")^v2 cW nj)
  (ah (az 4<|O^dz (h "_law_roads")^v2 cW ik)
  (ah (az 05<|dI ao)
  (ah (bR (lG ik) (bu [am 06,am 07])^gy h)
  (ah (az 016<|dI ao)
  (ah (cg (cq (O^aW (aX (dz (h "_law_cell_at")^v2 cW fR)^vi 64) vd)^O eC) (ah (az 017<|O^bj^v2 (aQ^v4 (dz (h "_law_name")^v2 cW^vi 012) jH jH jH)^aQ^v4 (dz (h "_law_name")^v2 cW^vi 013) fR fR fR)
  (ah (az 018<|O^aj (bj^v2 (aQ^v1^vt "true")^aQ^v2 (vt "not")^aQ^v1^vt "true")^aW (aX (dz (h "_law_cell_at")^v2 cW fR)^vi 256) iu)
  (ah (az 19<|O^aQ^v7 (dz (h "_law_name")^v2 cW^vi 014) (dz (h "_law_name")^v2 cW^vi 015) (vv 018) (vC^.n) (bj ao) (bj ao)^dz (h "_law_name")^v2 cW^vi 015)
  (cE^b0 (U 05)^O^aQ^v6 (dz (h "_law_name")^v2 cW jH) eC (bj^v1^dz (h "_law_name")^v2 cW^vi 015) (vv 017) (bj^v1^dz (h "_law_name")^v2 cW^vi 09)^bj^v1^vv 19)))) cN)
  (ah (bR (jE^aW (aX (dz (h "_law_cell_at")^v2 cW fR)^vi 20) jH) (am 06)^gx h)
  (aD^O^aQ^v3 sL l_^vv 016)))))))))
theorem x_:EQ "_law_plan" 2 20 lQ:=λz=>by kernel_rfl
def gF(h:Str->GF):ES:=(cE^hV lz^dU (bj^v1 jg)^aj ik eC)
def l0 (h:Str->GF):ES:=(ah (az 1<|dI ao)
  (ah (bR (lG^aj cW fR) (bu [am 2,am 3])^gF h)
  (aD lz)))
theorem rF:EQ "families_of" 1 4 l0:=λz=>by kernel_rfl
def gq (h:Str->GF):ES:=(cg (cq (U 05)^O^aj ik fR) (ah (az 06<|O^bf (jE^dF lz) [] 1 (am 07) (iL (lW (U 07) DJ)^cq (O^aj ij oZ)^O^aj ik eC) oZ)
  (cE^hV mj^bf (d4 nj) [] 1 (am 07) dD^aQ^v3 ik l_ oZ)) cN)
def lZ(h:Str->GF):ES:=(bR (lG ij) (bu [am 4,am 05])^gq h)
def pM (h:Str->GF):ES:=(ah (az 1<|O^bf (d4^dz (h "families_of")^v1 cW) [] 1 (am 07) dD^aj (aj (aj cW fR) oZ) fR)
  (ah (az 2<|dI ao)
  (ah (bR (d4^aj cW eC) (am 3)^lZ h)
  (aD mj))))
theorem xY:EQ "pairs_of" 1 07 pM:=λz=>by kernel_rfl
def nr(h:Str->GF):ES:=(aD^nc (bL (aT Att) im "families")^vE^nc (bL (aT Att) im "homes") ij)
theorem jx:EQ "Board.family_of" 2 2 nr:=λz=>by kernel_rfl
def cZ(h:Str->GF):ES:=(cE^b0 (pE (bL (aT Att) (U 0) "members") (aY bA (vE^dY (mT Tb h) (U 0) "family_of"^aB (U 4) b_)^vC^.int 0)^dI ao)^U 4)
def ib(h:Str->GF):ES:=(Hv (bL (aT Att) im "places") (v2 (aj ik eC)^aj ik iu) jg)
def j1 (h:Str->GF):ES:=(ah (jv (aT Att) (U 0) "families" (O^aY bA (vE^U 1)^vC^.int 0))
  (ah (jv (aT Att) (U 0) "homes" (d_ (h "families_of")^aB (U 1) b_))
  (ah (jv (aT Att) (U 0) "pairs" (d_ (h "pairs_of")^aB (U 1) b_))
  (ah (jv (aT Att) (U 0) "places" Bk)
  (ah (bR (lG^vE^bL (aT Att) (U 0) "pairs") (bu [am 2,am 3])^ib h)
  (ah (jv (aT Att) (U 0) "members" nC)
  (bR (jE^dF^bL (aT Att) (U 0) "homes") (am 4)^cZ h)))))))
theorem uu:EQ "Board.__init__" 2 05 j1:=λz=>by kernel_rfl
def kT (h:Str->GF):ES:=(cg (bV^a9 i3 (U 07)^U 3) (ah (cg (bV^a9 eS (O^dF^U 2)^O^vC^.int 2000) xx cN)
  (ah (tP (U 3) (vE^U 07)^vC^.d W)
  (cE^b0 (U 2)^O^aQ^ae (vE^U 07)^ae (vE^U 4)^ae (vE^U 06) ao))) cN)
def fE(h:Str->GF):ES:=(kT h)
def fD (x h:Str->GF):ES:=(ah (az 05<|nc (nc (U 2)^vE^U 4)^vC^.int 0)
  (ah (bR (d4<|tF (h "ends_on") 1<|vE^U 05) (bu [am 06,am 07])^fE x)
  (xy 4<|vC^.int 1)))
def kC (x h:Str->GF):ES:=(ah (az 2<|e_^bf (d4^vE^U 0) [] 1 (am 08) dD^aQ^ae (vE^U 08)^ae (vC^.n)^ae (vC^.n) ao)
  (ah (az 3<|ye^bf (d4^vE^U 0) [] 1 (am 08) dD^aQ^ae (vE^U 08)^ae (vC^.d W) ao)
  (ah (az 4<|O^vC^.int 0)
  (ah (xw 1000 (bV^aY JU (vE^U 4)^dF^U 2)^fD x h)
  (aD^U 2)))))
def uU(n:9):Ph (n+2) "rows_from"=np 2 08 (kC (Ph<|n+1)^Ph n):=by kernel_rfl
def lT (h:Str->GF):ES:=(ah (az 3<|O^aj (aj (aj cW fR) jg) jH)
  (ah (az 4<|O^aj (aj (aj cW fR) jg) vd)
  (cE^b0 lz^O^aQ^v3 fR (aR gj^v1^bf (d4 ik) [] 1 (am 05) dD^aj sL jH)^dU (aQ<|v1<|vi<|-1)^dF DJ)))
def vX (h:Str->GF):ES:=(ah (az 1<|dI ao)
  (ah (bR (d4^dz (h "families_of")^v1 cW) (am 2)^lT h)
  (aD^O^aQ^v2 (aR gj^v1 ij)^dU (aQ^v1^aQ ao)^dF^O^dz (h "pairs_of")^v1 cW)))
theorem F0:EQ "begin" 1 05 vX:=λz=>by kernel_rfl
def lS (h:Str->GF):ES:=(ah (cg (cq lz^O^vt "lose") (aD^O^aj cW vd) cN)
  (aD^O^vB^iL (bV^aj cW xg)^bV^G2 (dF mj)^aj cW jH))
theorem pC:EQ "has_flaw" 3 3 lS:=λz=>by kernel_rfl
def iA (h:Str->GF):ES:=(ah (az 2<|O^Rj^dF lz)
  (ah (cg (cq im^O^vt "row") (aD mj) cN)
  (aD^O^bf (d4 jg) [] 1 (am 3) (cq (O^AC ij^aj ij ik) E9) ik)))
theorem kO:EQ "unlike_spots" 2 3 iA:=λz=>by kernel_rfl
def pL(h:Str->GF):ES:=(aD^O^be (be (lC cW g7^fM ij)^aQ^v1 jg)^lC cW (fM^be ij eC) g7)
theorem xX:EQ "replaced" 3 3 pL:=λz=>by kernel_rfl
def qZ(h:Str->GF):ES:=(aD^O^be (lC cW g7^fM ij)^lC cW (fM^be ij eC) g7)
theorem zA:EQ "without" 2 2 qZ:=λz=>by kernel_rfl
def uB (h:Str->GF):ES:=(ah (cg (cq im^O^vt "lose") (aD^O^dz (h "without")^v2 ij jg) cN)
  (aD^O^be (lC ij g7^fM^be jg eC)^lC ij (fM jg) g7))
theorem Bi:EQ "flawed" 3 3 uB:=λz=>by kernel_rfl
def iJ (h:Str->GF):ES:=(ah (az 011<|O^dz (h "replaced")^v3 (aj ij eC) l_^dz (h "flawed")^v3 jg oY p6)
  (cE^b0 E9^O^aQ^v2 (aQ^v4 jg oZ xc p6)^aQ^v2 (aj ij fR) nl))
def fK (h:Str->GF):ES:=(ah (uO (bu [am 06,am 07,am 08]) sL)
  (ah (az 09<|O^aj (aj ij eC) l_)
  (cg (bT^O^dz (h "has_flaw")^v3 nj jg oY) (bR (d4^dz (h "unlike_spots")^v2 (aj nj iu) oY) (am 010)^iJ h) cN)))
def i_ (h:Str->GF):ES:=(ah (az 3<|dI ao)
  (ah (bR (lG^vE^bL (aT Att) im "pairs") (bu [am 4,am 05])^fK h)
  (aD E9)))
def u5:Ph 013 "flaw_ends"=np 3 012 (i_^Ph 012):=by kernel_rfl
def nH(h:Str->GF):ES:=(aD^Bj (bf (d4^aj cW jH) [] 1 (am 2) dD^aj jg fR) ij)
theorem uT:EQ "values_of" 2 2 nH:=λz=>by kernel_rfl
def dg (h:Str->GF):ES:=(ah (cg (bV^a9 eS (U 0)^O^vC^.str "=") (aD^O^a9 eS (U 1)^U 2) cN)
  (ah (cg (bV^a9 eS (U 0)^O^vC^.str "!=") (aD^O^a9 Jd (U 1)^U 2) cN)
  (ah (cg (bV^a9 eS (U 0)^O^vC^.str "<") (aD^O^aY JU (vE^U 1)^vE^U 2) cN)
  (ah (cg (bV^a9 eS (U 0)^O^vC^.str "<=") (aD^O^aY QH (vE^U 1)^vE^U 2) cN)
  (ah (cg (bV^a9 eS (U 0)^O^vC^.str ">") (aD^O^aY No (vE^U 1)^vE^U 2) cN)
  (aD^O^aY S_ (vE^U 1)^vE^U 2))))))
theorem pD:EQ "compared" 3 3 dg:=λz=>by kernel_rfl
def fC (h:Str->GF):ES:=(ah (az 2<|O^aj cW fR)
  (ah (cg (cq mj^O^vt "number") (aD^O^aj cW eC) cN)
  (ah (cg (cq mj^O^vt "name") (aD^O^aj ij^aj cW eC) cN)
  (ah (az 3<|O^dz (h "value_of")^v2 (aj cW eC) ij)
  (ah (az 4<|O^dz (h "value_of")^v2 (aj cW iu) ij)
  (ah (cg (cq mj^O^vt "plus") (aD^O^be ik l_) cN)
  (ah (cg (cq mj^O^vt "minus") (aD^O^xf ik l_) cN)
  (aD^O^dU ik l_))))))))
theorem g9:EQ "value_of" 2 05 fC:=λz=>by kernel_rfl
def iI (h:Str->GF):ES:=(ah (az 2<|O^aY bA (vE^U 0)^vC^.int 0)
  (ah (cg (bV^a9 eS (U 2)^O^vC^.str "true") (aD^O^vC^.d W) cN)
  (ah (cg (bV^a9 eS (U 2)^O^vC^.str "not") (aD^O^vB^l7^bV^aR (ba^h "holds")^ae (aY bA (vE^U 0)^vC^.int 1)^ae (vE^U 1) ao) cN)
  (ah (cg (bV^a9 eS (U 2)^O^vC^.str "and") (aD^O^vB^iL (bV^aR (ba^h "holds")^ae (aY bA (vE^U 0)^vC^.int 1)^ae (vE^U 1) ao)^bV^aR (ba^h "holds")^ae (aY bA (vE^U 0)^vC^.int 2)^ae (vE^U 1) ao) cN)
  (ah (cg (bV^a9 eS (U 2)^O^vC^.str "or") (aD^O^vB^zS (bV^aR (ba^h "holds")^ae (aY bA (vE^U 0)^vC^.int 1)^ae (vE^U 1) ao)^bV^aR (ba^h "holds")^ae (aY bA (vE^U 0)^vC^.int 2)^ae (vE^U 1) ao) cN)
  (aD^O^aR (ba^h "compared")^ae (aY bA (vE^U 0)^vC^.int 1)^ae (aR (ba^h "value_of")^ae (aY bA (vE^U 0)^vC^.int 2)^ae (vE^U 1) ao)^ae (aR (ba^h "value_of")^ae (aY bA (vE^U 0)^vC^.int 3)^ae (vE^U 1) ao) ao))))))
theorem jJ:EQ "holds" 2 3 iI:=λz=>by kernel_rfl
def ie(h:Str->GF):ES:=(aD^O^bf (d4^vE^nc (bL (aT Att) im "members") jg) [] 1 (am 3) (lW E9 lz) ik)
theorem lI:EQ "Board.hands_beside" 3 3 ie:=λz=>by kernel_rfl
def gn (h:Str->GF):ES:=(ah (az 06<|zD (bL (aT Att) im "places")^v2 sL jg)
  (ah (az 07<|nc (nc (nc (bL (aT Att) im "pairs") nj) fR) iu)
  (ah (az 08<|O^aj ij nj)
  (ah (az 09<|O^Qs (cq (U 07)^O^vt "row") (lC (Rj^dF^U 08) g7^fM eC)^dz (h "unlike_spots")^v2 oZ xc)
  (cE^hV DJ^bf (d4 oY) [] 1 (am 010) (cq (O^aj (aj xc p6) fR)^O^aj ik fR)^aQ^v2 sL p6)))))
def lP (h:Str->GF):ES:=(ah (cg (bV^a9 uR E9^O^vC^.n) (aD^O^bj^v1^vC^.n) cN)
  (ah (az 4<|dI ao)
  (ah (bR (d4^vE^dY (mT Tb h) im "hands_beside" (Qr mj^O^aj ik eC)) (am 05)^gn h)
  (aD DJ))))
theorem pu:EQ "takeable" 4 010 lP:=λz=>by kernel_rfl
def jy(h:Str->GF):ES:=(jO DJ sL^dz (h "value_of")^v2 nj ik)
def bF (h:Str->GF):ES:=(ah (az 010<|O^G9 l_ (aj oY fR)^aj ij xc)
  (ah (cg (iL (bV^a9 gK (O^aj oY fR) DJ)^l7^bV^p9 QH QH (aj oY eC) p6^aj oY iu) (aD^O^vC^.n) cN)
  (cE^b0 (U 07) rc)))
def iK (h:Str->GF):ES:=(ah (az 4 nC)
  (ah (bR (d4^aj jg vd) (bu [am 05,am 06])^jy h)
  (ah (cg (iL (bV^a9 d9 (O^aj jg jH)^O^vC^.n)^lW (O^aj (aj jg jH) iu)^O^vt "") (jO DJ (aj (aj jg jH) iu)^aj ik^vt "it") cN)
  (ah (az 07<|dI ao)
  (ah (bR (lG^aj cW jH) (bu [am 08,am 09])^bF h)
  (aD^O^aR gj^v1 oZ))))))
theorem kP:EQ "cells_behind" 4 011 iK:=λz=>by kernel_rfl
def gm (h:Str->GF):ES:=(ah (cg (zS (bV^a9 uR mj^O^vC^.n)^cq (O^aj jg jH)^O^vt "") (aD lz) cN)
  (aD^O^dz (h "replaced")^v3 ij (AC (aj cW vd)^aj jg jH)^aj ik fR))
theorem jo:EQ "whos_behind" 4 4 gm:=λz=>by kernel_rfl
def hZ (h:Str->GF):ES:=(ah (cg (cq mj^O^vt "who") (aD^O^bj^v1^aQ^v2 (aQ ao)^bj^v1^aj l_^AC (aj (vE^dY (mT Tb h) im "family_of"^Q4 lz) vd) ik) cN)
  (ah (az 05<|dY (mT Tb h) im "hands_beside"^Qr lz E9)
  (ah (cg (cq mj^O^vt "all") (aD^O^bj^v1^aQ^v2 (aQ ao) sL) cN)
  (aD^O^bf (d4 sL) [] 1 (am 06) dD^aQ^v2 (aQ^v1 nj)^bj^v1 nj))))
theorem jX:EQ "targets_of" 05 06 hZ:=λz=>by kernel_rfl
def i8 (h:Str->GF):ES:=(ah (az 06<|vJ (bL (aT Att) im "places")^v2 jg sL)
  (ah (cg (zS (bV^a9 uR (U 06)^O^vC^.n)^bV^MU (aR qY^v1^aj l_ eC)^vi 999) (aD^O^vC^.n) cN)
  (ah (az 07<|nc (nc (bL (aT Att) im "pairs") nj) fR)
  (ah (cg (bV^MV (dF^O^aj ij nj)^aj oZ jH) (aD^O^vC^.n) cN)
  (ah (az 08<|O^be (aj ij nj)^aQ^v1 l_)
  (ah (cg (cq (O^aj oZ iu)^O^vt "heap") (az 08<|O^aR gj^v1^G8^U 08) cN)
  (az 1<|O^dz (h "replaced")^v3 ij nj xc)))))))
def oq (h:Str->GF):ES:=(ah (bR (d4 ik) (am 05)^i8 h)
  (aD lz))
theorem uq:EQ "posted" 05 09 oq:=λz=>by kernel_rfl
def jr (h:Str->GF):ES:=(ah (az 017<|O^cw (h "posted")^NL im (U 014) lz (U 016)^U 011)
  (cg (bV^a9 d9 (U 017)^O^vC^.n) (cE^b0 (U 012)^O^aQ^v2 (be (vv 013)^vv 015)^vv 017) cN))
def gp(h:Str->GF):ES:=(bR (d4^cw (h "targets_of")^NL im lz (U 09) rc^U 05) (bu [am 015,am 016])^jr h)
def jq (h:Str->GF):ES:=(ah (az 011<|O^aQ^v2 oZ^dz (h "value_of")^v2 xc ik)
  (ah (az 012<|dI ao)
  (ah (bR (d4 nj) (bu [am 013,am 014])^gp h)
  (az 06<|U 012))))
def pK (h:Str->GF):ES:=(ah (az 06<|O^bj^v1^aQ^v2 (aQ ao) l_)
  (ah (bR (d4 jg) (bu [am 07,am 08,am 09,am 010])^jq h)
  (aD^U 06)))
theorem xW:EQ "sendings" 06 018 pK:=λz=>by kernel_rfl
def kS(h:Str->GF):ES:=(cE^b0 (U 013)^O^aQ^v2 (aQ^v5 (vt "step") jg (aj ik fR) l_^vv 014)^aQ^v2 (vv 012)^vv 015)
def fX (h:Str->GF):ES:=(ah (az 05<|dY (mT Tb h) im "family_of"^Q4 mj)
  (ah (uO (bu [am 06,am 07,am 08])^aj (aj ij fR) jg)
  (ah (az 09<|O^aj ij eC)
  (ah (az 010<|d_ (h "values_of")^Qr (U 05)^U 07)
  (ah (cg (bV^a9 d9 DJ^O^vC^.n) (ah (az 011<|zD (bL (aT Att) im "places")^v2 (aj l_ fR) jg)
  (ah (jO rc (vt "it")^aj (aj (aj oY nl)^aj l_ eC) eC)
  (az 09<|O^dz (h "replaced")^v3 oY nl^dz (h "without")^v2 (aj oY nl)^aj l_ eC))) cN)
  (ah (az 07<|O^dz (h "cells_behind")^v4 sL oZ ik p6)
  (ah (cg (bV^a9 uR (U 07)^O^vC^.n) (aD^O^bj ao) cN)
  (ah (az 08<|O^dz (h "whos_behind")^v4 sL xc (aj ik jH) l_)
  (ah (az 012<|O^dz (h "replaced")^v3 (aj ij fR) jg^aQ^v3 (AC (aj sL iu)^aj ik^vi 06) oZ xc)
  (ah (az 013<|dI ao)
  (ah (bR (d4^cw (h "sendings")^VZ im mj (O^aj ik xg) rc (U 09)^U 08) (bu [am 014,am 015])^kS h)
  (aD^U 013))))))))))))
theorem nB:EQ "step_ends" 05 016 fX:=λz=>by kernel_rfl
def kZ(h:Str->GF):ES:=(cE^hV (U 08)^cw (h "step_ends")^NL im lz mj (U 09) rc)
def fJ(h:Str->GF):ES:=(cg (iL (cq (O^aj oY eC)^O^aj (aj ik iu) l_)^bT^O^dz (h "holds")^v2 (aj oY iu) oZ) (bR (d4^cw (h "takeable")^V0 im (O^aj ij eC) mj^O^aj oY jH) (am 010)^kZ h) cN)
def i9 (h:Str->GF):ES:=(ah (az 3<|dY (mT Tb h) im "family_of"^Q4 mj)
  (ah (uO (bu [am 4,am 05,am 06])^aj (aj ij fR) jg)
  (ah (az 07<|O^dz (h "values_of")^v2 ik sL)
  (ah (az 08<|dI ao)
  (ah (bR (d4^aj ik xg) (am 09)^fJ h)
  (aD^U 08))))))
def u4:Ph 013 "hand_ends"=np 3 011 (i9^Ph 012):=by kernel_rfl
def mL(h:Str->GF):ES:=(cE^hV mj^cw (h "hand_ends")^Gn im lz E9)
def mM (h:Str->GF):ES:=(ah (az 2<|dI ao)
  (ah (bR (jE^dF^bL (aT Att) im "homes") (am 3)^mL h)
  (ah (cE^hV mj^cw (h "flaw_ends")^Gn im lz^O^vt "lose")
  (ah (cE^hV mj^cw (h "flaw_ends")^Gn im lz^O^vt "double")
  (aD mj)))))
def zB:Ph 014 "ends_on"=np 2 4 (mM^Ph 013):=by kernel_rfl
def ju (h x:Str->GF):ES:=(ah (az 1<|mH (x "Board.__init__") "Board"^aB (U 0) b_)
  (aD<|yg (h "rows_from") 1<|bj^ae (aR (ba^h "begin")^ae (vE^U 0) ao) ao))
def rG(n:9):Ph (n+2) "coming_rows"=np 1 2 (ju (Ph<|n+1)^Ph n):=by kernel_rfl
def mN(h:Str->GF):ES:=(aD^e_^bf (d4^aR (ba^h "coming_rows")^ae (vE^U 0) ao) [] 1 (am 1) dD^aY bA (vE^U 1)^vC^.int 0)
theorem zC:EQ "comings" 1 1 mN:=λz=>by kernel_rfl
def lR (h:Str->GF):ES:=(ah (az 3<|O^aY bA (aY bA (vE^U 1)^vC^.int 0)^aY oj (vE^U 0)^dF^O^aY bA (vE^U 1)^vC^.int 0)
  (ah (az 4<|O^bf (d4^aY bA (vE^U 3)^vC^.int 3) [] 1 (am 011) dD^aY bA (vE^U 011)^vC^.int 0)
  (ah (az 05<|O^aY bA (aY ip (bj^ae (vC^.str "") ao)^aY bA (vE^U 3)^vC^.int 2)^aY oj (aY hX (vE^U 0)^vC^.int 2)^aY ip (dF^O^aY bA (vE^U 3)^vC^.int 2)^vC^.int 1)
  (ah (az 06<|O^aR (ba^h "_law_condition")^ae (aY oj (aY hX (vE^U 0)^vC^.int 012)^vC^.int 27000)^ae (vE^U 4) ao)
  (ah (az 07<|O^aY bA (bj^ae (vC^.str "=")^ae (vC^.str "!=")^ae (vC^.str "<")^ae (vC^.str "<=")^ae (vC^.str ">")^ae (vC^.str ">=") ao)^aY oj (aY hX (vE^U 0)^vC^.int 360)^vC^.int 06)
  (ah (az 08<|O^aY oj (aY hX (vE^U 0)^vC^.int 2160)^vC^.int 4)
  (ah (az 09<|O^aY oj (aY hX (vE^U 0)^vC^.int 8640)^vC^.int 06)
  (ah (cg (bV^a9 eS (U 09)^O^vC^.int 0) (aD^O^aQ^ae (vC^.str "all")^ae (aY bA (vE^U 3)^vC^.int 0)^ae (vE^U 05)^ae (vE^U 06) ao) cN)
  (ah (cg (bV^a9 eS (U 09)^O^vC^.int 1) (aD^O^aQ^ae (vC^.str "many")^ae (aY bA (vE^U 3)^vC^.int 0)^ae (vE^U 05)^ae (vE^U 06)^ae (vE^U 07)^ae (vE^U 08) ao) cN)
  (ah (cg (bV^a9 eS (U 09)^O^vC^.int 2) (ah (az 010<|O^aY bA (aY bA (vE^U 1)^vC^.int 0)^aY oj (aY hX (vE^U 0)^vC^.int 4)^dF^O^aY bA (vE^U 1)^vC^.int 0)
  (aD^O^aQ^ae (vC^.str "letters")^ae (aY bA (vE^U 3)^vC^.int 0)^ae (aY bA (vE^U 010)^vC^.int 0)^ae (aY bA (bj^ae (vC^.str "")^ae (vC^.str "ma")^ae (vC^.str "mb") ao)^aY oj (aY hX (vE^U 0)^vC^.int 24)^vC^.int 3)^ae (vE^U 07)^ae (vE^U 08) ao)) cN)
  (ah (cg (bV^a9 eS (U 09)^O^vC^.int 3) (aD^O^aQ^ae (vC^.str "dry") ao) cN)
  (ah (cg (iL (bV^a9 eS (U 09)^O^vC^.int 4)^bT^U 2) (aD^O^aQ^ae (vC^.str "true") ao) cN)
  (aD^O^aQ^ae (vC^.str "some")^ae (aY bA (vE^U 3)^vC^.int 0)^ae (vE^U 05)^ae (vE^U 06) ao)))))))))))))
theorem ya:EQ "_law_part" 3 011 lR:=λz=>by kernel_rfl
def ee (h:Str->GF):ES:=(ah (az 05<|O^aR (ba^h "_law_mix")^ae (aR (ba^h "_law_cell_at")^ae (vE^U 0)^ae (vE^U 2) ao)^ae (aY ip (vC^.int 3)^vE^U 3) ao)
  (ah (az 06<|O^aY oj (vE^U 05)^vC^.int 08)
  (ah (cg (zS (bV^aY No (vE^U 3)^vC^.int 06)^bV^aY JU (vE^U 06)^vC^.int 2) (aD^O^aR (ba^h "_law_part")^ae (aY hX (vE^U 05)^vC^.int 08)^ae (vE^U 1)^ae (vE^U 4) ao) cN)
  (ah (cg (bV^a9 eS (U 06)^O^vC^.int 2) (aD^O^aQ^ae (vC^.str "not")^ae (aR (ba^h "_law_fact")^ae (vE^U 0)^ae (vE^U 1)^ae (vE^U 2)^ae (aY ip (aY jY (vC^.int 2)^vE^U 3)^vC^.int 1)^ae (vE^U 4) ao) ao) cN)
  (ah (cg (zS (bV^aY JU (vE^U 06)^vC^.int 05)^l7^bT^U 4) (ah (az 07<|O^aY bA (bj^ae (vC^.str "and")^ae (vC^.str "or") ao)^aY oj (aY hX (vE^U 05)^vC^.int 08)^vC^.int 2)
  (ah (az 08<|O^aR (ba^h "_law_fact")^ae (vE^U 0)^ae (vE^U 1)^ae (vE^U 2)^ae (aY ip (aY jY (vC^.int 2)^vE^U 3)^vC^.int 1)^ae (vE^U 4) ao)
  (aD^O^aQ^ae (vE^U 07)^ae (vE^U 08)^ae (aR (ba^h "_law_fact")^ae (vE^U 0)^ae (vE^U 1)^ae (vE^U 2)^ae (aY ip (aY jY (vC^.int 2)^vE^U 3)^vC^.int 2)^ae (vE^U 4) ao) ao))) cN)
  (ah (az 09<|O^aY bA (aY bA (aY bA (vE^U 1)^vC^.int 0)^aY oj (aY hX (vE^U 05)^vC^.int 08)^dF^O^aY bA (vE^U 1)^vC^.int 0)^vC^.int 0)
  (ah (az 07<|O^aY bA (bj^ae (vC^.str "some knows")^ae (vC^.str "each knows") ao)^aY oj (aY hX (vE^U 05)^vC^.int 016)^vC^.int 2)
  (aD^O^aQ^ae (vE^U 07)^ae (vE^U 09)^ae (aR (ba^h "_law_fact")^ae (vE^U 0)^ae (vE^U 1)^ae (vE^U 2)^ae (aY ip (aY jY (vC^.int 2)^vE^U 3)^vC^.int 1)^ae (vE^U 4) ao) ao))))))))
theorem hU:EQ "_law_fact" 05 010 ee:=λz=>by kernel_rfl
def fP (h:Str->GF):ES:=(ah (az 06<|O^aY bA (aY bA (vE^U 4)^vC^.int 0)^vE^U 1)
  (vl (U 3) (vE^U 06)^vB^iL (bV^ml (U 3) (vE^U 06)^vC^.d W)^bV^vE^U 05))
def iH (h:Str->GF):ES:=(ah (az 3 yf)
  (ah (bR (A5 (vE^bL (aT Att) (bL (aT Att) (U 0) "around") "standings")^vE^U 2) (bu [am 4,am 05])^fP h)
  (aD^O^bf (d4^vE^bL (aT Att) (U 0) "standings") [4] 0 (am 4) dD^ml (U 3) (aY bA (aY bA (vE^U 4)^vC^.int 0)^vE^U 1)^vC^.d W)))
theorem qy:EQ "known_truths" 3 07 iH:=λz=>by kernel_rfl
def ou (h:Str->GF):ES:=(ah (cg (bV^a9 eS (U 0)^O^vC^.str "and") (aD^e_^bf (A5 (vE^U 1)^vE^U 2) [] 2 (bu [am 3,am 4]) dD^vB^iL (bV^vE^U 3)^bV^vE^U 4) cN)
  (aD^e_^bf (A5 (vE^U 1)^vE^U 2) [] 2 (bu [am 3,am 4]) dD^vB^zS (bV^vE^U 3)^bV^vE^U 4))
theorem Bg:EQ "joined" 3 3 ou:=λz=>by kernel_rfl
def cH (h:Str->GF):ES:=(ah (az 08<|O^cw (h "known_truths")^aB (U 0)^aB (U 07)^aB (U 05) b_)
  (cg (bV^a9 eS (O^dF^U 06)^O^vC^.int 0) (az 06<|U 08)<|az 06<|O^aR (ba^h "joined")^ae (Qs (bV^a9 eS (U 2)^O^vC^.str "some knows") (vC^.str "or")^vC^.str "and")^ae (vE^U 06)^ae (vE^U 08) ao))
def gE (h:Str->GF):ES:=(ah (uO (bu [am 2,am 3,am 4])^vE^U 1)
  (ah (az 05<|O^cw (h "truths_in")^aB (bL (aT Att) (U 0) "around")^aB (U 4) b_)
  (ah (az 06<|O^bj ao)
  (ah (bR (d4^vE^nc (bL (aT Att) (bL (aT Att) (U 0) "board") "members")^vE^U 3) (am 07)^cH h)
  (aD^U 06)))))
theorem n_:EQ "knowing_truths" 2 09 gE:=λz=>by kernel_rfl
def pR (h:Str->GF):ES:=(ah (cg (iL (bV^a9 Jd (U 2)^O^vC^.str "")^bV^a9 Jd (O^aY bA (aY bA (vE^U 0)^vC^.int 2)^aY bA (vE^U 1)^vC^.int 0)^U 2) (aD^O^vC^.d Xk) cN)
  (aD^O^aR (ba^h "holds")^ae (vE^U 3)^ae (aR (ba^h "values_of")^ae (vE^U 0)^ae (aY bA (vE^U 1)^vC^.int 1) ao) ao))
theorem Jk:EQ "fits" 4 4 pR:=λz=>by kernel_rfl
def eB (h:Str->GF):ES:=(ah (az 010<|O^lC (aY bA (aY bA (vE^U 07)^vC^.int 0)^vE^U 09) g7^fM^vC^.int 2)
  (ah (cg (bV^a9 i3 (U 010)^U 05) (tP (U 05) (vE^U 010)^aR (ba^h "fits")^ae (vE^U 4)^ae (vE^U 010)^ae (vE^U 2)^ae (vE^U 3) ao) cN)
  (cg (bT^MA (U 05)^vE^U 010) (xy 08<|vC^.int 1) cN)))
def eA (h:Str->GF):ES:=(ah (az 08<|O^vC^.int 0)
  (ah (bR (d4^vE^U 1) (am 09)^eB h)
  (cE^b0 (U 06)^U 08)))
def fQ (h:Str->GF):ES:=(ah (az 4<|dY (mT Tb h) (bL (aT Att) (U 0) "board") "family_of"^aB (nc (U 1)^vC^.int 0) b_)
  (ah (az 05 yf)
  (ah (az 06<|dI ao)
  (ah (bR (d4^vE^bL (aT Att) (U 0) "standings") (am 07)^eA h)
  (aD^U 06)))))
theorem nq:EQ "fitting_numbers" 4 011 fQ:=λz=>by kernel_rfl
def jt (h:Str->GF):ES:=(ah (uO (bu [am 2,am 3,am 4,am 05])^lC (vE^U 1) g7^fM^vC^.int 4)
  (ah (az 06<|nc (bL (aT Att) (bL (aT Att) (U 0) "board") "members")^vE^U 3)
  (ah (az 07<|O^cw (h "fitting_numbers")^aB (U 0)^aB (U 06)^aB (U 4)^aB (U 05) b_)
  (ah (cg (bV^a9 eS (U 2)^O^vC^.str "some") (aD^e_^bf (d4^vE^U 07) [] 1 (am 08) dD^aY No (vE^U 08)^vC^.int 0) cN)
  (ah (cg (bV^a9 eS (U 2)^O^vC^.str "all") (aD^e_^bf (d4^vE^U 07) [] 1 (am 08) dD^a9 eS (U 08)^O^dF^U 06) cN)
  (aD^e_^bf (d4^vE^U 07) [] 1 (am 08) dD^aR (ba^h "compared")^ae (aY bA (vE^U 1)^vC^.int 4)^ae (vE^U 08)^ae (aY bA (vE^U 1)^vC^.int 05) ao))))))
theorem rD:EQ "hand_truths" 2 08 jt:=λz=>by kernel_rfl
def ff(h:Str->GF):ES:=(xy 3<|dF^O^bf (d4^aY bA (aY bA (vE^U 0)^vC^.int 1)^vE^U 4) [] 1 (am 05) (zS (bV^a9 eS (U 2)^O^vC^.str "")^bV^a9 eS (O^aY bA (vE^U 05)^vC^.int 0)^U 2)^vE^U 05)
def ko (h:Str->GF):ES:=(ah (az 3<|O^vC^.int 0)
  (ah (bR (d4^vE^U 1) (am 4)^ff h)
  (aD^U 3)))
theorem pB:EQ "letter_number" 3 05 ko:=λz=>by kernel_rfl
def h7 (h:Str->GF):ES:=(ah (uO (bu [am 2,am 3,am 4,am 05,am 06])^lC (vE^U 1) (fM^vC^.int 1) g7)
  (ah (az 07<|O^bf (lG^vE^bL (aT Att) (bL (aT Att) (U 0) "board") "pairs") [] 2 (bu [am 08,am 09]) (bV^a9 eS (O^lC (aY bA (vE^U 09)^vC^.int 0) g7^fM^vC^.int 2)^O^aQ^ae (vE^U 2)^ae (vE^U 3) ao)^vE^U 08)
  (aD^e_^bf (d4^vE^bL (aT Att) (U 0) "standings") [] 1 (am 08) dD^aR (ba^h "compared")^ae (vE^U 05)^ae (aR (ba^h "letter_number")^ae (vE^U 08)^ae (vE^U 07)^ae (vE^U 4) ao)^ae (vE^U 06) ao)))
theorem pA:EQ "letter_truths" 2 08 h7:=λz=>by kernel_rfl
def fY(h:Str->GF):ES:=(cg (bT^O^cw (h "hand_ends")^Gn im lz mj) (aD^O^vC^.d Xk) cN)
def ov (h:Str->GF):ES:=(ah (bR (jE^dF^bL (aT Att) im "homes") (am 2)^fY h)
  (aD^O^Fc (cw (h "flaw_ends")^Gn im lz^O^vt "lose")^cw (h "flaw_ends")^Gn im lz^O^vt "double"))
theorem Bh:EQ "is_dry" 2 3 ov:=λz=>by kernel_rfl
def fh (h:Str->GF):ES:=(ah (cg (bV^a9 uR (bL (aT Att) (U 0) "dries")^O^vC^.n) (jv (aT Att) (U 0) "dries" (O^bf (d4^vE^bL (aT Att) (U 0) "standings") [] 1 (am 1) dD^cw (h "is_dry")^aB (bL (aT Att) (U 0) "board")^aB (U 1) b_)) cN)
  (aD^vK^vE^bL (aT Att) (U 0) "dries"))
theorem mG:EQ "Scene.dry_truths" 1 1 fh:=λz=>by kernel_rfl
def bB (h:Str->GF):ES:=(ah (az 2<|O^aY bA (vE^U 1)^vC^.int 0)
  (ah (cg (bV^a9 eS (U 2)^O^vC^.str "true") (aD^Mz (bj^ae (vC^.d W) ao)^dF^bL (aT Att) (U 0) "standings") cN)
  (ah (cg (bV^a9 eS (U 2)^O^vC^.str "not") (aD^e_^bf (d4^cw (h "truths_in")^aB (U 0)^aB (O^aY bA (vE^U 1)^vC^.int 1) b_) [] 1 (am 3) dD^vB^l7^bV^vE^U 3) cN)
  (ah (cg (bV^a9 gK (U 2)^O^aQ^ae (vC^.str "and")^ae (vC^.str "or") ao) (aD^d_ (h "joined")^aB (U 2)^aB (O^cw (h "truths_in")^aB (U 0)^aB (O^aY bA (vE^U 1)^vC^.int 1) b_)^aB (O^cw (h "truths_in")^aB (U 0)^aB (O^aY bA (vE^U 1)^vC^.int 2) b_) b_) cN)
  (ah (cg (bV^a9 gK (U 2)^O^vC^.u [.str "some",.str "all",.str "many"]) (aD^d_ (h "hand_truths")^aB (U 0)^aB (U 1) b_) cN)
  (ah (cg (bV^a9 eS (U 2)^O^vC^.str "letters") (aD^d_ (h "letter_truths")^aB (U 0)^aB (U 1) b_) cN)
  (ah (cg (bV^a9 eS (U 2)^O^vC^.str "dry") (aD^dY (mT Tb h) (U 0) "dry_truths" b_) cN)
  (aD^d_ (h "knowing_truths")^aB (U 0)^aB (U 1) b_))))))))
theorem dO:EQ "truths_in" 2 3 bB:=λz=>by kernel_rfl
def j0 (x h:Str->GF):ES:=(ah (jv (aT Att) (U 0) "board"^mH (h "Board.__init__") "Board"^aB (U 1) b_)
  (ah (jv (aT Att) (U 0) "standings"^U 2)
  (ah (jv (aT Att) (U 0) "around" (T6 (bV^a9 uR (U 3)^O^vC^.n) (U 0)^U 3))
  (jv (aT Att) (U 0) "dries" (O^vC^.n)))))
def ut(n:9):Ph (n+2) "Scene.__init__"=np 4 4 (j0 (Ph<|n+1)^Ph n):=by kernel_rfl
def oo(x h:Str->GF):ES:=(aD^d_ (x "truths_in")^aB (mH (gD^h "Scene.__init__") "Scene" (aB (U 0)^aB (U 2) b_))^aB (U 1) b_)
def Bf(n:9):Ph (n+2) "truths"=np 3 3 (oo (Ph<|n+1)^Ph n):=by kernel_rfl
def iE (h:Str->GF):ES:=(ah (az 06<|O^bf (A5 (vE^U 1)^vE^U 3) [] 2 (bu [am 07,am 08]) (bV^a9 eS (O^aY bA (aY bA (vE^U 07)^vC^.int 0)^vE^U 2)^O^aY bA (aY bA (vE^U 05)^vC^.int 0)^vE^U 2)^vE^U 08)
  (cE^b0 (U 4)^O^a9 iw (O^vC^.d Xk)^U 06))
def kD (h:Str->GF):ES:=(ah (az 4<|dI ao)
  (ah (bR (d4^vE^U 1) (am 05)^iE h)
  (aD^U 4)))
theorem uZ:EQ "_law_known" 4 07 kD:=λz=>by kernel_rfl
def kU (h:Str->GF):ES:=(ah (cg (bV^a9 eS (U 0)^O^vC^.str "=") (aD^O^a9 eS (U 1)^U 2) cN)
  (ah (cg (bV^a9 eS (U 0)^O^vC^.str "!=") (aD^O^a9 Jd (U 1)^U 2) cN)
  (ah (cg (bV^a9 eS (U 0)^O^vC^.str "<") (aD^O^aY JU (vE^U 1)^vE^U 2) cN)
  (ah (cg (bV^a9 eS (U 0)^O^vC^.str "<=") (aD^O^aY QH (vE^U 1)^vE^U 2) cN)
  (ah (cg (bV^a9 eS (U 0)^O^vC^.str ">") (aD^O^aY No (vE^U 1)^vE^U 2) cN)
  (aD^O^aY S_ (vE^U 1)^vE^U 2))))))
theorem qw:EQ "_law_relation" 3 3 kU:=λz=>by kernel_rfl
def fO(h:Str->GF):ES:=(az 1<|O^aY ip (vE^U 1)^aY jY (bj^ae (vE^U 2) ao)^aY bA (vE^U 2)^vC^.int 1)
def kY (h:Str->GF):ES:=(ah (az 1<|O^bj ao)
  (ah (bR (d4^aY bA (vE^U 0)^vC^.int 0) (am 2)^fO h)
  (aD^U 1)))
theorem qx:EQ "_law_families" 1 3 kY:=λz=>by kernel_rfl
def eG (h:Str->GF):ES:=(ah (cg (bV^a9 eS (O^aY bA (vE^U 0)^vC^.int 0)^O^vC^.str "number") (aD^O^aY bA (vE^U 0)^vC^.int 1) cN)
  (ah (cg (bV^a9 eS (O^aY bA (vE^U 0)^vC^.int 0)^O^vC^.str "name") (aD^O^aY bA (vE^U 1)^aY bA (vE^U 0)^vC^.int 1) cN)
  (ah (az 2<|O^aR (ba^h "_law_value")^ae (aY bA (vE^U 0)^vC^.int 1)^ae (vE^U 1) ao)
  (ah (az 3<|O^aR (ba^h "_law_value")^ae (aY bA (vE^U 0)^vC^.int 2)^ae (vE^U 1) ao)
  (ah (cg (bV^a9 eS (O^aY bA (vE^U 0)^vC^.int 0)^O^vC^.str "plus") (aD^O^aY ip (vE^U 2)^vE^U 3) cN)
  (ah (cg (bV^a9 eS (O^aY bA (vE^U 0)^vC^.int 0)^O^vC^.str "minus") (aD^O^aY MB (vE^U 2)^vE^U 3) cN)
  (aD^O^aY jY (vE^U 2)^vE^U 3)))))))
theorem fW:EQ "_law_value" 2 4 eG:=λz=>by kernel_rfl
def fF (h:Str->GF):ES:=(ah (cg (bV^a9 eS (O^aY bA (vE^U 0)^vC^.int 0)^O^vC^.str "true") (aD^O^vC^.d W) cN)
  (ah (cg (bV^a9 eS (O^aY bA (vE^U 0)^vC^.int 0)^O^vC^.str "not") (aD^O^vB^l7^bV^aR (ba^h "_law_true")^ae (aY bA (vE^U 0)^vC^.int 1)^ae (vE^U 1) ao) cN)
  (ah (cg (bV^a9 eS (O^aY bA (vE^U 0)^vC^.int 0)^O^vC^.str "is") (aD^O^aR (ba^h "_law_relation")^ae (aY bA (vE^U 0)^vC^.int 1)^ae (aR (ba^h "_law_value")^ae (aY bA (vE^U 0)^vC^.int 2)^ae (vE^U 1) ao)^ae (aR (ba^h "_law_value")^ae (aY bA (vE^U 0)^vC^.int 3)^ae (vE^U 1) ao) ao) cN)
  (ah (az 2<|O^aR (ba^h "_law_true")^ae (aY bA (vE^U 0)^vC^.int 1)^ae (vE^U 1) ao)
  (ah (az 3<|O^aR (ba^h "_law_true")^ae (aY bA (vE^U 0)^vC^.int 2)^ae (vE^U 1) ao)
  (ah (cg (bV^a9 eS (O^aY bA (vE^U 0)^vC^.int 0)^O^vC^.str "and") (aD^O^vB^iL (bV^vE^U 2)^bV^vE^U 3) cN)
  (aD^O^vB^zS (bV^vE^U 2)^bV^vE^U 3)))))))
theorem g_:EQ "_law_true" 2 4 fF:=λz=>by kernel_rfl
def h_(h:Str->GF):ES:=(jO (U 2) (aY bA (vE^U 3)^vC^.int 0)^vE^U 4)
def mJ (h:Str->GF):ES:=(ah (az 2 nC)
  (ah (bR (A5 (aY bA (vE^U 0)^vC^.int 3)^aY bA (vE^U 1)^vC^.int 1) (bu [am 3,am 4])^h_ h)
  (aD^U 2)))
theorem ur:EQ "_law_values" 2 05 mJ:=λz=>by kernel_rfl
def pP (h:Str->GF):ES:=(ah (az 05<|O^aY bA (aR (ba^h "_law_families")^ae (vE^U 0) ao)^vE^U 2)
  (ah (az 06<|O^aY bA (aY bA (vE^U 1)^vC^.int 0)^vE^U 2)
  (aD^O^vB^iL (bV^a9 gK (U 3)^O^bj^ae (vC^.str "")^ae (aY bA (aY bA (vE^U 05)^vC^.int 2)^aY bA (vE^U 06)^vC^.int 0) ao)^bV^aR (ba^h "_law_true")^ae (vE^U 4)^ae (aR (ba^h "_law_values")^ae (vE^U 05)^ae (vE^U 06) ao) ao)))
theorem yc:EQ "_law_fits" 05 07 pP:=λz=>by kernel_rfl
def nO(x h:Str->GF):ES:=(aD^d_ (x "ends_on")^aB (mH (h "Board.__init__") "Board"^aB (U 0) b_)^aB (U 1) b_)
def u6(n:9):Ph (n+2) "ends_from"=np 2 2 (nO (Ph<|n+1)^Ph n):=by kernel_rfl
def vW(h:Str->GF):ES:=(aD^e_^bf (d4^aR (ba^h "ends_from")^ae (vE^U 0)^ae (vE^U 1) ao) [] 1 (am 2) dD^aY bA (vE^U 2)^vC^.int 0)
theorem FZ:EQ "deeds" 2 2 vW:=λz=>by kernel_rfl
def pQ(h:Str->GF):ES:=(aD^O^bf (lG^aR (ba^h "_law_families")^ae (vE^U 0) ao) [] 2 (bu [am 2,am 3]) (bV^a9 eS (O^aY bA (vE^U 3)^vC^.int 0)^U 1)^vE^U 2)
theorem yd:EQ "_law_crew" 2 2 pQ:=λz=>by kernel_rfl
def fI(h:Str->GF):ES:=(cg (bV^a9 Jd (U 3)^U 4) (cE^b0 (U 1)^O^aQ^ae (vE^U 2)^ae (vE^U 3)^ae (vE^U 4) ao) cN)
def kX(h:Str->GF):ES:=(bR (d4^aR (ba^h "_law_crew")^ae (vE^U 0)^ae (aY bA (vE^U 2)^vC^.int 1) ao) (am 4)^fI h)
def kW(h:Str->GF):ES:=(bR (d4^aR (ba^h "_law_crew")^ae (vE^U 0)^ae (aY bA (vE^U 2)^vC^.int 0) ao) (am 3)^kX h)
def nL (h:Str->GF):ES:=(ah (az 1<|dI ao)
  (ah (bR (d4^aY bA (vE^U 0)^vC^.int 1) (am 2)^kW h)
  (aD^U 1)))
theorem uY:EQ "_law_pairs" 1 05 nL:=λz=>by kernel_rfl
def iF(h:Str->GF):ES:=(cg (bV^a9 eS (O^lC (aY bA (vE^U 05)^vC^.int 0) g7^fM^vC^.int 2)^O^lC (vE^U 2) (fM^vC^.int 1)^fM^vC^.int 3) (az 3<|O^aY ip (vE^U 3)^dF^O^bf (d4^aY bA (aY bA (vE^U 1)^vC^.int 1)^vE^U 4) [] 1 (am 06) (bV^a9 gK (O^aY bA (vE^U 2)^vC^.int 3)^O^bj^ae (vC^.str "")^ae (aY bA (vE^U 06)^vC^.int 0) ao)^vE^U 06) cN)
def nM (h:Str->GF):ES:=(ah (az 3<|O^vC^.int 0)
  (ah (bR (lG^aR (ba^h "_law_pairs")^ae (vE^U 0) ao) (bu [am 4,am 05])^iF h)
  (aD^U 3)))
theorem u0:EQ "_law_count" 3 06 nM:=λz=>by kernel_rfl
def eI (h:Str->GF):ES:=(ah (cg (bV^a9 eS (O^aY bA (vE^U 2)^vC^.int 0)^O^vC^.str "true") (aD^O^vC^.d W) cN)
  (ah (cg (bV^a9 eS (O^aY bA (vE^U 2)^vC^.int 0)^O^vC^.str "dry") (aD^O^a9 eS (O^aR (ba^h "deeds")^ae (vE^U 0)^ae (vE^U 1) ao)^O^bj ao) cN)
  (ah (cg (bV^a9 eS (O^aY bA (vE^U 2)^vC^.int 0)^O^vC^.str "letters") (aD^O^aR (ba^h "_law_relation")^ae (aY bA (vE^U 2)^vC^.int 4)^ae (aR (ba^h "_law_count")^ae (vE^U 0)^ae (vE^U 1)^ae (vE^U 2) ao)^ae (aY bA (vE^U 2)^vC^.int 05) ao) cN)
  (ah (az 3<|O^bf (d4^aR (ba^h "_law_crew")^ae (vE^U 0)^ae (aY bA (vE^U 2)^vC^.int 1) ao) [] 1 (am 4) dD^aR (ba^h "_law_fits")^ae (vE^U 0)^ae (vE^U 1)^ae (vE^U 4)^ae (aY bA (vE^U 2)^vC^.int 2)^ae (aY bA (vE^U 2)^vC^.int 3) ao)
  (ah (cg (bV^a9 eS (O^aY bA (vE^U 2)^vC^.int 0)^O^vC^.str "some") (aD^O^a9 gK (O^vC^.d W)^U 3) cN)
  (ah (cg (bV^a9 eS (O^aY bA (vE^U 2)^vC^.int 0)^O^vC^.str "all") (aD^O^a9 iw (O^vC^.d Xk)^U 3) cN)
  (aD^O^aR (ba^h "_law_relation")^ae (aY bA (vE^U 2)^vC^.int 4)^ae (N4 (vE^U 3)^vC^.d W)^ae (aY bA (vE^U 2)^vC^.int 05) ao)))))))
theorem i6:EQ "_law_plain" 3 4 eI:=λz=>by kernel_rfl
def iC(h:Str->GF):ES:=(cE^b0 (U 3)^O^aY bA (bj^ae (vB^iL (bV^vE^U 4)^bV^vE^U 05)^ae (vB^zS (bV^vE^U 4)^bV^vE^U 05) ao)^aR iz^ae (a9 eS (O^aY bA (vE^U 2)^vC^.int 0)^O^vC^.str "or") ao)
def iB (h:Str->GF):ES:=(ah (az 09<|O^bf (d4^vE^U 07) [] 1 (am 010) dD^aY bA (vE^U 010)^vE^U 08)
  (cE^b0 (U 3)^O^aY bA (bj^ae (a9 iw (O^vC^.d Xk)^U 09)^ae (a9 gK (O^vC^.d W)^U 09) ao)^aR iz^ae (a9 eS (O^aY bA (vE^U 2)^vC^.int 0)^O^vC^.str "some knows") ao))
def cM (h:Str->GF):ES:=(ah (cg (bV^a9 eS (O^aY bA (vE^U 2)^vC^.int 0)^O^vC^.str "not") (aD^O^bf (d4^aR (ba^h "_law_table")^ae (vE^U 0)^ae (vE^U 1)^ae (aY bA (vE^U 2)^vC^.int 1) ao) [] 1 (am 010) dD^vB^l7^bV^vE^U 010) cN)
  (ah (cg (bV^a9 gK (O^aY bA (vE^U 2)^vC^.int 0)^O^bj^ae (vC^.str "and")^ae (vC^.str "or") ao) (ah (az 3<|dI ao)
  (ah (bR (A5 (aR (ba^h "_law_table")^ae (vE^U 0)^ae (vE^U 1)^ae (aY bA (vE^U 2)^vC^.int 1) ao)^aR (ba^h "_law_table")^ae (vE^U 0)^ae (vE^U 1)^ae (aY bA (vE^U 2)^vC^.int 2) ao) (bu [am 4,am 05])^iC h)
  (aD^U 3))) cN)
  (ah (cg (bV^a9 iw (O^aY bA (vE^U 2)^vC^.int 0)^O^bj^ae (vC^.str "some knows")^ae (vC^.str "each knows") ao) (aD^O^bf (d4^vE^U 1) [] 1 (am 010) dD^aR (ba^h "_law_plain")^ae (vE^U 0)^ae (vE^U 010)^ae (vE^U 2) ao) cN)
  (ah (az 06<|O^aR (ba^h "_law_table")^ae (vE^U 0)^ae (vE^U 1)^ae (aY bA (vE^U 2)^vC^.int 2) ao)
  (ah (az 07<|O^bf (d4^aR (ba^h "_law_crew")^ae (vE^U 0)^ae (aY bA (vE^U 2)^vC^.int 1) ao) [] 1 (am 010) dD^aR (ba^h "_law_known")^ae (vE^U 0)^ae (vE^U 1)^ae (vE^U 010)^ae (vE^U 06) ao)
  (ah (az 3<|dI ao)
  (ah (bR (jE^dF^U 1) (am 08)^iB h)
  (aD^U 3))))))))
theorem i5:EQ "_law_table" 3 010 cM:=λz=>by kernel_rfl
def yp (h:Str->GF):ES:=(ah (az 1<|O^aR (ba^h "_law_plan")^ae (vE^U 0)^ae (vC^.int 2) ao)
  (ah (az 2<|O^aR (ba^h "comings")^ae (vE^U 1) ao)
  (ah (cg (bV^aY No (dF^U 2)^vC^.int 60) (aD^O^vC^.d W) cN)
  (ah (az 3<|O^aR (ba^h "_law_fact")^ae (vE^U 0)^ae (vE^U 1)^ae (vC^.int 56)^ae (vC^.int 0)^ae (vC^.d W) ao)
  (ah (az 4<|O^aR (ba^h "truths")^ae (vE^U 1)^ae (vE^U 3)^ae (vE^U 2) ao)
  (ah (cg (zS (l7^bT^O^nv "list"^U 4)^bV^a9 Jd (O^bf (d4^vE^U 4) [] 1 (am 05) (l7^bT^O^nv "bool"^U 05)^vE^U 05)^O^bj ao) (aD^O^vC^.d Xk) cN)
  (aD^O^a9 eS (U 4)^O^aR (ba^h "_law_table")^ae (vE^U 1)^ae (vE^U 2)^ae (vE^U 3) ao)))))))
theorem Mx:EQ "law" 1 05 yp:=λz=>by kernel_rfl
variable{a:Type}{m:6 a}{n:9}
def TV(h:-m=n+1):X0 λa r=>m=a::r/\-r=n:=by
 cases m with
 |nil=>ext h
 |cons a r=>calc#[a,r,0,rO h]
def Vv(h:-m=1):∃a,m=[a]:=by let(a,r,0,x):=TV h;calc#[a,by rw[iX x]]
def TW(h:-m=2):X0 λa b=>m=[a,b]:=by let(a,r,0,x):=TV h;let(b,0):=Vv x;calc#[a,b,0]
def Vu(h:-m=3):X1 λa b c=>m=[a,b,c]:=by let(a,r,0,x):=TV h;let(b,c,0):=TW x;calc#[a,b,c,0]
def WO(h:-m=4):X2 λa b c d=>m=[a,b,c,d]:=by let(a,r,0,x):=TV h;let(b,c,d,0):=Vu x;calc#[a,b,c,d,0]
theorem yx:∀{s:LS}{m:LV},s.Nodup->-m=-s->(s.filterMap λn=>((s.zip m).lookup n).map (n,·))=s.zip m/\∀n ∈ s,((s.zip m).lookup n).isNone=Xk
 | [],m,_,l=>by cases iX l;simp
 |p::s,[],_,l=>by ext l
 |p::s,u::m,x,l=>by
  let(k,f):=du.mp x;let(i,t):=yx f^rO l;have a:∀n ∈ s,(n == p)=Xk:=λn h=>wC λz=>k (z ▸ h);refine#[?_,λn r=>?_]
  .have c:∀{qs:LS},(∀n ∈ qs,(n == p)=Xk)->(qs.filterMap λn=>(((p,u)::s.zip m).lookup n).map (n,·))=qs.filterMap λn=>((s.zip m).lookup n).map (n,·):=λ{qs} h=>by
    induction qs with
    |nil=>rfl
    |cons q qs v=>rw[oT,oT,v λn x=>h n^aC _ x];simp[gR,h q aA]
   rw[wU,List.filterMap_cons_some (b:=(p,u)) (by simp[List.lookup_cons_self]),c a,i]
  .rw [wU];by_cases e:n=p
   .subst e;simp[gR]
   .rwa[gR,wC e];calc t n^(a8.mp r).resolve_left e
def AR(a:Arguments)(p:LS):15:=a.posonlyargs.isEmpty && a.kwonlyargs.isEmpty && a.vararg.isNone && a.kwarg.isNone && decide (a.args.map (·.arg)=p) && decide p.Nodup
def JG{f:FuncData}{p:LS}(h:AR f.params p=W)(hd:f.defaults=.none){m:LV}(l:-m=-p):bindArgs f #[m,[]]=pure^p.zip m:=by
 rwa[AR,av,se,mW,wu]at h;let(((((x,a),e),s),k),b):=h;let(t,q):=yx b l;have c:(p.filter λn=>((p.zip m).lookup n).isNone)=[]:=CY.mpr λn r=>by simp[q n r]
 have v:p.take (-p)=p:=oR;have z:p.drop (-p)=[]:=sm;unfold bindArgs;rwa[x,a,e,s,k,hd,d7,dR,dQ,l];simp[seqItems?,c,t,z];rfl
def sc:Tb.all TJ=W:=by decide +kernel
def un:(Tb.map (·.name)).Nodup:=by decide +kernel
inductive Fn(K:FG)(x:Str)(st:Stmt):5
 |mk (f:13) (oc:11) (od:7 13) (kV dc pm:11) (an:7 13) (cd ct:11) (sl:Array^OV):pY K mainGlobals x=Y (Y^.ref f)->K.lookup f=Y #[oc,od,.func^kt x x (jF st) (gi st) (bJ st) .none kV dc pm an cd ct,sl]->ku K cd x=W->eT K^.ref f=W->Fn K x st
def O7(d:Df):15:=d.cls.cps.isEmpty && decide (d.short=d.name) && !JS.contains d.cls && AR (jF d.st) d.ps
def Vm:QQ.all O7=W:=by decide +kernel
structure Ck(K:FG)(x:Str)(C:13):5 where
 ns:pY K mainGlobals x=Y (Y^.ref C)
 get:tm K C Str.empty=W
 dct:wQ K C=W
 ovr:Ay K C=W
 set:dC K (.ref C) "__setattr__"=Y (Y^.builtin "object.__setattr__")
 mak:Au K C=W
 kp:eT K^.ref C=W
inductive Mt(K:FG)(C:13)(st:Stmt)(m q:Str)(dV:11):5
 |mk (f:13) (oc:11) (od:7 13) (kV dc pm:11) (an:7 13) (cd ct:11) (sl:Array^OV):dC K (.ref C) m=Y (Y^.ref f)->wJ K^.ref f=W->K.lookup f=Y #[oc,od,.func^kt m q (jF st) (gi st) (bJ st) dV kV dc pm an cd ct,sl]->ku K cd q=W->eT K^.ref f=W->Mt K C st m q dV
section
variable{K:FG}{h:17}{b:SV}(X:K.In h)(G:h.Ns mainGlobals b)
include X G
def dk{d:Df}(H:Fn K d.name d.st)(p:O7 d=W):X0 λf s=>DOk K b d f s:=by let(x,P,e,st,N,S,y,i,F):=d;rwa[O7,av,oW,se]at p;let(((n,0),r),t):=p;let(f,o,j,kV,g,z,v,w,u,A,a,l,c,k):=H;calc#[_,_,#[Je l c k,.all λm q=>JG t rfl q,λZ=>#[_,_,_,_,_,_,0],λZ (h:JS.contains e=W)=>absurd h (by rw[r];decide),λZ=>wz X G a,λ(h:e.cps.isEmpty=Xk)=>absurd h (by rw[n];decide)]]
def dm(c:Ck K x C)(M:Mt K C st e q r)(j:x.cps.isEmpty=Xk)
  (m:∀(kV o p:11)(n:7 13)(d t:11),Binds K (kt e q (jF st) (gi st) (bJ st) r kV o p n d t) u []/\(e=("__init__":Str)->JS.contains x=W->Binds K (kt e q (jF st) (gi st) (bJ st) r kV o p n d t) u [.none])):X0 λf i=>DOk K b #[q,e,x,st,N,u,A,y,B] f i:=by
 let(f,H,S,kV,s,p,n,h,t,F,a,w,l,g,k):=M;have v:x.cps.isEmpty=W->False:=λz=>by rw[j]at z;ext z
 calc#[_,_,#[Je l g k,(m kV s p n h t).1,λz=>(v z).elim,(m kV s p n h t).2,λz=>(v z).elim,λZ=>#[C,c.ns,wz X G c.ns,#[c.get,c.dct,c.ovr,c.set],λz=>#[c.mak,z ▸ a,w,c.kp],λZ=>#[a,w,k]]]]
end
def Gi(K:FG)(x:Str)(i:8):5:=∃t,pY K mainGlobals x=Y (Y^.int i t)
variable{x:Str}
def Jb(X:K.In h)(G:h.Ns mainGlobals b){i:8}(H:Gi K x i):uF K b x^.int i:=by let(t,a):=H;calc#[_,.int i,wz X G a,#[_,0],λz z=>rfl]
def Gs(K:FG):5:=X4 λ(a:13)(n:9)(s:Array^OV)(t h x:Tok)=>pY K mainGlobals "HAND_PARTS"=Y (Y^.ref a)/\K.lookup a=Y #[.type "tuple",Z,.seq (10 [.str "some" t,.str "all" h,.str "many" x]) n,s]
structure BoardOk(K:FG)(C:13):5 where
 ck:Ck K "Board" C
 a_families:dC K (.ref C) "families"=Y Z
 a_homes:dC K (.ref C) "homes"=Y Z
 a_members:dC K (.ref C) "members"=Y Z
 a_pairs:dC K (.ref C) "pairs"=Y Z
 a_places:dC K (.ref C) "places"=Y Z
 m_Board_family_of:Mt K C (L2.i0 (Go 010) 1) "family_of" "Board.family_of" .none
 m_Board_hands_beside:Mt K C (L2.i0 (Go 010) 2) "hands_beside" "Board.hands_beside" .none
 m_Board_init:Mt K C (L2.i0 (Go 010) 0) "__init__" "Board.__init__" .none
structure SceneOk(K:FG)(C:13)(T:13):5 where
 ck:Ck K "Scene" C
 a_around:dC K (.ref C) "around"=Y Z
 a_board:dC K (.ref C) "board"=Y Z
 a_dries:dC K (.ref C) "dries"=Y Z
 a_standings:dC K (.ref C) "standings"=Y Z
 m_Scene_dry_truths:Mt K C (L2.i0 (Go 35) 1) "dry_truths" "Scene.dry_truths" .none
 m_Scene_init:Mt K C (L2.i0 (Go 35) 0) "__init__" "Scene.__init__" (.ref T)
 dv:X0 λo n=>K.lookup T=Y o/\o.data=.seq (10 [.none]) n
def WP:(Tb.all λd=>!d.deep.contains^Str.ofString "<lambda>" ||decide (d.name=IE))=W:=by decide +kernel
set_option tactic.hygienic true in
theorem K4(k:(PySem.W.kmHook K i e u).says w h)(l:Ep^K w.params=W)(p:((cO^K w.params).all λP=>u.contains P)=W) :
  ∀P ∈ cO^K w.params,h.get? P=Y^tj^10 []/\∃c,tf h c P:=λP f=>by
 calc#[PySem.W.km_tabs_of k P (by exists bc.mp p P f),?_];let((c,o),m,x):=sv.mp f;let a:=bc.mp l _ m;have b:xO o=W:=by
  unfold Hh at x;split at x
  .rename_i v hd;split at x
   .rename_i q t g n j;split at x
    .rename_i r;unfold xO;have d:o.data=.fields v:=hd;rw[d];let(s):=v;match s,n with
     |_::_::_,n=>cases (_=_|>cz n);exists r
    .ext x
   .ext x
  .ext x
 rw[b]at a;rwa[sF,ly]at a;rw[x]at a;exact#[c,GL (PySem.W.km_in_of k) a]
open PySem.W in
def Qh{w:16}{K:Frag}{h:17}{b:SV}(X:K.In h)(G:h.Ns mainGlobals b){C i T:13}(k:BoardOk K C)(r:SceneOk K i T)
  (P:∀d ∈ QQ,Fn K d.name d.st) (l:Ep K=W) (H:Gi K "MOST_STANDINGS" 2000)
  (S:Gs K) (j:Gi K "HIGHEST_LETTER" 999) (y:Gi K "NOBODY" (-1)) (z:∀x ∈ MM,nsIn K mainGlobals x=Y Z):TOk w Gv Att Tb K b:=by
 refine#[λd hd=>?_,sc,un,λx g=>mg_none_of X G^z x g,λx v t=>?_,λc f F=>?_,l,λd hd A=>?_]
 .rcases cj.mp hd with hd|hd
  .exact dk X G (P d hd)^bc.mp Vm d hd
  rwa[Wj,a8,eO,eN]at hd;rcases hd with rfl|rfl|rfl|rfl|rfl;all_goals first
   |calc dm X G k.ck k.m_Board_family_of (by decide +kernel) λV V V V V V=>#[.all λm l=>by let(_,_,0):=TW l;rfl,λh u=>by first|calc absurd h (by decide +kernel)|calc absurd u (by decide +kernel)]
   |calc dm X G k.ck k.m_Board_hands_beside (by decide +kernel) λV V V V V V=>#[.all λm l=>by let(_,_,_,0):=Vu l;rfl,λh u=>by first|calc absurd h (by decide +kernel)|calc absurd u (by decide +kernel)]
   |calc dm X G k.ck k.m_Board_init (by decide +kernel) λV V V V V V=>#[.all λm l=>by let(_,_,0):=TW l;rfl,λh u=>by first|calc absurd h (by decide +kernel)|calc absurd u (by decide +kernel)]
   |calc dm X G r.ck r.m_Scene_dry_truths (by decide +kernel) λV V V V V V=>#[.all λm l=>by let(_,0):=Vv l;rfl,λh u=>by first|calc absurd h (by decide +kernel)|calc absurd u (by decide +kernel)]
   | exact dm X G r.ck r.m_Scene_init (by decide +kernel) fun _ _ _ _ _ _=>#[fun s m KI l=>by
     rw[dQ]at l ⊢;let(_,_,_,_,0):=WO l;let(o,n,q,p):=r.dv;calc .of_defaults rfl (KI _ _ q) p rfl rfl,λV V s m KI l=>by
     let(_,_,_,0):=Vu (rO^(bo (as:=m) (bs:=[Value.none])).symm.trans l);let(o,n,q,p):=r.dv;calc .of_defaults rfl (KI _ _ q) p rfl rfl]
 .unfold Gv at t;by_cases e:x=("HAND_PARTS":Str)
  .rw [af e]at t;subst e;ext t;let(a,n,B,D,E,I,q,p):=S;exact(FV ["some","all","many"] (wz X G q) p (by show 3≤sizeLine;decide)^.cons #[_,0]^.cons #[_,0]^.cons #[_,0] .nil)
  rw[ag e]at t;clear e;by_cases e:x=("HIGHEST_LETTER":Str)
  .rw [af e]at t;subst e;ext t;exact Jb X G j
  rw[ag e]at t;clear e;by_cases e:x=("MOST_STANDINGS":Str)
  .rw [af e]at t;subst e;ext t;exact Jb X G H
  rw[ag e]at t;clear e;by_cases e:x=("NOBODY":Str)
  .rw [af e]at t;subst e;ext t;exact Jb X G y
  rw[ag e]at t;clear e;ext t
 .let(x,g,e):=j9.mp F;rw[av]at e;let q:=aS e.1;have p:f ∈ x.2:=by exists e.2
  subst q;rwa[Att,a8,eO,eN]at g;rcases g with rfl|rfl
  .rwa[a8,eO,eN]at p;rcases p with rfl|rfl|rfl|rfl|rfl
   .exact#[_,k.ck.ns,#[k.ck.get,k.ck.dct,k.ck.ovr,k.ck.set],k.a_families]
   .exact#[_,k.ck.ns,#[k.ck.get,k.ck.dct,k.ck.ovr,k.ck.set],k.a_homes]
   .exact#[_,k.ck.ns,#[k.ck.get,k.ck.dct,k.ck.ovr,k.ck.set],k.a_members]
   .exact#[_,k.ck.ns,#[k.ck.get,k.ck.dct,k.ck.ovr,k.ck.set],k.a_pairs]
   .exact#[_,k.ck.ns,#[k.ck.get,k.ck.dct,k.ck.ovr,k.ck.set],k.a_places]
  .rwa[a8,eO,eN]at p;rcases p with rfl|rfl|rfl|rfl
   .exact#[_,r.ck.ns,#[r.ck.get,r.ck.dct,r.ck.ovr,r.ck.set],r.a_around]
   .exact#[_,r.ck.ns,#[r.ck.get,r.ck.dct,r.ck.ovr,r.ck.set],r.a_board]
   .exact#[_,r.ck.ns,#[r.ck.get,r.ck.dct,r.ck.ovr,r.ck.set],r.a_dries]
   .exact#[_,r.ck.ns,#[r.ck.get,r.ck.dct,r.ck.ovr,r.ck.set],r.a_standings]
 .have:=bc.mp WP d hd;rw[A]at this;exists this
def log2_small{i:8}(h:i.natAbs < 2 ^ 60):i.natAbs.log2 < 60:=by
 by_cases e:i.natAbs=0
 .rw [e];decide
 .calc (Cu e).mpr h
def b7{i j:8}(h:i.natAbs < 2 ^ 60)(x:j.natAbs < 2 ^ 60):g8 i j=W:=by unfold g8;let a:=log2_small h;let b:=log2_small x;calc fx ()
def O8:∀(n:9)(v:P),cX n v=W->cX (n+1) v=W:=by
 intro n;induction n with
 |zero=>intro v h;ext v<;>first|rfl|calc h|ext h
 |succ n i=>
  intro v h;cases v with
  |u s=>calc bc.mpr λx a=>i x^bc.mp h x a
  |l s=>calc bc.mpr λx a=>i x^bc.mp h x a
  |ro s=>calc bc.mpr λx a=>i x^bc.mp h x a
  |n=>rfl
  |d _=>rfl
  |int _=>rfl
  |str _=>calc h
  |E _ _=>ext h
def g6(h:cX n v=W)(m:n≤e):cX e v=W:=by
 let(k,0):=Nat.exists_eq_add_of_le m;clear m;induction k with
 |zero=>calc h
 |succ k i=>calc O8 _ _ i
def strOk(x:Str):5:=aJ x=W
@[simp] theorem D8(n:9)(i:8):cX n^.int i=W:=by ext n<;>rfl
@[simp] theorem Vl(n:9)(i:15):cX n^.d i=W:=by ext n<;>rfl
@[simp] theorem TN(n:9):cX n .n=W:=by ext n<;>rfl
@[simp] theorem LO(n:9)(x:Str):cX n^.str x=aJ x:=by ext n<;>rfl
@[simp] theorem TM(n:9)(s:6 P):cX (n+1)^.u s=s.all^cX n:=rfl
@[simp] theorem TQ(n:9)(s:6 P):cX (n+1)^.l s=s.all^cX n:=rfl
theorem Vn(h:∀x ∈ s,cX n x=W):cX (n+1)^.l s=W:=bc.mpr h
@[simp] theorem El(c:9):oC #[(10 [c])]=1:=rfl
def Fk(h:strOk x)(a:strOk y):strOk (x++y):=by show(x.cps++y.cps).all (λc=>decide<|c < 0x110000)=W;rw[Db,av];calc#[h,a]
def Fj(e:strOk x)(n:9):strOk^eU x n:=by
 have k:∀(n:9)(a:Array 9),a.all (λc=>decide<|c < 0x110000)=W->((List.replicate n x.cps).foldl (·++·) a).all (λc=>decide<|c < 0x110000)=W:=by
  intro n;induction n with
  |zero=>intro a h;calc h
  |succ n i=>intro a h;rw[cK,f6];exact i _ (by rw[Db,av];calc#[h,e])
 calc k n (10 []) ∅
variable{k:8}
def Jt(f:strOk x)(a:0≤k)(s:k < -x)(n:-x≤1000000):∃c,strOk #[(10 [c])]/\bA (.str x)^.int k=Y^.str #[(10 [c])]:=by
 have l:k.toNat < -x.cps.toList:=by rwa[sI];unfold oC at s;lia
 have h:k.toNat < x.cps.size:=by exists l
 refine#[x.cps.toList[k.toNat],?_,?_]
 .have:=Array.all_eq_true.mp f k.toNat h;show((10 [x.cps.toList[k.toNat]]).all λc=>decide<|c < 0x110000)=W;exists this
 .have e:L2.atI x.cps.toList k=Y^x.cps.toList[k.toNat]:=ca a (by simp[h]);show(if jG (-x)=W then (L2.atI x.cps.toList k).map λc=>P.str #[(10 [c])] else Z)=_;rw[af (by rwa[pH];calc n),e];rfl
def Ga(h:-x+-y≤1000000):yj (.str x)^.str y=Y (.str<|x++y):=by show(if jG (-x+-y)=W then Y (P.str<|x++y) else Z)=_;rw[af (by rw[pH];calc h)]
variable{s:6 a}
def fj(h:s≠[])(a:8):∃x ∈ s,L2.atI s (a % (-s:8))=Y x:=by
 have l:(0:8) < (-s:8):=by cases s with|nil=>exact absurd rfl h|cons _ _=>simp
 let e:=iN a^Int.ne_of_gt l;let n:=j5 a l;have hk:(a % (-s:8)).toNat < -s:=by lia
 calc#[s[(a % (-s:8)).toNat],gW _,ca e (by simp[hk])]
def oy(h:0≤k)(a:k < (-s:8)):∃x ∈ s,L2.atI s k=Y x:=by
 have hk:k.toNat < -s:=by lia
 calc#[s[k.toNat],gW _,ca h (by simp[hk])]
def JL(h:s≠[]):∃x ∈ s,L2.atI s (-1)=Y x:=by
 have l:0 < -s:=CT.mpr h;calc#[s[-s-1],gW _,?_];unfold L2.atI L2.Gq;rw[ag (),af ()];have e:(-1+(-s:8)).toNat=-s-1:=by lia
 simp[e,l]
theorem dX{g:lc}{b:ES}{Inv:9->Lc->aK->5}:∀{s:6 P}{k:9}{L:Lc}{S:aK},(∀i v L S,s[i]? = Y v->Inv (k+i) L S->X1 λf L2 n=>g v L=Y f/\b f S=Y (.nx,L2,n)/\Inv (k+i+1) L2 n)->Inv k L S ->
  X0 λx a=>bv g b s L S=Y (.nx,x,a)/\Inv (k+-s) x a
 | [],k,L,S,_,h=>#[L,S,0,h]
 |v::r,k,L,S,c,h=>by
  let(f,L2,n,m,t,d):=c 0 v L S rfl h;let(x,a,p,u):=dX (g:=g) (b:=b) (Inv:=Inv) (s:=r) (k:=k+1) (L:=L2) (S:=n) (λi w L S e q=>by have:=c (i+1) w L S (by exists e) (by rw[k+(i+1)=k+1+i|>by lia];calc q);(rw [k+(i+1)+1=k+1+i+1|>by lia]at this;assumption)) d
  calc#[x,a,by rw[bx m t];calc p,by rw[aP,k+(-r+1)=k+1+-r|>by lia];calc u]
theorem qC{g:lc}{c:EB}{e:EV}{Inv:Lc->5}{Q:P->5}{S:aK}:∀{s:6 P}{L:Lc},(∀v ∈ s,∀L,Inv L->X0 λx k=>g v L=Y x/\Inv x/\c x S=Y (k,S)/\(k=W->∃y,e x S=Y (y,S)/\Q y))->Inv L ->
  ∃a,bG g c e s L S=Y (a,S)/\(∀y ∈ a,Q y)/\-a≤-s
 | [],L,_,h=>#[[],0,λo z=>(by ext z),ar _]
 |v::r,L,t,h=>by
  let(x,k,n,i,f,d):=t v aA L h;let(a,b,m,j):=qC (s:=r) (L:=x) (λw hw=>t w^aC _ hw) i;cases k with
  |false=>calc#[a,by simp[bG,n,f,b],m,by simp;lia]
  |true=>let(y,p,q):=d rfl;calc#[y::a,by simp[bG,n,f,b,p],λz u=>(a8.mp u).elim (λe=>e ▸ q)^m z,by simp;lia]
theorem lL{g:lc}{e:EV}{Inv:Lc->5}{Q:P->5}{S:aK}:∀{s:6 P}{L:Lc},(∀v ∈ s,∀L,Inv L->X0 λx y=>g v L=Y x/\Inv x/\e x S=Y (y,S)/\Q y)->Inv L ->
  ∃a,bG g dD e s L S=Y (a,S)/\(∀y ∈ a,Q y)/\-a=-s
 | [],L,_,h=>#[[],0,λu z=>(by ext z),0]
 |v::r,L,n,h=>by let(x,y,k,i,f,q):=n v aA L h;let(a,b,c,m):=lL (s:=r) (L:=x) (λw hw=>n w^aC _ hw) i;calc#[y::a,by simp[bG,k,f,b],λz t=>(a8.mp t).elim (λe=>e ▸ q)^c z,by simp[m]]
theorem cI{g:lc}{c:EB}{e:EV}{Inv:Lc->5}{S:aK}{p:P->15}{f:P->P}:∀{s:6 P}{L:Lc},(∀v ∈ s,∀L,Inv L->∃x,g v L=Y x/\Inv x/\c x S=Y (p v,S)/\(p v=W->e x S=Y (f v,S)))->Inv L ->
  bG g c e s L S=Y ((s.filter p).map f,S)
 | [],L,_,h=>rfl
 |v::r,L,m,h=>by
  let(x,n,i,a,t):=m v aA L h;let b:=cI (s:=r) (L:=x) (λw hw=>m w^aC _ hw) i;cases k:p v with
  |false=>rw[k]at a;simp[bG,n,a,b,k]
  |true=>rw[k]at a;simp[bG,n,a,b,k,t k]
def ints_get{lo:8}{n i:9}{v:P}(h:(intsFrom lo n)[i]? = Y v):v=.int (lo+i)/\i < n:=by
 unfold Ev.intsFrom at h;rw[cm]at h;cases e:(List.range n)[i]? with
 |none=>rw[e]at h;ext h
 |some j=>
  rw[e]at h;ext h;have:=bP.mp e
  let(x,a):=this;simp at x a;subst a;calc#[0,x]
def jc{lo:8}{n:9}{v:P}(h:v ∈ intsFrom lo n):∃i:9,v=.int (lo+i)/\i < n:=by let(i,x,e):=iT.mp h;calc#[i,ints_get (by rw[bt x,e])]
def dq(lo:8)(n:9):-(intsFrom lo n)=n:=by simp[Ev.intsFrom]
def Iu(n k:Str->GF)(s:6 P):∀(a:8)(p t q:7 D),X0 λ(r:8)(e:7 D)=>bv (am 2) (jZ n) s [qi a,p,t,q] []=Y (.nx,[qi r,p,e,q],[]):=by
 induction s with
 |nil=>intro a p t q;calc#[a,t,0]
 |cons x s i=>intro a p t q;let(r,e,h):=i (a / 2147483648) p (qp x) q;calc#[r,e,by simpa[bv,jZ] using h]
def Ir(a:8){p:8}(s:0≤p)(k:p < 1000):∃r:8,0≤r/\ba (Ph (n+2) "_law_mix") [.int a,.int p]=Y^.int r:=by
 by_cases h:(1000000000000:8)≤a
 .let(r,g,e):=Iu (Ph<|n+1) (Ph n) (intsFrom 0 (p % 61).toNat) (a / 1000000000000-1) (qi p) Z Z;calc#[r % 2147483648,iN _ #[],?_];have c:(p % 61).natAbs < 1000000:=by lia
  rw[qT,aL];simp[mK,h,c,e]
 .have m:0≤p * p/\p * p≤1000000:=#[Int.mul_nonneg s s,Int.le_trans (Int.mul_le_mul (BI k) (BI k) s #[]) #[]];have v:g8 p p=W:=b7 () ();have d:g8 (p * p) 7919=W:=b7 () #[];have m3:g8 (a % 1000003+p * p * 7919+p) 48271=W:=b7 () #[];generalize f:(a % 1000003+p * p * 7919+p) * 48271 % 2147483629=x;have t:0≤x/\x < 2147483629:=by subst f;exact#[iN _ #[],j5 _ #[]]
  have w:g8 x x=W:=b7 () ();generalize b:x * x % 2147483587=y;have q:0≤y/\y < 2147483587:=by subst b;exact#[iN _ #[],j5 _ #[]]
  have u:g8 y (y+2)=W:=b7 () ();calc#[y * (y+2) % 2147483579 / 07,Int.ediv_nonneg (iN _ #[]) #[],?_];rw[qT,aL];simp[mK,h,v,d,m3,f,w,b,u]
def jD(n:6 8):P:=.ro^n.map .int
def EY(s:6 8)(x:0≤k):∃r:8,ba (Ph (n+2) "_law_cell_at") [jD s,.int k]=Y^.int r:=by
 by_cases h:k < (-s:8)
 .have hk:k.toNat < -s:=by lia
  calc#[s[k.toNat],?_];have e:L2.atI (s.map P.int) k=Y^.int s[k.toNat]:=ca x (by simp[hk]);rw[lY,aL];simp[js,jD,dj,dP,h,e]
 .calc#[(0),?_];rw[lY,aL];simp[js,jD,dj,dP,h]
inductive Drw(n:9)(ns:6 8)(k p:8):5
 |mk (c r:8):0≤r->ba (Ph (n+2) "_law_cell_at") [jD ns,.int k]=Y^.int c->ba (Ph (n+2) "_law_mix") [.int c,.int p]=Y^.int r->Drw n ns k p
def i7{n:9}(s:6 8){k p:8}(x:0≤k)(a:0≤p)(f:p < 1000):Drw n s k p:=by let(c,e):=EY (n:=n) s x;let(r,b,h):=Ir (n:=n) c a f;calc#[c,r,b,e,h]
def O5:strOk "xyz":=by unfold strOk;decide +kernel
def Ek:-("xyz":Str)=3:=by decide +kernel
def Tu:∀k:9,k < 016->bA (.str "abcdefghijklmnop")^.int (k:8)=Y^.str #[(10 [97+k])]:=by
 intro k hk;have e:∀k:9,k < 016->L2.atI ((("abcdefghijklmnop":Str)).cps.toList) (k:8)=Y (97+k):=by decide +kernel
 show(if jG (-(("abcdefghijklmnop":Str)))=W then (L2.atI ((("abcdefghijklmnop":Str)).cps.toList) (k:8)).map λc=>P.str #[(10 [c])] else Z)=_;rw[e k hk,af (by decide +kernel)];rfl
def hd(x:Str):7 9:=x.cps[0]?
def Oz(c n:9)(x:Str):hd (eU #[(10 [c])] (n+1)++x)=Y c:=by
 have k:∀(n:9)(a:Array 9),a[0]? = Y c->((List.replicate n^10 [c]).foldl (·++·) a)[0]? = Y c:=by
  intro n;induction n with
  |zero=>intro a h;calc h
  |succ n i=>intro a h;rw[cK,f6];calc i _ ?_;have s:0 < a.size:=(sK.mp h).1;rw[Dd s];exact h
 let h:=k n ((10 [])++(10 [c])) ∅;have s:0 < ((List.replicate n^10 [c]).foldl (·++·)<|(10 [])++(10 [c])).size:=(sK.mp h).1;show(((List.replicate (n+1)^10 [c]).foldl (·++·)^10 [])++x.cps)[0]? = Y c;rw[cK,f6,Dd s];calc h
def m5{n:9}(s:6 8){k:9}(r:k < 016):∃x:Str,strOk x/\hd x=Y (97+k)/\ba (Ph (n+3) "_law_name") [jD s,.int (k:8)]=Y^.str x:=by
 let(c,a,t,e,b):=i7 (n:=n) s (k:=1) (p:=(k:8)) () () ();let u:=Tu k r;let(d,h,f):=Jt (k:=a / 4 % 3) O5 () (by rw[Ek];lia) (by rw[Ek];lia);have hk:strOk #[(10 [97+k])]:=by show((10 [97+k]).all λc=>decide<|c < 0x110000)=W;simp;lia
 have m:yi (.str #[(10 [97+k])]) (.int<|1+a % 4)=Y (.str<|eU #[(10 [97+k])]<|(a % 4).toNat+1):=by show(if (jG ((1+a % 4).toNat * 1) && decide ((1+a % 4).natAbs < 1000000))=W then Y (P.str^eU #[(10 [97+k])] (1+a % 4).toNat) else Z)=_;rw[af (by rw[av,pH];calc#[(),fx ()]),(1+a % 4).toNat=(a % 4).toNat+1|>by lia]
 let z:=Ga (x:=eU #[(10 [97+k])]<|(a % 4).toNat+1) (y:=#[(10 [d])]) (by rw[nw,El,El];lia);calc#[eU #[(10 [97+k])] ((a % 4).toNat+1)++#[(10 [d])],Fk (Fj hk _) h,Oz _ _ _,?_];rw[yb,aL];simp[pO,e,b,u,f,m,z]
def ak(h:f L S=Y (.nx,e,c)):ah f g L S=g e c:=by rw[ah,h]
def ug{c:EB}{x y:ES}{L:Lc}{S:aK}(h:c L S=Y (W,S)):cg c x y L S=x L S:=by rw[cg,h];rfl
def Ez{c:EB}{x y:ES}{L:Lc}{S:aK}(h:c L S=Y (Xk,S)):cg c x y L S=y L S:=by rw[cg,h];rfl
def yL{A R:ES}{L:Lc}{S:aK}{p:Lc->5}{G:DN->5}(h:∃x,p x/\A L S=Y (.nx,x,S))(k:∀x,p x->G^R x S):G^ah A R L S:=by let(x,a,e):=h;rw[ak e];calc k x a
def Vs(a:8):∃r:8,-1≤r/\r≤05/\L2.atI [P.int 0,.int 0,.int<|-1,.int 05] (a % 4)=Y^.int r:=by
 have h:a % 4=0\/a % 4=1\/a % 4=2\/a % 4=3:=by lia
 rcases h with h|h|h|h<;>rw[h]<;>simp
def Sz(a:8):∃r:8,0≤r/\r≤1/\L2.atI [P.int 1,.int 1,.int 0,.int 1] (a % 4)=Y^.int r:=by
 have h:a % 4=0\/a % 4=1\/a % 4=2\/a % 4=3:=by lia
 rcases h with h|h|h|h<;>rw[h]<;>simp
inductive isCel(v:P):5
 |mk (x:Str) (lo hi at':8):strOk x->-1≤lo->lo≤at'->at'≤hi->(hi≤07/\hi≤lo+1/\hd x≠Y 105)->v=.u [.str x,.int lo,.int hi,.int at']->isCel v
def re:P->6 P
 | .u s=>s
 | .l s=>s
 |_=>[]
def gH(v:P)(k:9):P:=(re v)[k]?.getD .n
def iv:P->8
 | .int i=>i
 |_=>0
@[simp] theorem Wy(s:6 P):re^.u s=s:=rfl
@[simp] theorem UM(s:6 P):re^.l s=s:=rfl
@[simp] theorem Sa(s:6 P)(k:9):gH (.u s) k=s[k]?.getD .n:=rfl
@[simp] theorem WQ(i:8):iv^.int i=i:=rfl
def br:P->Str
 | .u (.str s::_)=>s
 |_=>""
def uJ(v:6 P):5:=(∀c ∈ v,isCel c)/\∃o,∀i c,v[i]? = Y c->hd^br c=Y (o+i)
@[simp] theorem Hg(v:6 P):toP 09 (.ref 0) [.l^v.map .p]=Y (.l v,[.fz^.l v]):=dw rfl
def eD(s:6 P)(v:P):s.map D.p++[.p v]=(s++[v]).map .p:=by simp
theorem fZ{Q:P->5}{s:6 P}{v:P}(h:∀x ∈ s,Q x)(e:Q v):∀x ∈ s++[v],Q x:=λx a=>(cj.mp a).elim (h x) λa=>by rw[cJ.mp a];calc e
theorem zt{Q:9->P->5}{s:6 P}{v:P}(h:∀i x,s[i]? = Y x->Q i x)(n:Q s.length v):∀i x,(s++[v])[i]? = Y x->Q i x:=λi x a=>by
 by_cases e:i < (-s)
 .rw [cG e]at a;exact h i x a
 .rw [bZ ()]at a;have:i-s.length=0:=by
   have:=(bP.mp a).1;simp at this;lia
  rw[this]at a;ext a;rw[i=-s|>by lia];calc n
def JA{n:9}(r:6 8){f:8}(h0:0≤f):∃m:6 P,-m≤1/\uJ m/\ba (Ph (n+4) "_law_cells") [jD r,.int f]=Y^.l m:=by
 let(c,a,ha,I,M):=i7 (n:=n+1) r (k:=2+f) (p:=1) () () ();have hm:a % 2 < 2:=j5 _ ();have X:0≤a % 2:=iN _ ();let Inv:9->Lc->aK->5:=λi L S=>X3 λ(m:6 P)(H F K A:7 D)=>-m=i/\((∀c ∈ m,isCel c)/\∀i c,m[i]? = Y c->hd^br c=Y (99+i))/\L=[qp^jD r,qi f,qr 0,H,F,K,A]/\S=[.l^m.map .p]
 let(L',S',e,m,H,F,K,A,l,o,0,0):=dX (g:=am 3) (b:=iG<|Ph<|n+3) (Inv:=Inv) (s:=Ev.intsFrom 0 (a % 2).toNat) (k:=0)
  (L:=[qp^jD r,qi f,qr 0,Z,Z,Z,Z]) (S:=[.l []]) (fun i v L S hv T=>by
   let(0,hi):=ints_get hv;let(m,H,F,K,A,l,o,0,0):=T;let(c2,d,hd,E,G):=i7 (n:=n+1) r (k:=2+f) (p:=2+(i:8)) () () ();let(x,hx,t,R):=m5 (n:=n) r (k:=2+i) ();let(lo,y,Z1,N):=Vs d;let(u,hup,B,Q):=Sz (d / 4);have C:0 < lo+u-lo+1:=by lia
   have V:-m≤1000000:=by lia
   generalize hw:d / 016 % (lo+u-lo+1)=w;have hw0:0≤w/\w < lo+u-lo+1:=by subst hw;exact#[iN _ (),j5 _ C]
   have z:My.hd x≠Y 105:=by rw[t];intro q;have:=cz q;lia
   refine#[_,[qp^jD r,qi f,qr 0,qi (i:8),qi d,qi lo,qi<|lo+u],[.l^(m++[P.u [.str x,.int lo,.int<|lo+u,.int<|lo+w]]).map D.p],0,?_,_,_,_,_,_,by simp;lia,#[fZ o.1 #[x,lo,lo+u,lo+w,hx,y,(),(),#[(),(),z],0],zt o.2 ?_],0,0]
   .rw [<- eD];have j:ba (Ph (n+3) "_law_name") [jD r,.int<|2+(i:8)]=Y^.str x:=by rw[<- R];rfl
    simp[iG,E,G,j,N,Q,C,gC,V,hw]
   .show My.hd x=_;rw[t,l];congr 1;lia) #[[],Z,Z,Z,Z,0,#[λW h=>(by ext h),λW W h=>(by ext h)],0,0]
 calc#[m,by rw[l,dq];lia,#[o.1,99,o.2],?_];have Z0:(a % 2).natAbs < 1000000:=by lia
 rw[u3,aL];simp[nN,I,M,Z0,e]
@[simp] theorem TH:aJ "number"=W/\aJ "name"=W/\aJ "plus"=W/\aJ "minus"=W/\aJ "times"=W/\aJ "true"=W/\aJ "not"=W/\aJ "or"=W/\aJ "and"=W/\aJ "is"=W/\aJ "="=W/\aJ "!="=W/\aJ "<"=W/\aJ "<="=W/\aJ ">"=W/\aJ ">="=W/\aJ "row"=W/\aJ "heap"=W/\aJ "ma"=W/\aJ "mb"=W/\aJ "who"=W/\aJ "all"=W/\aJ "any"=W/\aJ ""=W/\aJ "it"=W/\aJ "weak"=W/\aJ "strong"=W/\aJ "step"=W/\aJ "lose"=W/\aJ "double"=W:=by decide +kernel
def mD(v:P):5:=∃s:Str,aJ s=W/\v=.str s
def mD.ok(h:mD v)(n:9):cX n v=W:=by let(s,h,0):=h;exists h
theorem jR{s:6 P}(h:∀x ∈ s,mD x)(n:9):cX (n+1)^.l s=W:=Vn λx a=>(h x a).ok n
def dM(h:s≠[]):s.isEmpty=Xk:=by cases s with|nil=>calc absurd rfl h|cons _ _=>rfl
theorem len_pos(h:s≠[]):0 < -s:=CT.mpr h
noncomputable abbrev nT(k:8):P:=.u [.str "number",.int k]
noncomputable abbrev nU(y:P):P:=.u [.str "name",y]
def uc(N:6 P)(v:P):5:=(∃k,v=nT k)\/∃y ∈ N,v=nU y\/(∃k,v=.u [.str "plus",nU y,nT k])\/(X0 λ(k j:8)=>0≤k/\k≤2/\v=.u [.str "minus",.u [.str "times",nU y,nT k],nT j])\/v=.u [.str "minus",nT 1,nU y]
def AI{n:9}(d:8){s:6 P}(c:∀x ∈ s,mD x):∃v,uc s v/\ba (Ph (n+2) "_law_sum") [.int d,.l s]=Y v:=by
 let e:=xU^jR c 19;by_cases k:s=[]
 .subst k;calc#[nT<|d / 05 % 3,.inl #[_,0],?_];rw[gJ,aL];simp[fg,e]
 rw[dM k]at e;let l:=len_pos k;let(y,f,a):=fj k (d / 05);have b:d % 05=0\/d % 05=1\/d % 05=2\/d % 05=3\/d % 05=4:=by lia
 rcases b with h|h|h|h|h
 .calc#[nT<|d / 05 % 3,.inl #[_,0],?_];rw[gJ,aL];simp[fg,e,h]
 .calc#[nU y,.inr #[y,f,.inl rfl],?_];rw[gJ,aL];simp[fg,e,h,dj,dP,l,a]
 .calc#[.u [.str "plus",nU y,nT<|d / 20 % 3],.inr #[y,f,.inr^.inl #[_,0]],?_];rw[gJ,aL];simp[fg,e,h,dj,dP,l,a]
 .calc#[.u [.str "minus",.u [.str "times",nU y,nT<|d / 20 % 3],nT<|d / 60 % 2],.inr #[y,f,.inr^.inr^.inl #[_,_,(),(),0]],?_];rw[gJ,aL];simp[fg,e,h,dj,dP,l,a]
 .calc#[.u [.str "minus",nT 1,nU y],.inr #[y,f,.inr^.inr^.inr rfl],?_];rw[gJ,aL];simp[fg,e,h,dj,dP,l,a]
def m_(N:6 P)(v:P):5:=X1 λw y s=>y ∈ N/\uc N s/\aJ w=W/\v=.u [.str "is",.str w,nU y,s]
def n6(N:6 P)(v:P):5:=v=.u [.str "true"]\/m_ N v\/(∃p,(m_ N p\/p=.u [.str "true"])/\v=.u [.str "not",p])\/X0 λp z=>m_ N p/\z ∈ N/\v=.u [.str "or",p,.u [.str "and",.u [.str "true"],.u [.str "is",.str "=",nT 1,nU z]]]
def w6(a:8):∃w:Str,aJ w=W/\L2.atI [P.str "=",.str "!=",.str "<",.str "<=",.str ">",.str ">="] (a % 06)=Y^.str w:=by let(w,hw,e):=oy (s:=[P.str "=",.str "!=",.str "<",.str "<=",.str ">",.str ">="]) (k:=a % 06) () (by simp;lia);rwa[a8,eO,eN]at hw;rcases hw with rfl|rfl|rfl|rfl|rfl|rfl<;>calc#[_,∅,e]
def cond_ok{n:9}(d:8){s:6 P}(m:∀x ∈ s,mD x):∃v,n6 s v/\ba (Ph (n+3) "_law_condition") [.int d,.l s]=Y v:=by
 let e:=xU^jR m 19;by_cases a:s=[]
 .subst a;calc#[.u [.str "true"],.inl rfl,?_];rw[dH,aL];simp[cY,e]
 rw[dM a]at e;let l:=len_pos a;let(y,g,c):=fj a (d / 30);let(z,i,r):=oy (s:=s) (k:=0) () ();let(w,hw,b):=w6 (d / 05);let(v,u,f):=AI (n:=n) (d / 90) m;have p:m_ s^.u [.str "is",.str w,nU y,v]:=#[w,y,v,g,u,hw,0];by_cases t:d % 05 < 2
 .calc#[.u [.str "true"],.inl rfl,?_];rw[dH,aL];simp[cY,e,t]
 have q:d % 05=2\/d % 05=3\/d % 05=4:=by lia
 rcases q with h|h|h
 .calc#[_,.inr^.inr^.inl #[_,.inl p,0],?_];rw[dH,aL];simp[cY,e,h,dj,dP,l,c,b,f]
 .calc#[_,.inr^.inr^.inr #[_,z,p,i,0],?_];rw[dH,aL];simp[cY,e,h,dj,dP,l,c,r,b,f]
 .calc#[_,.inr^.inl p,?_];rw[dH,aL];simp[cY,e,h,dj,dP,l,c,b,f]
inductive isRoad(v:P):5
 |mk (a b k:Str) (c:8) (d e:15):aJ a=W->aJ b=W->(k="row"\/k="heap")->1≤c->c≤1->v=.u [.str a,.str b,.str k,.int c,.d d,.d e]->isRoad v
def rA:P->Str
 | .u (.str a::_)=>a
 |_=>""
def rB:P->Str
 | .u (_::.str b::_)=>b
 |_=>""
def RD(r h:P):5:=¬(rA r=rA h/\rB r=rB h)
def NC(F:6 P)(v:6 P):5:=-v≤08/\(∀r ∈ v,isRoad r/\.str^rA r ∈ F/\.str^rB r ∈ F)/\v.Pairwise RD
def U_(F:6 P)(v:6 P)(i j:9):5:=∀r ∈ v,X0 λh x=>F[h]? = Y (.str^rA r)/\F[x]? = Y (.str^rB r)/\(h < i\/(h=i/\x < j))
def HQ{a b:P}(d:8):∃w,(w=a\/w=b)/\L2.atI [a,b] (d % 2)=Y w:=by let(w,hw,e):=oy (s:=[a,b]) (k:=d % 2) () (by simp;lia);calc#[w,by simpa using hw,e]
def kN{s:6 P}{i:9}{v:P}(h:(cy 0 s)[i]? = Y v):∃x,s[i]? = Y x/\v=.u [.int (i:8),x]:=by let(x,a,e):=qv h;calc#[x,a,by rw[e];simp]
theorem bW{a:Type}{s:6 a}{i:9}{x:a}(h:s[i]? = Y x):i < -s:=(bP.mp h).1
def Hz{n:9}(F:6 8){s:6 P}(hx:∀x ∈ s,mD x)(N:∀(i j:9) x,s[i]? = Y x->s[j]? = Y x->i=j)(hl:-s≤2):∃f:6 P,NC s f/\ba (Ph (n+3) "_law_roads") [jD F,.l s]=Y^.l f:=by
 let I:9->7 D->7 D->9->Lc->aK->5:=λii k K j L S=>X3 λ(f:6 P)(E G M A:7 D)=>(NC s f/\U_ s f ii j/\-f≤2 * ii+j)/\L=[qp^jD F,ql s,qr 0,k,K,E,G,M,A]/\S=[.l^f.map .p]
 let Inv:9->Lc->aK->5:=λi L S=>X0 λk K=>I i k K 0 L S
 let(L',S',e,k0,one0,f,E,G,M,A,(o,_,_),0,0):=dX (g:=bu [am 3,am 4]) (b:=iD<|Ph<|n+2) (Inv:=Inv) (s:=cy 0 s) (k:=0)
  (L:=[qp^jD F,ql s,qr 0,Z,Z,Z,Z,Z,Z]) (S:=[.l []]) (fun i v L S hv hI=>by
   let(x,t,0):=kN hv;let hi:=bW t;let R:=bq t;let(a,ha,0):=hx x R;let(_,_,f,E,G,M,A,o,0,0):=hI;rw[gN]at o ⊢;let(L',S',e,hI2):=dX (g:=bu [am 05,am 06]) (b:=fH<|Ph<|n+2) (Inv:=I i (qi (i:8))^qs a) (s:=cy 0 s) (k:=0)
    (L:=[qp^jD F,ql s,qr 0,qi (i:8),qs a,E,G,M,A]) (S:=[.l^f.map .p]) (fun j v L S hv hI=>by
     let(y,q,0):=kN hv;let hj:=bW q;let T:=bq q;let(b,hb,0):=hx y T;let(f,E,G,M,A,(o,m,hvl),0,0):=hI;rw[gN]at m hvl ⊢;let(c,d,hd,V,Z1):=i7 (n:=n) F (k:=4) (p:=3 * (i:8)+(j:8)) () () ();have m4:g8 3 (i:8)=W:=b7 #[] ();by_cases hg:0 < d % 4
     .obtain⟨w,hw,X⟩:∃w:Str,(w="row"\/w="heap")/\L2.atI [P.str "row",.str "heap"] (d / 4 % 2)=Y^.str w:=by
       let(w,hw,X):=HQ (a:=.str "row") (b:=.str "heap") (d / 4);rcases hw with rfl|rfl
       .exact#[_,.inl rfl,X]
       .exact#[_,.inr rfl,X]
      have Q:-f≤1000000:=by lia
      calc#[_,[qp^jD F,ql s,qr 0,qi (i:8),qs a,qi (j:8),qs b,qi d,qs w],[.l^(f++[P.u [.str a,.str b,.str w,.int 1,.d<|decide<|d / 016 % 3=1,.d<|decide<|d / 48 % 3=1]]).map D.p],0,?_,_,_,_,_,_,#[#[by simp;lia,fZ o.2.1 #[#[a,b,w,_,_,_,ha,hb,hw,(),(),0],R,T],List.pairwise_append.mpr #[o.2.2,List.pairwise_singleton _ _,λr H z hz=>?_]],fZ (λr H=>?_) #[i,j,t,q,.inr #[0,()]],by simp;lia],0,0];rotate_left
      .rw [cJ.mp hz];rintro ⟨V,Z1⟩;let(B,C,u,l,Z0):=m r H;rw[V]at u;rw[Z1]at l;have:=N _ _ _ u t
       have:=N _ _ _ l q;lia
      .let(B,C,u,l,Z0):=m r H;exact#[B,C,u,l,()]
      rw[<- eD];simp[fH,V,Z1,m4,hg,X,gC,Q]
     .calc#[_,[qp^jD F,ql s,qr 0,qi (i:8),qs a,qi (j:8),qs b,qi d,A],[.l^f.map D.p],0,?_,f,_,_,_,_,#[o,λr H=>?_,()],0,0];rotate_left
      .let(B,C,u,l,Z0):=m r H;exact#[B,C,u,l,()]
      simp[fH,V,Z1,m4,hg]) #[f,E,G,M,A,o,0,0]
   let(vs',z6,z7,z8,z9,(hi1,hi2,hi5),hi3,hi4):=hI2;rw[gN,fB]at hi5;calc#[_,L',S',0,by simpa[iD] using e,_,_,vs',z6,z7,z8,z9,#[hi1,λr H=>by let(B,C,u,l,Z0):=hi2 r H;calc#[B,C,u,l,()],()],hi3,hi4]) #[Z,Z,[],Z,Z,Z,Z,#[#[∅,λU h=>(by ext h),List.Pairwise.nil],λU h=>(by ext h),∅],0,0]
 calc#[f,o,?_];rw[uX,aL];simp[nK,e]
end My
namespace My
open PySem L2 Ev
variable{s:Str}{u:6 P}
def AQ(z:∀c ∈ u,isRoad c)(L:Lc)(j k:9)(m:j < -L)(h:k≠j)(hk:L[k]? = Y^qs s)(S:aK) :
  ∃n,bG (am j) (cq (O^aj (vv j) fR)^U k) (aj (vv j) eC) u L S=Y (n,S)/\(∀y ∈ n,mD y/\∃r ∈ u,rA r=s/\y=.str^rB r)/\-n≤-u:=by
 calc qC (Inv:=λf=>∃d,f=L.set j d) (λv t f w=>?_) #[L[j],(iV m).symm];let(d,0):=w;let(a,b,kd,c,x,e,o,i,l,_,_,0):=z v t;have g:((L.set j d).set j^qt [.str a,.str b,.str kd,.int c,.d x,.d e])[j]? = Y^qt [.str a,.str b,.str kd,.int c,.d x,.d e]:=by rw[bY (by exists m)]
 have p:((L.set j d).set j^qt [.str a,.str b,.str kd,.int c,.d x,.d e])[k]? = Y^qs s:=by rw[aV^b9 h,aV^b9 h];exact hk
 calc#[_,decide<|a=s,0,#[_,cT ..],by simp[-cT,g,p],λq=>#[.str b,by simp[-cT,g],#[b,i,0],_,t,aS q,0]]
def Fq(z:∀c ∈ u,isRoad c)(L:Lc)(j k:9)(m:j < -L)(h:k≠j)(hk:L[k]? = Y^qs s)(S:aK) :
  ∃n,bG (am j) (cq (O^aj (vv j) eC)^U k) (aj (vv j) fR) u L S=Y (n,S)/\(∀y ∈ n,mD y/\∃r ∈ u,rB r=s/\y=.str^rA r)/\-n≤-u:=by
 calc qC (Inv:=λf=>∃d,f=L.set j d) (λv t f w=>?_) #[L[j],(iV m).symm];let(d,0):=w;let(a,b,kd,c,x,e,i,o,l,_,_,0):=z v t;have g:((L.set j d).set j^qt [.str a,.str b,.str kd,.int c,.d x,.d e])[j]? = Y^qt [.str a,.str b,.str kd,.int c,.d x,.d e]:=by rw[bY (by exists m)]
 have p:((L.set j d).set j^qt [.str a,.str b,.str kd,.int c,.d x,.d e])[k]? = Y^qs s:=by rw[aV^b9 h,aV^b9 h];exact hk
 calc#[_,decide<|b=s,0,#[_,cT ..],by simp[-cT,g,p],λq=>#[.str a,by simp[-cT,g],#[a,i,0],_,t,aS q,0]]
def yQ(h:-u≤08):-u≤1000000:=by lia
def tX(d:8):∃w:Str,(w=a\/w=b)/\L2.atI [P.str a,.str b] (d % 2)=Y^.str w:=by
 let(w,hw,e):=HQ (a:=.str a) (b:=.str b) d;rcases hw with rfl|rfl
 .exact#[_,.inl rfl,e]
 .calc#[_,.inr rfl,e]
inductive isSend(s:Str)(rs whos N:6 P)(v:P):5
 |mk (m:Str) (t:P) (way nm:Str):aJ m=W->aJ nm=W->uc N t->((way="who"/\P.str nm ∈ whos)\/((way="all"\/way="any")/\∃r ∈ rs,rA r=s/\nm=rB r))->v=.u [.str m,t,.str way,.str nm]->isSend s rs whos N v
variable{n:9}{t:6 P}
def Hs(d:8)(hnm:∀x ∈ M,mD x)(hw:∀x ∈ t,mD x)(hr:∀c ∈ u,isRoad c)(hrl:-u≤08) :
  ∃m:6 P,-m≤1/\(∀c ∈ m,isSend s u t M c)/\ba (Ph (n+3) "_law_sends") [.int d,.str s,.l M,.l t,.l u]=Y^.l m:=by
 have hm:d % 2 < 2:=j5 _ ();have hm0:0≤d % 2:=iN _ ();let(gs,eg,I,hgl):=AQ (s:=s) hr [qi d,qs s,ql M,ql t,ql u,Z,Z,Z,Z,Z,Z,Z] 011 1 ∅ () rfl [];let Z1:=pe^jR hw 19;let V:=pe^jR (λx hx=>(I x hx).1) 19;let F:7 D->7 D->7 D->7 D->Lc:=λN B p q=>[qi d,qs s,ql M,ql t,ql u,ql gs,qr 0,N,B,p,q]
 let Inv:9->Lc->aK->5:=λi L S=>X3 λ(m:6 P)(N B p q:7 D)=>-m≤i/\(∀c ∈ m,isSend s u t M c)/\L=F N B p q/\S=[.l^m.map .p]
 let(L',S',e,m,N,B,p,q,hc,ho,0,0):=dX (g:=am 07) (b:=fG<|Ph<|n+2) (Inv:=Inv) (s:=Ev.intsFrom 0 (d % 2).toNat) (k:=0)
  (L:=F Z Z Z Z) (S:=[.l []]) (fun i v L S hv hI=>by
   let(0,hi):=ints_get hv;let(m,N,B,p,q,hc,ho,0,0):=hI;rwa[db];generalize hso:d / 2=f;let(tr,htr,etr):=AI (n:=n) (f / 012 % 300) hnm;have mo:g8 (f % 2) (f / 2000 % 2)=W:=b7 () ();obtain⟨mk,hmk,emk⟩:∃w:Str,(w="ma"\/w="mb")/\L2.atI [P.str "ma",.str "mb"] (f % 2 * (f / 2000 % 2))=Y^.str w:=by
    have h:f % 2 * (f / 2000 % 2)=0\/f % 2 * (f / 2000 % 2)=1:=by
     have X:f % 2=0\/f % 2=1:=by lia
     have Z0:f / 2000 % 2=0\/f / 2000 % 2=1:=by lia
     rcases X with X|X<;>rcases Z0 with Z0|Z0<;>rw[X,Z0]<;>simp
    rcases h with h|h<;>rw[h]
    .exact#["ma",.inl rfl,∅]
    .exact#["mb",.inr rfl,∅]
   have omk:aJ mk=W:=by rcases hmk with rfl|rfl<;>simp
   have l:-m≤1000000:=by lia
   let T:_:=F (qi (i:8)) (qi f) (qp tr)^qs mk
   let G:DN->5:=λx=>X0 λL2 Q=>x=Y (.nx,L2,Q)/\Inv (0+i+1) L2 Q
   have E:∀{x:DN}(y w:Str),aJ w=W->((y="who"/\P.str w ∈ t)\/((y="all"\/y="any")/\∃r ∈ u,rA r=s/\w=rB r))->x=Y (.nx,T,[.l<|m.map .p++[.p^.u [.str mk,tr,.str y,.str w]]])->G x:=λy w ow h e=>#[_,_,e,m++[.u [.str mk,tr,.str y,.str w]],_,_,_,_,by simp;lia,fZ ho #[mk,tr,y,w,omk,ow,htr,h,0],0,by rw[eD]]
   suffices h:G (fG (Ph<|n+2) (F (qi (i:8)) B p q) [.l^m.map .p]) by let(L2,Q,e,h):=h;exact#[_,L2,Q,0,e,h]
   unfold fG;rw[ak (e:=F (qi (i:8)) (qi f) p q) (c:=[.l^m.map .p]) (by simp[F,hso]),ak (e:=F (qi (i:8)) (qi f) (qp tr) q) (c:=[.l^m.map .p]) (by simp[F,etr]),ak (e:=T) (c:=[.l^m.map .p]) (by simp[F,T,mo,emk])];by_cases R:t≠[]/\f / 2 % 3=1
   .let(w,j,ew):=oy (s:=t) (k:=0) () (by have:=len_pos R.1;lia);let(w,K,0):=hw w j;rw[dM R.1]at Z1;rw[ug (by simp[F,T,Z1,R.2])];exact E "who" w K (.inl #[0,j]) (by simp[F,T,ew,gC,l])
   rw [Ez (by
    cases H:t.isEmpty<;>rw[H]at Z1
    .have h3:¬f / 2 % 3=1:=λz=>R #[λz=>(by rw[z]at H;ext H),z];simp[F,T,Z1,h3]
    .simp [F,T,Z1])]
   by_cases C:gs=[]
   .rw [C]at V;exact#[T,[.l^m.map .p],by rw[Ez (by simp[F,T,C,V])];rfl,m,_,_,_,_,(),ho,0,0]
   let(w,j,ew):=fj C (f / 3);let((w,K,0),r,hrm,hra,A):=I w j;have A:w=rB r:=by ext A;rfl
   let hl:=len_pos C;rw[dM C]at V;rw[ug (by simp[F,T,V])];let(aa,haa,eaa):=tX (a:="all") (b:="any") (f / 06);calc E aa w K (.inr #[haa,r,hrm,hra,A]) (by simp[F,T,eaa,dj,dP,hl,ew,gC,l])) #[[],Z,Z,Z,Z,∅,λo h=>(by ext h),0,0]
 calc#[m,by rw[dq]at hc;lia,ho,?_];have hq:(d % 2).natAbs < 1000000:=by lia
 rw[uV,aL];simp[nI,bf,yQ hrl,mn,eg,hq];simp[F]at e;simp[e]
@[simp] theorem R'(L:Lc)(S:aK):g7 L S=Y (Z,S):=rfl
@[simp] theorem R_(a:EV)(L:Lc)(S:aK):fM a L S=bw (a L S) λv h=>match v with | .int i=>Y (Y i,h)|_=>Z:=rfl
@[simp] theorem S4(o:6 P)(lo h:7 8):P7 (.l o) lo h=Y (.l^cut o lo h):=rfl
@[simp] theorem SY(o:6 P)(lo h:7 8):P7 (.u o) lo h=Y (.u^cut o lo h):=rfl
variable{o:6 P}
def sS:(∀x ∈ cut o lo i,x ∈ o)/\-(cut o lo i)≤-o:=by
 unfold cut;refine#[λx h=>?_,?_]
 .first
   |calc wV^CU h
   |exact CU^wV h
 .rwa[iR,wS];lia
def n5(s:Str)(u t:6 P)(v:P):5:=v=.n\/X2 λm a i w=>aJ m=W/\aJ a=W/\aJ i=W/\aJ w=W/\(∃r ∈ u,rB r=s/\a=rA r)/\(w=""\/P.str w ∈ t)/\v=.u [.str m,.str a,.str i,.str w]
def more:P->6 P
 | .n=>[]
 |_=>[.str "it"]
def A_(N f:6 P)(t:P):5:=∀m a i w,t=.u [m,a,.str i,w]->i=""\/(P.str i ∈ N/\P.str i ∉ f)
def Ju:cut (o++[x]) Z (Y<|-1)=o:=by
 unfold cut;have e:HT.fS (o++[x]).length (o++[x]).length (Y<|-1)=-o:=by show(if (-1:8) < 0 then ((-1:8)+((-(o++[x]):9):8)).toNat else min ((-1:8).toNat) (-(o++[x])))=-o;rw[af #[],bo,sC];lia
 rw[e,HT.tR,oQ,wG,List.take_left'];rfl
def IB(h:o≠[])(n:o.Nodup)(e:L2.atI o (-1)=Y x):x ∉ cut o Z (Y<|-1):=by
 rcases List.eq_nil_or_concat o with rfl|⟨s,y,rfl⟩
 .exact absurd rfl h
 rw[List.concat_eq_append] at *
 have:x=y:=by
  unfold L2.atI L2.Gq at e;rw[ag #[],af (by simp;lia)]at e;have a:(-1+((-(s++[y]):9):8)).toNat=-s:=by simp;lia
  rwa[a,oE]at e;rw[bZ^ar _]at e;simp at e;exact e.symm
 subst this;rw[Ju];intro k;have:=(j_.mp n).2.2
 calc this x k x ∅ rfl
def step_if(ψ ι:Str->GF){d0:8}(hn:∀x ∈ f,mD x)(R:f.Nodup)(hw:∀x ∈ t,mD x)(hs:∀x ∈ d,mD x/\∃r ∈ u,rB r=s/\x=.str^rA r) :
  X2 λj c m v=>n5 s u t j/\(∀x ∈ c,x ∈ f)/\-c≤-f/\A_ f c j /\
   gw ψ [ql (.int d0::ds),qs s,qp rooms,qp cells,ql t,ql u,ql f,ql d,qp .n,ql f,ql [],Z,Z,Z,Z,Z,Z,Z] []
    = Y (.nx,[ql (.int d0::ds),qs s,qp rooms,qp cells,ql t,ql u,ql f,ql d,qp j,ql c,ql^more j,m,v,Z,Z,Z,Z,Z],[]):=by
 let K:=pe^jR (λx y=>(hs x y).1) 19;let N:=pe^jR hn 19;let Z1:=pe^jR hw 19;let F:7 D->6 P->6 P->7 D->7 D->Lc:=λq8 l9 l10 m v=>[ql (.int d0::ds),qs s,qp rooms,qp cells,ql t,ql u,ql f,ql d,q8,ql l9,ql l10,m,v,Z,Z,Z,Z,Z]
 let G:DN->5:=λx=>X2 λj c m v=>n5 s u t j/\(∀x ∈ c,x ∈ f)/\-c≤-f/\A_ f c j/\x=Y (.nx,F (qp j) c (more j) m v,[])
 show G^gw ψ (F (qp .n) f [] Z Z) [];unfold gw;by_cases H:d≠[]/\d0 % 3=1
 .rw [dM H.1]at K;let(s1,X,es):=fj H.1 (d0 / 24);let M:=len_pos H.1;let(mk,Q,C):=tX (a:="ma") (b:="mb") (d0 / 012);let((sn,osn,0),r,V,T,l):=hs s1 X;have l:sn=rA r:=by ext l;rfl
  have omk:aJ mk=W:=by rcases Q with rfl|rfl<;>simp
  rw[ug (by simp[F,K,H.2])];rw[ak (e:=F (qp .n) f [] (qs "") Z) (c:=[]) rfl];refine yL (G:=G) (p:=λL=>X0 λi c=>aJ i=W/\(∀x ∈ c,x ∈ f)/\-c≤-f/\(i=""\/(P.str i ∈ f/\P.str i ∉ c))/\L=F (qp .n) c [] (qs i) Z) ?_ λL #[i,c,hi,hf,E,I,e]=>?_
  .by_cases g:f≠[]/\d0 / 3 % 2=1
   .let(x,y,B):=JL g.1;let(x,ox,0):=hn x y;rw[dM g.1]at N;exact#[_,#[x,cut f Z<|Y<|-1,ox,sS.1,sS.2,.inr #[y,IB g.1 R B],0],by simp[F,N,g.2,B]]
   .calc#[_,#["",f,∅,λo h=>h,ar _,.inl rfl,0],?_];cases n:f.isEmpty<;>rw[n]at N
    .have S:¬d0 / 3 % 2=1:=λq=>g #[λz=>(by rw[z]at n;ext n),q];simp[F,N,S]
    .simp [F,N]
  subst e;rw[ak (e:=F (qp .n) c [] (qs i)^qs "") (c:=[]) rfl];refine yL (G:=G) (p:=λL=>∃w,aJ w=W/\(w=""\/P.str w ∈ t)/\L=F (qp .n) c [] (qs i)^qs w) ?_ λL #[w,A,Z0,e]=>?_
  .by_cases g:t≠[]/\d0 / 06 % 2=1
   .let(x,y,B):=oy (s:=t) (k:=0) () (by have:=len_pos g.1;lia);let(x,ox,0):=hw x y;rw[dM g.1]at Z1;exact#[_,#[x,ox,.inr y,0],by simp[F,Z1,g.2,B]]
   .calc#[_,#["",∅,.inl rfl,0],?_];cases n:t.isEmpty<;>rw[n]at Z1
    .have S:¬d0 / 06 % 2=1:=λq=>g #[λz=>(by rw[z]at n;ext n),q];simp[F,Z1,S]
    .simp [F,Z1]
  subst e;exact#[.u [.str mk,.str sn,.str i,.str w],c,qs i,qs w,.inr #[mk,sn,i,w,omk,osn,hi,A,#[r,V,T,l],Z0,0],hf,E,λo o o o q=>by ext q;calc I,by simp[F,more,dj,dP,M,es,C]]
 .calc#[.n,f,Z,Z,.inl rfl,λo h=>h,ar _,λo o o o q=>(by ext q),?_];cases n:d.isEmpty<;>rw[n]at K
  .have S:¬d0 % 3=1:=λq=>H #[λz=>(by rw[z]at n;ext n),q];simp[F,more,K,S]
  .simp [F,more,K]
def pc(s:6 P):6 P:=s.map λc=>.str^br c
theorem qg(e:∀c ∈ a,isCel c):∀x ∈ pc a,mD x:=λx s=>by let(c,h,0):=bg.mp s;let(x,_,_,_,o,_,_,_,_,0):=e c h;calc#[x,o,0]
def qD(m:∀c ∈ k,isCel c)(L:Lc)(j:9)(s:j < -L)(S:aK) :
  bG (am j) dD (aj (vv j) fR) k L S=Y (pc k,S):=by
 have:=cI (g:=am j) (c:=dD) (e:=aj (vv j) fR) (S:=S) (p:=fun _=>W) (f:=fun c=>.str^br c) (s:=k) (L:=L) (Inv:=fun h=>∃d,h=L.set j d) (fun v r h b=>by
  let(d,0):=b;let(x,lo,i,a,t,_,_,_,_,0):=m v r;have n:((L.set j d).set j^qt [.str x,.int lo,.int i,.int a])[j]? = Y^qt [.str x,.int lo,.int i,.int a]:=by rw[bY (by exists s)]
  calc#[_,0,#[_,cT ..],0,λz=>by simp[-cT,n,br]]) #[L[j],(iV s).symm]
 rw[this,oU.mpr λz z=>rfl];rfl
def Nf(N:6 P)(c:P):5:=X0 λx t=>aJ x=W/\uc N t/\c=.u [.str x,t]
structure Stp(s:Str)(rooms cells whos rs:6 P)(rm when tk:P)(chg sn:6 P)(rm2:P):5 where
 h1:rm ∈ rooms
 h2:rm2 ∈ rooms
 wh:n6 (pc cells) when
 htk:n5 s rs whos tk
 cl:-chg≤3
 ch:∀c ∈ chg,Nf (pc cells++more tk) c
 cn:∀c ∈ chg,P.str^br c ∈ pc cells
 ci:A_ (pc cells) (chg.map λc=>.str^br c) tk
 sl:-sn≤1
 hsn:∀c ∈ sn,isSend s rs whos (pc cells) c
variable{cells:6 P}
def Pe(h:uJ cells):(pc cells).Nodup:=by calc w4.mpr λi j x a n q=>?_;unfold pc at x a q;rw[aU]at x a;rw[sr,sr]at q;let(_,o,h):=h;let e:=h i _^bt x;let s:=h j _^bt a;rw[P.str.inj q,s]at e;simp at e;lia
theorem Ea(v:P):∀x ∈ more v,mD x:=λx h=>by
 cases v with
 |n=>ext h
 |_=>calc#["it",∅,by simpa[more] using h]
def Iq(v:P):-(more v)≤1:=by ext v<;>simp[more]
def K6(I B G y:8)(hrm:∀x ∈ r,mD x)(E:r≠[])(Q:uJ cells)(hcl:-cells≤2)(hw:∀x ∈ t,mD x)(hr:∀c ∈ u,isRoad c)(hrl:-u≤08) :
  X4 λrm wh K l sn rm2=>Stp s r cells t u rm wh K l sn rm2/\ba (Ph (n+4) "_law_step") [.l [.int I,.int B,.int G,.int y],.str s,.l r,.l cells,.l t,.l u]=Y^.u [rm,wh,K,.l l,.l sn,rm2]:=by
 let M:=Q.1;let X:=Pe Q;let e1:=qD M [ql [.int I,.int B,.int G,.int y],qs s,ql r,ql cells,ql t,ql u,Z,Z,Z,Z,Z,Z,Z,Z,Z,Z,Z,Z,Z] 018 ∅ [];let p:=qg M;have hnl:-(pc cells)=-cells:=by simp[pc]
 generalize N:pc cells=f at e1 p hnl X;let(snd,e2,hsn,_):=Fq (s:=s) hr [ql [.int I,.int B,.int G,.int y],qs s,ql r,ql cells,ql t,ql u,ql f,Z,Z,Z,Z,Z,Z,Z,Z,Z,Z,Z,Z] 018 1 ∅ () rfl [];let(K,fr,q11,q12,htk,T,hfl,hio,e3):=step_if (Ph<|n+3) (Ph<|n+2) (d0:=I) (ds:=[.int B,.int G,.int y]) (rooms:=.l r) (cells:=.l cells) p X hw hsn;let hml:=Iq K;let Z1:=Ea K;generalize hM:more K=mo at e3 hml Z1;have Z0:∀x ∈ f++mo,mD x:=λx hx=>(cj.mp hx).elim (p x)^Z1 x
 have H:-f+-mo≤1000000:=by lia
 have hcf:-cells≤1000000:=by lia
 let F:7 D->7 D->Lc:=λd j=>[ql [.int I,.int B,.int G,.int y],qs s,ql r,ql cells,ql t,ql u,ql f,ql snd,qp K,ql fr,ql mo,q11,q12,qr 0,d,j,Z,Z]
 let Inv:9->Lc->aK->5:=λi L S=>X1 λ(A:6 P)(d j:7 D)=>-A≤i/\(∀c ∈ A,Nf (f++mo) c/\P.str^br c ∈ fr)/\L=F d j/\S=[.l^A.map .p]
 let(L',S',e4,l,d,j,R,C,0,0):=dX (g:=bu [am 014,am 015]) (b:=gu<|Ph<|n+3) (Inv:=Inv) (s:=cy 0 fr) (k:=0) (L:=F Z Z) (S:=[.l []]) (fun i v L S hv hI=>by
   let(x,hx1,0):=kN hv;let hi:=bW hx1;let hxf:=bq hx1;let(x,ox,0):=p x^T x hxf;let(A,d,j,M,ho,0,0):=hI;have V:-A≤1000000:=by lia
   obtain⟨a,b,ha,hb,ea,eb⟩:X0 λ(a b:8)=>(0 < a/\a < 1152921504606846976)/\(0 < b/\b < 1152921504606846976)/\L2.atI [P.int 1,.int 1000] (i:8)=Y^.int a/\L2.atI [P.int 2,.int 2000] (i:8)=Y^.int b:=by
    have:i=0\/i=1:=by lia
    rcases this with rfl|rfl
    .exact#[1,2,#[],#[],∅,∅]
    .exact#[1000,2000,#[],#[],∅,∅]
   by_cases h:B / a % 2=1
   .let(tr,htr,etr):=AI (n:=n+1) (B / b % 300) Z0;calc#[_,F (qi (i:8))^qs x,[.l^(A++[P.u [.str x,tr]]).map D.p],0,?_,_,_,_,by simp;lia,fZ ho #[#[x,tr,ox,htr,0],hxf],0,0];rw[<- eD];simp[gu,F,ea,eb,ha,hb,h,H,etr,gC,V]
   .calc#[_,F (qi (i:8))^qs x,[.l^A.map D.p],0,?_,A,_,_,(),ho,0,0];simp[gu,F,ea,ha,h]) #[[],Z,Z,∅,λo h=>(by ext h),0,0]
 rw[fB]at R;let(sn,hsl,hsd,e5):=Hs (n:=n) G (s:=s) p hw hr hrl;let(wh,hwh,e6):=cond_ok (n:=n) (y % 27000) p;let(r1,hr1,e7):=fj E (y / 27000);let(r2,hr2,e8):=fj E (y / 81000);let hl:=len_pos E;refine#[r1,wh,K,l,sn,r2,#[hr1,hr2,N ▸ hwh,htk,(),N ▸ hM ▸ λc h=>(C c h).1,N ▸ λc h=>T _ (C c h).2,N ▸ λm a into who q=>(hio m a into who q).imp id λz=>#[z.1,λw=>by let(c,M,e):=bg.mp w;calc z.2<|e ▸ (C c M).2],hsl,N ▸ hsd],?_]
 rw[xZ,aL];rwa[F]at e4;simp[pN,bf,hcf,yQ hrl,mn,e1,e2,qE,e3,e4,H,dj,dP,e5,e6,hl,e7,e8,dw]
inductive isStep(s:Str)(rooms cells whos rs:6 P)(v:P):5
 |mk (x:Str) (rm wh tk:P) (chg sn:6 P) (rm2:P):aJ x=W->Stp s rooms cells whos rs rm wh tk chg sn rm2->v=.u [.str x,rm,wh,tk,.l chg,.l sn,rm2]->isStep s rooms cells whos rs v
variable{h:Type}
def fV:6^6 h->6^6 h
 | []=>[[]]
 |o::r=>o.flatMap λx=>(fV r).map (x::·)
def rg(c:P):6 P:=(List.range (iv^gH c 2-iv^gH c 1+1).toNat).map λ(i:9)=>.int<|iv^gH c 1+(i:8)
def je(cells:6 P):6^6 P:=fV^cells.map rg
structure Fam(rs:6 P)(nm:Str)(crew:9)(rooms cells whos steps:6 P):5 where
 hnm:aJ nm=W
 hcr:1≤crew/\crew≤4
 hro:∀x ∈ rooms,mD x
 r0:rooms≠[]
 rl:-rooms≤08
 hce:uJ cells
 cl:-cells≤3
 hwh:∀x ∈ whos,mD x
 wl:-whos≤2
 s0:steps≠[]
 sl:-steps≤08
 hst:∀x ∈ steps,isStep nm rooms cells whos rs x
 sd:steps.Pairwise λa b=>br a≠br b
 b1:-steps≤2
 b2:-rooms * (-(je cells)) * 2 ^ (-whos)≤4
 b3:-(je cells)≤2
inductive isFam(rs:6 P)(v:P):5
 |mk (nm:Str) (crew:9) (rooms cells whos steps:6 P):Fam rs nm crew rooms cells whos steps->v=.u [.str nm,.int (crew:8),.l rooms,.l cells,.l whos,.l steps]->isFam rs v
variable{m:9}
def AW(s:6 8)(j:9)(o:9)(L:Lc)(c:j < -L)(r:L[0]? = Y (qp^jD s))(h:0≠j)(u:o+m≤016)(S:aK) :
  ∃a,bG (am j) dD (dz (Ph (n+3) "_law_name")^v2 cW^be (vi (o:8))^vv j) (Ev.intsFrom 0 m) L S=Y (a,S)/\(∀y ∈ a,mD y)/\-a=-(Ev.intsFrom 0 m):=by
 calc lL (Inv:=λf=>∃d,f=L.set j d) (λv p f t=>?_) #[L[j],(iV c).symm];let(d,0):=t;let(i,0,w):=jc p;let(x,q,_,e):=m5 (n:=n) s (k:=o+i) ();have e:ba (Ph (n+3) "_law_name") [jD s,.int<|(o:8)+(i:8)]=Y^.str x:=by rw[<- e];rfl
 have g:((L.set j d).set j<|qi<|0+(i:8))[j]? = Y (qi<|0+(i:8)):=by rw[bY (by exists c)]
 have b:((L.set j d).set j<|qi<|0+(i:8))[0]? = Y (qp^jD s):=by rw[aV^b9 h,aV^b9 h];exact r
 rwa[db]at g b ⊢;calc#[_,.str x,0,#[_,cT ..],by simp[-cT,g,b,e],x,q,0]
def P1(s:6 8)(l:8)(D:0≤l)(L:Lc)(A:-L=21)(K:L[0]? = Y (qp^jD s))(x:L[014]? = Y^qi l)(S:aK) :
  X2 λ(j z H F:8)=>bG (am 20) dD (dz (Ph (n+2) "_law_mix")^v2 (dz (Ph (n+2) "_law_cell_at")^v2 cW^be (vv 014)^vv 20)^vi 011) (Ev.intsFrom 0 4) L S=Y ([.int j,.int z,.int H,.int F],S):=by
 let(C,e,y,h):=lL (Q:=fun v=>∃d:8,v=.int d) (g:=am 20) (e:=dz (Ph (n+2) "_law_mix")^v2 (dz (Ph (n+2) "_law_cell_at")^v2 cW^be (vv 014)^vv 20)^vi 011) (S:=S) (s:=Ev.intsFrom 0 4) (Inv:=fun f=>∃d,f=L.set 20 d) (L:=L) (fun v B f P=>by
  let(d,0):=P;let(i,0,E):=jc B;let(c,r,G,m,t):=i7 (n:=n) s (k:=l+(0+(i:8))) (p:=011) () () ();have q:((L.set 20 d).set 20<|qi<|0+(i:8))[20]? = Y (qi<|0+(i:8)):=by rw[bY (by simp[A])]
  have w:((L.set 20 d).set 20<|qi<|0+(i:8))[0]? = Y (qp^jD s):=by rw[aV #[],aV #[]];exact K
  have u:((L.set 20 d).set 20<|qi<|0+(i:8))[014]? = Y^qi l:=by rw[aV #[],aV #[]];exact x
  rwa[db]at q w u m t ⊢;calc#[_,.int r,0,#[_,cT ..],by simp[-cT,q,w,u,m,t],r,0]) #[L[20]'(),(iV ()).symm]
 rw[dq]at h;match C,h with
 | [a,b,c,d],_=>let(a,0):=y a ∅;let(b,0):=y b ∅;let(c,0):=y c ∅;let(d,0):=y d ∅;calc#[a,b,c,d,e]
abbrev PL(c:6 8)(m r t p v d w u q h x a e s n k f b:7 D):Lc:=[qp^jD c,qi 2,m,r,t,p,v,d,w,u,q,h,x,a,e,s,n,k,f,b]
def dJ(S:aK)(x:SO):(S++[x])[-S]? = Y x:=by simp
def K7(C:6 8)(k:9)(hk:k≤1)(hro:∀x ∈ r,mD x)(hr0:r≠[])(hc:uJ cells)(X:-cells≤2)(hw:∀x ∈ t,mD x)(hr:∀c ∈ u,isRoad c)(hrl:-u≤08)(hm:m≤2)(q2 q3 q5 q8 a e q H K A B:7 D)(T:aK) :
  X2 λ(p:6 P)(f d w:7 D)=>-p=m/\(∀c ∈ p,isStep I r cells t u c)/\(∀j v,p[j]? = Y v->hd^br v=Y (108+j)) /\
   bv (am 013) (gA<|Ph<|n+05) (Ev.intsFrom 0 m) (PL C q2 q3 (ql u) q5 (qi (k:8)) (qs I) q8 (ql cells) (ql r) (ql t) (qr (-T)) a e q H K A B) (T++[.l []])
    = Y (.nx,PL C q2 q3 (ql u) q5 (qi (k:8)) (qs I) q8 (ql cells) (ql r) (ql t) (qr (-T)) f d w H K A B,T++[.l^p.map .p]):=by
 let F:7 D->7 D->7 D->Lc:=λa e q=>PL C q2 q3 (ql u) q5 (qi (k:8)) (qs I) q8 (ql cells) (ql r) (ql t) (qr (-T)) a e q H K A B
 let Inv:9->Lc->aK->5:=λi L S=>X2 λ(z:6 P)(a e q:7 D)=>-z=i/\((∀c ∈ z,isStep I r cells t u c)/\∀k v,z[k]? = Y v->hd^br v=Y (108+k))/\L=F a e q/\S=T++[.l^z.map .p]
 let(L',S',e4,p,f,d,w,hsl,(hst,hsn),0,0):=dX (g:=am 013) (b:=gA<|Ph<|n+05) (Inv:=Inv) (s:=Ev.intsFrom 0 m) (k:=0) (L:=F a e q) (S:=T++[.l []]) (fun i v L S hv hI=>by
   let(0,hi):=ints_get hv;let(z,a,e,q,Z1,(ho,Z0),0,0):=hI;rwa[db];have m1:g8 3 (k:8)=W:=b7 #[] ();have m2:g8 4 (3 * (k:8)+(i:8))=W:=b7 #[] ();let(d0,d1,d2,d3,ed):=P1 (n:=n+3) C (05+4 * (3 * (k:8)+(i:8))) () (F (qi (i:8)) (qi<|05+4 * (3 * (k:8)+(i:8))) q++[Z]) rfl rfl rfl (T++[.l^z.map .p]);let(x,hx,hxh,V):=m5 (n:=n+2) C (k:=011+i) ();have V:ba (Ph (n+05) "_law_name") [jD C,.int<|011+(i:8)]=Y^.str x:=by rw[<- V];rfl
   let(M,R,Q,l,N,y,hys,es):=K6 (n:=n+1) d0 d1 d2 d3 (s:=I) hro hr0 hc X hw hr hrl;have G:-z≤1000000:=by lia
   have E:ip (.u [.str x])^.u [M,R,Q,.l l,.l N,y]=Y^.u [.str x,M,R,Q,.l l,.l N,y]:=rfl;calc#[_,F (qi (i:8)) (qi<|05+4 * (3 * (k:8)+(i:8)))^ql [.int d0,.int d1,.int d2,.int d3],T++[.l^(z++[P.u [.str x,M,R,Q,.l l,.l N,y]]).map D.p],0,?_,_,_,_,_,by simp;lia,#[fZ ho #[x,M,R,Q,l,N,y,hx,hys,0],zt Z0 (by show hd x=_;rw[hxh,Z1];congr 1;lia)],0,0];rw[<- eD];rwa[F,PL,mU,dR]at ed;simp[gA,F,PL,m1,m2,bf,dq,mn,ed,V,es,E,gC,G]) #[[],_,_,_,0,#[λo h=>(by ext h),λo o h=>(by simp at h)],0,0]
 rw[dq]at hsl;calc#[p,f,d,w,(),hst,hsn,e4]
def y6(c:6 8)(j:9)(L:Lc)(o:j < -L)(H:L[0]? = Y (qp^jD c))(b:0≠j)(K:m≤016)(S:aK) :
  ∃q,bG (am j) dD (dz (Ph (n+3) "_law_name")^v2 cW^vv j) (Ev.intsFrom 0 m) L S=Y (q,S)/\(∀y ∈ q,mD y)/\(∀(i:9) y,q[i]? = Y y->∃x,y=.str x/\hd x=Y (97+i))/\-q=-(Ev.intsFrom 0 m):=by
 let f:P->P:=λv=>(ba (Ph (n+3) "_law_name") [jD c,v]).getD .n
 have w:∀i,i < m->∃x,aJ x=W/\hd x=Y (97+i)/\ba (Ph (n+3) "_law_name") [jD c,.int (i:8)]=Y^.str x/\f^.int (i:8)=.str x:=λi e=>by let(x,t,u,r):=m5 (n:=n) c (k:=i) ();exact#[x,t,u,r,by simp[f,r]]
 refine#[(Ev.intsFrom 0 m).map f,?_,λy a=>?_,λi y a=>?_,∅]
 .rw [cI (p:=λZ=>W) (f:=f) (Inv:=λg=>∃d,g=L.set j d) (λv h g F=>?_) #[L[j],(iV o).symm],oU.mpr λZ Z=>rfl];let(d,0):=F;let(i,0,e):=jc h;let(x,t,_,r,s):=w i e;have l:((L.set j d).set j<|qi<|0+(i:8))[j]? = Y (qi<|0+(i:8)):=by
   rw[bY (by exists o)]
  have z:((L.set j d).set j<|qi<|0+(i:8))[0]? = Y (qp^jD c):=by rw[aV^b9 b,aV^b9 b];exact H
  rwa[db]at l z ⊢;exact#[_,0,#[_,cT ..],0,λZ=>by rw[s];simp[-cT,l,z,r]]
 .let(v,h,0):=bg.mp a;let(i,0,e):=jc h;let(x,t,_,_,s):=w i e;rw[db,s];exact#[x,t,0]
 .rw [cm]at a;cases h:(Ev.intsFrom 0 m)[i]? with
  |none=>rw[h]at a;ext a
  |some v=>rw[h]at a;ext a;let(0,e):=ints_get h;let(x,_,u,_,s):=w i e;calc#[x,by rw[db,s],u]
def dZ:P->9
 | .u (_::.int c::_)=>c.toNat
 |_=>0
def A6(v:P):5:=X1 λ(k f s:Str)=>(k="weak"\/k="strong")/\aJ f=W/\aJ s=W/\v=.u [.str k,.str f,.str s]
theorem kH:∀s:6^6 h,-(fV s)=(s.map oP).foldr (· * ·) 1
 | []=>rfl
 |o::r=>by
  let e:=kH r;have:∀a:6 h,-(a.flatMap λx=>(fV r).map (x::·))=-a * (-(fV r)):=λa=>by
   induction a with
   |nil=>simp
   |cons y a i=>rw[f_,bo,i,aU,aP,oM];lia
  rw[fV,this,e];rfl
def HA(h:isCel c):-(rg c)≤2:=by
 let(x,lo,i,a,_,_,_,_,e,0):=h;have:=e.2.1
 simp[rg];lia
def P9(h:uJ cells)(l:-cells≤1):-(je cells)≤2:=by
 unfold je;rw[kH];match cells,l,h with
 | [],_,_=>simp
 | [c],_,h=>have:=HA^h.1 c ∅;exists this
def yK(z:P):5:=dZ z=1/\-(re^gH z 2)=1/\-(je^re^gH z 3)=1
structure Pln(fams roads wishes:6 P):5 where
 hf:∀f ∈ fams,isFam roads f
 cr:∃c,(∀f ∈ fams,dZ f≤c)/\-fams * c≤4
 f0:1≤-fams/\-fams≤4
 hr:∀r ∈ roads,isRoad r
 ra:∀r ∈ roads,(∃f ∈ fams,br f=rA r)/\∃f ∈ fams,br f=rB r
 rl:-roads≤08
 hw:∀w ∈ wishes,A6 w
 wl:-wishes≤06
 rd:roads.Pairwise RD
 fd:∀f ∈ fams,∀g ∈ fams,br f=br g->f=g
 st:X0 λbase tl=>fams=base++tl/\((∃f,base=[f]/\dZ f≤2)\/X0 λf g=>base=[f,g]/\dZ f≤1/\dZ g≤1)/\(tl=[]\/∃z,tl=[z]/\yK z)/\∀r ∈ roads,∀z ∈ tl,br z≠rA r/\br z≠rB r
def sT(f:h->x)(o:6 h)(i:8):L2.atI (o.map f) i=(L2.atI o i).map f:=by
 unfold L2.atI;rw[aU];cases L2.Gq o.length i with
 |none=>rfl
 |some j=>simp
def Hy(s:6 8){f:8}(u:0≤f):∃v:6 P,1≤-v/\-v≤2/\(∀x ∈ v,mD x)/\ba (Ph (n+4) "_law_rooms") [jD s,.int f]=Y^.l v:=by
 let(c,a,g,b,t):=i7 (n:=n+1) s (k:=2+f) (p:=09) () () ();have i:a % 2 < 2:=j5 _ ();have q:0≤a % 2:=iN _ ();let(r,e,o,h):=AW (n:=n) s 3 4 [qp^jD s,qi f,qi<|1+a % 2,Z] ∅ rfl #[] (m:=(1+a % 2).toNat) () [];rw[dq]at h;calc#[r,(),(),o,?_];have d:(1+a % 2).natAbs < 1000000:=by lia
 have w:(1+a % 2).toNat≤1000000:=by lia
 rw[uW,aL];rwa[((4:9):8)=4|>rfl]at e;simp[nJ,b,t,d,w,bf,dq,mn,e]
def Ji{n:9}(S:6 8){M:8}(e0:ba (Ph (n+05) "_law_cell_at") [jD S,.int 0]=Y^.int M){k m:9}(hk:k≤1)(hm:m=1\/m=2){F:Str}(hnm:aJ F=W){u:6 P}(hr:∀c ∈ u,isRoad c)(hrl:-u≤08){s:6 P}(hfl:-s≤100)(T:aK)(E q8 q9 L G C g l o a e b v:7 D) :
  ∃f,isFam u f/\br f=F/\dZ f≤3-m/\X6 λq8' q9' q10' q11' q12' K A B T'=>gy (Ph<|n+05) (PL S (qi (m:8)) E (ql u) (qr 0) (qi (k:8)) (qs F) q8 q9 L G C g l o a e b v) (.l^s.map .p::T)
   = Y (.nx,PL S (qi (m:8)) E (ql u) (qr 0) (qi (k:8)) (qs F) q8' q9' q10' q11' q12' K A B a e b v,.l^(s++[f]).map .p::T'):=by
 obtain⟨H,hcr0,hcr1,V,ecr⟩:∃H:9,1≤H/\H≤2/\H≤3-m/\L2.atI [P.int<|1+M / 2 % 2,.int 1] ((m:8)-1)=Y^.int (H:8):=by
  rcases hm with rfl|rfl
  .exact#[(1+M / 2 % 2).toNat,(),(),(),by simp;lia]
  .exact#[1,(),(),(),∅]
 let(cells,hcl,hc,ec):=JA (n:=n+1) S (f:=(k:8)) ();let(r,I,hr2,hro,er):=Hy (n:=n+1) S (f:=(k:8)) ();have Z0:r≠[]:=λq=>by rw[q]at I;simp at I
 let(x,hx,_,ex):=m5 (n:=n+2) S (k:=010) ();have ex:ba (Ph (n+05) "_law_name") [jD S,.int 010]=Y^.str x:=by rw[<- ex];rfl
 let(c8,N,ha8,Q,e82):=i7 (n:=n+3) S (k:=2+(k:8)) (p:=08) () () ();let(a7,ha7,e72):=Ir (n:=n+3) c8 (p:=07) () ();obtain⟨z,w,t,ez,mz,hz,ew,hwi,hwl⟩:X1 λ(z w:8)(t:6 P)=>iz [.d<|decide<|-r=1]=Y^.int z/\g8 (N % 2) z=W/\N % 2 * z=w/\jY (.l [.str x])^.int w=Y^.l t/\(∀y ∈ t,mD y)/\-r * 2 ^ (-t)≤2:=by
  have R:N % 2=0\/N % 2=1:=by lia
  by_cases h:-r=1
  .have hm:g8 (N % 2) 1=W:=b7 () #[];rcases R with R|R
   .exact#[1,(0),[],by simp[h,iz,nG],hm,by rw[R];simp,∅,λZ h=>(by ext h),by simp;lia]
   .exact#[1,1,[.str x],by simp[h,iz,nG],hm,by rw[R];simp,∅,λy hy=>#[x,hx,by exists hy],by simp;lia]
  .exact#[(0),(0),[],by simp[h,iz,nG],b7 () #[],∅,∅,λZ h=>(by ext h),by simp;lia]
 have hwl2:-t≤1:=by
  rcases Cv t.length 2 with h|h
  .lia
  .have h4:2 ^ 2≤2 ^ (-t):=wL #[] h;have:1 * 2 ^ (-t)≤-r * 2 ^ (-t):=Nat.mul_le_mul_right _ I;lia
 let(d,K,A,B,hsl,hst,hsn,es):=K7 (n:=n) S k hk (I:=F) hro Z0 hc () hwi hr hrl (m:=(1+a7 % 2).toNat) () (qi (m:8)) E (qr 0) (qi (H:8)) g l o a e b v (.l^s.map .p::T);let Z1:=P9 hc hcl;refine#[.u [.str F,.int (H:8),.l r,.l cells,.l t,.l d],#[F,H,r,cells,t,d,#[hnm,(),hro,Z0,(),hc,(),hwi,(),fun q=>by rw [q] at hsl;simp at hsl;lia,(),hst,w4.mpr fun i j hi hj hij q=>by
  let h1:=hsn i _^bt hi;let h2:=hsn j _^bt hj;rw[q,h2]at h1;have:=cz h1
  lia,(),?_,Z1],0],0,by simpa[dZ] using V,qi (H:8),ql cells,ql r,ql t,Y^.ref (-(SO.l^s.map .p::T)),K,A,B,T++[.fz^.l d],?_]
 .have:-r * (-(je cells)) * 2 ^ (-t)=-r * 2 ^ (-t) * (-(je cells)):=by rw[Nat.mul_right_comm]
  rw[this];exact aH (oN hwl Z1) #[]
 have q2:(1+a7 % 2).natAbs < 1000000:=by lia
 have X:-s≤1000000:=by lia
 unfold gy;rw [ak (e:=PL S (qi (m:8)) E (ql u) (qr 0) (qi (k:8)) (qs F) (qi (H:8)) q9 L G C g l o a e b v) (c:=.l^s.map .p::T) (by simp [PL,e0,ecr])];rw [ak (e:=PL S (qi (m:8)) E (ql u) (qr 0) (qi (k:8)) (qs F) (qi (H:8)) (ql cells) L G C g l o a e b v) (c:=.l^s.map .p::T) (by simp [PL,ec])];rw [ak (e:=PL S (qi (m:8)) E (ql u) (qr 0) (qi (k:8)) (qs F) (qi (H:8)) (ql cells) (ql r) G C g l o a e b v) (c:=.l^s.map .p::T) (by simp [PL,er])];rw [ak (e:=PL S (qi (m:8)) E (ql u) (qr 0) (qi (k:8)) (qs F) (qi (H:8)) (ql cells) (ql r) (ql t) C g l o a e b v) (c:=.l^s.map .p::T) (by
  have hdc:(decide<|(-r:8)=1)=decide (-r=1):=by by_cases h:-r=1<;>simp[h]<;>lia
  simp[PL,ex,Q,e82,dj,dP,hdc,ez,mz,hz,-F_,ew])]
 rw[ak (e:=PL S (qi (m:8)) E (ql u) (qr 0) (qi (k:8)) (qs F) (qi (H:8)) (ql cells) (ql r) (ql t) (Y^.ref (-(SO.l^s.map .p::T))) g l o a e b v) (c:=(.l^s.map .p::T)++[.l []]) (by simp[PL])];rw[ak (e:=PL S (qi (m:8)) E (ql u) (qr 0) (qi (k:8)) (qs F) (qi (H:8)) (ql cells) (ql r) (ql t) (Y^.ref (-(SO.l^s.map .p::T))) K A B a e b v) (c:=(.l^s.map .p::T)++[.l^d.map .p]) (by rw[bR];rw[jE (be eC^aW (dz (Ph (n+05) "_law_mix")^v2 (dz (Ph (n+05) "_law_cell_at")^v2 cW^be iu nj)^vi 07) iu) (PL S (qi (m:8)) E (ql u) (qr 0) (qi (k:8)) (qs F) (qi (H:8)) (ql cells) (ql r) (ql t) (Y^.ref (-(SO.l^s.map .p::T))) g l o a e b v) ((.l^s.map .p::T)++[.l []])=Y (Ev.intsFrom 0 (1+a7 % 2).toNat,(.l^s.map .p::T)++[.l []])|>by simp[PL,Q,e72,q2]];calc es)]
 have hg:((.l^s.map .p::T)++[SO.l^d.map .p])[-(SO.l^s.map .p::T)]? = Y (.l^d.map .p):=dJ _ _;have ht:toP 09 (.ref<|-T+1) (.l^s.map .p::(T++[SO.l^d.map .p]))=_:=dw hg;have hs:(SO.l^s.map .p::(T++[SO.l^d.map .p])).set (-T+1) (.fz^.l d)=.l^s.map .p::(T++[.fz^.l d]):=by simp
 rw[hs]at ht;rw[<- eD];simp[PL,gC,ht,X]
def tH(h a e x s n:Str)(w:P):P:=.u [.str s,.int 1,.l [.str x],.l [.u [.str h,.int 3,.int 3,.int 3],.u [.str a,.int 0,.int 0,.int 0]],.l [.str n],.l [.u [.str e,.str x,w,.n,.l [],.l [],.str x]]]
def Hm(o:strOk e)(s:hd e=Y 109)(t:strOk f)(n:hd f=Y 110)(v:strOk b)(d:strOk a)(z:strOk g)(H:strOk p)(hw:w=.u [.str "true"]\/w=.u [.str "not",.u [.str "true"]]):isFam u^tH e f b a g p w/\yK^tH e f b a g p w:=by
 have j:∀{x:Str}{k:9},hd x=Y k->k≠105->hd x≠Y 105:=λh hk q=>by rw[h]at q;exact hk^cz q
 refine#[#[g,1,[.str a],_,[.str p],_,#[z,(),λy r=>#[a,d,by exists r],∅,∅,#[λc l=>?_,109,λi c m=>?_],∅,λy r=>#[p,H,by exists r],∅,∅,∅,λy r=>?_,∅,∅,by simp[je,fV,rg],by simp[je,fV,rg]],0],0,0,by simp[tH,je,fV,rg]]
 .rwa[a8,eO,eN]at l;rcases l with rfl|rfl
  .exact#[e,3,3,3,o,#[],#[],#[],#[#[],#[],j s #[]],0]
  .exact#[f,(0),(0),(0),t,#[],#[],#[],#[#[],#[],j n #[]],0]
 .match i,m with
  |0,m=>ext m;calc s
  |1,m=>ext m;exact n
 .cases cJ.mp r;calc#[b,.str a,w,.n,[],[],.str a,v,#[∅,∅,?_,.inl rfl,∅,λZ h=>(by ext h),λZ h=>(by ext h),λZ Z Z Z q=>(by ext q),∅,λZ h=>(by ext h)],0];rcases hw with rfl|rfl
  .exact .inl rfl
  .calc .inr^.inr^.inl #[_,.inr rfl,0]
def E_{n:9}(X:6 8){m:9}(hm:m=1\/m=2){u s:6 P}(hf:∀f ∈ s,isFam u f)(hml:m≤-s)(q3 q4 G M q8 q9 y z H K A q B C E:7 D)(T:aK){w:9}(hw:w≤06) :
  X2 λ(V:6 P)(I N j:7 D)=>-V=w/\(∀c ∈ V,A6 c)/\bv (am 06) (gx<|Ph<|n+05) (Ev.intsFrom 0 w) (PL X (qi (m:8)) q3 q4 (qr 0) G M q8 q9 y z H K A q (qr<|-T+1) B C E) (.l^s.map .p::(T++[.l []]))
   = Y (.nx,PL X (qi (m:8)) q3 q4 (qr 0) I N q8 q9 y z H K A j (qr<|-T+1) B C E,.l^s.map .p::(T++[.l^V.map .p])):=by
 let F:7 D->7 D->7 D->Lc:=λG M q=>PL X (qi (m:8)) q3 q4 (qr 0) G M q8 q9 y z H K A q (qr<|-T+1) B C E
 let Inv:9->Lc->aK->5:=λi L S=>X2 λ(l:6 P)(G M q:7 D)=>-l=i/\(∀c ∈ l,A6 c)/\L=F G M q/\S=.l^s.map .p::(T++[.l^l.map .p])
 let(L',S',e4,V,I,N,j,hsl,hst,0,0):=dX (g:=am 06) (b:=gx<|Ph<|n+05) (Inv:=Inv) (s:=Ev.intsFrom 0 w) (k:=0) (L:=F G M q) (S:=.l^s.map .p::(T++[.l []])) (fun i v L S hv hI=>by
   let(0,hi):=ints_get hv;let(l,G,M,q,hc1,ho,0,0):=hI;rwa[db];let(c,d,hd,e1,e2):=i7 (n:=n+3) X (k:=4) (p:=20+(i:8)) () () ();have hmp:0 < (m:8):=by lia
   have hmn:0 < m:=by lia
   let(f,hfm,ef):=oy (s:=s) (k:=d % (m:8)) (iN _ ()) (by have:=j5 d hmp;lia);let(R,Z0,r,cells,t,e,Z1,0):=hf f hfm;let(st,hsm,est):=fj Z1.s0 (d / 4);let(x,rm,wh,tk,chg,sn,rm2,hx,hys,0):=Z1.hst st hsm;let(k,hk,ek):=tX (a:="weak") (b:="strong") (d / 2);let hl:=len_pos Z1.s0;have Q:-l≤1000000:=by lia
   have hg:(T++[SO.l^l.map .p])[-T]? = Y (.l^l.map .p):=dJ _ _;calc#[_,F (qi (i:8)) (qt [.str R,.int (Z0:8),.l r,.l cells,.l t,.l e])^qi d,.l^s.map .p::(T++[.l^(l++[P.u [.str k,.str R,.str x]]).map D.p]),0,?_,_,_,_,_,by simp;lia,fZ ho #[k,R,x,hk,Z1.hnm,hx,0],0,0];have ef2:L2.atI (s.map D.p) (d % (m:8))=qt [.str R,.int (Z0:8),.l r,.l cells,.l t,.l e]:=by rw[sT,ef];rfl
   have e5:L2.atI [P.str R,.int (Z0:8),.l r,.l cells,.l t,.l e] 05=Y^.l e:=ca #[] rfl;rw[<- eD];simp[gx,F,PL,e1,e2,hmn,nc,ef2,ek,e5,dj,dP,hl,est,gC,Q]) #[[],_,_,_,0,λo h=>(by ext h),0,0]
 rw[dq]at hsl;calc#[V,I,N,j,(),hst,e4]
def Ly{n:9}(E:6 8):X1 λfams s N=>Pln fams s N/\ba (Ph (n+06) "_law_plan") [jD E,.int 2]=Y^.u [.l fams,.l s,.l N]:=by
 let(I,e0):=EY (n:=n+3) E (k:=0) ();obtain⟨m,hm⟩:∃m:9,1+I % 2=(m:8):=#[(1+I % 2).toNat,()];have hm2:m=1\/m=2:=by lia
 let(t,en,hnm,hnh,hnl):=y6 (n:=n+2) E 06 (PL E (qi (m:8)) Z Z Z Z Z Z Z Z Z Z Z Z Z Z Z Z Z) (by simp [PL]) rfl #[] (m:=m) () [];rw [dq] at hnl;let(s,(hrl,hr,hrd),er):=Hz (n:=n+2) E hnm (fun i j x Z1 X=>by
  let(a,0,ha):=hnh i _ Z1;let(b,e,hb):=hnh j _ X;ext e;rw[ha]at hb;have:=cz hb
  lia) ()
 let F:7 D->7 D->7 D->7 D->7 D->7 D->7 D->7 D->7 D->7 D->Lc:=λq6 q7 Z0 q9 w H K A B C=>PL E (qi (m:8)) (ql t) (ql s) (qr 0) q6 q7 Z0 q9 w H K A B C Z Z Z Z
 let Inv:9->Lc->aK->5:=λi L S=>X8 λ(vs:6 P)(T:aK)(q6 q7 Z0 q9 w H K A B C:7 D)=>-vs=i/\(∀c ∈ vs,isFam s c/\dZ c≤3-m)/\(∀j x,t[j]? = Y x->j < i->∃f,vs[j]? = Y f/\x=.str^br f)/\L=F q6 q7 Z0 q9 w H K A B C/\S=.l^vs.map .p::T
 let(L',S',e1,base,T,q6,q7,Z0,q9,w,H,K,A,B,C,hfl,hfa,hfn,0,0):=dX (g:=bu [am 06,am 07]) (b:=gy<|Ph<|n+05) (Inv:=Inv) (s:=cy 0 t) (k:=0) (L:=F Z Z Z Z Z Z Z Z Z Z) (S:=[.l []]) (fun i v L S hv hI=>by
   let(x,hx1,0):=kN hv;let hi:=bW hx1;let(nm,hnm1,0):=hnm x^bq hx1;let(vs,T,q6,q7,Z0,q9,w,H,K,A,B,C,hc,ho,hon,0,0):=hI;let(f,hf1,hf2,hf3,q8',q9',q10',q11',q12',q13',q14',q15',T',ef):=Ji (n:=n) E e0 (k:=i) (m:=m) () hm2 hnm1 (λr h=>(hr r h).1) hrl (s:=vs) () T (ql t) Z0 q9 w H K A B C Z Z Z Z;calc#[F (qi (i:8)) (qs nm) Z0 q9 w H K A B C,_,_,0,ef,vs++[f],T',_,_,_,_,_,_,_,_,_,_,by simp;lia,fZ ho #[hf1,hf3],λj x hj hji=>?_,0,0];by_cases hjj:j < i
   .let(g,Q,e):=hon j x hj ();exact#[g,by rw[cG^bW Q];calc Q,e]
   .have:j=i:=by lia
    subst this;rw[hx1]at hj;ext hj;calc#[f,by rw[bZ (),hc];simp,by rw[hf2]]) #[[],[],Z,Z,Z,Z,Z,Z,Z,Z,Z,Z,0,λo h=>(by ext h),λo o o h=>(),0,0]
 have hfm:-base=m:=by rw[hfl,fB,hnl];lia
 obtain⟨G,q17,q18,q19,R,e2⟩:X2 fun (G:6 P) (q17 q18 q19:7 D)=>(G=[]\/∃z,G=[z]/\isFam s z/\yK z/\hd^br z=Y 100)/\∀(q16:7 D) (T:aK),cg (cq (O^aW (aX (dz (Ph (n+05) "_law_cell_at")^v2 cW fR)^vi 64) vd)^O eC) (ah (az 017<|O^bj^v2 (aQ^v4 (dz (Ph (n+05) "_law_name")^v2 cW^vi 012) jH jH jH)^aQ^v4 (dz (Ph (n+05) "_law_name")^v2 cW^vi 013) fR fR fR)
  (ah (az 018<|O^aj (bj^v2 (aQ^v1^vt "true")^aQ^v2 (vt "not")^aQ^v1^vt "true")^aW (aX (dz (Ph (n+05) "_law_cell_at")^v2 cW fR)^vi 256) iu)
  (ah (az 19<|O^aQ^v7 (dz (Ph (n+05) "_law_name")^v2 cW^vi 014) (dz (Ph (n+05) "_law_name")^v2 cW^vi 015) (vv 018) (vC^.n) (bj ao) (bj ao)^dz (Ph (n+05) "_law_name")^v2 cW^vi 015)
  (cE^b0 (U 05)^O^aQ^v6 (dz (Ph (n+05) "_law_name")^v2 cW jH) eC (bj^v1^dz (Ph (n+05) "_law_name")^v2 cW^vi 015) (vv 017) (bj^v1^dz (Ph (n+05) "_law_name")^v2 cW^vi 09)^bj^v1^vv 19)))) cN
   (PL E (qi (m:8)) (ql t) (ql s) (qr 0) q6 q7 Z0 q9 w H K A B C q16 Z Z Z) (.l^base.map .p::T)=Y (.nx,PL E (qi (m:8)) (ql t) (ql s) (qr 0) q6 q7 Z0 q9 w H K A B C q16 q17 q18 q19,.l^(base++G).map .p::T):=by
  by_cases h:I / 64 % 4=1
  .have V:∀k:9,k < 016->∃x:Str,strOk x/\hd x=Y (97+k)/\ba (Ph (n+05) "_law_name") [jD E,.int (k:8)]=Y^.str x:=λk hk=>m5 (n:=n+2) E hk;let(x12,o12,h12,e12):=V 012 #[];let(x13,o13,h13,e13):=V 013 #[];let(x14,o14,_,e14):=V 014 #[];let(x15,o15,_,e15):=V 015 #[];let(x3,o3,h3,e3):=V 3 #[];let(x9,o9,_,e9):=V 09 #[];let(wh,hwh,ewh):=HQ (a:=.u [.str "true"]) (b:=.u [.str "not",.u [.str "true"]]) (I / 256);let(s1,s2):=Hm (u:=s) o12 h12 o13 h13 o14 o15 o3 o9 hwh;rwa[((012:9):8)=012|>rfl,((013:9):8)=013|>rfl,((014:9):8)=014|>rfl,((015:9):8)=015|>rfl,((3:9):8)=3|>rfl,((09:9):8)=09|>rfl]at e12 e13 e14 e15 e3 e9;have hlen:-base≤1000000:=by lia
   calc#[[tH x12 x13 x14 x15 x3 x9 wh],ql [.u [.str x12,.int 3,.int 3,.int 3],.u [.str x13,.int 0,.int 0,.int 0]],qp wh,qt [.str x14,.str x15,wh,.n,.l [],.l [],.str x15],.inr #[_,0,s1,s2,h3],λq16 T=>?_];rw[<- eD];rw[ug (by simp[PL,e0,h])];rw[ak (by simp[PL,e12,e13];calc#[0,0]),ak (by simp[PL,e0,ewh];calc#[0,0]),ak (by simp[PL,e14,e15];calc#[0,0])];simp[PL,e3,e15,e9,gC,hlen,tH]
  .exact#[[],Z,Z,Z,.inl rfl,λq16 T=>by simp[PL,e0,h]]
 have hfa2:∀f ∈ base++G,isFam s f:=λf p=>by
  rcases cj.mp p with p|p
  .exact (hfa f p).1
  .rcases R with rfl|⟨z,rfl,hz,_⟩
   .ext p
   .rw [cJ.mp p];exact hz
 have hw6:(I / 20 % 3).toNat≤06:=by lia
 let(ws,q6',q7',q15',hwl,hwi,e3):=E_ (n:=n) E hm2 hfa2 (by rw[bo];lia) (ql t) (ql s) q6 q7 Z0 q9 w H K A B C q17 q18 q19 T hw6;have M:∀x ∈ t,∃f ∈ base,x=.str^br f:=λx hx=>by let(j,hj,e):=iT.mp hx;let(f,p,e):=hfn j x (by rw[bt hj,e]) (by rw[fB];lia);exact#[f,bq p,e]
 have hfd:∀f ∈ base,∃a:9,base[a]? = Y f/\hd^br f=Y (97+a):=λf p=>by let(a,ha,e):=iT.mp p;let Z1:=bt ha;rw[e]at Z1;let X:=bt (l:=t) (i:=a) ();let(g,Q,e2):=hfn a _ X (by rw[fB];lia);rw[Z1]at Q;ext Q;let(y,e3,hy):=hnh a _ X;rw[e2]at e3;ext e3;exact#[a,Z1,hy]
 have hne:∀f ∈ base,∀z ∈ G,br z≠br f:=λf p z hz q=>by
  let(a,Z1,X):=hfd f p;rcases R with rfl|⟨z',rfl,_,_,hz'⟩
  .ext hz
  .rw [cJ.mp hz]at q;rw[<- q,hz']at X;have:=cz X
   have:=bW Z1;lia
 have htl1:-G≤1:=by rcases R with rfl|⟨z,rfl,_⟩<;>simp
 refine#[base++G,s,ws,#[hfa2,#[3-m,λf p=>?_,?_],by rw[bo];lia,λr h=>(hr r h).1,λr h=>#[?_,?_],hrl,hwi,(),hrd,λf p g Q q=>?_,base,G,0,?_,R.imp id λ#[z,Z1,_,X,_]=>#[z,Z1,X],λr h z hz=>#[λq=>?_,λq=>?_]],?_]
 .rcases cj.mp p with p|p
  .exact (hfa f p).2
  .rcases R with rfl|⟨z,rfl,_,hz,_⟩
   .ext p
   .rw [cJ.mp p,hz.1];lia
 .rw [bo,hfm];rcases hm2 with rfl|rfl<;>lia
 .let(f,p,e):=M _ (hr r h).2.1;exact#[f,j' _ p,(P.str.inj e).symm]
 .let(f,p,e):=M _ (hr r h).2.2;exact#[f,j' _ p,(P.str.inj e).symm]
 .rcases cj.mp p with p|p<;>rcases cj.mp Q with Q|Q
  .let(a,Z1,X):=hfd f p;let(a',h3,h4):=hfd g Q;rw[q,h4]at X;have:=cz X
   rw[a=a'|>by lia,h3]at Z1;exact(cz Z1).symm
  .exact absurd q.symm^hne f p g Q
  .exact absurd q^hne g Q f p
  .rcases R with rfl|⟨z,rfl,_⟩
   .ext p
   .rw [cJ.mp p,cJ.mp Q]
 .rcases hm2 with rfl|rfl
  .let(f,0):=Vv hfm;exact .inl #[f,0,(hfa f ∅).2]
  .let(f,g,0):=TW hfm;exact .inr #[f,g,0,(hfa f ∅).2,(hfa g ∅).2]
 .let(f,p,e):=M _ (hr r h).2.1;exact hne f p z hz^q.trans^P.str.inj e
 .let(f,p,e):=M _ (hr r h).2.2;exact hne f p z hz^q.trans^P.str.inj e
 have q3:m < 1000000:=by lia
 have q4:m≤1000000:=by lia
 have q5:(I / 20 % 3).natAbs < 1000000:=by lia
 rw [x_,aL];show (if -[jD E,P.int 2]=2 then match lQ (Ph<|n+05) (PL E Z Z Z Z Z Z Z Z Z Z Z Z Z Z Z Z Z Z) [] with
  |some (.rt d,_,S)=>(toP 09 d S).map (·.1)
  |some (.nx,_,_)=>Y .n
  |_=>Z else Z)=_
 rw[af (-[jD E,P.int 2]=2|>rfl)];unfold lQ;rwa[F]at e1;rw[ak (e:=PL E (qi (m:8)) Z Z Z Z Z Z Z Z Z Z Z Z Z Z Z Z Z) (c:=[]) (by simp[PL,e0,hm])];rw[ak (e:=PL E (qi (m:8)) (ql t) Z Z Z Z Z Z Z Z Z Z Z Z Z Z Z Z) (c:=[]) (by rwa[PL]at en;simp[PL,q3,q4,bf,dq,mn,en])];rw[ak (e:=PL E (qi (m:8)) (ql t) (ql s) Z Z Z Z Z Z Z Z Z Z Z Z Z Z Z) (c:=[]) (by simp[PL,er])];rw[ak (e:=PL E (qi (m:8)) (ql t) (ql s) (qr 0) Z Z Z Z Z Z Z Z Z Z Z Z Z Z) (c:=[.l []]) (by simp[PL])];rw[ak (e:=_) (c:=_) (by rw[bR];rw[lG ik (PL E (qi (m:8)) (ql t) (ql s) (qr 0) Z Z Z Z Z Z Z Z Z Z Z Z Z Z) [.l []]=Y (cy 0 t,[.l []])|>by simp[PL]];calc e1)];rw[ak (e:=PL E (qi (m:8)) (ql t) (ql s) (qr 0) q6 q7 Z0 q9 w H K A B C (qr<|-T+1) Z Z Z) (c:=.l^base.map .p::(T++[.l []])) (by simp[PL])];rw[ak^e2 _ _];rw[ak (e:=_) (c:=_) (by rw[bR];rw[jE (aW (aX (dz (Ph (n+05) "_law_cell_at")^v2 cW fR)^vi 20) jH) (PL E (qi (m:8)) (ql t) (ql s) (qr 0) q6 q7 Z0 q9 w H K A B C (qr<|-T+1) q17 q18 q19) (.l^(base++G).map .p::(T++[.l []]))=Y (Ev.intsFrom 0 (I / 20 % 3).toNat,.l^(base++G).map .p::(T++[.l []]))|>by simp[PL,e0,q5]];calc e3)];have t0:toP 09 (.ref 0) (SO.l^(base++G).map .p::(T++[.l^ws.map .p]))=Y (.l<|base++G,.fz (.l<|base++G)::(T++[.l^ws.map .p])):=dw rfl;have t1:toP 09 (.ref<|-T+1) (SO.fz (.l<|base++G)::(T++[.l^ws.map .p]))=Y (.l ws,.fz (.l<|base++G)::(T++[.fz^.l ws])):=by rw[dw (T:=ws) ∅];simp
 generalize base++G=fams at t0 t1 ⊢;simp[PL,t0,t1]
end My
namespace My
open PySem L2 Ev
section
variable{m:6 P}
def hw:9->6 P->6 (9×P)
 |_,[]=>[]
 |k,f::r=>List.replicate (dZ f) (k,f)++hw (k+1) r
def isFam.crew(h:isFam m e):dZ e≤4:=by let(n,c,r,a,w,s,f,0):=h;simpa[dZ] using f.hcr.2
theorem A':∀{a:6 P}(k:9),(∀f ∈ a,isFam m f)->-(hw k a)≤4 * (-a)
 | [],k,_=>by simp[hw]
 |f::r,k,h=>by have:=A' (a:=r) (k+1) λx e=>h x^aC _ e;let c:=(h f aA).crew;simp[hw];lia
theorem qm:∀{a:6 P}{k:9}{x:9×P},x ∈ hw k a->∃j,x.1=k+j/\a[j]? = Y x.2
 | [],k,x,h=>by simp[hw]at h
 |f::r,k,x,h=>by
  unfold hw at h;rcases cj.mp h with h|h
  .let(_,0):=oS.mp h;exact#[(0),∅,∅]
  .let(j,s,e):=qm h;calc#[j+1,(),by exists e]
def homes(f:6 P):6 P:=(hw 0 f).map λx=>.int (x.1:8)
def a_(f:6 P):6 P:=(hw 0 f).map (·.2)
def jK(k:9):((k+1:9):8)=(k:8)+1:=by lia
theorem EH(y K:Str->GF)(S:aK)(l:P):∀(b:6 P)(k:9)(n:6 P)(g i:7 D),(∀f ∈ b,isFam m f)->-n+4 * (-b)≤1000 ->
  X0 λq v=>bv (bu [am 2,am 3]) (gF y) (cy (k:8) b) [qp l,qr (-S),g,i] (S++[.l^n.map .p])=Y (.nx,[qp l,qr (-S),q,v],S++[.l^(n++(hw k b).map λx=>P.int (x.1:8)).map .p])
 | [],k,n,g,i,_,_=>#[g,i,by simp[cy,bv,hw]]
 |f::r,k,n,g,i,h,H=>by
  let(u,c,o,a,w,s,z,0):=h f aA;let A:=z.hcr.2;rwa[aP]at H;let(q,v,e):=EH y K S l r (k+1) (n++List.replicate c^P.int (k:8)) (qi (k:8)) (qt [.str u,.int (c:8),.l o,.l a,.l w,.l s]) (λx F=>h x^aC _ F) (by simp;lia);calc#[q,v,?_];have j:(hw k (.u [.str u,.int (c:8),.l o,.l a,.l w,.l s]::r)).map (λx=>P.int (x.1:8))=List.replicate c^P.int (k:8)++(hw (k+1) r).map (λx=>P.int (x.1:8)):=by simp[hw,dZ]
  rw[j,<- dS];unfold cy;rw[jK]at e;calc(bx (h:=[qp l,qr (-S),qi (k:8),qt [.str u,.int (c:8),.l o,.l a,.l w,.l s]]) (L2:=[qp l,qr (-S),qi (k:8),qt [.str u,.int (c:8),.l o,.l a,.l w,.l s]]) (x:=S++[.l^(n++List.replicate c^P.int (k:8)).map .p]) rfl ?_).trans e;have d:c≤1000000:=by lia
  have p:c < 1000000:=by lia
  have t:-n+c≤1000000:=by lia
  simp[gF,gC,d,p,t]
def Nl(h:∀f ∈ s,isFam m f)(l:-s≤4)(r w:P)(S:aK):Ph (n+2) "families_of" [.p^.u [.l s,r,w]] S=Y (.ref (-S),S++[.l^(homes s).map .p]):=by let(q,a,e):=EH (Ph<|n+1) (Ph n) S (.u [.l s,r,w]) s 0 [] Z Z h (by simp;lia);rw[rF];rwa[dR,d7]at e;let x:=e;rw[((0:9):8)=0|>rfl]at x;simp[np,l0,x,homes]
def EG(h:∀f ∈ s,isFam m f)(l:-s≤4)(r w:P):ba (Ph (n+2) "families_of") [.u [.l s,r,w]]=Y (.l^homes s):=by unfold ba;rw[aI,d7,Nl (n:=n) h l r w []];simp
def aM(f:6 P):LS:=(a_ f).map br
def jV(h:∀f ∈ s,isFam m f)(a:f ∈ a_ s):isFam m f:=by unfold a_ at a;let(x,n,0):=bg.mp a;let(j,_,e):=qm n;calc h _^bq e
def aZ(N:LS)(s:Str):6 9:=(List.range (-N)).filter λi=>decide<|N[i]? = Y s
theorem EJ:∀(xs:6 P)(k:9),cy (k:8) xs=(CD k (-xs)).map λi=>.u [.int (i:8),(xs[i-k]?).getD .n]
 | [],k=>rfl
 |x::r,k=>by
  unfold cy;let h:=EJ r (k+1);rw[jK]at h;rw[h,aP,wT,aI];rwa[Nat.sub_self];congr 1;refine sB λi a=>?_
  have:=(List.mem_range'_1.mp a).1;rw[i-k=(i-(k+1))+1|>by lia,C1]
def zz(xs:6 P):cy 0 xs=(List.range (-xs)).map λi=>.u [.int (i:8),(xs[i]?).getD .n]:=by have:=EJ xs 0;rw[List.range_eq_range'];exists this
def pr(road:P)(n o:9):P:=.u [road,.int (n:8),.int (o:8)]
def xA(N:LS)(road:P):6 P:=(aZ N^rA road).flatMap λn=>((aZ N^rB road).filter λo=>!decide (n=o)).map λo=>pr road n o
def bM(N:LS)(r:6 P):6 P:=r.flatMap^xA N
def bX(s:6 9):6 P:=s.map λ(i:9)=>P.int (i:8)
def dE(N:LS)(s:Str):-(aZ N s)≤-N:=by unfold aZ;calc aH (iU _ _) ∅
def xq(n:9)(road:P)(os:6 9):-((os.filter λo=>!decide (n=o)).map λo=>pr road n o)≤-os:=by rw[aU];calc iU _ _
theorem xz(N:LS)(road:P)(os:6 9)(h:-os≤016):∀(s:6 9),-(s.flatMap λn=>(os.filter λo=>!decide (n=o)).map λo=>pr road n o)≤016 * (-s)
 | []=>by simp
 |i::s=>by
  have:=xz N road os h s;have:=xq i road os
  rwa[f_,bo,aP];lia
theorem EA:∀{a:6 P}(k:9),(∀f ∈ a,dZ f≤e)->-(hw k a)≤-a * e
 | [],k,_=>by simp[hw]
 |f::r,k,h=>by have:=EA (a:=r) (k+1) λx s=>h x^aC _ s;let c:=h f aA;simp[hw,Nat.add_mul];lia
def kL(h:Pln s y e):-(a_ s)≤4:=by
 let(c,x,a):=h.cr;have:=EA 0 x
 unfold a_;simp;lia
def lH(h:Pln s y e):-(aM s)≤4:=by unfold aM;rw[aU];calc kL h
end
section
variable{m:6 P}
def IX(h:e ∈ homes s):X0 λp f=>e=.int ((p:9):8)/\s[p]? = Y f/\f ∈ a_ s:=by unfold homes at h;let(x,a,0):=bg.mp h;let(j,n,k):=qm a;calc#[x.1,x.2,0,by rw[n,gN];calc k,bg.mpr #[x,a,0]]
def FP(h:∀p x,s[p]? = Y x->g^.int ((p:9):8)=e x):(homes s).map g=(a_ s).map e:=by
 unfold homes a_;rw[gU,gU];refine sB λx k=>?_
 let(j,a,n):=qm k;calc h x.1 x.2 (by rw[a,gN];calc n)
theorem kj(xs:6 e):xs.filter (λz=>W)=xs:=oU.mpr λz z=>rfl
def qo:-(homes s)=-(a_ s):=by simp[homes,a_]
theorem bD(h:xs[e]? = Y s):L2.atI xs ((e:9):8)=Y s:=ca () (by exists h)
def HN(q:∀f ∈ s,isFam m f)(r w:P)(S:aK):bG (am 07) dD (aj (aj (aj cW fR) oZ) fR) (homes s) [qt [.l s,r,w],Z,Z,Z,Z,Z,Z,Z] S=Y ((aM s).map .str,S):=by
 rw[cI (p:=λz=>W) (f:=λv=>match v with | .int i=>(match s[i.toNat]? with|some f=>.str^br f|none=>.n)|_=>.n) (Inv:=λL=>∃d,L=[qt [.l s,r,w],Z,Z,Z,Z,Z,Z,d]) (λv g L b=>?_) #[Z,0]]
 .rw [kj,FP (e:=λf=>.str^br f) λp x j=>by simp[j]];simp[aM]
 .let(d,0):=b;let(p,f,0,n,h):=IX g;let(l,c,o,a,k,t,u,0):=jV q h;let e:=bD n;calc#[[qt [.l s,r,w],Z,Z,Z,Z,Z,Z,qi (p:8)],0,#[_,0],0,λz=>by simp[e,n,br]]
def oth(N:LS)(s:Str)(n:9):6 9:=(aZ N s).filter λo=>!decide (n=o)
def Fv(N:LS)(a b:Str)(kd:P)(c:8)(x s:15)(l r:D)(o:9)(q n:7 D)(S:aK):bG (am 07) (iL (lW (U 07) DJ)^cq (O^aj ij oZ)^O^aj ik eC) oZ (Ev.intsFrom 0 (-N))
  [Y l,ql^N.map .str,Y r,qt [.str a,.str b,kd,.int c,.d x,.d s],qi (o:8),q,n,Z] S=Y (bX^oth N b o,S):=by
 rw[cI (p:=λv=>match v with | .int i=>(!decide (o=i.toNat)) && decide (N[i.toNat]? = Y b)|_=>Xk) (f:=id) (Inv:=λL=>∃d,L=[Y l,ql^N.map .str,Y r,qt [.str a,.str b,kd,.int c,.d x,.d s],qi (o:8),q,n,d]) (λv u L t=>?_) #[Z,0]]
 .congr 2;unfold Ev.intsFrom bX oth aZ;rw[sk,gS,List.filter_filter];rwa[db];congr 1
 .let(d,0):=t;let(i,0,w):=jc u;rwa[db];have g:N[i]? = Y N[i]:=bt w;have e:L2.atI (N.map P.str) (i:8)=Y^.str N[i]:=bD (by rw[cm,g];rfl);calc#[[Y l,ql^N.map .str,Y r,qt [.str a,.str b,kd,.int c,.d x,.d s],qi (o:8),q,n,qi (i:8)],0,#[_,0],?_,λy=>by simp];by_cases h:o=i
  .simp [h]
  .have k:¬(i:8)=(o:8):=by lia
   have m:¬i=o:=λz=>h z.symm;simp[h,k,m,e,g];first|done|calc wD.mpr Iff.rfl
def Ls(road:P)(n:9)(L:Lc)(l:-L=08)(g:L[3]? = Y^qp road)(x:L[4]? = Y^qi (n:8))(os:6 9)(S:aK):bG (am 07) dD (aQ^v3 ik l_ oZ) (bX os) L S=Y (os.map λo=>pr road n o,S):=by
 rw[cI (p:=λz=>W) (f:=λv=>.u [road,.int (n:8),v]) (Inv:=λh=>∃d,h=L.set 07 d) (λv b h a=>?_) #[L[07],(iV ()).symm]]
 .rw [kj];unfold bX pr;rw[gU];rfl
 .let(d,0):=a;have k:((L.set 07 d).set 07<|qp v)[07]? = Y^qp v:=by rw[bY (by simp[l])]
  have e:((L.set 07 d).set 07<|qp v)[3]? = Y^qp road:=by rw[aV #[],aV #[]];exact g
  have s:((L.set 07 d).set 07<|qp v)[4]? = Y^qi (n:8):=by rw[aV #[],aV #[]];exact x
  calc#[_,0,#[_,cT ..],0,λz=>by simp[-cT,k,e,s]]
def qL(N:LS)(road:P)(n:9):6 P:=if decide (N[n]? = Y^rA road)=W then (oth N (rB road) n).map λo=>pr road n o else []
def Fy(N:LS)(road:P)(o:9)(h:-N≤016):-(qL N road o)≤016:=by
 unfold qL;split
 .let x:=xq o road (aZ N^rB road);let a:=dE N^rB road;unfold oth;lia
 .simp
theorem Vd(E M:Str->GF)(S:aK)(l:D)(N:LS)(y:-N≤016)(v:isRoad road):∀(r:6 9)(x:6 P)(d w k:7 D),(∀i ∈ r,i < -N)->-x+016 * (-r)≤50000 ->
  X1 λq s n=>bv (bu [am 4,am 05]) (gq E) (r.map λ(i:9)=>P.u [.int (i:8),((N.map P.str)[i]?).getD .n]) [Y l,ql^N.map .str,qr (-S),qp road,d,w,k] (S++[.l^x.map .p]) =
   Y (.nx,[Y l,ql^N.map .str,qr (-S),qp road,q,s,n],S++[.l^(x++r.flatMap^qL N road).map .p])
 | [],x,d,w,k,_,_=>#[d,w,k,by simp[bv]]
 |i::r,x,d,w,k,F,T=>by
  rwa[aP]at T;let t:=Fy N road i y;let K:=F i aA;have z:N[i]? = Y N[i]:=bt K;have H:((N.map P.str)[i]?).getD .n=.str N[i]:=by rw[cm,z];rfl
  rw[f_,<- dS,aI,H];by_cases h:N[i]=rA road
  .have g:qL N road i=(oth N (rB road) i).map λo=>pr road i o:=by unfold qL;rw[z,h];simp
   rw[g]at t ⊢;let(q,s,n,e):=Vd E M S l N y v r (x++(oth N (rB road) i).map λo=>pr road i o) (qi (i:8)) (qs^N[i]) (ql^bX^oth N (rB road) i) (λj A=>F j^aC _ A) (by rw[bo];lia);calc#[q,s,n,?_];calc(bx (h:=[Y l,ql^N.map .str,qr (-S),qp road,qi (i:8),qs^N[i],k]) rfl ?_).trans e;have p:-x+-(oth N (rB road) i)≤1000000:=by rw[aU]at t;lia
   have f:-(oth N (rB road) i)≤1000000:=by lia
   have m:-(bX^oth N (rB road) i)=-(oth N (rB road) i):=by simp[bX]
   have V:-N < 1000000:=by lia
   have C:-N≤1000000:=by lia
   let u:=Ls road i [Y l,ql^N.map .str,qr (-S),qp road,qi (i:8),qs^N[i],ql^bX^oth N (rB road) i,Z] rfl rfl rfl (oth N (rB road) i) (S++[.l^x.map .p]);let(a,b,kd,c,G,I,Q,R,B,_,_,0):=v;let L:=Fv N a b (.str kd) c G I l (.ref (-S)) i (qs^N[i]) k (S++[.l^x.map .p]);rwa[rA,rB]at h p f m u ⊢;simp[gq,h,bf,dj,dP,V,C,dq,mn,gC,m,f,p];simp[h]at L u;simp[L,u,m,f,p]
  .have g:qL N road i=[]:=by unfold qL;rw[z];simp[h]
   rw[g,dQ];let(q,s,n,e):=Vd E M S l N y v r x (qi (i:8)) (qs^N[i]) k (λj A=>F j^aC _ A) ();calc#[q,s,n,?_];calc(bx (h:=[Y l,ql^N.map .str,qr (-S),qp road,qi (i:8),qs^N[i],k]) rfl ?_).trans e;let(a,b,kd,c,G,I,Q,R,B,_,_,0):=v;rwa[rA]at h;simp[gq,h]
end
section
variable{m:6 P}
theorem mF(p:e->15)(f:e->6 s):∀xs:6 e,(xs.filter p).flatMap f=xs.flatMap λx=>if p x=W then f x else []
 | []=>rfl
 |x::r=>by
  by_cases h:p x=W
  .rw [wZ h,f_,f_,mF p f r,af h]
  .rw [wY h,f_,mF p f r,ag h,dR]
def OK(N:LS)(road:P):(List.range (-N)).flatMap^qL N road=xA N road:=by unfold xA;rw[aZ N^rA road=(List.range (-N)).filter (λi=>decide<|N[i]? = Y^rA road)|>rfl,mF];rfl
def qe(N:LS)(road:P)(h:-N≤016):-(xA N road)≤256:=by
 let x:=dE N^rA road;let a:=dE N^rB road;have:=xz N road (aZ N^rB road) ()^aZ N^rA road
 unfold xA;lia
theorem V7(u l:Str->GF)(S:aK)(p:D)(N:LS)(d:-N≤016):∀(o:6 P)(a:6 P)(t q e n:7 D),(∀r ∈ o,isRoad r)->-a+256 * (-o)≤10000 ->
  X2 λw x s k=>bv (am 3) (lZ u) o [Y p,ql^N.map .str,qr (-S),t,q,e,n] (S++[.l^a.map .p]) =
   Y (.nx,[Y p,ql^N.map .str,qr (-S),w,x,s,k],S++[.l^(a++bM N o).map .p])
 | [],a,t,q,e,n,_,_=>#[t,q,e,n,by simp[bv,bM]]
 |road::o,a,t,q,e,n,j,H=>by rwa[aP]at H;let(x,s,k,v):=Vd u l S p N d (j road aA) (List.range (-N)) a q e n (λi z=>by exists z) (by simp;lia);let F:=qe N road d;let(f,b,c,m,y):=V7 u l S p N d o (a++xA N road) (qp road) x s k (λr h=>j r^aC _ h) (by rw[bo];lia);calc#[f,b,c,m,?_];rw[bM N (road::o)=xA N road++bM N o|>by simp[bM],<- dS];calc(bx (h:=[Y p,ql^N.map .str,qr (-S),qp road,q,e,n]) rfl ?_).trans y;rw[OK]at v;let g:=zz^N.map P.str;rw[aU]at g;rw[<- g]at v;show bR _ _ _ _ _=_;rwa[bR];rw[lG ij [Y p,ql^N.map .str,qr (-S),qp road,q,e,n] (S++[.l^a.map .p])=Y (cy 0<|N.map P.str,S++[.l^a.map .p])|>by simp];calc v
def M6(h:Pln z s y)(S:aK):Ph (n+3) "pairs_of" [.p^.u [.l z,.l s,.l y]] S=Y (.ref (-S),S++[.l^(bM (aM z) s).map .p]):=by
 have:=h.rl;let x:=EG (n:=n) h.hf h.f0.2 (.l s)^.l y;let a:=HN h.hf (.l s) (.l y) S;let(q,k,f,b,e):=V7 (Ph<|n+2) (Ph<|n+1) S (.p^.u [.l z,.l s,.l y]) (aM z) (aH (lH h) #[]) s [] Z Z Z Z h.hr (by simp;lia);have l:-(homes z)≤1000000:=by rw[qo];have:=kL h;lia
 rw[xY];rwa[dR,d7]at e;simp[np,pM,x,bf,l,mn,a,e]
def Lv(h:Pln y s e):ba (Ph (n+3) "pairs_of") [.u [.l y,.l s,.l e]]=Y (.l^bM (aM y) s):=by unfold ba;rw[aI,d7,M6 (n:=n) h []];simp
def ul(v:P):P:=gH v 3
def jW(f:P):P:=.u [.int 0,.u^(re^gH f 3).map ul,.u<|List.replicate (-(re^gH f 4))<|.int<|-1]
def Mo(n:∀c ∈ a,isCel c)(L:Lc)(j:9)(e:j < -L)(S:aK):bG (am j) dD (aj (vv j) jH) a L S=Y (a.map ul,S):=by
 rw[cI (p:=λz=>W) (f:=ul) (Inv:=λh=>∃d,h=L.set j d) (λv k h s=>?_) #[L[j],(iV e).symm]]
 .rw [kj]
 .let(d,0):=s;let(x,lo,i,t,b,_,_,_,_,0):=n v k;have g:((L.set j d).set j^qt [.str x,.int lo,.int i,.int t])[j]? = Y^qt [.str x,.int lo,.int i,.int t]:=by
   rw[bY (by exists e)]
  calc#[_,0,#[_,cT ..],0,λz=>by simp[-cT,g,ul]]
theorem Nv(a b c d e f:P):L2.atI [a,b,c,d,e,f] 3=Y d:=ca #[] rfl
theorem QO(a b c d e f:P):L2.atI [a,b,c,d,e,f] 4=Y e:=ca #[] rfl
theorem E4(A I:Str->GF)(S:∀f ∈ s,isFam m f)(o i:P):∀(n:6 (9×P))(h:6 P)(g d u:7 D),(∀x ∈ n,s[x.1]? = Y x.2)->-h+-n≤1000 ->
  X1 λq b v=>bv (am 2) (lT A) (n.map λx=>P.int (x.1:8)) [qt [.l s,o,i],qr 0,g,d,u] [.l^h.map .p] =
   Y (.nx,[qt [.l s,o,i],qr 0,q,b,v],[.l^(h++n.map λx=>jW x.2).map .p])
 | [],h,g,d,u,_,_=>#[g,d,u,by simp[bv]]
 |x::n,h,g,d,u,K,E=>by
  rwa[aP]at E;let(p,f):=x;have F:s[p]? = Y f:=K (p,f) aA;let(H,c,r,a,w,t,k,0):=S f^bq F;let C:=bD F;let(q,b,v,e):=E4 A I S o i n (h++[jW^.u [.str H,.int (c:8),.l r,.l a,.l w,.l t]]) (qi (p:8)) (ql a) (ql w) (λy G=>K y^aC _ G) (by simp;lia);calc#[q,b,v,?_];rw[aI,aI,show h++jW^.u [.str H,.int (c:8),.l r,.l a,.l w,.l t]::n.map (λx=>jW x.2)=h++[jW^.u [.str H,.int (c:8),.l r,.l a,.l w,.l t]]++n.map (λx=>jW x.2) by simp];calc(bx (h:=[qt [.l s,o,i],qr 0,qi (p:8),d,u]) rfl ?_).trans e;let B:=Mo k.hce.1 [qt [.l s,o,i],qr 0,qi (p:8),ql a,ql w,Z] 05 ∅ [.l^h.map .p];have j:-a≤1000000:=by have:=k.cl;lia
  have z:-w≤1000000/\-w < 1000000:=by have:=k.wl;lia
  have l:-h≤1000000:=by lia
  rw[<- eD];simp[lT,C,Nv,QO,bf,j,mn,B,gj,dj,dP,z,gC,l,jW]
def JJ(h:Pln s y z):ba (Ph (n+4) "begin") [.u [.l s,.l y,.l z]]=Y^.u [.u^(a_ s).map jW,.u^List.replicate (-(bM (aM s) y))^.u []]:=by
 let b:=EG (n:=n+1) h.hf h.f0.2 (.l y)^.l z;let a:=Lv (n:=n) h;let t:=A' 0 h.hf;let l:=h.f0.2;let(u,g,o,e):=E4 (Ph<|n+3) (Ph<|n+2) h.hf (.l y) (.l z) (hw 0 s) [] Z Z Z (λx v=>by let(j,a,c):=qm v;rw[a,gN];calc c) (by simp;lia);have q:-(bM (aM s) y)≤2048:=by
  have N:-(aM s)≤016:=aH (lH h) #[];have f:∀m:6 P,-(bM (aM s) m)≤256 * (-m):=by
   intro m;induction m with
   |nil=>simp[bM]
   |cons r m w=>have:=qe (aM s) r N;rw[bM (aM s) (r::m)=xA (aM s) r++bM (aM s) m|>by simp[bM],bo,aP];lia
  have:=f y;have:=h.rl
  lia
 have p:-(bM (aM s) y)≤1000000:=by lia
 have k:-(bM (aM s) y) < 1000000:=by lia
 rw[F0,aL];rwa[dR,d7]at e;rw[(hw 0 s).map (λx=>P.int (x.1:8))=homes s|>rfl,(hw 0 s).map (λx=>jW x.2)=(a_ s).map jW|>by simp[a_]]at e;have i:∀vs:6 P,toP 09 (.ref 0) [.l^vs.map .p]=Y (.l vs,[.fz^.l vs]):=Hg;generalize (a_ s).map jW=d at e ⊢;simp[vX,b,a,e,gj,dj,dP,p,k]
end
def k8(S:aK)(j:9)(xs:6 P):5:=S[j]? = Y (.l^xs.map .p)\/S[j]? = Y (.fz^.l xs)
variable{xs:6 P}{c:6 P}
theorem Iv(h:xs.map D.p=c.map D.p):xs=c:=(CS (f:=D.p) λz z h=>D.p.inj h).mp h
variable{S:aK}{j:9}
def k8.lt(h:k8 S j xs):j < -S:=by rcases h with h|h<;>calc(bP.mp h).1
def k8.frz(h:k8 S j xs):toP 09 (.ref j) S=Y (.l xs,S.set j^.fz^.l xs):=by
 rcases h with h|h
 .exact dw h
 .have:S.set j (.fz^.l xs)=S:=by
   let(a,x):=bP.mp h;rw[<- x,iV]
  rw[this];simp[toP,h]
variable{L:Lc}
def k8.ix(h:k8 S j xs){i:8}(r:s L S=Y (.ref j,S))(hk:k L S=Y (.int i,S))(e:L2.atI xs i=Y y):nc s k L S=Y (.p y,S):=by
 rw[nc,r,aq,hk,aq];rcases h with h|h
 .rwa[h];rw[sT,e];rfl
 .rwa[h];show(L2.atI xs i).map _=_;rw[e];rfl
def k8.len(h:k8 S j xs):dj (.ref j) S=Y (-xs):=by rcases h with h|h<;>simp[dj,h,dP]
structure Fr(b:9)(S S':aK):5 where
 len:-S≤-S'
 low:∀k o,k < b->S[k]? = Y o->S'[k]? = Y o\/∃xs,o=.l^xs.map .p/\S'[k]? = Y (.fz^.l xs)
 hi:∀k o,b≤k->S[k]? = Y o->S'[k]? = Y o
theorem Fr.refl(b:9)(S:aK):Fr b S S:=#[ar _,λz z z h=>.inl h,λz z z h=>h]
variable{b:9}{x:aK}
def Fr.trans(h:Fr b S x)(g:Fr b x s):Fr b S s:=by
 calc#[aH h.len g.len,λk o hk e=>?_,λk o hk e=>g.hi k o hk^h.hi k o hk e];rcases h.low k o hk e with a|⟨xs,rfl,a⟩
 .exact g.low k o hk a
 .rcases g.low k _ hk a with a|⟨c,q,_⟩
  .exact .inr #[xs,0,a]
  .ext q
def Fr.app(b:9)(S T:aK):Fr b S (S++T):=by
 have y:∀k o,S[k]? = Y o->(S++T)[k]? = Y o:=λk o e=>by rw[cG^bW e];exact e
 calc#[∅,λk o z e=>.inl^y k o e,λk o z e=>y k o e]
variable{k:9}
def Fr.set(h:Fr b S x)(s:b≤-S)(hk:-S≤k)(o:SO):Fr b S^x.set k o:=by
 refine#[by rw[de];calc h.len,λj u a e=>?_,λj u a e=>?_]
 .rw [aV ()];exact h.low j u a e
 .have:=bW e;rw[aV ()];calc h.hi j u a e
def Fr.frz(x:j < b)(h:k8 S j xs):Fr b S (S.set j^.fz^.l xs):=by
 refine#[∅,λk o hk e=>?_,λk o hk e=>?_]
 .by_cases q:j=k
  .subst q;rw[bY h.lt];rcases h with h|h<;>(rw[h]at e;ext e)
   .exact .inr #[xs,0,0]
   .exact .inl rfl
  .rw [aV q];exact .inl e
 .rw [aV ()];calc e
def Fr.trunc(h:Fr b S x):Fr b S^trunc S.length x:=by
 unfold Ev.trunc;split
 .refine#[by rw[iR];have:=h.len;lia,λk o hk e=>?_,λk o hk e=>?_]
  .rw [iW^bW e];exact h.low k o hk e
  .rw [iW^bW e];exact h.hi k o hk e
 .calc h
def k8.fr(h:Fr b S x)(g:k8 S j xs):k8 x j xs:=by
 by_cases a:j < b
 .rcases g with g|g
  .rcases h.low j _ a g with e|⟨c,q,e⟩
   .exact .inl e
   .have:xs=c:=Iv^SO.l.inj q;subst this;exact .inr e
  .rcases h.low j _ a g with e|⟨c,q,e⟩
   .exact .inr e
   .ext q
 .rcases g with g|g
  .exact .inl^h.hi j _ () g
  .calc .inr^h.hi j _ () g
def rN(S x:aK)(d:D)(c:6 P):5:=d=.p^.l c\/∃k,-S≤k/\d=.ref k/\k8 x k c
variable{d:D}
def rN.toP(h:rN S x d c)(f:Fr b S x)(e:b≤-S):∃a,toP 09 d x=Y (.l c,a)/\Fr b S a:=by
 rcases h with rfl|⟨k,hk,rfl,h⟩
 .exact#[x,∅,f]
 .calc#[_,h.frz,f.set e hk _]
variable{g:GF}{q:uH}{l:6 D}
def nE(s:q L S=Y (l,S))(k:g l S=Y (d,x))(r:Fr b S x)(n:b≤-S)(h:rN S x d c):∃a,cw g q L S=Y (.l c,a)/\Fr b S a:=by let(m,e,f):=h.toP r n;calc#[_,by rw[cw,s,aq,k,aq,e,aq],f.trunc]
theorem vR(a:q L S=Y (l,S))(s:g l S=Y (.p e,x))(f:Fr b S x):∃h,cw g q L S=Y (e,h)/\Fr b S h:=
 #[_,by rw[cw,a,aq,s,aq];rfl,f.trunc]
structure BD where
 fams:6 P
 roads:6 P
 wishes:6 P
 ks:6 (6 cD)
 vs:6 D
abbrev BP(B:BD):5:=Pln B.fams B.roads B.wishes
def BD.N(B:BD):LS:=aM B.fams
def BD.PR(B:BD):6 P:=bM B.N B.roads
def fields:LS:=["families","homes","pairs","places","members"]
structure Bat(B:BD)(b i jh jp jl jm:9)(mk:6 cD)(mv:6 D)(S:aK):5 where
 ins:S[i]? = Y (.B "Board" fields [.p^.l B.fams,.ref jh,.ref jp,.ref jl,.ref jm])
 ho:k8 S jh (homes B.fams)
 pr:k8 S jp B.PR
 pl:S[jl]? = Y (.q B.ks B.vs)
 me:S[jm]? = Y (.E mk mv)
 mm:∀s ∈ B.N,∃j,j < b/\cC (.inr s) mk mv=qr j/\k8 S j (bX^aZ B.N s)
 bi:i < b
 bh:jh < b
 bp:jp < b
 bl:jl < b
 bm:jm < b
 bs:b≤-S
inductive Bd(B:BD)(b i:9)(S:aK):5
 |mk (jh jp jl jm:9) (mk:6 cD) (mv:6 D):Bat B b i jh jp jl jm mk mv S->Bd B b i S
def Bat.fr{B:BD}{b i p v r t:9}{w:6 cD}{u:6 D}{S x:aK}(h:Bat B b i p v r t w u S)(f:Fr b S x):Bat B b i p v r t w u x where
 ins:=by rcases f.low i _ h.bi h.ins with e|⟨_,q,_⟩;calc e;ext q
 ho:=h.ho.fr f
 pr:=h.pr.fr f
 pl:=by rcases f.low r _ h.bl h.pl with e|⟨_,q,_⟩;calc e;ext q
 me:=by rcases f.low t _ h.bm h.me with e|⟨_,q,_⟩;calc e;ext q
 mm:=λs c=>by let(j,a,n,k):=h.mm s c;exact#[j,a,n,k.fr f]
 bi:=h.bi
 bh:=h.bh
 bp:=h.bp
 bl:=h.bl
 bm:=h.bm
 bs:=aH h.bs f.len
def Bd.fr{B:BD}{b i:9}{S x:aK}(h:Bd B b i S)(f:Fr b S x):Bd B b i x:=by let(p,v,r,t,w,u,h):=h;calc#[p,v,r,t,w,u,h.fr f]
def Bd.le{B:BD}{b i:9}{S:aK}(h:Bd B b i S):b≤-S:=by let(p,v,r,t,w,u,h):=h;calc h.bs
section
variable{B:BD}{b i p v r t:9}{w:6 cD}{u:6 D}{S:aK}{L:Lc}{o:EE}
def Bat.fld(h:Bat B b i p v r t w u S)(ho:o L S=Y (.ref i,S))(a:aT Att "Board" e=W)(f:gI e fields [.p^.l B.fams,.ref p,.ref v,.ref r,.ref t]=Y d):bL (aT Att) o e L S=Y (d,S):=by rw[bL,ho,aq];rwa[h.ins];rw[af a,f];rfl
end
def nu:aT Att "Board" "families"=W/\aT Att "Board" "homes"=W/\aT Att "Board" "pairs"=W/\aT Att "Board" "places"=W/\aT Att "Board" "members"=W:=by decide +kernel
def L5{a b c d e:D}:gI "families" fields [a,b,c,d,e]=Y a/\gI "homes" fields [a,b,c,d,e]=Y b/\gI "pairs" fields [a,b,c,d,e]=Y c/\gI "places" fields [a,b,c,d,e]=Y d/\gI "members" fields [a,b,c,d,e]=Y e:=by simp[fields,gI]
section
variable{B:BD}{b i p v r t:9}{w:6 cD}{u:6 D}{S:aK}(h:Bat B b i p v r t w u S){L:Lc}{o:EE}(ho:o L S=Y (.ref i,S))
include h ho
theorem Bat.families:bL (aT Att) o "families" L S=Y (.p^.l B.fams,S):=h.fld ho nu.1 L5.1
theorem Bat.homes:bL (aT Att) o "homes" L S=Y (.ref p,S):=h.fld ho nu.2.1 L5.2.1
theorem Bat.pairs:bL (aT Att) o "pairs" L S=Y (.ref v,S):=h.fld ho nu.2.2.1 L5.2.2.1
theorem Bat.places:bL (aT Att) o "places" L S=Y (.ref r,S):=h.fld ho nu.2.2.2.1 L5.2.2.2.1
theorem Bat.members:bL (aT Att) o "members" L S=Y (.ref t,S):=h.fld ho nu.2.2.2.2 L5.2.2.2.2
def Bat.meth(m:M "Board" e=Y g)(n:fields.contains e=Xk)(a:q L S=Y (l,S)):dY M o e q L S=g (.ref i::l) S:=by rw[dY,ho,aq];rwa[h.ins,m,n,a,aq];rfl
end
def kQ(h:-xs+-c≤1000000):ip (.u xs)^.u c=Y (.u<|xs++c):=by
 cases xs with
 |nil=>rfl
 |cons x r=>show(if (!(x::r).isEmpty && jG (-(x::r)+-c))=W then Y (P.u<|(x::r)++c) else Z)=_;rw[af (by rw[av,pH];calc#[0,h])]
def qz(k:9):cut xs Z^Y (k:8)=xs.take k:=by
 unfold cut;rw[HT.tR,HT.DS,oQ,wG];by_cases h:k≤(-xs)
 .rw [wH h]
 .rw [Cy (),oR,C0 ()]
def Jv(k:9):cut xs (Y (k:8)) Z=xs.drop k:=by
 unfold cut;rw[HT.tR,HT.DS];by_cases h:k≤(-xs)
 .rw [wH h,C0 ∅]
 .rw [Cy (),sm,List.drop_of_length_le ()];simp
theorem vO(k:9):cut xs (Y<|(k:8)+1) Z=xs.drop (k+1):=Jv<|k+1
variable{n:9}
def tT(hk:k < -xs)(l:-xs≤900000)(v:P):ba (Ph (n+2) "replaced") [.u xs,.int (k:8),v]=Y (.u^xs.set k v):=by let e:=kQ (xs:=xs.take k) (c:=[v]) (by simp;lia);let h:=kQ (xs:=xs.take k++[v]) (c:=xs.drop<|k+1) (by simp;lia);rw[xX,aL];simp[pL,qz,vO,e,-dS];rw[h];simp[List.set_eq_take_append_cons_drop,hk]
def MX(h:-xs≤900000):ba (Ph (n+2) "without") [.u xs,.int (k:8)]=Y (.u^xs.eraseIdx k):=by let e:=kQ (xs:=xs.take k) (c:=xs.drop<|k+1) (by simp;lia);rw[zA,aL];simp[qZ,qz,vO,e,List.eraseIdx_eq_take_drop_succ]
def IP(l:P):5:=X0 λm i=>aJ m=W/\i.natAbs≤999/\l=.u [.str m,.int i]
def IP.ok(h:IP e):cX 1 e=W:=by let(m,i,x,_,0):=h;simp[x]
def yt(A:P->5)(s:6 P):5:=-s≤1/\∀l ∈ s,IP l/\A l
def SQ(w:Str)(xs:6 P)(k:9):6 P:=if w="lose" then xs.eraseIdx k else xs.take (k+1)++xs.drop k
def SR{n:9}{w:Str}(hw:w="lose"\/w="double"){A:P->5}{xs:6 P}{k:9}(x:yt A xs)(a:w="double"->-xs≤0)(hk:k < -xs):yt A^SQ w xs k/\ba (Ph (n+3) "flawed") [.str w,.u xs,.int (k:8)]=Y (.u^SQ w xs k):=by
 have:=x.1;unfold SQ;rcases hw with rfl|rfl
 .calc#[#[aH (C2 ..) this,λl h=>x.2 l^C3 h],?_];let e:=MX (n:=n) (xs:=xs) (k:=k) ();rw[Bi,aL];simp[uB,e]
 .let s:=a rfl;lia
def Mi(w:Str)(r:P)(xs:6 P):15:=match r with
 | .u [_,_,_,.int c,.d d,.d h]=>if w="lose" then d else h && decide ((-xs:8) < c)
 |_=>Xk
def SA{n:9}{w:Str}(hw:w="lose"\/w="double"){r:P}(p:isRoad r)(xs:6 P):(w="double"->Mi w r xs=W->-xs≤0)/\ba (Ph (n+2) "has_flaw") [r,.str w,.u xs]=Y (.d^Mi w r xs):=by
 let(a,b,kd,c,x,d,q,v,t,f,m,0):=p;have e:L2.atI [P.str a,.str b,.str kd,.int c,.d x,.d d] 3=Y^.int c:=ca #[] rfl;have s:L2.atI [P.str a,.str b,.str kd,.int c,.d x,.d d] 4=Y^.d x:=ca #[] rfl;have k:L2.atI [P.str a,.str b,.str kd,.int c,.d x,.d d] 05=Y^.d d:=ca #[] rfl;unfold Mi;rcases hw with rfl|rfl
 .refine#[λh=>?_,?_]
  .have:¬("lose":Str)="double":=by decide +kernel
   exact absurd h this
  .rw [pC,aL];simp[lS,s]
 .dsimp only;rw[ag (by decide +kernel)];refine#[λz h=>?_,?_]
  .have:=(av _ _ ▸ h).2;have:=aS this
   lia
  .rw [pC,aL];ext d<;>simp[lS,e,k,dj,dP]
def uh(h:∀y ∈ xs,cX 19 y=W)(x:s ∈ xs):∃i:9,i < -xs/\n7 xs s=Y i:=by
 unfold n7;have a:(xs.all^cX 19 && cX 19 s)=W:=by rw[av];exact#[bc.mpr h,h s x]
 rw[af a];have m:pd s ∈ gM xs:=by
  clear a h;induction xs with
  |nil=>ext x
  |cons y r n=>
   rcases a8.mp x with rfl|x
   .exact aA
   .exact aC _^n x
 have e:bH (pd s)^pd s=W:=wB _ (fA 20 s^g6 (h s x) ()).1;cases q:(gM xs).findIdx? λz=>bH z^pd s with
 |none=>have:=List.findIdx?_eq_none_iff.mp q (pd s) m;rw[e]at this;ext this
 |some i=>
  calc#[i,?_,0];have:=(C6.mp q).1
  (rw [xE]at this;assumption)
def Su(n:9)(y:P):5:=∃i:9,i < n/\y=.int (i:8)
def Ng(n:9):intsFrom 0 n=bX^List.range n:=by unfold Ev.intsFrom bX;rwa[db]
def Fd(k:Str)(xs:6 P):6 9:=(List.range (-xs)).filter λi=>decide (k="row") ||decide (n7 xs^xs[i]?.getD .n=Y i)
def MY(k:Str)(m:yt A xs):ba (Ph (n+2) "unlike_spots") [.str k,.u xs]=Y (.l^bX^Fd k xs):=by
 let l:=m.1;have c:-xs < 1000000:=by lia
 have s:-xs≤1000000:=by lia
 by_cases hk:k="row"
 .have e:Fd k xs=List.range (-xs):=by unfold Fd;rw[oU.mpr λx x=>by simp[hk]]
  rw[e,<- Ng,kO,aL];simp[iA,hk,dj,dP,c]
 .have e:bG (am 3) (cq (O^AC ij^aj ij ik) E9) ik (intsFrom 0 (-xs)) [qs k,qt xs,ql^intsFrom 0 (-xs),Z] []=Y (bX^Fd k xs,[]):=by
   rw[cI (p:=λv=>match v with | .int z=>decide (n7 xs^xs[z.toNat]?.getD .n=Y z.toNat)|_=>Xk) (f:=id) (Inv:=λL=>∃d,L=[qs k,qt xs,ql^intsFrom 0 (-xs),d]) (λv t L r=>?_) #[Z,0],gS]
   .rw [Ng];unfold bX Fd;rw[sk];congr 3;calc CL λi x=>?_;simp[hk]
   let(d,0):=r;let(i,0,a):=jc t;rwa[db];have g:xs[i]? = Y xs[i]:=bt a;let b:=bD g;let(j,o,h):=uh (xs:=xs) (s:=xs[i]) (λy w=>g6 (m.2 y w).1.ok ())^gW _;calc#[[qs k,qt xs,ql^intsFrom 0 (-xs),qi (i:8)],0,#[_,0],?_,λx=>by simp];by_cases q:j=i
   .rw [q]at h;simp[b,h,g]
   .have u:¬(j:8)=(i:8):=by lia
    simp[b,h,g,q,u]
  rw[kO,aL];simp[iA,hk,dj,dP,c,s,bf,dq,mn,e]
def k9(N:6 P)(ks:6 cD)(vs:6 P):5:=∀x:Str,P.str x ∈ N->∃i:8,i.natAbs≤999/\cC (.inr x) ks vs=Y^.int i
section
variable{N:6 P}{ks:6 cD}{vs:6 P}
def fL(k:8):ba (Ph (n+2) "value_of") [nT k,.E ks vs]=Y^.int k:=by rw[g9,aL];simp[fC]
def gX{i:8}(h:cC (.inr e) ks vs=Y^.int i):ba (Ph (n+2) "value_of") [nU^.str e,.E ks vs]=Y^.int i:=by rw[g9,aL];simp[fC,h]
def xh{n:9}{a b:P}{i j:8}(h:ba (Ph (n+2) "value_of") [a,.E ks vs]=Y^.int i)(x:ba (Ph (n+2) "value_of") [b,.E ks vs]=Y^.int j):ba (Ph (n+3) "value_of") [.u [.str "plus",a,b],.E ks vs]=Y (.int<|i+j):=by rw[g9,aL];simp[fC,h,x]
def kc{n:9}{a b:P}{i j:8}(h:ba (Ph (n+2) "value_of") [a,.E ks vs]=Y^.int i)(x:ba (Ph (n+2) "value_of") [b,.E ks vs]=Y^.int j):ba (Ph (n+3) "value_of") [.u [.str "minus",a,b],.E ks vs]=Y (.int<|i-j):=by rw[g9,aL];simp[fC,h,x]
def sM{n:9}{a b:P}{i j:8}(m:g8 i j=W)(h:ba (Ph (n+2) "value_of") [a,.E ks vs]=Y^.int i)(x:ba (Ph (n+2) "value_of") [b,.E ks vs]=Y^.int j):ba (Ph (n+3) "value_of") [.u [.str "times",a,b],.E ks vs]=Y (.int<|i * j):=by rw[g9,aL];simp[fC,h,x,m]
def tB(s:∀x ∈ N,mD x)(f:k9 N ks vs){t:P}(h:uc N t){n:9}:∃r:8,ba (Ph (n+4) "value_of") [t,.E ks vs]=Y^.int r:=by
 rcases h with ⟨k,rfl⟩|⟨y,a,h⟩
 .exact#[k,fL k]
 let(x,_,0):=s y a;let(i,m,e):=f x a;rcases h with rfl|⟨k,rfl⟩|⟨k,j,b,c,rfl⟩|rfl
 .exact#[i,gX e]
 .exact#[_,xh (gX e)^fL k]
 .exact#[_,kc (sM (b7 (i:=i) (j:=k) () ()) (gX e)^fL k)^fL j]
 .calc#[_,kc (fL 1)^gX e]
def Fa{K:6 cD}{V:6 P}(f:∀x ∈ N,mD x)(c:k9 N ks vs)(b:∀x:Str,P.str x ∈ N->cC (.inr x) K V=cC (.inr x) ks vs){t:P}(h:uc N t):∃r:8,(∀n,ba (Ph (n+4) "value_of") [t,.E ks vs]=Y^.int r)/\∀n,ba (Ph (n+4) "value_of") [t,.E K V]=Y^.int r:=by
 rcases h with ⟨k,rfl⟩|⟨y,s,h⟩
 .exact#[k,λn=>fL k,λn=>fL k]
 let(x,_,0):=f y s;let(i,v,a):=c x s;let e:=(b x s).trans a;rcases h with rfl|⟨k,rfl⟩|⟨k,j,p,q,rfl⟩|rfl
 .exact#[i,λn=>gX a,λn=>gX e]
 .exact#[_,λn=>xh (gX a)^fL k,λn=>xh (gX e)^fL k]
 .let m:=b7 (i:=i) (j:=k) () ();exact#[_,λn=>kc (sM m (gX a)^fL k)^fL j,λn=>kc (sM m (gX e)^fL k)^fL j]
 .calc#[_,λn=>kc (fL 1)^gX a,λn=>kc (fL 1)^gX e]
def Nq(w:Str)(i j:8):∃b,∀h,ba (np 3 3<|dg h) [.str w,.int i,.int j]=Y^.d b:=by
 by_cases x:w="="
 .exact#[decide<|i=j,λh=>by rw[aL];simp[dg,x]]
 by_cases a:w="!="
 .exact#[!decide (i=j),λh=>by rw[aL];simp[dg,x,eq_true a]]
 by_cases e:w="<"
 .exact#[decide<|i < j,λh=>by rw[aL];simp[dg,x,a,eq_true e]]
 by_cases s:w="<="
 .exact#[decide<|i≤j,λh=>by rw[aL];simp[dg,x,a,e,eq_true s]]
 by_cases n:w=">"
 .exact#[decide<|j < i,λh=>by rw[aL];simp[dg,x,a,e,s,eq_true n]]
 calc#[decide<|j≤i,λh=>by rw[aL];simp[dg,x,a,e,s,n]]
def P'(w:Str)(i j:8):∃b,ba (Ph (n+2) "compared") [.str w,.int i,.int j]=Y^.d b:=by let(b,e):=Nq w i j;calc#[b,by rw[pD];calc e _]
def xS:ba (Ph (n+2) "holds") [.u [.str "true"],.E ks vs]=Y^.d W:=by rw[jJ,aL];simp[iI]
def SG{n:9}(w:Str){a b:P}{i j:8}(h:ba (Ph (n+05) "value_of") [a,.E ks vs]=Y^.int i)(x:ba (Ph (n+05) "value_of") [b,.E ks vs]=Y^.int j):∃r,ba (Ph (n+06) "holds") [.u [.str "is",.str w,a,b],.E ks vs]=Y^.d r:=by let(r,e):=P' (n:=n+3) w i j;calc#[r,?_];rw[jJ,aL];simp[iI,h,x,e]
def I_(h:ba (Ph (n+2) "holds") [e,.E ks vs]=Y^.d s):ba (Ph (n+3) "holds") [.u [.str "not",e],.E ks vs]=Y (.d !s):=by rw[jJ,aL];simp[iI,h]
def Nh{n:9}{a b:P}{r s:15}(h:ba (Ph (n+2) "holds") [a,.E ks vs]=Y^.d r)(x:ba (Ph (n+2) "holds") [b,.E ks vs]=Y^.d s):ba (Ph (n+3) "holds") [.u [.str "and",a,b],.E ks vs]=Y (.d<|r && s):=by rw[jJ,aL];ext r<;>simp[iI,h,x]
def SF{n:9}{a b:P}{r s:15}(h:ba (Ph (n+2) "holds") [a,.E ks vs]=Y^.d r)(x:ba (Ph (n+2) "holds") [b,.E ks vs]=Y^.d s):ba (Ph (n+3) "holds") [.u [.str "or",a,b],.E ks vs]=Y^.d (r ||s):=by rw[jJ,aL];ext r<;>simp[iI,h,x]
def IY(k:∀x ∈ N,mD x)(f:k9 N ks vs){t:P}(h:n6 N t){n:9}:∃r,ba (Ph (n+09) "holds") [t,.E ks vs]=Y^.d r:=by
 have l:∀{t:P},m_ N t->∀{n:9},∃r,ba (Ph (n+06) "holds") [t,.E ks vs]=Y^.d r:=λ{t} h {n}=>by let(w,y,s,b,v,_,0):=h;let(x,_,0):=k y b;let(i,_,a):=f x b;let(j,q):=tB k f v (n:=n+1);exact SG w (gX a) q
 rcases h with rfl|h|⟨p,h,rfl⟩|⟨p,z,h,c,rfl⟩
 .exact#[_,xS]
 .exact l h
 .rcases h with h|rfl
  .let(r,e):=l h (n:=n+2);exact#[_,I_ e]
  .exact#[_,I_ xS]
 .let(r,e):=l h (n:=n+2);let(x,_,0):=k z c;let(i,_,a):=f x c;let(s,m):=SG (n:=n+1) (ks:=ks) (vs:=vs) "=" (fL 1)^gX a;calc#[_,SF e^Nh (xS) m]
end
def cx(a:6 P):6 cD:=a.map λc=>.inr^br c
def Sv(c:P):5:=∃i:8,i.natAbs≤999/\c=.int i
def Wq(a f:6 P):5:=∀(i:9) c v,a[i]? = Y c->f[i]? = Y v->v ∈ rg c
def CellsOk(a f:6 P):5:=-f=-a/\(∀c ∈ f,Sv c)/\Wq a f
variable{a:6 P}
def kf(h:uJ a):(cx a).Nodup:=by
 unfold cx;refine w4.mpr λi j e s k q=>?_
 rw[aU]at e s;rw[sr,sr]at q;let(_,o,h):=h;let x:=h i _^bt e;let n:=h j _^bt s;rw[jz q,n]at x;simp at x;lia
def A3(a:6 P):d8^pc a=Y^cx a:=by
 unfold pc cx;induction a with
 |nil=>rfl
 |cons c r i=>simp[d8,dh,i]
theorem Ef:∀{a f:6 P},(-f=-a/\∀c ∈ f,Sv c)->k9 (pc a) (cx a) f
 | [],_,_=>λx h=>by ext h
 |c::r,[],h=>by have:=h.1;simp at this
 |c::r,d::s,h=>λx p=>by
  let(i,m,0):=h.2 d aA;show ∃i:8,_/\(if (Sum.inr^br c:cD)=.inr x then Y _ else cC (.inr x) (cx r) s)=_;by_cases e:br c=x
  .exact#[i,m,by rw[af (by rw[e])]]
  .have n:P.str x ∈ pc r:=by
    rcases a8.mp p with q|q
    .exact absurd (P.str.inj q).symm e
    .exact q
   let(j,t,k):=Ef (a:=r) (f:=s) #[by have:=h.1;simpa using this,λc b=>h.2 c^aC _ b] x n;calc#[j,t,by rw[ag λq=>e^jz q];calc k]
variable{f:6 P}
theorem sO(h:CellsOk a f):k9 (pc a) (cx a) f:=Ef #[h.1,h.2.1]
def DK(h:Fam m H y s a z e)(c:CellsOk a f)(S:aK) :
  Ph (n+2) "values_of" [.p^.u [.str H,.int (y:8),.l s,.l a,.l z,.l e],.p^.u f] S=Y (.ref (-S),S++[.E (cx a)^f.map .p]):=by
 let r:=h.cl;have q:-a≤1000000:=by lia
 have x:-(pc a)≤1000000:=by simp[pc];lia
 let b:=qD h.hce.1 [qt [.str H,.int (y:8),.l s,.l a,.l z,.l e],qt f,Z] 2 ∅ S;let hk:=kf h.hce;have k:-(cx a)=-f:=by rw[c.1];simp[cx]
 have l:-(cx a)≤-f:=sf k;have t:f.take (-(cx a))=f:=by rw[k,oR]
 rw[uT];simp[np,nH,Nv,bf,q,mn,b,A3,hk,x,l,t,wN];first|done|(rw[<- wN,t])
def vg(x:Fam m H y s a z e)(h:CellsOk a f) :
  ba (Ph (n+2) "values_of") [.u [.str H,.int (y:8),.l s,.l a,.l z,.l e],.u f]=Y^.E (cx a) f:=by
 unfold ba;rw[aI,aI,d7,DK (n:=n) x h []];have:uP (toP 08) (f.map .p) [SO.E (cx a)^f.map .p]=Y (f,[SO.E (cx a)^f.map .p]):=m7 ..;simp[toP,this]
end My
namespace My
open PySem L2 Ev
def tN(h:f L S=Y (.rt d,x,a)):ah f g L S=Y (.rt d,x,a):=by rw[ah,h]
def Fm(h:yt A l):pJ l=Y^.l l:=by let x:=h.1;unfold pJ;rw[af ()]
def eF:i ∈ aZ N s↔N[i]? = Y s:=by
 unfold aZ;rw[f8];constructor
 .exact λh=>aS h.2
 .calc λh=>#[iO.mpr^bW h,fx h]
variable{B:BD}
def qI(h:x ∈ B.PR):∃r ∈ B.roads,X0 λ(a b:9)=>x=pr r a b:=by unfold BD.PR bM at h;let(r,e,h):=cB.mp h;unfold xA at h;let(a,_,h):=cB.mp h;let(b,_,0):=bg.mp h;calc#[r,e,a,b,0]
def Tw{B:BD}{r:P}{a b:9}(s:r ∈ B.roads)(x:B.N[a]? = Y^rA r)(e:B.N[b]? = Y^rB r)(h:a≠b):pr r a b ∈ B.PR:=by unfold BD.PR bM;calc cB.mpr #[r,s,?_];unfold xA;calc cB.mpr #[a,eF.mpr x,bg.mpr #[b,?_,0]];rw[f8];calc#[eF.mpr e,by exists h]
structure Places(B:BD):5 where
 get:∀(r:P)(a b:9),pr r a b ∈ B.PR->∃d,c9 [.inl (a:8),.inl (b:8)] B.ks B.vs=Y d
 ok:∀(x y:8)(d:D),c9 [.inl x,.inl y] B.ks B.vs=Y d->X2 λ(k:9)(r:P)(a b:9)=>r ∈ B.roads/\d=.p^.int (k:8)/\B.PR[k]? = Y^pr r a b/\x=(a:8)/\y=(b:8)
def Pk(f:P):6 P:=(re^gH f 05).flatMap λst=>(re^gH st 05).flatMap λs=>(je^re^gH f 3).map λc=>.u [gH s 0,(ba (Ph 06 "value_of") [gH s 1,.E (cx^re^gH f 3) c]).getD .n]
def LH(B:BD)(hd:9)(l:P):5:=∃f,(a_ B.fams)[hd]? = Y f/\l ∈ Pk f
def LA(B:BD)(k:9)(l:P):5:=X1 λr a b=>B.PR[k]? = Y^pr r a b/\LH B a l
def ce(B:BD)(rds:6 P):5:=-rds=-B.PR/\∀(k:9) r,rds[k]? = Y r->∃ls,yt (LA B k) ls/\r=.u ls
def ce.at{B:BD}{r:6 P}(h:ce B r){k:9}{x:P}(hk:B.PR[k]? = Y x):k < -r/\∃l,yt (LA B k) l/\r[k]? = Y^.u l:=by
 have a:k < -r:=by rw[h.1];exact bW hk
 let(l,e,s):=h.2 k r[k]^bt a;calc#[a,l,e,by rw[bt a,s]]
def ce.set(h:ce B d)(k:9)(a:yt (LA B k) l):ce B (d.set k^.u l):=by
 calc#[by rw[de];calc h.1,λj r x=>?_];by_cases q:k=j
 .subst q;have hk:k < -d:=by have:=bW x;(rw [de]at this;assumption)
  rw[bY hk]at x;ext x;exact#[l,a,0]
 .rw [aV q]at x;calc h.2 j r x
def uE(h:BP B):-B.PR≤2048:=by
 have N:-B.N≤016:=aH (lH h) #[];have k:∀s:6 P,-(bM B.N s)≤256 * (-s):=by
  intro s;induction s with
  |nil=>simp[bM]
  |cons r s i=>have:=qe B.N r N;rw[bM B.N (r::s)=xA B.N r++bM B.N s|>by simp[bM],bo,aP];lia
 have:=k B.roads;have:=h.rl
 unfold BD.PR;lia
def Si(h:Str->GF):mT Tb h "Board" "family_of"=Y^h "Board.family_of":=by kernel_rfl
def V8(h:Str->GF):mT Tb h "Board" "hands_beside"=Y^h "Board.hands_beside":=by kernel_rfl
def SM:fields.contains "family_of"=Xk:=by decide +kernel
def We:fields.contains "hands_beside"=Xk:=by decide +kernel
def qu{a:6 P}{h:9}{f:P}(s:(a_ a)[h]? = Y f):∃p:9,(homes a)[h]? = Y^.int (p:8)/\a[p]? = Y f:=by
 unfold a_ at s;unfold homes;rw[cm]at s ⊢;cases e:(hw 0 a)[h]? with
 |none=>rw[e]at s;ext s
 |some x=>rw[e]at s;ext s;let(j,n,k):=qm^bq e;calc#[x.1,0,by rw[n,gN];calc k]
def xT{n:9}{B:BD}{b i:9}{S:aK}(h:Bd B b i S){k:9}{f:P}(c:(a_ B.fams)[k]? = Y f):Ph (n+2) "Board.family_of" [.ref i,.p^.int (k:8)] S=Y (.p f,S):=by let(j,r,l,m,mk,v,h):=h;let(p,e,x):=qu c;have a:nc (bL (aT Att) im "homes") ij [qr i,qi (k:8)] S=Y (.p^.int (p:8),S):=h.ho.ix (h.homes rfl) rfl^bD e;have s:bL (aT Att) im "families" [qr i,qi (k:8)] S=Y (.p^.l B.fams,S):=h.families rfl;rw[jx];show b8^aD _ [qr i,qi (k:8)] S=_;rw[aD,nc,s,aq,vE,a];simp[bD x]
def JH{n:9}{B:BD}(P:BP B){b i:9}{S:aK}(h:Bd B b i S)(k:9){s:Str}(g:s ∈ B.N):∃a,Ph (n+2) "Board.hands_beside" [.ref i,.p^.int (k:8),.p^.str s] S=Y (.p^.l^bX^oth B.N s k,a)/\Fr b S a:=by
 let(K,E,A,C,mk,G,h):=h;let(j,u,m,e):=h.mm s g;calc#[_,?_,Fr.frz u e];have r:nc (bL (aT Att) im "members") jg [qr i,qi (k:8),qs s] S=Y (.ref j,S):=by rw[nc,h.members rfl];simp[h.me,dh,m]
 have l:-(bX^aZ B.N s)≤1000000:=by have:=dE B.N s;have:-B.N≤4:=lH P;simp[bX];lia
 have t:bG (am 3) (lW E9 lz) ik (bX^aZ B.N s) [qr i,qi (k:8),qs s,Z] (S.set j^.fz^.l^bX^aZ B.N s)=Y (bX^oth B.N s k,S.set j^.fz^.l^bX^aZ B.N s):=by
  rw[cI (p:=λv=>match v with | .int x=>!decide (k=x.toNat)|_=>Xk) (f:=id) (Inv:=λL=>∃d,L=[qr i,qi (k:8),qs s,d]) (λv c L w=>?_) #[Z,0]]
  .congr 2;unfold bX oth;rw[sk,gS];rfl
  .let(d,0):=w;unfold bX at c;let(o,F,0):=bg.mp c;calc#[[qr i,qi (k:8),qs s,qi (o:8)],0,#[_,0],?_,λX=>by simp];by_cases q:k=o
   .simp [q]
   .have y:¬(o:8)=(k:8):=by lia
    have H:¬o=k:=λz=>q z.symm;simp[q,y,H]
 rw[lI];show b8^aD _ [qr i,qi (k:8),qs s] S=_;rwa[ie,aD,O,bf,d4,vE,r,aq,e.frz];rw[af (by rw[kB];calc l)];rw[mn [] 1 [Y^D.ref i,qi (k:8),qs s]=[qr i,qi (k:8),qs s,Z]|>rfl,t];rfl
theorem na[DecidableEq r](x:r)(y:D):∀(s:6 r)(a:6 D),s.Nodup->-s=-a->(d5 x y s a).1.Nodup/\(d5 x y s a).1.length=(d5 x y s a).2.length/\(d5 x y s a).1.length≤-s+1/\(∀k ∈ (d5 x y s a).1,k=x\/k ∈ s)/\∀k,c9 k (d5 x y s a).1 (d5 x y s a).2=if x=k then Y y else c9 k s a
 | [],[],_,_=>#[by simp[d5],0,by simp[d5],λk h=>.inl (by simpa[d5] using h),λk=>by by_cases q:x=k<;>simp[d5,c9,q]]
 | [],_::_,_,h=>by simp at h
 |_::_,[],_,h=>by simp at h
 |n::s,v::a,b,l=>by
  let(hk,b):=du.mp b;by_cases q:n=x
  .have e:d5 x y (n::s) (v::a)=(n::s,y::a):=by simp[d5,q]
   rw[e];calc#[du.mpr #[hk,b],by simpa using l,∅,λk h=>.inr h,λk=>?_];subst q;by_cases f:n=k<;>simp[c9,f]
  .let(t,p,w,c,d):=na x y s a b (by exists l);have e:d5 x y (n::s) (v::a)=(n::(d5 x y s a).1,v::(d5 x y s a).2):=by simp[d5,q]
   rw[e];refine#[du.mpr #[λz=>?_,t],by simp[p],by simp;lia,λk h=>?_,λk=>?_]
   .rcases c n z with z|z
    .exact q z
    .exact hk z
   .rcases a8.mp h with rfl|h
    .exact .inr aA
    .rcases c k h with h|h
     .exact .inl h
     .exact .inr^aC _ h
   .show (if n=k then Y v else c9 k (d5 x y s a).1 (d5 x y s a).2)=_;by_cases f:n=k
    .subst f;have:¬x=n:=λz=>q z.symm
     simp[c9,this]
    .rw [ag f,d];by_cases m:x=k
     .simp [m]
     .simp [m,c9,f]
def ph(p:P):6 cD:=[.inl^iv^gH p 1,.inl^iv^gH p 2]
noncomputable abbrev KV:=6^6 cD×6 D
def putAll:9->6 P->KV->KV
 |_,[],s=>s
 |k,p::r,s=>putAll (k+1) r^d5 (ph p) (.p^.int (k:8)) s.1 s.2
structure KVok(s:KV):5 where
 nd:s.1.Nodup
 ln:-s.1=-s.2
def KVok.put(h:KVok s)(k:6 cD)(y:D):KVok^d5 k y s.1 s.2:=by let(x,a,_):=na k y s.1 s.2 h.nd h.ln;exact#[x,a]
set_option tactic.hygienic true in
theorem M9:∀(x:6 P)(k:9)(s:KV),KVok s->∀y d,c9 y (putAll k x s).1 (putAll k x s).2=Y d->c9 y s.1 s.2=Y d\/X0 λ(j:9)(p:P)=>x[j]? = Y p/\d=.p^.int ((k+j:9):8)/\ph p=y
 | [],k,s,h,y,d,e=>.inl e
 |p::r,k,s,h,y,d,e=>by
  rcases M9 r (k+1) _ (h.put (ph p)^.p^.int (k:8)) y d e with e|⟨j,b,a,n,f⟩
  .rw [(na (ph p) (.p^.int (k:8)) s.1 s.2 h.nd h.ln).2.2.2.2]at e;split at e
   .rename_i hk;ext e;exact .inr #[(0),p,0,0,hk]
   .exact .inl e
  .calc .inr #[j+1,b,by simpa using a,by rw[n,k+1+j=k+(j+1)|>by lia],f]
theorem Ib:∀(x:6 P)(k:9)(s:KV),KVok s->∀y,((∃d,c9 y s.1 s.2=Y d)\/∃p ∈ x,ph p=y)->∃d,c9 y (putAll k x s).1 (putAll k x s).2=Y d
 | [],k,s,h,y,q=>by
  rcases q with q|⟨_,z,_⟩
  .exact q
  .ext z
 |p::r,k,s,h,y,q=>by
  calc Ib r (k+1) _ (h.put (ph p)^.p^.int (k:8)) y ?_;let e:=(na (ph p) (.p^.int (k:8)) s.1 s.2 h.nd h.ln).2.2.2.2 y;by_cases w:ph p=y
  .exact .inl #[_,by rw[e,af w]]
  .rcases q with ⟨d,q⟩|⟨a,z,q⟩
   .exact .inl #[d,by rw[e,ag w];calc q]
   .rcases a8.mp z with rfl|z
    .exact absurd q w
    .calc .inr #[a,z,q]
def pf(f r w:6 P):BD:=#[f,r,w,(putAll 0 (bM (aM f) r) ([],[])).1,(putAll 0 (bM (aM f) r) ([],[])).2]
theorem Vw:KVok ([],[]):=#[∅,0]
theorem jI(f o w:6 P):Places^pf f o w where
 get:=λr a b h=>Ib _ 0 _ Vw _ (.inr #[_,h,0])
 ok:=λx y d h=>by
  rcases M9 _ 0 _ Vw _ d h with e|⟨j,p,n,k,s⟩
  .ext e
  .let(r,c,a,b,0):=qI (B:=pf f o w)^bq n;calc#[j,r,a,b,c,by rw[k,gN],n,by simp[ph,pr]at s;calc#[s.1.symm,s.2.symm]]
theorem Nt{K:Str->GF}(l:P)(a b c:D){i j:9}(m:i≠j):∀(t:6 P)(k:9)(s:KV),KVok s->-s.1+-t≤900000->(∀p ∈ t,X1 λr x y=>p=.u [r,.int x,.int y])->∀(w u:7 D)(S:aK),S[i]? = Y^.B "Board" ["families","homes","pairs","places"] [a,b,c,.ref j]->S[j]? = Y^.q s.1 s.2->X0 λn f=>
  bv (bu [am 2,am 3]) (ib K) (cy (k:8) t) [qr i,qp l,w,u,Z] S=Y (.nx,[qr i,qp l,n,f,Z],S.set j^.q (putAll k t s).1 (putAll k t s).2)
 | [],k,s,_,_,_,w,u,S,_,v=>#[w,u,by show Y (Fl.nx,_,S)=Y (.nx,_,S.set j^.q s.1 s.2);let(h,e):=bP.mp v;rw[<- e,iV]]
 |p::r,k,s,h,A,F,w,u,S,H,v=>by
  rwa[aP]at A;let(d,x,y,0):=F p aA;let B:=(na (ph^.u [d,.int x,.int y]) (.p^.int (k:8)) s.1 s.2 h.nd h.ln).2.2.1;let(n,f,e):=Nt (K:=K) l a b c m r (k+1) _ (h.put (ph^.u [d,.int x,.int y])^.p^.int (k:8)) () (λp o=>F p^aC _ o) (qi (k:8)) (qt [d,.int x,.int y]) (S.set j^.q (d5 (ph^.u [d,.int x,.int y]) (.p^.int (k:8)) s.1 s.2).1 (d5 (ph^.u [d,.int x,.int y]) (.p^.int (k:8)) s.1 s.2).2) (by rw[aV (λq=>m q.symm)];calc H) (bY^bW v);calc#[n,f,?_];unfold cy putAll;rw[jK,cT]at e;calc(bx (h:=[qr i,qp l,qi (k:8),qt [d,.int x,.int y],Z]) rfl ?_).trans e;let z:=h.nd;have g:-s.1≤1000000:=by lia
  simp[ib,nu,gI,nV,d8,dh,z,g,ph,H,v]
structure GC(B:BD) where
 b:9
 i:9
 S0:aK
 r:9
 bd:Bd B b i S0
 hr:-S0≤r
theorem GC.le(G:GC B):G.b≤-G.S0:=G.bd.le
theorem n8{i:Type}{g:lc}{b:ES}{p:i->Lc->5}{Sp:i->aK->5}{r:i->9}{c M:9}{f:P->6 P}:∀{s:6 P},
  (∀x ∈ s,-(f x)≤c/\∀G L S a,p G L->Sp G S->S[r G]? = Y (.l^a.map .p)->-a+c≤M->X1 λm L2 n=>g x L=Y m/\b m S=Y (.nx,L2,n)/\p G L2/\Sp G n/\n[r G]? = Y (.l^(a++f x).map .p)) ->
  -(s.flatMap f)≤c * (-s)/\∀G L S a,p G L->Sp G S->S[r G]? = Y (.l^a.map .p)->-a+c * (-s)≤M->X0 λk e=>bv g b s L S=Y (.nx,k,e)/\p G k/\Sp G e/\e[r G]? = Y (.l^(a++s.flatMap f).map .p)
 | [],_=>#[∅,λG L S a t d h Z=>#[L,S,0,t,d,by rw[List.flatMap_nil,dQ];calc h]]
 |x::s,j=>by
  let(D,H):=j x aA;let(I,C):=n8 (s:=s) λy B=>j y^aC _ B;have A:c * (-(x::s))=c+c * (-s):=by rw[aP,Cw,wF]
  calc#[by rw[A,f_,bo];lia,λG L S a t d h E=>?_];let(m,L2,n,l,z,v,u,F):=H G L S a t d h ();let(k,e,o,q,w,K):=C G L2 n (a++f x) v u F (by rw[bo];lia);calc#[k,e,by rw[bx l z];calc o,q,w,by rw[f_,<- dS];calc K]
def eZ{t:Type}{g:lc}{b:ES}{p:t->Lc->5}{Sp:t->aK->5}{r:t->9}{R:P->6 P->5}{c M:9}{s:6 P}
  (h:∀x ∈ s,∃y:6 P,-y≤c/\R x y/\∀G L S a,p G L->Sp G S->S[r G]? = Y (.l^a.map .p)->-a+c≤M->X1 λv L2 k=>g x L=Y v/\b v S=Y (.nx,L2,k)/\p G L2/\Sp G k/\k[r G]? = Y (.l^(a++y).map .p)) :
  ∃f:P->6 P,-(s.flatMap f)≤c * (-s)/\(∀x ∈ s,R x^f x)/\∀G L S a,p G L->Sp G S->S[r G]? = Y (.l^a.map .p)->-a+c * (-s)≤M->X0 λq n=>bv g b s L S=Y (.nx,q,n)/\p G q/\Sp G n/\n[r G]? = Y (.l^(a++s.flatMap f).map .p):=by
 let f:P->6 P:=λx=>@dite _ (x ∈ s) (GR _) (λe=>Classical.choose^h x e) λz=>[]
 have d:∀x e,f x=Classical.choose^h x e:=λx e=>dif_pos e;let m:=λx e=>tu^h x e;let(w,u):=n8 (f:=f) λx e=>by rw[d x e];exact#[(m x e).1,(m x e).2.2]
 calc#[f,w,λx e=>by rw[d x e];calc(m x e).2.1,u]
theorem EU(N:LS)(s:Str):(aZ N s).Pairwise (·≠·):=(List.nodup_range (n:=-N)).filter _
def gB{S:aK}{r:9}{o x:SO}(h:S[r]? = Y o):(S.set r x)[r]? = Y x:=by rw[bY^bW h]
def pj{r:EE}{a:EV}{L:Lc}{S x:aK}{k:9}{c y:6 P}(n:r L S=Y (.ref k,S))(h:S[k]? = Y (.l^c.map .p))(s:a L S=Y (.l y,x))(e:x[k]? = Y (.l^c.map .p))(l:-c+-y≤1000000):cE (hV r a) L S=Y (.nx,L,x.set k^.l^(c++y).map .p):=by rw[cE,hV,n,aq];rwa[gC,h,s,aq,e,aU];rw[af (by rw[pH];calc l),iQ];rfl
def kq{r a:EE}{L:Lc}{S x:aK}{k:9}{c:6 P}{y:P}(n:r L S=Y (.ref k,S))(h:S[k]? = Y (.l^c.map .p))(s:a L S=Y (.p y,x))(e:x[k]? = Y (.l^c.map .p))(l:-c≤1000000):cE (b0 r a) L S=Y (.nx,L,x.set k^.l^(c++[y]).map .p):=by rw[cE,b0,n,aq];rwa[gC,h,s,aq,e];rw[af (by rw[kB,aU];calc l),iQ];rfl
def zW{B:BD}(m:BP B){f:P}(n:f ∈ B.fams):br f ∈ B.N:=by
 have p:1≤dZ f:=by
  let(q,c,o,e,w,t,h,0):=m.hf f n;have:=h.hcr.1
  simp[dZ];lia
 have y:∀(a:6 P)(k:9),f ∈ a->∃x ∈ hw k a,x.2=f:=by
  intro a;induction a with
  |nil=>intro k h;ext h
  |cons g r i=>
   intro k h;rcases a8.mp h with rfl|h
   .exact#[(k,f),by unfold hw;calc j' _^oS.mpr #[(),0],0]
   .let(x,s,b):=i (k+1) h;exact#[x,by unfold hw;calc gc _ s,b]
 let(x,s,0):=y B.fams 0 n;unfold BD.N aM a_;calc bg.mpr #[x.2,bg.mpr #[x,s,0],0]
def TB{B:BD}{k:9}{f:P}(h:(a_ B.fams)[k]? = Y f):B.N[k]? = Y^br f:=by unfold BD.N aM;rw[cm,h];rfl
inductive LetOk(B:BD)(rds:6 P)(hd:9)(y:P):5
 |mk (s sp k:9) (ls:6 P):y=.u [.int (s:8),.int (sp:8)]->c9 [.inl (s:8),.inl (hd:8)] B.ks B.vs=qi (k:8)->k < -rds->rds[k]? = Y^.u ls->yt (LA B k) ls->sp < -ls->LetOk B rds hd y
def Oc{B:BD}(hP:BP B)(G:Places B){n:9}{e:6 P}(hr:ce B e){hd s:9}{d:D}(g:c9 [.inl (s:8),.inl (hd:8)] B.ks B.vs=Y d){w:Str}{u:6 P} :
  ∃ys:6 P,-ys≤3/\(∀y ∈ ys,LetOk B e hd y)/\∀(b i:9)(S:aK)(r:9)(t:6 P)(q6 Z0 K A:7 D),Bd B b i S->S[r]? = Y (.l^t.map .p)->-t+3≤1000000 ->
   X2 λX q7' q8' q9'=>gn (Ph<|n+2) [qr i,qt e,qi (hd:8),qt (.str w::u),qr r,qi (s:8),q6,Z0,K,A] S=Y (.nx,[qr i,qt e,qi (hd:8),qt (.str w::u),qr r,qi (s:8),X,q7',q8',q9'],S.set r^.l^(t++ys).map .p):=by
 let(k,road,a,b',N,0,hk,_,_):=G.ok _ _ _ g;let(M,l,q,j):=hr.at hk;let(ra,rb,kd,c,d1,d2,ha,hb,hkd,hc1,hc2,0):=hP.hr road N;let h3:=q.1;have f:∃f:6 P,-f≤-l/\(∀y ∈ f,Su l.length y)/\∀(L:Lc)(S:aK),L[07]? = Y^qs kd->L[08]? = Y^qt l->Qs (cq (U 07)^O^vt "row") (lC (Rj^dF^U 08) g7^fM eC) (dz (Ph (n+2) "unlike_spots")^v2 oZ xc) L S=Y (.l f,S):=by
  let eu:=MY (n:=n) kd q;have R:-(bX^Fd kd l)≤-l:=by unfold bX Fd;rw[aU];exact aH (iU ..) ∅
  have T:∀y ∈ bX^Fd kd l,Su l.length y:=λy F=>by let(i,I,0):=bg.mp F;exact#[i,iO.mp (f8.mp I).1,0]
  have hq:-l < 1000000:=by lia
  by_cases o:kd="row"
  .refine#[cut (intsFrom 0 (-l)) Z^Y 1,by have:=(sS (o:=intsFrom 0 (-l)) (lo:=Z) (i:=Y 1)).2;(rw [dq]at this;assumption),λy F=>?_,λL S C E=>?_]
   .let(i,0,I):=jc^sS.1 y F;exact#[i,I,∅]
   .simp [C,E,o,dj,dP,hq]
  .exact#[_,R,T,λL S C E=>by simp[C,E,o,eu]]
 let(f,hs1,H,es):=f;let p:P->15:=λv=>match v with | .int x=>decide (br^l.getD x.toNat .n=w)|_=>Xk
 refine#[(f.filter p).map λv=>.u [.int (s:8),v],by rw[aU];calc aH (iU ..) (),λy F=>?_,λb i S r t q6 Z0 K A hB hS hM=>?_]
 .let(v,V,0):=bg.mp F;let(x,Z1,0):=H v (f8.mp V).1;exact#[s,x,k,l,0,g,M,j,q,Z1]
 .let(jh,jp,jl,jm,mk,mv,h):=hB;have e2:bG (am 010) (cq (O^aj (aj xc p6) fR)^O^aj ik fR) (aQ^v2 sL p6) f [qr i,qt e,qi (hd:8),qt (.str w::u),qr r,qi (s:8),qi (k:8),qs kd,qt l,ql f,Z] S=Y ((f.filter p).map λv=>.u [.int (s:8),v],S):=
   cI (Inv:=λL=>∃d,L=[qr i,qt e,qi (hd:8),qt (.str w::u),qr r,qi (s:8),qi (k:8),qs kd,qt l,ql f,d]) (λv V L G=>by let(d,0):=G;let(x,Z1,0):=H v V;have g:l[x]? = Y l[x]:=bt Z1;let(m,z,_,_,hz):=(q.2 l[x]^gW _).1;rw[hz]at g;calc#[[qr i,qt e,qi (hd:8),qt (.str w::u),qr r,qi (s:8),qi (k:8),qs kd,qt l,ql f,qi (x:8)],0,#[_,0],?_,λW=>by simp];simp[bD g,p,g,br]) #[Z,0]
  calc#[qi (k:8),qs kd,qt l,ql f,?_];have Q:-f≤1000000:=by lia
  unfold gn;refine(ak (e:=[qr i,qt e,qi (hd:8),qt (.str w::u),qr r,qi (s:8),qi (k:8),Z0,K,A]) (c:=S) ?_).trans ?_
  .rw [az,zD,h.places rfl];simp[nV,h.pl,d8,dh,g]
  refine(ak (e:=[qr i,qt e,qi (hd:8),qt (.str w::u),qr r,qi (s:8),qi (k:8),qs kd,K,A]) (c:=S) ?_).trans ?_
  .rw [az,nc,nc,h.pr.ix (h.pairs rfl) (i:=(k:8)) rfl^bD hk];simp[pr]
  rw[ak (by simp[bD j];calc#[0,0])];refine(ak (e:=[qr i,qt e,qi (hd:8),qt (.str w::u),qr r,qi (s:8),qi (k:8),qs kd,qt l,ql f]) (c:=S) ?_).trans ?_
  .rw [az,O,es _ S rfl rfl];rfl
  calc pj rfl hS ?_ hS (by rw[aU];have:=iU p f;lia);rwa[bf,d4,vE];simp[Q,mn,e2]
def K3{B:BD}(H:BP B)(hL:Places B){n:9}{hd:9}{f:P}(hf:(a_ B.fams)[hd]? = Y f){k A:6 P}(hr:ce B k){Q:P}(ht:n5 (br f) B.roads A Q) :
  ∃v:6 P,-v≤012/\(∀y ∈ v,(Q=.n/\y=.n)\/(Q≠.n/\LetOk B k hd y))/\∀(b i:9)(S:aK),Bd B b i S->X0 λd j=>Ph (n+4) "takeable" [.ref i,.p^.u k,.p^.int (hd:8),.p Q] S=Y (d,j)/\Fr b S j/\rN S j d v:=by
 rcases ht with rfl|⟨m,a,t,w,_,_,_,_,⟨r,F,hrb,rfl⟩,_,rfl⟩
 .calc#[[.n],∅,λy K=>.inl #[0,by exists K],λb i S z=>#[.p^.l [.n],S,?_,Fr.refl _ _,.inl rfl]];rw[pu];simp[np,lP,uR,eY]
 .have u:rA r ∈ B.N:=by
   let((f',h1,X),_):=H.ra r F;rw[<- X];exact zW H h1
  let(f5,h1,X,h3):=eZ (t:=GC B) (g:=am 05) (b:=gn<|Ph<|n+3) (Sp:=λG S=>Fr G.b G.S0 S) (r:=λG=>G.r) (R:=λW v=>∀y ∈ v,LetOk B k hd y) (c:=3) (M:=1000) (s:=bX^oth B.N (rA r) hd)
   (p:=fun G L=>X3 fun q5 D E I N=>L=[qr G.i,qt k,qi (hd:8),qt [.str m,.str^rA r,.str t,.str w],qr G.r,q5,D,E,I,N]) (fun x C=>by
    unfold bX at C;let(s,u,0):=bg.mp C;unfold oth at u;rw[f8]at u;have hsd:s≠hd:=λq=>by have:=u.2;simp[q]at this
    let(d,hg):=hL.get r s hd^Tw F (eF.mp u.1) (by rw[TB hf,hrb]) hsd;let(v,k1,k2,k3):=Oc H hL (n:=n+1) hr hg (w:=m) (u:=[.str^rA r,.str t,.str w]);calc#[v,k1,k2,λG L S T hL' hS h hM=>?_];let(q5,D,E,I,N,0):=hL';let(q6',q7',q8',q9',e):=k3 G.b G.i S G.r T D E I N (G.bd.fr hS) h ();calc#[_,_,_,0,e,#[_,_,_,_,_,0],hS.set G.le G.hr _,gB h])
  have hol:-(bX^oth B.N (rA r) hd)≤4:=by
   have h4:-B.N≤4:=lH H;have:=dE B.N^rA r
   have:=iU (λo=>!decide (hd=o)) (aZ B.N^rA r);simp[bX,oth];lia
  refine#[(bX^oth B.N (rA r) hd).flatMap f5,(),λy K=>.inr #[λq=>(by ext q),by let(x,C,K):=cB.mp K;calc X x C y K],λb i S z=>?_]
  let p:=Fr.app b S [.l []];let(S1,e1,l):=JH (n:=n+1) H (z.fr p) hd u;let V:=p.trans l;let hb:=z.le;let(L',j,e2,(q5,D,E,I,N,0),Z1,hl):=h3 #[b,i,S,-S,z,ar _] [qr i,qt k,qi (hd:8),qt [.str m,.str^rA r,.str t,.str w],qr (-S),Z,Z,Z,Z,Z] S1 [] #[_,_,_,_,_,0] V (l.hi _ _ hb^dJ _ _) (by simp;lia);calc#[.ref (-S),j,?_,Z1,.inr #[-S,ar _,0,.inl hl]];rw[pu];let Z0:=z.fr p;let(jh,jp,jl,jm,mk,mv,hb2):=Z0;have em:dY (mT Tb<|Ph<|n+3) im "hands_beside" (Qr mj^O^aj ik eC) [qr i,qt k,qi (hd:8),qt [.str m,.str^rA r,.str t,.str w],qr (-S),Z,Z,Z,Z,Z] (S++[.l []])=Y (.p^.l^bX^oth B.N (rA r) hd,S1):=
   (hb2.meth rfl (V8 _) We (l:=[.p^.int (hd:8),.p^.str^rA r]) ∅).trans e1
  simp[np,lP,uR,eY,-dY,em,e2]
def isI(v:P):5:=∃j:8,v=.int j
def isI.ok(h:isI v)(n:9):cX n v=W:=by let(j,0):=h;simp
def OM{B:BD}(hP:BP B)(hL:Places B){n:9}{r:6 P}(N:ce B r)(hd:9)(t v:8){m:Str}(hm:aJ m=W)(hA:LH B hd^.u [.str m,.int v]) :
  ∃C:7^6 P,(∀g,C=Y g->ce B g)/\∀(b i:9)(S:aK)(s:P)(p e x:7 D),Bd B b i S->X1 λF K A=>
   i8 (Ph<|n+2) [qr i,qt r,qi (hd:8),qp s,qt [.str m,.int v],qi t,p,e,x] S=match C with
    |none=>Y (.rt^.p .n,[qr i,qt r,qi (hd:8),qp s,qt [.str m,.int v],qi t,F,K,A],S)
    |some g=>Y (.nx,[qr i,qt g,qi (hd:8),qp s,qt [.str m,.int v],qi t,F,K,A],S):=by
 cases I:c9 [.inl (hd:8),.inl t] B.ks B.vs with
 |none=>
  calc#[Z,λU q=>(by ext q),λb i S s p e x f=>#[qp .n,e,x,?_]];let(R,Z1,T,V,mk,X,h):=f;unfold i8;refine(ak (e:=[qr i,qt r,qi (hd:8),qp s,qt [.str m,.int v],qi t,qp .n,e,x]) (c:=S) ?_).trans^tN ?_
  .rw [az,vJ,h.places rfl];simp[nV,h.pl,d8,dh,I]
  .simp [uR,eY]
 |some d=>
  let(k,road,a,b',Q,0,hk,z,_):=hL.ok _ _ _ I;have z:hd=a:=by lia
  let(L,y,o,j):=N.at hk;let(ra,rb,kd,c,d1,d2,ha,hb,hkd,hc1,hc2,l):=hP.hr road Q;have E:L2.atI [P.str ra,.str rb,.str kd,.int c,.d d1,.d d2] 3=Y^.int c:=ca #[] rfl;have Z0:∀(b i:9)(S:aK)(s:P)(p e x:7 D),Bd B b i S->az 06 (vJ (bL (aT Att) im "places")^v2 jg sL) [qr i,qt r,qi (hd:8),qp s,qt [.str m,.int v],qi t,p,e,x] S=Y (.nx,[qr i,qt r,qi (hd:8),qp s,qt [.str m,.int v],qi t,qi (k:8),e,x],S):=λb i S s p e x f=>by let(R,Z1,T,V,mk,X,h):=f;rw[az,vJ,h.places rfl];simp[nV,h.pl,d8,dh,I]
  by_cases hv:v.natAbs≤999
  .have u:¬(999:8) < (if v < 0 then -↑v else v):=by split<;>lia
   by_cases G:c≤(-y:8)
   .calc#[Z,λU q=>(by ext q),λb i S s p e x f=>#[qi (k:8),qp road,x,?_]];refine(ak^Z0 b i S s p e x f).trans^(ak (e:=[qr i,qt r,qi (hd:8),qp s,qt [.str m,.int v],qi t,qi (k:8),e,x]) (c:=S) ?_).trans^(ak (e:=[qr i,qt r,qi (hd:8),qp s,qt [.str m,.int v],qi t,qi (k:8),qp road,x]) (c:=S) ?_).trans^tN ?_
    .simp [uR,eY,qY,u]
    .let(R,Z1,T,V,mk,X,h):=f;rw[az,nc,h.pr.ix (h.pairs rfl) (i:=(k:8)) rfl^bD hk];simp[pr]
    .simp [l,bD j,dj,dP,E,G]
   .have M:-(y++[P.u [.str m,.int v]])≤1:=by rw[bo,sC];lia
    have H:yt (LA B k) (y++[P.u [.str m,.int v]]):=#[M,fZ o.2 #[#[m,v,hm,hv,0],road,a,b',hk,z ▸ hA]];let ea:=kQ (xs:=y) (c:=[P.u [.str m,.int v]]) (by have:=o.1;simp;lia);let ez:=Fm H;let hpl:=uE hP;let hrl:=N.1;let er:=λ(w:P)=>tT (n:=n) (xs:=r) (k:=k) L () w;calc#[Y<|r.set k<|.u<|y++[P.u [.str m,.int v]],λU q=>by ext q;calc N.set k H,λb i S s p e x f=>#[qi (k:8),qp road,qt<|y++[P.u [.str m,.int v]],?_]];refine(ak^Z0 b i S s p e x f).trans^(ak (e:=[qr i,qt r,qi (hd:8),qp s,qt [.str m,.int v],qi t,qi (k:8),e,x]) (c:=S) ?_).trans^(ak (e:=[qr i,qt r,qi (hd:8),qp s,qt [.str m,.int v],qi t,qi (k:8),qp road,x]) (c:=S) ?_).trans ?_
    .simp [uR,eY,qY,u]
    .let(R,Z1,T,V,mk,X,h):=f;rw[az,nc,h.pr.ix (h.pairs rfl) (i:=(k:8)) rfl^bD hk];simp[pr]
    by_cases hh:kd="heap"
    .simp [l,bD j,dj,dP,E,G,ea,hh,Lf,Ld,ez,gj,er]
    .simp [l,bD j,dj,dP,E,G,ea,hh,er]
  .have u:(999:8) < (if v < 0 then -↑v else v):=by split<;>lia
   calc#[Z,λU q=>(by ext q),λb i S s p e x f=>#[qi (k:8),e,x,?_]];calc(ak^Z0 b i S s p e x f).trans^tN ?_;simp[uR,eY,qY,u]
theorem D1{B:BD}(F:BP B)(H:Places B){n:9}(hd:9)(v:8){m:Str}(K:aJ m=W)(A:LH B hd^.u [.str m,.int v]):∀{l:6 P},(∀t ∈ l,isI t)->∀{d:6 P},ce B d ->
  ∃r:7^6 P,(∀s,r=Y s->ce B s)/\∀(b i:9)(S:aK)(w:P)(u f c p:7 D),Bd B b i S->X3 λL z h a k=>
   bv (am 05) (i8<|Ph<|n+2) l [qr i,qt d,qi (hd:8),qp w,qt [.str m,.int v],u,f,c,p] S=match r with
    |none=>Y (.rt^.p .n,L,S)
    |some s=>Y (.nx,[qr i,qt s,qi (hd:8),qp w,qt [.str m,.int v],z,h,a,k],S)
 | [],_,d,y=>#[Y d,λX q=>by ext q;calc y,λb i S w u f c p X=>#[[],u,f,c,p,0]]
 |t::l,C,d,y=>by
  let(j,0):=C t aA;let(r,Q,o):=OM F H (n:=n) y hd j v K A;cases r with
  |none=>calc#[Z,λX q=>(by ext q),λb i S w u f c p g=>?_];let(h,a,k,e):=o b i S w f c p g;calc#[_,u,f,c,p,um rfl e]
  |some s=>let(r,T,V):=D1 F H (n:=n) hd v K A (l:=l) (λx R=>C x^aC _ R)^Q s rfl;calc#[r,T,λb i S w u f c p g=>?_];let(h,a,k,e):=o b i S w f c p g;let(L,E,G,I,M,N):=V b i S w (qi j) h a k g;calc#[L,E,G,I,M,by rw[<- N];calc bx rfl e]
def Lr{B:BD}(p:BP B)(c:Places B){n:9}(hd:9)(v:8){m:Str}(q:aJ m=W)(A:LH B hd^.u [.str m,.int v]){s:6 P}(u:∀t ∈ s,isI t){d:6 P}(w:ce B d) :
  ∃a:P,(a=.n\/∃r,ce B r/\a=.u r)/\∀(b i:9)(S:aK),Bd B b i S->Ph (n+3) "posted" [.ref i,.p^.u d,.p^.int (hd:8),.p^.l s,.p^.u [.str m,.int v]] S=Y (.p a,S):=by
 let(x,f,k):=D1 p c (n:=n) hd v q A u w;cases x with
 |none=>calc#[.n,.inl rfl,λb i S h=>?_];let(L,_,_,_,_,e):=k b i S (.l s) Z Z Z Z h;rw[uq];rwa[CA]at e;simp[np,oq,e]
 |some r=>calc#[.u r,.inr #[r,f r rfl,0],λb i S h=>?_];let(L,_,_,_,_,e):=k b i S (.l s) Z Z Z Z h;rw[uq];rwa[CA]at e;simp[np,oq,e]
end My
namespace My
open PySem L2 Ev
def Nd(dl:9)(y:P):5:=X0 λs h=>y=.u [.u s,.l h]/\-s=dl/\(∀a ∈ s,isI a)/\∀t ∈ h,isI t
noncomputable abbrev eK(E:Str)(C:9)(l u j H:6 P):P:=.u [.str E,.int (C:8),.l l,.l u,.l j,.l H]
theorem DQ{s:6 P}(h:∀x ∈ s,mD x){x:Str}(a:P.str x ∈ s):∃i:9,i < -s/\n7 s^.str x=Y i:=uh (λy e=>(h y e).ok 19) a
def tg_ok{B:BD}(q:BP B){n:9}{hd:9}{E:Str}{C:9}{l u j H:6 P}(s:Fam B.roads E C l u j H)(a:(a_ B.fams)[hd]? = Y^eK E C l u j H){A:6 P}(hw:-A=-j)(I:∀w ∈ A,isI w){c z:Str}
  (hc:(c="who"/\P.str z ∈ j)\/((c="all"\/c="any")/\∃r ∈ B.roads,rA r=E/\z=rB r)) :
  X0 λ(ys:6 P)(dl:9)=>dl≤1/\-ys≤4/\(∀y ∈ ys,Nd dl y)/\∀(b i:9)(S:aK),Bd B b i S->∃K,Ph (n+4) "targets_of" [.ref i,.p^.int (hd:8),.p^.str c,.p^.str z,.p^.u A] S=Y (.p^.l ys,K)/\Fr b S K:=by
 rcases hc with ⟨rfl,Z1⟩|⟨N,r,X,hra,rfl⟩
 .let(k,hk,ek):=DQ s.hwh Z1;have hg:A[k]? = Y (A[k]'()):=bt ();generalize hv:A[k]'()=v at hg;have Z0:isI v:=by rw[<- hv];exact I _^gW _
  calc#[[.u [.u [],.l [v]]],(0),∅,∅,λy R=>#[[],[v],by simpa using R,∅,λU h=>(by ext h),λt T=>by rw[cJ.mp T];calc Z0],λb i S m=>#[S,?_,Fr.refl _ _]];let ef:=xT (n:=n+1) m a;let(jh,jp,jl,jm,mk,mv,h):=m;have G:dY (mT Tb<|Ph<|n+3) im "family_of" (Q4 lz) [qr i,qi (hd:8),qs "who",qs z,qt A,Z] S=Y (.p^eK E C l u j H,S):=
   (h.meth rfl (Si _) SM (l:=[.p^.int (hd:8)]) ∅).trans ef
  rw[jX];simp[np,hZ,-dY,G,QO,ek,bD hg]
 .have hs:rB r ∈ B.N:=by
   let(_,(f',h1,h2)):=q.ra r X;rw[<- h2];exact zW q h1
  have M:-(bX^oth B.N (rB r) hd)≤4:=by
   have h4:-B.N≤4:=lH q;have:=dE B.N^rB r
   have:=iU (λo=>!decide (hd=o)) (aZ B.N^rB r);simp[bX,oth];lia
  have g:∀t ∈ bX^oth B.N (rB r) hd,isI t:=λt T=>by unfold bX at T;let(o,_,0):=bg.mp T;exact#[_,0]
  have G:∀(b i:9)(S:aK),Bd B b i S->∃K,dY (mT Tb<|Ph<|n+3) im "hands_beside" (Qr lz E9) [qr i,qi (hd:8),qs c,qs^rB r,qt A,Z] S=Y (.p^.l^bX^oth B.N (rB r) hd,K)/\Fr b S K:=λb i S m=>by let(F,D,e):=JH (n:=n+1) q m hd hs;let(jh,jp,jl,jm,mk,mv,h):=m;exact#[F,(h.meth rfl (V8 _) We (l:=[.p^.int (hd:8),.p^.str^rB r]) ∅).trans D,e]
  generalize bX^oth B.N (rB r) hd=os at M g G;rcases N with rfl|rfl
  .calc#[[.u [.u [],.l os]],(0),∅,∅,λy R=>#[[],os,by simpa using R,∅,λU h=>(by ext h),g],λb i S m=>?_];let(F,D,e):=G b i S m;calc#[F,?_,e];rw[jX];simp[np,hZ,-dY,D]
  .refine#[os.map λo=>.u [.u [o],.l [o]],1,∅,by simpa using M,λy R=>?_,λb i S m=>?_]
   .let(o,ho,0):=bg.mp R;exact#[[o],[o],0,∅,λx V=>by rw[cJ.mp V];calc g o ho,λx V=>by rw[cJ.mp V];calc g o ho]
   .let(F,D,e):=G b i S m;calc#[F,?_,e];have e2:bG (am 06) dD (aQ^v2 (aQ^v1 nj)^bj^v1 nj) os [qr i,qi (hd:8),qs "any",qs^rB r,qt A,ql os,Z] F=Y (os.map λo=>.u [.u [o],.l [o]],F):=by
     rw[cI (p:=λU=>W) (f:=λo=>.u [.u [o],.l [o]]) (Inv:=λL=>∃d,L=[qr i,qi (hd:8),qs "any",qs^rB r,qt A,ql os,d]) (λv hv L Q=>?_) #[Z,0],kj];let(d,0):=Q;exact#[[qr i,qi (hd:8),qs "any",qs^rB r,qt A,ql os,qp v],0,#[_,0],0,λU=>by simp]
    have hq:-os≤1000000:=by lia
    rw[jX];simp[np,hZ,-dY,D,bf,hq,mn,e2]
def Ss(y:P):5:=X0 λ(s p:9)=>y=.u [.int (s:8),.int (p:8)]
def Rh{n:9}{r:6 P}{E:Str}{C:9}{l u j H:6 P}(s:Fam r E C l u j H){A:6 P}(hw:-A=-j){Q:P->5}(I:∀w ∈ A,Q w){t y:P}(g:n5 E r j t)(S:(t=.n/\y=.n)\/(t≠.n/\X0 λ(x p:9)=>y=.u [.int (x:8),.int (p:8)]/\Q^.int (x:8))) :
  ∃e,-e=-j/\(∀w ∈ e,Q w)/\ba (Ph (n+3) "whos_behind") [eK E C l u j H,.u A,t,y]=Y^.u e:=by
 rcases g with rfl|⟨m,a,i,b,_,_,_,_,_,o,rfl⟩
 .calc#[A,hw,I,?_];rw[jo,aL];simp[gm,uR,eY]
 .obtain⟨x,p,rfl,d⟩:X0 λ(x p:9)=>y=.u [.int (x:8),.int (p:8)]/\Q^.int (x:8):=by
   rcases S with ⟨q,_⟩|⟨_,q⟩
   .ext q
   .exact q
  by_cases f:b=""
  .calc#[A,hw,I,?_];rw[jo,aL];simp[gm,uR,eY,f]
  .let(k,hk,c):=DQ s.hwh^o.resolve_left f;let z:=s.wl;let v:=tT (n:=n) (xs:=A) (k:=k) () ()^.int (x:8);refine#[A.set k^.int (x:8),by rw[de];calc hw,λw h=>?_,?_]
   .rcases List.mem_or_eq_of_mem_set h with h|rfl
    .exact I w h
    .exact d
   .rw [jo,aL];simp[gm,uR,eY,f,QO,c,v]
theorem yh(x:cD)(y:P):∀(n:6 cD)(c:6 P),n.Nodup->-n=-c->X0 λs a=>rH x (.p y) n^c.map .p=(s,a.map .p)/\s.Nodup/\-s=-a/\-s≤-n+1/\(∀k ∈ s,k=x\/k ∈ n)/\∀k,cC k s a=if x=k then Y y else cC k n c
 | [],[],_,_=>#[[x],[y],0,∅,0,∅,λk h=>.inl (by exists h),λk=>by by_cases q:x=k<;>simp[cC,q]]
 | [],_::_,_,h=>by simp at h
 |_::_,[],_,h=>by simp at h
 |f::n,v::c,m,l=>by
  let(hk,m):=du.mp m;by_cases q:f=x
  .calc#[f::n,y::c,by simp[rH,q],du.mpr #[hk,m],by simpa using l,∅,λk h=>.inr h,λk=>?_];subst q;by_cases b:f=k
   .simp [cC,b]
   .simp [cC,b]
  .let(s,a,e,p,d,u,r,w):=yh x y n c m (by exists l);refine#[f::s,v::a,by simp[rH,q,e],du.mpr #[λz=>?_,p],by simp[d],by simp;lia,λk h=>?_,λk=>?_]
   .rcases r f z with z|z
    .exact q z
    .exact hk z
   .rcases a8.mp h with rfl|h
    .exact .inr aA
    .rcases r k h with h|h
     .exact .inl h
     .exact .inr^aC _ h
   .show (if f=k then Y v else cC k s a)=_;by_cases b:f=k
    .subst b;have:¬x=f:=λz=>q z.symm
     simp[cC,this]
    .rw [ag b,w];by_cases t:x=k
     .simp [t]
     .simp [t,cC,b]
structure Giv(gk:6 cD)(gv:6 P):5 where
 nd:gk.Nodup
 ln:-gk=-gv
 le:-gk≤100
 iv:∀k v,cC k gk gv=Y v->isI v
def Giv.put(h:Giv b c)(l:-b≤99)(y:cD)(i:8):X0 λg x=>rH y (.p^.int i) b^c.map .p=(g,x.map .p)/\Giv g x/\-g≤-b+1:=by
 let(s,n,e,f,m,r,p,t):=yh y (.int i) b c h.nd h.ln;calc#[s,n,e,#[f,m,(),λk v a=>?_],r];rw[t]at a;split at a
 .ext a;exact#[_,0]
 .calc h.iv k v a
def DW{o:EE}{k v:EV}{L:Lc}{S s:aK}{j:9}{n:6 cD}{f:6 P}{x:Str}{i:8}(h:Giv n f)(l:-n≤99)(p:v L S=Y (.int i,s))(t:o L s=Y (.ref j,s))(hk:k L s=Y (.str x,s))(r:s[j]? = Y (.E n^f.map .p)):X0 λg a=>Giv g a/\-g≤-n+1/\jO o k v L S=Y (.nx,L,s.set j^.E g^a.map .p):=by
 let(g,a,e,c,m):=h.put l (.inr x) i;calc#[g,a,c,m,?_];have b:yO o k v L S=Y (.nx,L,s.set j^.E g^a.map .p):=by unfold yO;rw[p,aq,t,aq,hk,aq];rwa[nW,r,dh];rw[af #[h.nd,by rw[kB];lia],e]
 unfold jO;rw[b]
theorem vA{k:cD}:∀{s:6 cD}{x:6 P},FS k s=Xk->cC k s x=Z
 | [],_,_=>by cases ‹6 P›<;>rfl
 |_::_,[],_=>rfl
 |a::s,v::x,h=>by unfold FS at h;rw[cV,C9]at h;show(if a=k then Y v else cC k s x)=Z;rw[ag^of_decide_eq_false h.1];calc vA h.2
noncomputable abbrev gG(x:Str)(m w t:P)(c s:6 P)(r:P):P:=.u [.str x,m,w,t,.l c,.l s,r]
theorem vk(a b c d e f g:P):L2.atI [a,b,c,d,e,f,g] 3=Y d:=ca #[] rfl
theorem JR(a b c d e f g:P):L2.atI [a,b,c,d,e,f,g] 4=Y e:=ca #[] rfl
theorem Ry(a b c d e f g:P):L2.atI [a,b,c,d,e,f,g] 05=Y f:=ca #[] rfl
theorem Hn(a b c d e f g:P):L2.atI [a,b,c,d,e,f,g] 06=Y g:=ca #[] rfl
theorem QB(a b c d e f:P):L2.atI [a,b,c,d,e,f] 2=Y c:=ca #[] rfl
theorem T1(a b c d e f:P):L2.atI [a,b,c,d,e,f] 05=Y f:=ca #[] rfl
def DV{lo h a i:8}(e:lo≤i)(s:i≤h):P.int i ∈ rg^.u [x,.int lo,.int h,.int a]:=by
 unfold rg;refine bg.mpr #[(i-lo).toNat,iO.mpr ?_,?_]
 .simp;lia
 .simp;lia
def Qb{B Z1:Str->GF}{f st u:P}{b a:6 P}{s:6 cD}{g:6 P}(G:Giv s g){o:SO}(C:o=.E s^g.map .p\/o=.fz^.E s g){k:9}{c:P}(I:isCel c){z:P}(t:b[k]? = Y z)(F:Sv z)(K:z ∈ rg c)(V:-a≤1000)(p d q:7 D) :
  (∃L,bF B [qp f,qt b,qp st,qp u,qr 0,p,d,qr 1,qi (k:8),qp c,q] [o,.l^a.map .p]=Y (.rt^.p .n,L,[.fz^.E s g,.l^a.map .p])) \/
  ∃i:8,i.natAbs≤999/\P.int i ∈ rg c/\bF B [qp f,qt b,qp st,qp u,qr 0,p,d,qr 1,qi (k:8),qp c,q] [o,.l^a.map .p]=Y (.nx,[qp f,qt b,qp st,qp u,qr 0,p,d,qr 1,qi (k:8),qp c,qi i],[.fz^.E s g,.l^(a++[P.int i]).map .p]):=by
 let(x,lo,H,j,_,N,Q,R,T,0):=I;let(A,S,0):=F;have w:toP 09 (.ref 0) [o,.l^a.map .p]=Y (.E s g,[.fz^.E s g,.l^a.map .p]):=by
  rcases C with rfl|rfl
  .have:uP (toP 08) (g.map .p) [SO.E s^g.map .p,.l^a.map .p]=Y (g,[SO.E s^g.map .p,.l^a.map .p]):=m7 ..;simp[toP,this]
  .rfl
 have M:isI ((cC (.inr x) s g).getD^.int A):=by
  cases e:cC (.inr x) s g with
  |none=>calc#[A,0]
  |some v=>exact G.iv _ v e
 let(n,h):=M;have l:-a≤1000000:=by lia
 cases hk:FS (.inr x) s with
 |false=>
  have m:n=A:=by rw[vA hk]at h;exact(P.int.inj h).symm
  right;calc#[n,by rw[m];calc S,by rw[m];calc K,?_];rw[<- eD];simp[bF,w,dh,bD t,h,gK,PQ,Qz,io,hk,gC,l]
 |true=>
  by_cases r:lo≤n/\n≤H
  .right;calc#[n,(),DV r.1 r.2,?_];rw[<- eD];simp[bF,w,dh,bD t,h,gK,PQ,Qz,io,hk,gC,l,r.1,r.2]
  .left;calc#[[qp f,qt b,qp st,qp u,qr 0,p,d,qr 1,qi (k:8),qt [.str x,.int lo,.int H,.int j],qi n],?_];by_cases y:lo≤n
   .have E:¬n≤H:=λz=>r #[y,z];simp[bF,w,dh,bD t,h,gK,PQ,Qz,io,hk,y,E]
   .simp [bF,w,dh,bD t,h,gK,PQ,Qz,io,hk,y]
theorem EZ{B V:Str->GF}{f st F:P}{n:6 P}(w:∀c ∈ n,Sv c){K:6 cD}{A:6 P}(R:Giv K A)(u g:7 D):∀{l:6 P}{k:9},(∀c ∈ l,isCel c)->(∀(i:9) c v,l[i]? = Y c->n[k+i]? = Y v->v ∈ rg c)->k+-l=-n->∀{b:SO},(b=.E K^A.map .p\/b=.fz^.E K A)->∀{a:6 P},-a=k->-n≤1000->∀(H S q:7 D),
  (X0 λL C=>bv (bu [am 08,am 09]) (bF B) (cy (k:8) l) [qp f,qt n,qp st,qp F,qr 0,u,g,qr 1,H,S,q] [b,.l^a.map .p]=Y (.rt^.p .n,L,C)) \/
  X3 λy m r s o=>-y=-l/\((∀c ∈ y,Sv c)/\Wq l y)/\bv (bu [am 08,am 09]) (bF B) (cy (k:8) l) [qp f,qt n,qp st,qp F,qr 0,u,g,qr 1,H,S,q] [b,.l^a.map .p]=Y (.nx,[qp f,qt n,qp st,qp F,qr 0,u,g,qr 1,m,r,s],[o,.l^(a++y).map .p])
 | [],k,_,_,_,b,_,a,_,_,H,S,q=>.inr #[[],H,S,q,b,0,#[λZ h=>(by ext h),λZ Z Z h=>(by ext h)],by simp[cy,bv]]
 |c::l,k,T,d,hk,b,X,a,ha,hl,H,S,q=>by
  rwa[aP]at hk;have t:n[k]? = Y (n[k]'()):=bt ();unfold cy;rcases Qb (B:=B) (Z1:=V) (f:=f) (st:=st) (u:=F) (a:=a) R X (T c aA) t (w _^gW _) (d 0 c _ rfl (by rw[Nat.add_zero];calc t)) () u g q with ⟨L,e⟩|⟨i,Z0,M,e⟩
  .exact .inl #[_,_,um rfl e]
  .rcases EZ (B:=B) (V:=V) (f:=f) (st:=st) (F:=F) w R u g (l:=l) (k:=k+1) (λx hx=>T x^aC _ hx) (λj c v E G=>d (j+1) c v (by exists E) (by rw[<- G];congr 1;lia)) () (b:=.fz^.E K A) (.inr rfl) (a:=a++[.int i]) (by simp;lia) hl (qi (k:8)) (qp c)^qi i with ⟨L,C,p⟩|⟨y,m,r,s,o,E,⟨G,I⟩,p⟩
   .rw [jK]at p;exact .inl #[L,C,(bx rfl e).trans p]
   .rw [jK]at p;refine .inr #[.int i::y,m,r,s,o,by simp[E],#[λz t=>?_,λj Z1 v N Q=>?_],?_]
    .rcases a8.mp t with rfl|t
     .exact#[i,Z0,0]
     .exact G z t
    .cases j with
     |zero=>ext N;ext Q;calc M
     |succ j=>exact I j Z1 v (by exists N) (by exists Q)
    .rw [show a++.int i::y=a++[.int i]++y by simp];calc(bx rfl e).trans p
def Tn{X j:6 P}{E:Str}{A:P}(Z1:n5 E X j A){K:6 cD}{V:6 P}(f:k9 (more A) K V){g:6 cD}{s:6 P}(I:Giv g s)(T:-g≤99)(h p H B r:P)(x:Str)(c F:6 P)(d u l y z q:7 D) :
  X0 λb t=>Giv b t/\cg (iL (bV^a9 d9 (O^aj jg jH)^O^vC^.n)^lW (O^aj (aj jg jH) iu)^O^vt "") (jO DJ (aj (aj jg jH) iu)^aj ik^vt "it") cN [qp h,qp p,qp^gG x H B A c F r,qp^.E K V,qr 0,d,u,l,y,z,q] [.E g^s.map .p]=Y (.nx,[qp h,qp p,qp^gG x H B A c F r,qp^.E K V,qr 0,d,u,l,y,z,q],[.E b^t.map .p]):=by
 rcases Z1 with rfl|⟨m,a,n,w,_,_,_,_,_,_,rfl⟩
 .exact#[g,s,I,by simp[vk,d9,eY]]
 .by_cases M:n=""
  .exact#[g,s,I,by simp[vk,d9,eY,M]]
  .let(i,_,N):=f "it" (by simp[more]);let(C,G,Q,Z0,e):=DW (o:=U 4) (k:=aj (aj jg jH) iu) (v:=aj ik^vt "it") (L:=[qp h,qp p,qp^gG x H B (.u [.str m,.str a,.str n,.str w]) c F r,qp^.E K V,qr 0,d,u,l,y,z,q]) (S:=[.E g^s.map .p]) I T (i:=i) (s:=[.E g^s.map .p]) (x:=n) (by simp[N]) rfl (by simp[vk]) rfl;calc#[C,G,Q,?_];rw[cg];have R:(iL (bV^a9 d9 (O^aj jg jH)^O^vC^.n)^lW (O^aj (aj jg jH) iu)^O^vt "") [qp h,qp p,qp^gG x H B (.u [.str m,.str a,.str n,.str w]) c F r,qp^.E K V,qr 0,d,u,l,y,z,q] [.E g^s.map .p]=Y (W,[.E g^s.map .p]):=by simp[vk,d9,eY,M]
   rw[R];calc e
def Tl{n:9}{rs:6 P}{E:Str}{C:9}{l u j H:6 P}(s:Fam rs E C l u j H){X:6 P}(hc:CellsOk u X){x:Str}{Q T w:P}{a R:6 P}{m:P}(hS:Stp E l u j rs Q T w a R m){K:6 cD}{V:6 P}(f:k9 (pc u++more w) K V) :
  ∃q:P,(q=.n\/∃F,CellsOk u F/\q=.u F)/\ba (Ph (n+06) "cells_behind") [eK E C l u j H,.u X,gG x Q T w a R m,.E K V]=Y q:=by
 have p:∀x ∈ pc u++more w,mD x:=λx hx=>(cj.mp hx).elim (qg s.hce.1 x)^Ea w x;let hcl:=hS.cl;let hc3:=s.cl;let hcn:=hc.1;let A:6^7 D:=[qp^eK E C l u j H,qt X,qp^gG x Q T w a R m,qp^.E K V,qr 0]
 let Inv:9->Lc->aK->5:=λi L S=>X2 λ(d:6 cD)(z:6 P)(M N:7 D)=>Giv d z/\-d≤i/\L=A++[M,N,Z,Z,Z,Z]/\S=[.E d^z.map .p]
 let(L',S',e1,d,z,M,N,hG,hgl,0,0):=dX (g:=bu [am 05,am 06]) (b:=jy<|Ph<|n+05) (Inv:=Inv) (s:=a) (k:=0) (L:=A++[Z,Z,Z,Z,Z,Z]) (S:=[.E [] []]) (λi v L S hv hI=>by let(d,z,M,N,hG,hgl,0,0):=hI;let hi:=bW hv;let(y,t,_,ht,0):=hS.ch v^bq hv;let(r,er):=tB p f ht (n:=n+1);let(gk',gv',I,Z0,e):=DW (o:=U 4) (k:=vv 05) (v:=dz (Ph (n+05) "value_of")^v2 nj ik) (L:=A++[qs y,qp t,Z,Z,Z,Z]) (S:=[.E d^z.map .p]) hG () (i:=r) (s:=[.E d^z.map .p]) (by simp[A,er]) rfl rfl rfl;calc#[_,_,_,0,e,gk',gv',_,_,I,(),0,0]) #[[],[],Z,Z,#[∅,0,∅,λk v h=>by ext h],∅,0,0]
 rwa[A,mU,dR]at e1;let(gk2,gv2,hG2,e2):=Tn hS.htk (λx hx=>f x^gc _ hx) hG () (eK E C l u j H) (.u X) Q T m x a R M N Z Z Z Z;let G:=EZ (B:=Ph<|n+05) (V:=Ph<|n+4) (f:=eK E C l u j H) (st:=gG x Q T w a R m) (F:=.E K V) hc.2.1 hG2 M N (l:=u) (k:=0) s.hce.1 (λi c v I Z0=>hc.2.2 i c v I (by (rw [gN]at Z0;assumption))) () (.inl rfl) (a:=[]) rfl () Z Z Z;rw[((0:9):8)=0|>rfl]at G;rcases G with ⟨L',S',B⟩|⟨Z1,q8',q9',q10',o,I,Z0,B⟩
 .calc#[.n,.inl rfl,?_];rw[kP,aL];rwa[d7]at B;simp[-cg,iK,nC,JR,e1,e2,Nv,B]
 .calc#[.u Z1,.inr #[Z1,#[I,Z0],0],?_];rw[kP,aL];rwa[d7,dR]at B;have t1:toP 09 (.ref 1) [o,.l^Z1.map .p]=Y (.l Z1,[o,.fz^.l Z1]):=dw rfl;simp[-cg,iK,nC,JR,e1,e2,Nv,B,t1,gj]
def qQ(B:BD)(t:9)(y:P):5:=X0 λs r=>y=.u [.u s,.u r]/\-s=t/\(∀a ∈ s,isI a)/\ce B r
structure GS(B:BD)(K:6 cD)(V:6 P) extends GC B where
 kv:9
 hkv:b≤kv
 hk:S0[kv]? = Y (.fz^.E K V)
abbrev FL(i k r:9)(hd t m A:P)(d f b c q h:7 D)(x a e s n:7 D):Lc:=[qr i,qp hd,qp t,qr k,qp m,qp A,d,f,b,c,q,h,qr r,x,a,e,s,n]
def WL{B:BD}(q:BP B)(Q:Places B){n:9}{K:6 cD}{V:6 P}(hd:9)(v:8){m:Str}(hm:aJ m=W)(hA:LH B hd^.u [.str m,.int v]){t:9}(ht:t≤010){k:6 P}(has:-k=t)(Z1:∀a ∈ k,isI a){r:6 P}(hr:ce B r)(F H A:P)(j l o x:7 D){dl:9}(hdl:dl≤1){y:P}(hy:Nd dl y) :
  ∃ys:6 P,-ys≤1/\(∀z ∈ ys,qQ B (t+dl) z)/\∀(G:GS B K V)(L:Lc)(S:aK)(c:6 P),(X2 λd u i s=>L=FL G.i G.kv G.r (.int (hd:8)) F H A d j l o x (qt [.str m,.int v]) (qt k) (qt r) u i s)->Fr G.b G.S0 S->S[G.r]? = Y (.l^c.map .p)->-c+1≤1000 ->
   X1 λL1 L2 p=>bu [am 015,am 016] y L=Y L1/\jr (Ph<|n+3) L1 S=Y (.nx,L2,p)/\(X2 λd u i s=>L2=FL G.i G.kv G.r (.int (hd:8)) F H A d j l o x (qt [.str m,.int v]) (qt k) (qt r) u i s)/\Fr G.b G.S0 p/\p[G.r]? = Y (.l^(c++ys).map .p):=by
 let(bs,C,0,hbl,X,hti):=hy;let(ans,R,ep):=Lr q Q (n:=n) hd v hm hA hti hr;let M:=kQ (xs:=k) (c:=bs) ();rcases R with rfl|⟨f,Z0,rfl⟩
 .calc#[[],∅,λZ h=>(by ext h),λG L S c E N T hM=>?_];let(d,u,i,s,0):=E;let(p,e,w):=vR (b:=G.b) (g:=Ph (n+3) "posted") (q:=NL im (U 014) lz (U 016)^U 011) (L:=FL G.i G.kv G.r (.int (hd:8)) F H A d j l o x (qt [.str m,.int v]) (qt k) (qt r) (qt bs) (ql C) s) (S:=S) (l:=[.ref G.i,.p^.u r,.p^.int (hd:8),.p^.l C,.p^.u [.str m,.int v]]) rfl (ep G.b G.i S^G.bd.fr N)^Fr.refl _ _;refine#[FL G.i G.kv G.r (.int (hd:8)) F H A d j l o x (qt [.str m,.int v]) (qt k) (qt r) (qt bs) (ql C) s,FL G.i G.kv G.r (.int (hd:8)) F H A d j l o x (qt [.str m,.int v]) (qt k) (qt r) (qt bs) (ql C)^qp .n,p,0,?_,#[_,_,_,_,0],N.trans w,?_]
  .refine (ak (e:=FL G.i G.kv G.r (.int (hd:8)) F H A d j l o x (qt [.str m,.int v]) (qt k) (qt r) (qt bs) (ql C)^qp .n) (c:=p) ?_).trans ?_
   .rw [az,O,e];rfl
   .simp [d9,eY]
  .rw [dQ];exact w.hi _ _ (aH G.le G.hr) T
 .calc#[[.u [.u<|k++bs,.u f]],∅,λz hz=>#[k++bs,f,by simpa using hz,by rw[bo];lia,λa ha=>(cj.mp ha).elim (Z1 a)^X a,Z0],λG L S c E N T hM=>?_];let(d,u,i,s,0):=E;let(p,e,w):=vR (b:=G.b) (g:=Ph (n+3) "posted") (q:=NL im (U 014) lz (U 016)^U 011) (L:=FL G.i G.kv G.r (.int (hd:8)) F H A d j l o x (qt [.str m,.int v]) (qt k) (qt r) (qt bs) (ql C) s) (S:=S) (l:=[.ref G.i,.p^.u r,.p^.int (hd:8),.p^.l C,.p^.u [.str m,.int v]]) rfl (ep G.b G.i S^G.bd.fr N)^Fr.refl _ _;let I:=w.hi _ _ (aH G.le G.hr) T;calc#[FL G.i G.kv G.r (.int (hd:8)) F H A d j l o x (qt [.str m,.int v]) (qt k) (qt r) (qt bs) (ql C) s,FL G.i G.kv G.r (.int (hd:8)) F H A d j l o x (qt [.str m,.int v]) (qt k) (qt r) (qt bs) (ql C)^qt f,p.set G.r^.l^(c++[P.u [.u<|k++bs,.u f]]).map .p,0,?_,#[_,_,_,_,0],(N.trans w).set G.le G.hr _,gB I];refine(ak (e:=FL G.i G.kv G.r (.int (hd:8)) F H A d j l o x (qt [.str m,.int v]) (qt k) (qt r) (qt bs) (ql C)^qt f) (c:=p) ?_).trans ?_
  .rw [az,O,e];rfl
  .rw [cg];have hc:(bV^a9 d9 (U 017)^O^vC .n) (FL G.i G.kv G.r (.int (hd:8)) F H A d j l o x (qt [.str m,.int v]) (qt k) (qt r) (qt bs) (ql C)^qt f) p=Y (W,p):=by simp[d9,eY]
   rw[hc,aq,af rfl];calc kq rfl I (by simp[M]) I ()
def WK{B:BD}(q:BP B)(Q:Places B){n:9}{K:6 cD}{V:6 P}{hd:9}{E:Str}{C:9}{l u j H:6 P}(s:Fam B.roads E C l u j H)(a:(a_ B.fams)[hd]? = Y^eK E C l u j H){A:6 P}(hw:-A=-j)(I:∀w ∈ A,isI w){h e:Str}
  (hc:(h="who"/\P.str e ∈ j)\/((h="all"\/h="any")/\∃r ∈ B.roads,rA r=E/\e=rB r)) (v:8) {m:Str} (hm:aJ m=W) (hA:LH B hd^.u [.str m,.int v]) {t:9} (ht:t≤010) (sn Z0:P) (T X:7 D) {Z1:6 P} (hW:∀y ∈ Z1,qQ B t y) :
  X0 λ(ys:6 P)(dl:9)=>dl≤1/\-ys≤4 * (-Z1)/\(∀z ∈ ys,qQ B (t+dl) z)/\∀(G:GS B K V)(L:Lc)(S:aK)(F:6 P),(X4 λN i o k p d=>L=FL G.i G.kv G.r (.int (hd:8)) sn Z0 (.u A) N T X (qs h) (qs e) (qt [.str m,.int v]) i o k p d)->Fr G.b G.S0 S->S[G.r]? = Y (.l^F.map .p)->-F+4 * (-Z1)≤1000 ->
   X0 λL' S'=>bv (bu [am 013,am 014]) (gp<|Ph<|n+4) Z1 L S=Y (.nx,L',S')/\(X4 λN i o k p d=>L'=FL G.i G.kv G.r (.int (hd:8)) sn Z0 (.u A) N T X (qs h) (qs e) (qt [.str m,.int v]) i o k p d)/\Fr G.b G.S0 S'/\S'[G.r]? = Y (.l^(F++ys).map .p):=by
 let(tg,dl,hdl,h1,h2,h3):=tg_ok q (n:=n) s a hw I hc;let(f,f1,f2,f3):=eZ (t:=GS B K V) (c:=4) (M:=1000) (g:=bu [am 013,am 014]) (b:=gp<|Ph<|n+4) (s:=Z1) (Sp:=fun G S=>Fr G.b G.S0 S) (r:=fun G=>G.r) (R:=fun _ ys=>∀z ∈ ys,qQ B (t+dl) z) (p:=fun G L=>X4 fun N i o k p d=>L=FL G.i G.kv G.r (.int (hd:8)) sn Z0 (.u A) N T X (qs h) (qs e) (qt [.str m,.int v]) i o k p d) (fun x hx=>by
  let(as,rs,0,ha1,ha2,hr):=hW x hx;let(g,k1,k2,k3):=eZ (t:=GS B K V) (c:=1) (M:=1000) (g:=bu [am 015,am 016]) (b:=jr<|Ph<|n+4) (s:=tg) (Sp:=λG S=>Fr G.b G.S0 S) (r:=λG=>G.r) (R:=λZ ys=>∀z ∈ ys,qQ B (t+dl) z) (p:=λG L=>X2 λN k p d=>L=FL G.i G.kv G.r (.int (hd:8)) sn Z0 (.u A) N T X (qs h) (qs e) (qt [.str m,.int v]) (qt as) (qt rs) k p d)
   (λy hy=>by calc WL q Q (n:=n+1) (K:=K) (V:=V) hd v hm hA ht ha1 ha2 hr sn Z0 (.u A) T X (qs h) (qs e) hdl^h2 y hy)
  refine#[tg.flatMap g,(),λz hz=>?_,λG L S F hLp fr hS hM=>?_]
  .let(y,hy,hz):=cB.mp hz;exact k2 y hy z hz
  let(N,i,o,k,p,d,0):=hLp;let(S1,e1,fr1):=h3 G.b G.i S^G.bd.fr fr;let(S2,e2,fr2):=vR (b:=G.b) (g:=Ph (n+4) "targets_of") (q:=NL im lz (U 09) rc^U 05) (L:=FL G.i G.kv G.r (.int (hd:8)) sn Z0 (.u A) N T X (qs h) (qs e) (qt [.str m,.int v]) (qt as) (qt rs) k p d) (S:=S) (l:=[.ref G.i,.p^.int (hd:8),.p^.str h,.p^.str e,.p^.u A]) rfl e1 fr1;let(L',S',e3,hL',fr3,h4):=k3 G _ S2 F #[N,k,p,d,0] (fr.trans fr2) (fr2.hi _ _ (aH G.le G.hr) hS) ();let(d6',q15',q16',q17',0):=hL';calc#[FL G.i G.kv G.r (.int (hd:8)) sn Z0 (.u A) N T X (qs h) (qs e) (qt [.str m,.int v]) (qt as) (qt rs) k p d,FL G.i G.kv G.r (.int (hd:8)) sn Z0 (.u A) d6' T X (qs h) (qs e) (qt [.str m,.int v]) (qt as) (qt rs) q15' q16' q17',S',0,?_,#[_,_,_,_,_,_,0],fr3,h4];unfold gp;rw[bR,d4,e2];calc e3)
 calc#[Z1.flatMap f,dl,hdl,f1,λz hz=>?_,f3];let(x,hx,hz):=cB.mp hz;calc f2 x hx z hz
def Hf(r:Fr b x S)(e:b≤-x)(h:rN x S d Z1):∃a,toP 09 d (S++[.l []])=Y (.l Z1,a)/\Fr b x a/\a[-S]? = Y^.l []:=by
 let f:=r.trans^Fr.app b S [.l []];rcases h with rfl|⟨k,hk,rfl,h⟩
 .exact#[_,∅,f,dJ _ _]
 .let l:=h.lt;calc#[_,(h.fr^Fr.app b S [.l []]).frz,f.set e hk _,?_];rw[aV ()];calc dJ _ _
section
variable{B:BD}(q:BP B)(Q:Places B){n:9}{K:6 cD}{V:6 P}{hd:9}{E:Str}{C:9}{l u j H:6 P}(s:Fam B.roads E C l u j H)(a:(a_ B.fams)[hd]? = Y^eK E C l u j H){A:6 P}(hw:-A=-j)(I:∀w ∈ A,isI w){N:6 P}(p:∀x ∈ N,mD x)(f:k9 N K V)
include q Q s a hw I p f
theorem V6(h rd:P):∀{sn:6 P},(∀c ∈ sn,isSend E B.roads j N c/\∀v k,ba (Ph (k+4) "value_of") [gH c 1,.E K V]=Y^.int v->LH B hd^.u [gH c 0,.int v])->∀{t:9},t+-sn≤010->∀{Z1:6 P},(∀y ∈ Z1,qQ B t y)->4 ^ (-sn) * (-Z1)≤900 ->
  X0 λ(ys:6 P)(T:9)=>T≤t+-sn/\-ys≤4 ^ (-sn) * (-Z1)/\(∀y ∈ ys,qQ B T y)/\∀(b i:9)(z S:aK)(e:9)(G:D)(q7 q8 q9 q10 H F d w u g l:7 D),Bd B b i z->b≤e->z[e]? = Y (.fz^.E K V)->Fr b z S->rN z S G Z1 ->
   X1 λL' S' d'=>bv (bu [am 07,am 08,am 09,am 010]) (jq<|Ph<|n+05) sn [qr i,qi (hd:8),qp h,qr e,qp rd,qt A,Y G,q7,q8,q9,q10,H,F,d,w,u,g,l] S=Y (.nx,L',S')/\L'[06]? = Y^Y d'/\Fr b z S'/\rN z S' d' ys
 | [],_,t,_,Z1,hW,_=>#[Z1,t,∅,∅,hW,λb i z S e G q7 q8 q9 q10 H F d w u g l Z Z Z fr ha=>#[_,S,G,0,0,fr,ha]]
 |c::sn,hs,t,ht,Z1,hW,hWl=>by
  rwa[aP]at ht;rw[aP,oK,sg]at hWl;have h4:4 * (-Z1)≤900:=aH (Nat.le_mul_of_pos_left _^Nat.pow_pos #[]) hWl;let((m,tr,C,o,hm,_,hsum,hcw,0),hA):=hs c aA;let(v,ev):=tB p f hsum (n:=n+1);let(ys,dl,hdl,h1,h2,h3):=WK q Q (n:=n+1) (K:=K) (V:=V) s a hw I hcw v hm (hA v _ ev) (t:=t) () h rd (qs m) (qp tr) hW;let(zs,T,hT,k1,k2,k3):=V6 h rd (sn:=sn) (λx hx=>hs x^aC _ hx) (t:=t+dl) () (Z1:=ys) h2^aH (sh _ h1) hWl;refine#[zs,T,by rwa[aP];lia,?_,k2,λb i z S e G q7 q8 q9 q10 H F d w u g l hB hkv hk fr ha=>?_]
  .rw [aP,oK,sg];exact aH k1^sh _ h1
  .let(S1,e1,fr1,hS1):=Hf fr hB.le ha;let(L2,S2,e2,(d6',L,M,R,X,Z0,0),fr2,hS2):=h3 { b:=b,i:=i,S0:=z,r:=-S,bd:=hB,hr:=fr.len,kv:=e,hkv:=hkv,hk:=hk } (FL i e S.length (.int (hd:8)) h rd (.u A) (Y G) (qs m) (qp tr) (qs C) (qs o) (qt [.str m,.int v]) d w u g l) S1 [] #[_,_,_,_,_,_,0] fr1 hS1 (by simp;lia);let(L',S',d',e3,h5,fr3,ha3):=k3 b i z S2 e (.ref (-S)) (qs m) (qp tr) (qs C) (qs o) (qt [.str m,.int v]) (qr (-S)) L M R X Z0 hB hkv hk fr2^.inr #[-S,fr.len,0,.inl hS2];calc#[L',S',d',?_,h5,fr3,ha3];calc(bx (h:=[qr i,qi (hd:8),qp h,qr e,qp rd,qt A,Y G,qs m,qp tr,qs C,qs o,H,F,d,w,u,g,l]) rfl ?_).trans e3;have tv:toP 09 (.ref e) S=Y (.E K V,S):=by
    have:=fr.hi _ _ hkv hk;simp[toP,this]
   unfold jq;rw[ak (by simp[tv,ev];calc#[0,0])];rw[ak (by simp;calc#[0,0])];refine(ak (e:=FL i e S.length (.int (hd:8)) h rd (.u A) d6' (qs m) (qp tr) (qs C) (qs o) (qt [.str m,.int v]) L M R X Z0) (c:=S2) ?_).trans ?_
   .rw [bR,d4];show bw (bw (toP 09 G<|S++[.l []]) _) _=_;rw[e1];exact e2
   .rfl
def RB(R:∀c ∈ g,isSend E B.roads j N c/\∀v k,ba (Ph (k+4) "value_of") [gH c 1,.E K V]=Y^.int v->LH B hd^.u [gH c 0,.int v])(l:-g≤3)(M:ce B r) :
  X0 λ(w:6 P)(T:9)=>-w≤64/\(∀y ∈ w,qQ B T y)/\∀(b i:9)(S:aK)(m:9),Bd B b i S->b≤m->S[m]? = Y (.fz^.E K V) ->
   X0 λd x=>Ph (n+06) "sendings" [.ref i,.p^.int (hd:8),.p^.l g,.ref m,.p^.u r,.p^.u A] S=Y (d,x)/\Fr b S x/\rN S x d w:=by
 have hp:4 ^ (-g)≤64:=by have:=wL (0 < 4|>by decide) l;exists this
 let(w,T,_,H,F,C):=V6 q Q (n:=n) s a hw I p f (.l g) (.u r) R (t:=0) () (Z1:=[.u [.u [],.u r]]) (λy X=>#[[],r,by simpa using X,∅,λW h=>(by ext h),M]) (by simp;lia);rwa[sC,Nat.mul_one]at H;refine#[w,T,(),F,λb i S m G u hk=>?_]
 .let(Z0,x,z,e,D,o,L):=C b i S S m (.p^.l [.u [.u [],.u r]]) Z Z Z Z Z Z Z Z Z Z Z G u hk (Fr.refl _ _)^.inl rfl;calc#[z,x,?_,o,L];rw[xW];simp[np,pK,e,D]
end
end My
namespace My
open PySem L2 Ev
def WH(B:BD)(hd:9)(w:P):5:=w=.int (-1)\/X0 λ(s:9)(d:D)=>w=.int (s:8)/\c9 [.inl (s:8),.inl (hd:8)] B.ks B.vs=Y d
def WH.isI{B:BD}{hd:9}{w:P}(h:WH B hd w):isI w:=by rcases h with rfl|⟨s,_,rfl,_⟩<;>calc#[_,0]
inductive HandOk(B:BD)(hd:9)(f x:P):5
 |mk (nm:Str) (crew:9) (rooms cells whos steps:6 P) (h0:f=eK nm crew rooms cells whos steps) (r:9) (cs ws:6 P):x=.u [.int (r:8),.u cs,.u ws]->r < -rooms->CellsOk cells cs->-ws=-whos->(∀w ∈ ws,WH B hd w)->HandOk B hd f x
structure StL(B:BD)(hs rds:6 P):5 where
 hl:-hs=-(a_ B.fams)
 hh:∀(k:9) f x,(a_ B.fams)[k]? = Y f->hs[k]? = Y x->HandOk B k f x
 hr:ce B rds
def dA(B:BD)(st:P):5:=X0 λh r=>st=.u [.u h,.u r]/\StL B h r
def StL.put(h:StL B m d)(s:(a_ B.fams)[k]? = Y f)(c:HandOk B k f b)(r:ce B t):StL B (m.set k b) t:=by
 calc#[by rw[de];calc h.hl,λi n x e a=>?_,r];by_cases q:k=i
 .subst q;rw[s]at e;ext e;rw[bY (by rw[h.hl];calc bW s)]at a;ext a;exact c
 .rw [aV q]at a;calc h.hh i n x e a
def Mg(B:BD)(hd:9)(x:Str)(y z:P):5:=X0 λs e=>z=.u [.u [.str "step",.int (hd:8),.str x,y,.u s],e]/\(∀a ∈ s,isI a)/\dA B e
def Mw(h:6 P)(hd:9)(x:Str)(y w:P):P:=.u [.u [.str "step",.int (hd:8),.str x,y,gH w 0],.u [.u h,gH w 1]]
abbrev SL(i:9)(st hd step y f r:P)(n k b q h x a e s:7 D):Lc:=[qr i,qp st,qp hd,qp step,qp y,qp f,qp r,n,k,b,q,h,x,a,e,s]
theorem PZ{c:6 P}{K:6 cD}{V:6 P}(f:k9 (pc c) K V){s:6 cD}{n:6 P}{z:8}(m:z.natAbs≤999)(h:∀k,cC k s n=if (.inr "it":cD)=k then Y^.int z else cC k K V):k9 (pc c++[.str "it"]) s n:=λx a=>by
 by_cases q:("it":Str)=x
 .exact#[z,m,by rw[h,af (by rw[q])]]
 .rcases cj.mp a with a|a
  .let(i,b,e):=f x a;exact#[i,b,by rw[h,ag λw=>q^jz w];calc e]
  .calc absurd (P.str.inj^cJ.mp a).symm q
theorem kI:∀{x:6^6 f}{s:6 f},-s=-x->(∀(i:9) a y,x[i]? = Y a->s[i]? = Y y->y ∈ a)->s ∈ fV x
 | [],s,l,_=>by cases iX l;simp[fV]
 |a::x,[],l,_=>by ext l
 |a::x,y::s,l,h=>by unfold fV;calc cB.mpr #[y,h 0 a y rfl rfl,bg.mpr #[s,kI (rO l) λi k z e n=>h (i+1) k z (by exists e) (by exists n),0]]
def Jw(h:CellsOk e s):s ∈ je e:=by
 calc kI (by rw[aU];calc h.1) λi k y x n=>?_;rw[cm]at x;cases a:e[i]? with
 |none=>rw[a]at x;ext x
 |some c=>rw[a]at x;ext x;calc h.2.2 i c y a n
def RA{B:BD}(hP:BP B){n:9}{hd:9}{nm:Str}{N:9}{G a E I:6 P}(Z0:Fam B.roads nm N G a E I){u:6 P}(hc:CellsOk a u){d:6 P}(hr:ce B d){M y:P}(ht:n5 nm B.roads E M)(hy:(M=.n/\y=.n)\/(M≠.n/\LetOk B d hd y)) :
  X1 λ(K:6 cD)(V C:6 P)=>k9 (pc a++more M) K V/\(∀x:Str,P.str x ∈ pc a->cC (.inr x) K V=cC (.inr x) (cx a) u)/\ce B C/\∀(b i:9)(S:aK)(st step f r:P)(H F g t p v w:7 D),Bd B b i S->∃X,
   cg (bV^a9 d9 DJ^O^vC^.n) (ah (az 011<|zD (bL (aT Att) im "places")^v2 (aj l_ fR) jg)
    (ah (jO rc (vt "it")^aj (aj (aj oY nl)^aj l_ eC) eC)
    (az 09<|O^dz (Ph (n+2) "replaced")^v3 oY nl^dz (Ph (n+2) "without")^v2 (aj oY nl)^aj l_ eC))) cN
    (SL i st (.int (hd:8)) step y f r H F (qt d) (qr (-S)) g t p v w) (S++[.E (cx a)^u.map .p])=Y (.nx,SL i st (.int (hd:8)) step y f r H F (qt C) (qr (-S)) X t p v w,S++[.E K^V.map .p]):=by
 let A:=sO hc;rcases hy with ⟨rfl,rfl⟩|⟨Z1,s,j,k,L,rfl,hg,hk,T,o,hsp⟩
 .exact#[cx a,u,d,by simpa[more] using A,λZ Z=>rfl,hr,λb i S st step f r H F g t p v w hB=>#[g,by simp[d9,eY]]]
 .have hm:more M=[.str "it"]:=by
   cases M with
   |n=>calc absurd rfl Z1
   |_=>rfl
  let hls3:=o.1;have Q:L[j]? = Y L[j]:=bt hsp;let(m,z,_,hz,hzl):=(o.2 L[j]^gW _).1;rw[hzl]at Q;have hkl:-(cx a)=-u:=by rw[hc.1];simp[cx]
  let(K,V,e,h1,h2,h3,h4,h5):=yh (.inr "it") (.int z) (cx a) u (kf Z0.hce) hkl;let ew:=MX (n:=n) (xs:=L) (k:=j) ();let hpl:=uE hP;let hrl:=hr.1;let er:=tT (n:=n) (xs:=d) (k:=k) hk () (.u^L.eraseIdx j);let hcl:=Z0.cl;have R:-(cx a)≤1000000:=by have:=hc.1;lia
  refine#[K,V,d.set k^.u^L.eraseIdx j,by rw[hm];calc PZ A hz h5,λx hx=>by rw[h5,ag];intro q;let(c,hc',e'):=bg.mp hx;let(y,_,_,_,_,_,_,_,h9,0):=Z0.hce.1 c hc';have e':y=x:=P.str.inj e';have q:("it":Str)=x:=jz q;rw[e',<- q]at h9;calc h9.2.2 (by decide +kernel),hr.set k #[aH (C2 ..) o.1,λl h=>o.2 l^C3 h],λb i S st step f r H F g t p v w hB=>#[qi (k:8),?_]]
  let(jh,jp,jl,jm,mk,mv,h):=hB.fr^Fr.app b S [.E (cx a)^u.map .p];rw[cg];have hcn:(bV^a9 d9 DJ^O^vC^.n) (SL i st (.int (hd:8)) step (.u [.int (s:8),.int (j:8)]) f r H F (qt d) (qr (-S)) g t p v w) (S++[.E (cx a)^u.map .p])=Y (W,S++[.E (cx a)^u.map .p]):=by simp[d9,eY]
  rw[hcn,aq,af rfl];refine(ak (e:=SL i st (.int (hd:8)) step (.u [.int (s:8),.int (j:8)]) f r H F (qt d) (qr (-S)) (qi (k:8)) t p v w) (c:=S++[.E (cx a)^u.map .p]) ?_).trans ?_
  .rw [az,zD,h.places rfl];simp[nV,h.pl,d8,dh,hg]
  refine(ak (e:=SL i st (.int (hd:8)) step (.u [.int (s:8),.int (j:8)]) f r H F (qt d) (qr (-S)) (qi (k:8)) t p v w) (c:=S++[.E K^V.map .p]) ?_).trans ?_
  .have e2:yO rc (vt "it") (aj (aj (aj oY nl)^aj l_ eC) eC) (SL i st (.int (hd:8)) step (.u [.int (s:8),.int (j:8)]) f r H F (qt d) (qr (-S)) (qi (k:8)) t p v w) (S++[.E (cx a)^u.map .p])=Y (.nx,SL i st (.int (hd:8)) step (.u [.int (s:8),.int (j:8)]) f r H F (qt d) (qr (-S)) (qi (k:8)) t p v w,S++[.E K^V.map .p]):=by
    simp[yO,bD T,bD Q,nW,dh,kf Z0.hce,R,e]
   unfold jO;rw[e2]
  .simp [bD T,ew,er]
def Rz{B:BD}(hP:BP B)(hL:Places B){n:9}{hd:9}{nm:Str}{N:9}{o l u p:6 P}(hF:Fam B.roads nm N o l u p)(hf:(a_ B.fams)[hd]? = Y^eK nm N o l u p){r:9}{cs ws:6 P}(hr1:r < -o)(Z0:CellsOk l cs)(hwl:-ws=-u)(hwi:∀w ∈ ws,WH B hd w){a:6 P}(hrd:ce B a){x:Str}(hx:aJ x=W){rm wh tk:P}{chg sn:6 P}{rm2:P}(C:Stp nm o l u B.roads rm wh tk chg sn rm2)(hsm:gG x rm wh tk chg sn rm2 ∈ p){y:P}(hy:(tk=.n/\y=.n)\/(tk≠.n/\LetOk B a hd y)){A:6 P}(hS:StL B A a)(hhx:A[hd]? = Y^.u [.int (r:8),.u cs,.u ws]) :
  ∃E:6 P,-E≤64/\(∀z ∈ E,Mg B hd x y z)/\∀(b i:9)(S:aK),Bd B b i S->X0 λd S'=>Ph (n+08) "step_ends" [.ref i,.p^.u [.u A,.u a],.p^.int (hd:8),.p^gG x rm wh tk chg sn rm2,.p y] S=Y (d,S')/\Fr b S S'/\rN S S' d E:=by
 let(K,V,F,he,hag,hr',eit):=RA hP (n:=n+05) hF Z0 hrd C.htk hy;let(ans,hans,ecb):=Tl (n:=n+1) hF Z0 (x:=x) C he;have hy2:(tk=.n/\y=.n)\/(tk≠.n/\X0 λ(s sp:9)=>y=.u [.int (s:8),.int (sp:8)]/\WH B hd^.int (s:8)):=by
  rcases hy with h|⟨h1,s,sp,_,_,e,hg,_⟩
  .exact .inl h
  .exact .inr #[h1,s,sp,e,.inr #[s,_,0,hg]]
 let(I,hwl',hwi',ewb):=Rh (n:=n+4) hF hwl hwi C.htk hy2;let hN:=qg hF.hce.1;have hsnd:∀c ∈ sn,isSend nm B.roads u (pc l) c/\∀v k,ba (Ph (k+4) "value_of") [gH c 1,.E K V]=Y^.int v->LH B hd^.u [gH c 0,.int v]:=fun c hc=>#[C.hsn c hc,fun v k ev=>by
  let(m,tr,way,nm2,_,_,hsum,_,0):=C.hsn c hc;let(r0,e1,e2):=Fa hN (sO Z0) hag hsum;have:v=r0:=by have:=ev.symm.trans^e2 k;exists this
  subst this;calc#[_,hf,cB.mpr #[_,hsm,cB.mpr #[_,hc,bg.mpr #[cs,Jw Z0,?_]]]];let e3:=e1 2;rwa[Sa,UM];calc cA (λz=>P.u [.str m,z]) (by show(ba (Ph 06 "value_of") [tr,.E (cx l) cs]).getD .n=_;rw[e3];rfl)]
 let(Z1,T,hW1,hW2,esd):=RB hP hL (n:=n+1) hF hf hwl' (λw h=>(hwi' w h).isI) hN (λx hx=>he x^j' _ hx) hsnd (aH C.sl #[]) hr';let step:P:=gG x rm wh tk chg sn rm2
 let t:P:=eK nm N o l u p
 have pre:∀(b i:9) (S:aK),Bd B b i S->∃q,∀g:ES,(ah (az 05<|dY (mT Tb<|Ph<|n+07) im "family_of"^Q4 mj)
   (ah (uO (bu [am 06,am 07,am 08])^aj (aj ij fR) jg)
   (ah (az 09<|O^aj ij eC)
   (ah (az 010<|d_ (Ph (n+07) "values_of")^Qr (U 05)^U 07)
   (ah (cg (bV^a9 d9 DJ^O^vC^.n) (ah (az 011<|zD (bL (aT Att) im "places")^v2 (aj l_ fR) jg)
    (ah (jO rc (vt "it")^aj (aj (aj oY nl)^aj l_ eC) eC)
    (az 09<|O^dz (Ph (n+07) "replaced")^v3 oY nl^dz (Ph (n+07) "without")^v2 (aj oY nl)^aj l_ eC))) cN) g)))))
   [qr i,qt [.u A,.u a],qi (hd:8),qp step,qp y,Z,Z,Z,Z,Z,Z,Z,Z,Z,Z,Z] S=g (SL i (.u [.u A,.u a]) (.int (hd:8)) step y t (.int (r:8)) (qt cs) (qt ws) (qt F) (qr (-S)) q Z Z Z Z) (S++[.E K^V.map .p]):=λb i S R=>by
  let ef:=xT (n:=n+05) R hf;let(q,e5):=eit b i S (.u [.u A,.u a]) step t (.int (r:8)) (qt cs) (qt ws) Z Z Z Z Z R;let(jh,jp,jl,jm,mk,mv,h):=R;calc#[q,λg=>?_];refine(ak (e:=[qr i,qt [.u A,.u a],qi (hd:8),qp step,qp y,qp t,Z,Z,Z,Z,Z,Z,Z,Z,Z,Z]) (c:=S) ?_).trans ?_
  .rw [az,h.meth rfl (Si _) SM (l:=[.p^.int (hd:8)]) ∅,ef];rfl
  rw[ak (by simp[bD hhx];calc#[0,0])];rw[ak (by simp;calc#[0,0])];refine(ak (e:=SL i (.u [.u A,.u a]) (.int (hd:8)) step y t (.int (r:8)) (qt cs) (qt ws) (qt a) (qr (-S)) Z Z Z Z Z) (c:=S++[.E (cx l)^cs.map .p]) ?_).trans ?_
  .rw [az,d_];show bw (bw (Y ([D.p t,D.p^.u cs],S)) _) _=_;rw[aq,DK (n:=n+05) hF Z0 S];rfl
  exact ak e5
 have tv:∀S:aK,toP 09 (.ref (-S)) (S++[.E K^V.map .p])=Y (.E K V,S++[.fz^.E K V]):=λS=>by have:uP (toP 08) (V.map .p) (S++[.E K^V.map .p])=Y (V,S++[.E K^V.map .p]):=m7 ..;simp[toP,this]
 rcases hans with rfl|⟨Q,hcs',rfl⟩
 .calc#[[],∅,λJ h=>(by ext h),λb i S R=>#[.p^.l [],S++[.fz^.E K V],?_,Fr.app _ _ _,.inl rfl]];let(q,ep):=pre b i S R;rw[nB];show b8^fX _ [qr i,qt [.u A,.u a],qi (hd:8),qp step,qp y,Z,Z,Z,Z,Z,Z,Z,Z,Z,Z,Z] S=_;unfold fX;rw[ep];rwa[t,step]at ecb ⊢;simp[tv,ecb,uR,eY]
 .let(j,hj,ej):=uh (xs:=o) (s:=rm2) (λz hz=>(hF.hro z hz).ok 19) C.h2;let h4:=kL hP;have hW3:∀w ∈ Z1,X0 λas X=>w=.u [.u as,.u X]:=λw hw=>by
   let(as,X,e,_):=hW2 w hw;exact#[as,X,e]
  have hhd:hd < -A:=by rw[hS.hl];exact bW hf
  let hsl:=hS.hl;let er:=tT (n:=n+05) (xs:=A) (k:=hd) hhd ()^.u [.int (j:8),.u Q,.u I];generalize hhs:A.set hd^.u [.int (j:8),.u Q,.u I]=H at er;have hp:∀X,ce B X->dA B^.u [.u H,.u X]:=λX hr=>#[_,_,0,hhs ▸ hS.put hf #[nm,N,o,l,u,p,0,j,Q,I,0,hj,hcs',hwl',hwi'] hr];refine#[Z1.map^Mw H hd x y,by simpa using hW1,λz hz=>?_,λb i S R=>?_]
  .let(w,hw,0):=bg.mp hz;let(as,X,0,_,hi,hr):=hW2 w hw;exact#[as,_,0,hi,hp X hr]
  have hfm:Z1.map^Mw H hd x y=Z1.flatMap λw=>[Mw H hd x y w]:=by rw[CI,List.map_eq_flatMap,CI]
  rw[hfm];let(h1,h3):=n8 (i:=GC B) (f:=λw=>[Mw H hd x y w]) (g:=bu [am 014,am 015]) (b:=kS<|Ph<|n+07) (Sp:=λG S=>Fr G.b G.S0 S) (r:=λG=>G.r) (c:=1) (M:=1000) (s:=Z1)
   (p:=λG L=>X1 λq q14 q15=>L=SL G.i (.u [.u A,.u a]) (.int (hd:8)) step y t (.int (r:8)) (qt Q) (qt I) (qt F) (qr (-G.S0)) q (qt H) (qr G.r) q14 q15) (λw hw=>by let(as,X,0):=hW3 w hw;calc#[∅,λG L S acc hLp fr hS' hM=>?_];let(q,q14,q15,0):=hLp;calc#[SL G.i (.u [.u A,.u a]) (.int (hd:8)) step y t (.int (r:8)) (qt Q) (qt I) (qt F) (qr (-G.S0)) q (qt H) (qr G.r) (qt as)^qt X,_,_,0,kq rfl hS' (y:=.u [.u [.str "step",.int (hd:8),.str x,y,.u as],.u [.u H,.u X]]) ?_ hS' (),#[_,_,_,0],fr.set G.le G.hr _,gB hS'];simp[step])
  let(q,ep):=pre b i S R;let frA:=Fr.app b S [.fz^.E K V,.l []];have hk0:(S++[SO.fz^.E K V,.l []])[-S]? = Y (.fz^.E K V):=by simp
  have hk1:(S++[SO.fz^.E K V,.l []])[-S+1]? = Y^.l []:=by simp
  let(d1,S1,e1,fr1,an1):=esd b i (S++[.fz^.E K V,.l []]) S.length (R.fr frA) R.le hk0;have hb1:b≤-(S++[SO.fz^.E K V,.l []]):=aH R.le ∅;let(S2,e2,fr2):=nE (b:=b) (g:=Ph (n+07) "sendings") (q:=VZ im mj (O^aj ik xg) rc (U 09)^U 08) (L:=SL i (.u [.u A,.u a]) (.int (hd:8)) step y t (.int (r:8)) (qt Q) (qt I) (qt F) (qr (-S)) q (qt H) (qr<|-S+1) Z Z) (S:=S++[.fz^.E K V,.l []]) (l:=[.ref i,.p^.int (hd:8),.p^.l sn,.ref (-S),.p^.u F,.p^.u I]) (by simp[step,Ry]) e1 fr1 hb1 an1;let(L',S',e3,hL',fr3,h5):=h3 #[b,i,S,-S+1,R,()] _ S2 [] #[q,Z,Z,0] (frA.trans fr2) (fr2.hi _ _ (aH R.le ()) hk1) (by simp;lia);let(q11',q14',q15',0):=hL';calc#[.ref<|-S+1,S',?_,fr3,.inr #[-S+1,(),0,.inl h5]];rw[nB];show b8^fX _ [qr i,qt [.u A,.u a],qi (hd:8),qp step,qp y,Z,Z,Z,Z,Z,Z,Z,Z,Z,Z,Z] S=_;unfold fX;rw[ep];rw[ak (by simp[tv,t,step,ecb];calc#[0,0])];rw[ak (by simp[uR,eY];calc#[0,0])];rw[ak (by simp[t,step,vk,ewb];calc#[0,0])];rw[ak (by simp[t,step,Hn,QB,ej,er];calc#[0,0])];rw[ak (by simp;calc#[0,0])];rw[ak (by rw[bR,d4,e2];calc e3)];rfl
def okE(B:BD)(z:P):5:=X0 λd e=>z=.u [d,e]/\cX 3 d=W/\dA B e
def Mg.okE(h:Mg B k x y z)(b:aJ x=W)(c:y=.n\/Ss y):okE B z:=by
 let(s,e,0,i,f):=h;calc#[_,_,0,?_,f];have o:cX 2 y=W:=by rcases c with e|⟨_,_,e⟩<;>rw[e]<;>simp
 have m:cX 2 (.u s)=W:=bc.mpr λa n=>(i a n).ok 1;show(List.all [P.str "step",.int (k:8),.str x,y,.u s]^cX 2)=W;rwa[cU,List.all_nil,o,m,LO,D8,b,sE];decide +kernel
def SD{B:BD}(hP:BP B)(hL:Places B){n:9}(hn:n=1){hd:9}{nm:Str}{l:9}{o e v t:6 P}(hF:Fam B.roads nm l o e v t)(hf:(a_ B.fams)[hd]? = Y^eK nm l o e v t){r:9}{cs ws:6 P}(hr1:r < -o)(hcs:CellsOk e cs)(hwl:-ws=-v)(hwi:∀w ∈ ws,WH B hd w){p:6 P}(hrd:ce B p){X:6 P}(hS:StL B X p)(hhx:X[hd]? = Y^.u [.int (r:8),.u cs,.u ws]) :
  ∃E:6 P,-E≤6144/\(∀z ∈ E,okE B z)/\∀(b i:9)(S:aK),Bd B b i S->X0 λd Z0=>Ph (n+012) "hand_ends" [.ref i,.p^.u [.u X,.u p],.p^.int (hd:8)] S=Y (d,Z0)/\Fr b S Z0/\rN S Z0 d E:=by
 let ev:=vg (n:=n+09) hF hcs;let henv:=sO hcs;have hrg:o[r]? = Y o[r]:=bt hr1;let(rn,hrn,hre):=hF.hro o[r]^gW _;rw[hre]at hrg;let u:9->9->7 D->7 D->Lc:=λi r' q9 a=>[qr i,qt [.u X,.u p],qi (hd:8),qp^eK nm l o e v t,qi (r:8),qt cs,qt ws,qp^.E (cx e) cs,qr r',q9,a]
 let(F,h1,hR,h3):=eZ (t:=GC B) (g:=am 09) (b:=fJ<|Ph<|n+011) (Sp:=fun G S=>Fr G.b G.S0 S) (r:=fun G=>G.r) (R:=fun _ ys=>∀z ∈ ys,okE B z) (c:=768) (M:=10000) (s:=t) (p:=fun G L=>X0 fun q9 a=>L=u G.i G.r q9 a) (fun x hx=>by
  let(I,j,T,N,k,Q,m,hsx,Z1,0):=hF.hst x hx;let(j,hrm,0):=hF.hro j Z1.h1;let(hb,eh):=IY (qg hF.hce.1) henv Z1.wh (n:=n+2);have C:∀(i r':9)(a:7 D)(S:aK),(iL (cq (O^aj oY eC)^O^aj (aj ik iu) l_)^bT^O^dz (Ph (n+011) "holds")^v2 (aj oY iu) oZ) (u i r' (qp^gG I (.str j) T N k Q m) a) S=Y (decide (j=rn) && hb,S):=λi r' a S=>by by_cases q:j=rn<;>simp[u,QB,bD hrg,q,eh]
  cases hc:(decide (j=rn) && hb) with
  |false=>calc#[[],∅,λW h=>(by ext h),λG L S acc A V H hM=>?_];let(q9,a,0):=A;calc#[u G.i G.r (qp^gG I (.str j) T N k Q m) a,u G.i G.r (qp^gG I (.str j) T N k Q m) a,S,0,?_,#[_,_,0],V,by exists H];unfold fJ;rw[cg,C,hc];rfl
  |true=>
   let(ls,hl1,hl2,el):=K3 hP hL (n:=n+07) hf hrd Z1.htk;let(f,k1,kR,k3):=eZ (t:=GC B) (g:=am 010) (b:=kZ<|Ph<|n+011) (Sp:=λG S=>Fr G.b G.S0 S) (r:=λG=>G.r) (R:=λy zs=>∀z ∈ zs,Mg B hd I y z) (c:=64) (M:=10000) (s:=ls) (p:=λG L=>∃a,L=u G.i G.r (qp^gG I (.str j) T N k Q m) a) (λy hy=>by let(E,hE,hE2,h):=Rz hP hL (n:=n+3) hF hf hr1 hcs hwl hwi hrd hsx Z1 hx (hl2 y hy) hS hhx;calc#[E,hE,hE2,λG L S acc A V H hM=>?_];let(a,0):=A;let(d,S1,e1,fr1,an):=h G.b G.i S^G.bd.fr V;let(S2,e2,K):=nE (b:=G.b) (g:=Ph (n+011) "step_ends") (q:=NL im lz mj (U 09) rc) (L:=u G.i G.r (qp^gG I (.str j) T N k Q m)^qp y) (S:=S) (l:=[.ref G.i,.p^.u [.u X,.u p],.p^.int (hd:8),.p^gG I (.str j) T N k Q m,.p y]) rfl e1 fr1 (aH G.le V.len) an;let hS2:=K.hi _ _ (aH G.le G.hr) H;calc#[u G.i G.r (qp^gG I (.str j) T N k Q m)^qp y,_,_,0,pj rfl H e2 hS2 (),#[_,0],(V.trans K).set G.le G.hr _,gB hS2])
   refine#[ls.flatMap f,(),λz hz=>?_,λG L S acc A V H hM=>?_]
   .let(y,hy,hz):=cB.mp hz;calc(kR y hy z hz).okE hsx ?_;rcases hl2 y hy with h|⟨_,s,sp,_,_,h,_⟩
    .exact .inl h.2
    .exact .inr #[s,sp,h]
   .let(q9,a,0):=A;let(d,S1,e1,fr1,an):=el G.b G.i S^G.bd.fr V;let(S2,e2,K):=nE (b:=G.b) (g:=Ph (n+011) "takeable") (q:=V0 im (O^aj ij eC) mj^O^aj oY jH) (L:=u G.i G.r (qp^gG I (.str j) T N k Q m) a) (S:=S) (l:=[.ref G.i,.p^.u p,.p^.int (hd:8),.p N]) (by simp[u,vk]) e1 fr1 (aH G.le V.len) an;let(L',Z0,e3,(q10',0),fr3,h5):=k3 G _ S2 acc #[a,0] (V.trans K) (K.hi _ _ (aH G.le G.hr) H) ();calc#[u G.i G.r (qp^gG I (.str j) T N k Q m) a,u G.i G.r (qp^gG I (.str j) T N k Q m) q10',Z0,0,?_,#[_,_,0],fr3,h5];unfold fJ;rw[cg,C,hc];show bR _ _ _ _ _=_;rw[bR,d4,e2];calc e3)
 let hsl:=hF.sl;refine#[t.flatMap F,(),λz hz=>?_,λb i S hB=>?_]
 .let(s,X,hz):=cB.mp hz;exact hR s X z hz
 let(L',Z0,e3,(q9,a,0),fr3,h5):=h3 #[b,i,S,-S,hB,ar _] (u i S.length Z Z) (S++[.l []]) [] #[Z,Z,0] (Fr.app _ _ _) (dJ _ _) (by simp;lia);calc#[.ref (-S),Z0,?_,fr3,.inr #[-S,ar _,0,.inl h5]];let ef:=xT (n:=n+09) hB hf;let(jh,jp,jl,jm,mk,mv,h):=hB;rw[Ph (n+012) "hand_ends"=np 3 011 (i9<|Ph<|n+011)|>by subst hn;calc u4];show b8^i9 _ [qr i,qt [.u X,.u p],qi (hd:8),Z,Z,Z,Z,Z,Z,Z,Z] S=_;unfold i9;rw[ak (e:=[qr i,qt [.u X,.u p],qi (hd:8),qp^eK nm l o e v t,Z,Z,Z,Z,Z,Z,Z]) (c:=S) (by rw[az,h.meth rfl (Si _) SM (l:=[.p^.int (hd:8)]) ∅,ef];rfl)];rw[ak (by simp[bD hhx];calc#[0,0])];rw[ak (by simp[ev];calc#[0,0])];rw[ak (by simp[u];calc#[0,0])];rw[ak (by rw[bR,d4,(aj ik xg) (u i S.length Z Z) (S++[.l []])=Y (.l t,S++[.l []])|>by simp[u,T1]];calc e3)];rfl
theorem KP{k:Str}{x:6 P}{i:9}(h:i ∈ Fd k x):i < -x:=iO.mp (f8.mp h).1
theorem KQ{k:Str}{x:6 P}:-(Fd k x)≤-x:=aH (iU ..) ∅
def Nj{B:BD}(hP:BP B){n:9}(hn:n=08){w:Str}(hw:w="lose"\/w="double"){Z1 u:6 P}(hS:StL B Z1 u) :
  ∃E:6 P,-E≤6144/\(∀z ∈ E,okE B z)/\∀(b i:9)(S:aK),Bd B b i S->X0 λd N=>Ph (n+05) "flaw_ends" [.ref i,.p^.u [.u Z1,.u u],.p^.str w] S=Y (d,N)/\Fr b S N/\rN S N d E:=by
 have how:aJ w=W:=by rcases hw with rfl|rfl<;>simp
 let hpl:=uE hP;let hrl:=hS.hr.1;let m:9->9->7 D->7 D->7 D->7 D->7 D->7 D->7 D->7 D->Lc:=λi r' X Z0 H K A C s e=>[qr i,qt [.u Z1,.u u],qs w,qr r',X,Z0,H,K,A,C,s,e]
 let(F,h1,hR,h3):=eZ (t:=GC B) (R:=fun _ ys=>∀z ∈ ys,okE B z) (g:=bu [am 4,am 05]) (b:=fK<|Ph<|n+4) (Sp:=fun G S=>Fr G.b G.S0 S) (r:=fun G=>G.r) (c:=3) (M:=10000) (s:=cy 0 B.PR) (p:=fun G L=>X5 fun X Z0 H K A C s e=>L=m G.i G.r X Z0 H K A C s e) (fun x hx=>by
  let(k,hk,hxe):=iT.mp hx;let(p,hp,0):=kN (s:=B.PR) (i:=k) (v:=x) (by rw[bt hk,hxe]);let(road,hro,a,c,0):=qI^bq hp;let(hkl,l,V,hkr):=hS.hr.at hp;let o:=hP.hr road hro;obtain⟨kd,hkd⟩:∃kd:Str,bA road^.int 2=Y^.str kd:=by let(ra,rb,kd,c,d1,d2,_,_,_,_,_,0):=o;exact#[kd,∅]
  let(hfb,ef):=SA (n:=n+2) hw o l;let eu:=MY (n:=n+2) kd V;let hul:=KQ (k:=kd) (x:=l);generalize Mi w road l=fb at hfb ef;let hls3:=V.1;have pre:∀(i r':9)(H K A C s e:7 D)(S:aK)(g:ES),ah (uO (bu [am 06,am 07,am 08]) sL) (ah (az 09<|O^aj (aj ij eC) l_) g) (m i r' (qi (k:8)) (qp^pr road a c) H K A C s e) S=g (m i r' (qi (k:8)) (qp^pr road a c) (qp road) (qi (a:8)) (qi (c:8)) (qt l) s e) S:=λi r' H K A C s e S g=>by
   rw [ak (by simp [m,pr];calc#[0,0]),
    ak (by simp[m,bD hkr];calc#[0,0])]
   rfl
  cases fb with
  |false=>calc#[[],∅,λU h=>(by ext h),λG L S Q j fr t hM=>?_];let(X,Z0,H,K,A,C,s,e,0):=j;calc#[m G.i G.r (qi (k:8)) (qp^pr road a c) H K A C s e,m G.i G.r (qi (k:8)) (qp^pr road a c) (qp road) (qi (a:8)) (qi (c:8)) (qt l) s e,S,0,?_,#[_,_,_,_,_,_,_,_,0],fr,by exists t];unfold fK;rw[pre];simp[m,ef]
  |true=>
   let(f,k1,kR,k3):=eZ (t:=GC B) (R:=λU zs=>∀z ∈ zs,okE B z) (g:=am 010) (b:=iJ<|Ph<|n+4) (Sp:=λG S=>Fr G.b G.S0 S) (r:=λG=>G.r) (c:=1) (M:=10000) (s:=bX^Fd kd l) (p:=λG L=>X0 λs e=>L=m G.i G.r (qi (k:8)) (qp^pr road a c) (qp road) (qi (a:8)) (qi (c:8)) (qt l) s e) (λy hy=>by let(sp,hsp',0):=bg.mp hy;let hsp:=KP hsp';let(I,ez):=SR (n:=n+1) hw V (λq=>hfb q rfl) hsp;let er:=tT (n:=n+2) (xs:=u) (k:=k) hkl () (.u^SQ w l sp);generalize SQ w l sp=zs at I ez er;calc#[[.u [.u [.str w,.int (a:8),.int (c:8),.int (sp:8)],.u [.u Z1,.u^u.set k^.u zs]]],∅,λz hz'=>#[_,_,cJ.mp hz',by simp[how],Z1,_,0,hS.hl,hS.hh,hS.hr.set k I],λG L S Q j fr t hM=>?_];let(s,e,0):=j;calc#[m G.i G.r (qi (k:8)) (qp^pr road a c) (qp road) (qi (a:8)) (qi (c:8)) (qt l) (qi (sp:8)) e,m G.i G.r (qi (k:8)) (qp^pr road a c) (qp road) (qi (a:8)) (qi (c:8)) (qt l) (qi (sp:8))^qt^u.set k^.u zs,_,0,?_,#[_,_,0],fr.set G.le G.hr _,gB t];unfold iJ;calc(ak (by simp[m,ez,er])).trans^kq rfl t ?_ t ();simp[m])
   have hnl:-(bX^Fd kd l)=-(Fd kd l):=by simp[bX]
   rw[hnl]at k1 k3;refine#[_,aH k1 (),λz I=>?_,λG L S Q j fr t hM=>?_]
   .let(y,hy,I):=cB.mp I;exact kR y hy z I
   let(X,Z0,H,K,A,C,s,e,0):=j;let(L',N,e3,(q10',q11',0),T,h5):=k3 G _ S Q #[s,e,0] fr t ();calc#[m G.i G.r (qi (k:8)) (qp^pr road a c) H K A C s e,m G.i G.r (qi (k:8)) (qp^pr road a c) (qp road) (qi (a:8)) (qi (c:8)) (qt l) q10' q11',N,0,?_,#[_,_,_,_,_,_,_,_,0],T,h5];unfold fK;rw[pre];rwa[m]at e3;simp[m,ef,hkd,eu,e3])
 rw[fB]at h1 h3;refine#[(cy 0 B.PR).flatMap F,(),λz I=>?_,λb i S hB=>?_]
 .let(v,hv,I):=cB.mp I;exact hR v hv z I
 let frA:=Fr.app b S [.l []];let(jh,jp,jl,jm,mk,mv,h):=hB.fr frA;let frB:=frA.trans^Fr.frz h.bp h.pr;let hb:=hB.le;let hjp:=h.bp;let(L',N,e3,(X,Z0,H,K,A,C,s,e,0),T,h5):=h3 #[b,i,S,-S,hB,ar _] (m i S.length Z Z Z Z Z Z Z Z) ((S++[SO.l []]).set jp^.fz^.l B.PR) [] #[Z,Z,Z,Z,Z,Z,Z,Z,0] frB (by rw[aV ()];calc dJ _ _) (by simp;lia);calc#[.ref (-S),N,?_,T,.inr #[-S,ar _,0,.inl h5]];rw[Ph (n+05) "flaw_ends"=np 3 012 (i_<|Ph<|n+4)|>by subst hn;calc u5];show b8^i_ _ [qr i,qt [.u Z1,.u u],qs w,Z,Z,Z,Z,Z,Z,Z,Z,Z] S=_;unfold i_;rw[ak (by simp[m];calc#[0,0])];rw[ak (by rw[bR,lG,vE,h.pairs rfl,aq,h.pr.frz];calc e3)];rfl
end My
namespace My
open PySem L2 Ev
theorem EF:∀{s:6 cD}{h:6 D},c9 k s h=cC k s h
 | [],_=>by cases ‹6 D›<;>rfl
 |_::_,[]=>rfl
 |x::s,v::h=>by
  show(if x=k then Y v else c9 k s h)=if x=k then Y v else cC k s h
  rw[EF]
def Ms{n c:9}{a:6 P}{S:aK}{d x e:D}(h:S[c]? = Y^.B "Board" fields [.p^.l a,.ref<|c+1,d,x,e])(t:S[c+1]? = Y (.l^(homes a).map .p)){k:9}{f:P}(q:(a_ a)[k]? = Y f):Ph (n+2) "Board.family_of" [.ref c,.p^.int (k:8)] S=Y (.p f,S):=by
 let(p,s,b):=qu q;have m:nc (bL (aT Att) (U 0) "homes") (vE^U 1) [Y^.ref c,Y^.p^.int (k:8)] S=Y (.p^.int (p:8),S):=k8.ix (j:=c+1) (.inl t) (by simp[h,nu,L5]) rfl^bD s;have r:bL (aT Att) (U 0) "families" [Y^.ref c,Y^.p^.int (k:8)] S=Y (.p^.l a,S):=by simp[h,nu,L5]
 rw[jx];show b8^aD _ [Y^.ref c,Y^.p^.int (k:8)] S=_;rw[aD,nc,r,aq,vE,m];simp[bD b]
def kl(N:LS)(t:9)(s:Str):6 9:=(List.range t).filter λi=>decide<|N[i]? = Y s
def lJ(N:LS)(t:9)(s:Str):kl N (t+1) s=if N[t]? = Y s then kl N t s++[t] else kl N t s:=by
 unfold kl;rw[List.range_succ,List.filter_append];by_cases h:N[t]? = Y s
 .rw [af h,wZ (by exists h)];rfl
 .rw [ag h,wY (by exists h)];simp
def Bo(a:t≤-N)(h:s ∉ N.take t):kl N t s=[]:=by
 unfold kl;refine CY.mpr λi x q=>h ?_
 have x:i < t:=iO.mp x;let e:=aS q;rw[<- iW x]at e;calc bq e
def y0(T X:aK)(k:9):(T++X)[-T+k]? = X[k]?:=by rw[bZ^oO _ _,CC]
theorem y1(T X:aK)(x:SO):(T++x::X)[-T]? = Y x:=y0 T (x::X) 0
def O_(T X:aK)(k:9)(o:SO):(T++X).set (-T+k) o=T++X.set k o:=by rw[CW _ _^oO _ _,CC]
theorem D_(T X:aK)(x o:SO):(T++x::X).set T.length o=T++o::X:=O_ T (x::X) 0 o
structure MI(T:aK)(fams:6 P)(o2 o3:SO)(t:9)(mk:6 cD)(mv:6 D)(S:aK):5 where
 h0:S[-T]? = Y (.B "Board" fields [.p^.l fams,.ref<|-T+1,.ref<|-T+2,.ref<|-T+3,.ref<|-T+4])
 h1:S[-T+1]? = Y (.l^(homes fams).map .p)
 h2:S[-T+2]? = Y o2
 h3:S[-T+3]? = Y o3
 h4:S[-T+4]? = Y (.E mk mv)
 nd:mk.Nodup
 ln:-mk=-mv
 le:-mk≤t
 yes:∀s ∈ (aM fams).take t,∃j,c9 (.inr s) mk mv=Y^.ref j/\-T+05≤j/\S[j]? = Y (.l^(bX^kl (aM fams) t s).map .p)
 no:∀s,s ∉ (aM fams).take t->c9 (.inr s) mk mv=Z
 lo:∀k,k < -T->S[k]? = T[k]?
 inj:∀s s' j,c9 (.inr s) mk mv=Y^.ref j->c9 (.inr s') mk mv=Y^.ref j->s=s'
noncomputable abbrev ML(T:aK)(p:P)(q h x:7 D):Lc:=[Y^.ref (-T),Y^.p p,q,h,x]
set_option tactic.hygienic true in
def LX{T:aK}{a:6 P}{o2 o3:SO}{t:9}{mk:6 cD}{m:6 D}{S:aK}(h:MI T a o2 o3 t mk m S){n:9}(ht:t≤100){rs:6 P}(L:∀f ∈ a,isFam rs f){f:P}(I:(a_ a)[t]? = Y f)(l:P)(v d:7 D) :
  X1 λR V S'=>MI T a o2 o3 (t+1) R V S'/\cZ (Ph<|n+2) (ML T l v d^Y^.p^.int (t:8)) S=Y (.nx,(ML T l v d^Y^.p^.int (t:8)),S'):=by
 have N:(aM a)[t]? = Y^br f:=by unfold aM;rw[cm,I];rfl
 have htl:t < -(aM a):=bW N;let ef:=Ms (n:=n) h.h0 h.h1 I;have em:dY (mT Tb<|Ph<|n+2) (U 0) "family_of" (aB (U 4) b_) (ML T l v d^Y^.p^.int (t:8)) S=Y (.p f,S):=by rw[dY];show bw (Y (D.ref (-T),S)) _=_;rw[aq];rwa[h.h0,Si,SM];exact ef
 have ek:(aY bA (vE^dY (mT Tb<|Ph<|n+2) (U 0) "family_of"^aB (U 4) b_)^vC^.int 0) (ML T l v d^Y^.p^.int (t:8)) S=Y (.str^br f,S):=by let(nm,c,Z1,G,whos,X,_,0):=jV L^bq I;rw[aY,vE,em];simp[br]
 have eo:bL (aT Att) (U 0) "members" (ML T l v d^Y^.p^.int (t:8)) S=Y (.ref<|-T+4,S):=by simp[h.h0,nu,L5]
 have l5:-T+4 < -S:=bW h.h4;have C:(aM a).take (t+1)=(aM a).take t++[br f]:=by rw[List.take_add_one,N];rfl
 have p:∀k,k < -S->(S++[SO.l []])[k]? = S[k]?:=λk hk=>cG hk;have u:nW (.ref<|-T+4) S=Y (-T+4,mk,m):=by simp[nW,h.h4]
 have o:nW (.ref<|-T+4) (S++[.l []])=Y (-T+4,mk,m):=by simp[nW,p (-T+4) l5,h.h4]
 have A:(mk.Nodup/\few mk=W):=#[h.nd,by rw[kB];have:=h.le;lia];by_cases hs:br f ∈ (aM a).take t
 .let(j,F,hj,e2):=h.yes _ hs;have M:j < -S:=bW e2;have K:(S++[SO.l []])[j]? = Y (.l^(bX^kl (aM a) t^br f).map .p):=by rw[p j M];exact e2
  have B:-(bX^kl (aM a) t^br f)≤1000000:=by have:=iU (λi=>decide<|(aM a)[i]? = Y^br f)^List.range t;simp[bX,kl];simp at this;lia
  refine#[mk,m,(S++[SO.l []]).set j^.l^(bX^kl (aM a) (t+1)^br f).map .p,?_,?_]
  .have e:∀k,k < -S->k≠j->((S++[SO.l []]).set j^.l^(bX^kl (aM a) (t+1)^br f).map .p)[k]? = S[k]?:=λk hk q=>by rw[aV (λz=>q z.symm),p k hk]
   refine#[by rw[e T.length () ()];calc h.h0,by rw[e (-T+1) () ()];calc h.h1,by rw[e (-T+2) () ()];calc h.h2,by rw[e (-T+3) () ()];calc h.h3,by rw[e (-T+4) () ()];calc h.h4,h.nd,h.ln,by have:=h.le;lia,λs x=>?_,λs x=>?_,λk hk=>by rw[e k () ()];calc h.lo k hk,h.inj]
   .by_cases q:s=br f
    .subst q;exact#[j,F,hj,by rw[bY (by simp;lia)]]
    .have g:s ∈ (aM a).take t:=by
      rw[C]at x;rcases cj.mp x with z|z
      .exact z
      .exact absurd (cJ.mp z) q
     let(y,b,r,H):=h.yes s g;have Q:y≠j:=λz=>q^h.inj s (br f) j (z ▸ b) F;calc#[y,b,r,?_];rw[e y (bW H) Q,lJ,ag λz=>q (by rw[N]at z;ext z;rfl)];exact H
   .exact h.no s λz=>x (by rw[C];calc j' _ z)
  .unfold cZ;rw[cE,b0,pE,eo,aq];rwa[u,ek,aq];rw[dI ao (ML T l v d^Y^.p^.int (t:8)) S=Y (.ref (-S),S++[.l []])|>by simp];rwa[aq,o,dh,af A,F,gC,K];rw[U 4 (ML T l v d^Y^.p^.int (t:8)) (S++[SO.l []])=Y (.p^.int (t:8),S++[.l []])|>rfl,aq];rwa[K];rw[af (by rw[kB,aU];calc B),lJ,af N];simp[bX]
 .let F:=h.no _ hs;let(g1,g2,g3,g4,E):=na (.inr^br f:cD) (.ref (-S)) mk m h.nd h.ln;have c0:kl (aM a) t^br f=[]:=Bo () hs;refine#[(d5 (Sum.inr^br f:cD) (.ref (-S)) mk m).1,(d5 (Sum.inr^br f:cD) (.ref (-S)) mk m).2,((S++[SO.l []]).set (-T+4)^SO.E (d5 (Sum.inr^br f:cD) (.ref (-S)) mk m).1 (d5 (Sum.inr^br f:cD) (.ref (-S)) mk m).2).set (-S)^.l [.p^.int (t:8)],?_,?_]
  .have e:∀k,k < -S->k≠-T+4->(((S++[SO.l []]).set (-T+4)^.E (d5 (.inr^br f) (.ref (-S)) mk m).1 (d5 (.inr^br f) (.ref (-S)) mk m).2).set (-S)^.l [.p^.int (t:8)])[k]? = S[k]?:=λk hk q=>by rw[aV (),aV (λz=>q z.symm),p k hk]
   refine#[by rw[e T.length () ()];calc h.h0,by rw[e (-T+1) () ()];calc h.h1,by rw[e (-T+2) () ()];calc h.h2,by rw[e (-T+3) () ()];calc h.h3,by rw[aV (),bY (by simp;lia)],g1,g2,by have:=h.le;lia,λs x=>?_,λs x=>?_,λk hk=>by rw[e k () ()];calc h.lo k hk,λs s' j b r=>?_]
   .by_cases q:s=br f
    .subst q;calc#[-S,by rw[E,af rfl],(),?_];rw[bY ∅,lJ,af N,c0];rfl
    .have g:s ∈ (aM a).take t:=by
      rw[C]at x;rcases cj.mp x with z|z
      .exact z
      .exact absurd (cJ.mp z) q
     let(y,b,r,H):=h.yes s g;calc#[y,by rw[E,ag λz=>q (jz z).symm];calc b,r,?_];rw[e y (bW H) (),lJ,ag λz=>q (by rw[N]at z;ext z;rfl)];exact H
   .rw [E,ag λz=>x (by rw[C,<- jz z];simp)];exact h.no s λz=>x (by rw[C];calc j' _ z)
   .have low:∀s j,c9 (.inr s) mk m=Y^.ref j->j < -S:=λs j q=>by
     by_cases w:s ∈ (aM a).take t
     .let(y,b,_,H):=h.yes s w;rw[q]at b;ext b;exact bW H
     .rw [h.no s w]at q;ext q
    rw[E]at b r;split at b
    .rename_i z1;ext b;split at r
     .rename_i z2;exact(jz z1).symm.trans^jz z2
     .exact absurd (low _ _ r) ()
    .split at r
     .ext r;exact absurd (low _ _ b) ()
     .exact h.inj s s' j b r
  .have l1:((S++[SO.l []]).set (-T+4)^.E (d5 (.inr^br f) (.ref (-S)) mk m).1 (d5 (.inr^br f) (.ref (-S)) mk m).2)[-S]? = Y^.l []:=by
    rw[aV ()];exact dJ _ _
   unfold cZ;rw[cE,b0,pE,eo,aq];rwa[u,ek,aq];rw[dI ao (ML T l v d^Y^.p^.int (t:8)) S=Y (.ref (-S),S++[.l []])|>by simp];rwa[aq,o,dh,af A,F,gC,l1];rw[show ∀Z0:aK,U 4 (ML T l v d^Y^.p^.int (t:8)) Z0=Y (.p^.int (t:8),Z0) from λZ=>rfl,aq];rwa[l1];rfl
def LY(r:∀f ∈ a,isFam A f)(H:-(a_ a)≤100)(p:P)(s c:7 D)(h:MI T a o u 0 [] [] S) :
  X2 λmk m x q=>MI T a o u (a_ a).length mk m x/\bv (am 4) (cZ<|Ph<|n+2) (intsFrom 0 (-(a_ a))) [Y^.ref (-T),Y^.p p,s,c,Z] S=Y (.nx,[Y^.ref (-T),Y^.p p,s,c,q],x):=by
 let(z,x,e,mk,m,q,I,0):=dX (g:=am 4) (b:=cZ<|Ph<|n+2) (Inv:=λt L S=>X1 λmk m q=>MI T a o u t mk m S/\L=[Y^.ref (-T),Y^.p p,s,c,q]) (s:=intsFrom 0 (-(a_ a))) (k:=0) (L:=[Y^.ref (-T),Y^.p p,s,c,Z]) (S:=S) (λi v L S y I=>by let(0,l):=ints_get y;let(mk,m,q,I,0):=I;rwa[db];rw[gN]at I ⊢;let(d,w,x,j,e):=LX I (n:=n) () r (bt l) p s c;calc#[_,_,x,0,e,d,w,_,j,0]) #[[],[],Z,h,0]
 rw[dq,gN]at I;calc#[mk,m,x,q,I,e]
def uA(e:Pln f o w)(T:aK):∃S,Ph (n+4) "Board.__init__" [.ref (-T),.p^.u [.l f,.l o,.l w]] (T++[.B "Board" [] []])=Y (.p .n,S)/\Bd (pf f o w) S.length T.length S/\∀k,k < -T->S[k]? = T[k]?:=by
 let l:P:=.u [.l f,.l o,.l w]
 let R:_:=bM (aM f) o
 have C:-R≤2048:=uE (B:=pf f o w) e;let L:=kL e;let q:=qo (s:=f);let(u,g,m):=Nt (K:=Ph<|n+3) l (.p^.l f) (.ref<|-T+1) (.ref<|-T+2) (i:=-T) (j:=-T+3) () R 0 ([],[]) Vw (by simp;lia) (λp A=>by let(r,_,a,b,0):=qI (B:=pf f o w) A;calc#[r,a,b,0]) Z Z (T++[.B "Board" ["families","homes","pairs","places"] [.p^.l f,.ref<|-T+1,.ref<|-T+2,.ref<|-T+3],.l^(homes f).map .p,.fz^.l R,.q [] []]) (y1 _ _ _)^y0 _ _ 3
 rw[((0:9):8)=0|>rfl,O_]at m;generalize d:putAll 0 R ([],[])=v at m;let c:aK:=T++[.B "Board" ["families","homes","pairs","places"] [.p^.l f,.ref<|-T+1,.ref<|-T+2,.ref<|-T+3],.l^(homes f).map .p,.l^R.map .p,.q [] []]
 let x:aK:=T++[.B "Board" fields [.p^.l f,.ref<|-T+1,.ref<|-T+2,.ref<|-T+3,.ref<|-T+4],.l^(homes f).map .p,.fz^.l R,.q v.1 v.2,.E [] []]
 have I:MI T f (.fz^.l R) (.q v.1 v.2) 0 [] [] x:=
  #[y1 _ _ _,y0 _ _ 1,y0 _ _ 2,y0 _ _ 3,y0 _ _ 4,∅,0,∅,λs h=>(by simp at h),λs X=>rfl,λk hk=>cG hk,λs V j h=>(by ext h)]
 let(mk,z,S,Q,M,H):=LY (n:=n+1) e.hf () l u g I;have t:Bat (pf f o w) S.length T.length (-T+1) (-T+2) (-T+3) (-T+4) mk z S:=by
  refine#[M.h0,.inl M.h1,.inr M.h2,?_,M.h4,λs hs=>?_,bW M.h0,bW M.h1,bW M.h2,bW M.h3,bW M.h4,ar _]
  .have:=M.h3;rw[<- d]at this;exact this
  .have N:-(aM f)=-(a_ f):=by simp[aM]
   let(j,G,_,y):=M.yes s (by rw[<- N,oR];calc hs);calc#[j,bW y,by rw[<- EF];calc G,.inl ?_];have:kl (aM f) (a_ f).length s=aZ (pf f o w).N s:=by rw[<- N];rfl
   rw[<- this];exact y
 calc#[S,?_,#[_,_,_,_,mk,z,t],M.lo];let F:=Nl (n:=n+1) e.hf e.f0.2 (.l o)^.l w;let K:=M6 (n:=n) e;rw[uu];show b8 (j1 _ [Y^.ref (-T),Y^.p l,Z,Z,Z]<|T++[.B "Board" [] []])=_;unfold j1;rw[ak (e:=[Y^.ref (-T),Y^.p l,Z,Z,Z]) (c:=T++[.B "Board" ["families"] [.p^.l f]]) (by simp[l,nu,Ev.putK,Ev.nS])];rw[ak (e:=[Y^.ref (-T),Y^.p l,Z,Z,Z]) (c:=T++[.B "Board" ["families","homes"] [.p^.l f,.ref<|-T+1],.l^(homes f).map .p]) (by simp[l,nu,Ev.putK,Ev.nS,F,y1,D_])];rw[ak (e:=[Y^.ref (-T),Y^.p l,Z,Z,Z]) (c:=T++[.B "Board" ["families","homes","pairs"] [.p^.l f,.ref<|-T+1,.ref<|-T+2],.l^(homes f).map .p,.l^R.map .p]) (by simp[l,nu,Ev.putK,Ev.nS,K,R,y1,D_])];rw[ak (e:=[Y^.ref (-T),Y^.p l,Z,Z,Z]) (c:=c) (by simp[c,nu,Ev.putK,Ev.nS,y1,D_])];rw[ak (by rw[bR,lG,vE];rw[bL (aT Att) (U 0) "pairs" [Y^D.ref (-T),Y^.p l,Z,Z,Z] c=Y (.ref<|-T+2,c)|>by simp[c,nu,gI,y1],aq,dw^y0 _ _ 2,O_];calc m)]
 rw[ak (e:=[Y^.ref (-T),Y^.p l,u,g,Z]) (c:=x) (by simp[x,nu,Ev.putK,Ev.nS,nC,fields,y1,D_])];have E:-(homes f) < 1000000:=by lia
 rw[bR,jE (dF^bL (aT Att) (U 0) "homes") [Y^D.ref (-T),Y^.p l,u,g,Z] x=Y (intsFrom 0 (-(homes f)),x)|>by simp[x,nu,L5,dj,E,y1,y0],aq,q];rw[H];rfl
variable{B:BD}{hs:6 P}{rds:6 P}
def StL.at(S:StL B hs rds)(hk:k < -(a_ B.fams)):X0 λf x=>(a_ B.fams)[k]? = Y f/\hs[k]? = Y x/\HandOk B k f x:=by let h:=bt hk;have a:hs[k]? = Y (hs[k]'(by rw[S.hl];calc hk)):=bt _;calc#[_,_,h,a,S.hh k _ _ h a]
theorem Oq:∀n:9,Ph (n+014) "ends_on"=Ph 014 "ends_on"
 |0=>rfl
 |n+1=>by have h:lv 014 (n+014)=W:=CB ();rw[<- Oq n];calc qd (n:=n+014) (by unfold stays;rw[h];generalize lv 013 (n+014)=c;revert c;decide +kernel)
def SE(B:BD)(st:P)(E:6 P):5:=-E≤40000/\(∀z ∈ E,okE B z)/\∀(b i:9)(S:aK),Bd B b i S->∃h,Ph 014 "ends_on" [.ref i,.p st] S=Y (.ref (-S),h)/\Fr b S h/\h[-S]? = Y (.l^E.map .p)
theorem K8:∀n:9,Ph (n+013) "hand_ends"=Ph 013 "hand_ends"/\Ph (n+013) "flaw_ends"=Ph 013 "flaw_ends"
 |0=>#[0,0]
 |n+1=>by have h:lv 013 (n+013)=W:=CB ();let(x,a):=K8 n;rw[<- x,<- a];calc#[qd (n:=n+013) (by unfold stays;rw[h];generalize lv 014 (n+013)=c;revert c;decide +kernel),qd (n:=n+013) (by unfold stays;rw[h];generalize lv 014 (n+013)=c;revert c;decide +kernel)]
def HE(B:BD)(st:P)(v:P)(y:6 P):5:=∀(b i:9)(S:aK),Bd B b i S->X0 λd h=>Ph 013 "hand_ends" [.ref i,.p st,.p v] S=Y (d,h)/\Fr b S h/\rN S h d y
theorem zE{B:BD}{st:P}{f:P->6 P}{b i n:9}:∀{c:6 P},(∀v ∈ c,HE B st v^f v)->∀(k:7 D)(S:aK),Bd B b i S ->
  X0 λq a=>Fr b S a/\bv (am 2) (fY<|Ph<|n+013) c [qr i,qp st,k] S=Y (if (c.flatMap f).isEmpty=W then .nx else .rt (.p^.d Xk),[qr i,qp st,q],a)
 | [],_,k,S,_=>#[k,S,Fr.refl _ _,0]
 |v::c,h,k,S,p=>by
  let(d,o,u,m,j):=h v aA b i S p;rw[<- (K8 n).1]at u;let(w,e,r):=nE (b:=b) (g:=Ph (n+013) "hand_ends") (q:=Gn im lz mj) (L:=[qr i,qp st,qp v]) (S:=S) (l:=[.ref i,.p st,.p v]) rfl u m p.le j;cases s:f v with
  |nil=>let(q,a,t,l):=zE (f:=f) (n:=n) (λx z=>h x^aC _ z) (qp v) w^p.fr r;calc#[q,a,r.trans t,?_];rw[f_,s,dR];calc(bx (h:=[qr i,qp st,qp v]) rfl ?_).trans l;unfold fY;rw[s]at e;rw[cg,bT,O,e];rfl
  |cons y H=>calc#[qp v,w,r,?_];rw[f_,s];calc(um (h:=[qr i,qp st,qp v]) rfl ?_).trans rfl;unfold fY;rw[s]at e;rw[cg,bT,O,e];rfl
def Jm(hP:BP B)(hL:Places B)(hS:StL B hs rds):∃t:15,(∃E,SE B (.u [.u hs,.u rds]) E/\E.isEmpty=t) /\
   ∀(n b i:9)(S:aK),Bd B b i S->∃S',Ph (n+014) "is_dry" [.ref i,.p^.u [.u hs,.u rds]] S=Y (.p^.d t,S')/\Fr b S S':=by
 let h4:=kL hP;let hhl:=qo (s:=B.fams);let(V,la1,la3,ela):=Nj hP (n:=08) rfl (.inl rfl) hS;let(da,da1,da3,eda):=Nj hP (n:=08) rfl (.inr rfl) hS;let l:9->9->7 D->Lc:=λi r' K=>[qr i,qt [.u hs,.u rds],qr r',K]
 let(f,h1,hR,h3):=eZ (t:=GC B) (g:=am 3) (b:=mL^Ph 013) (Sp:=fun G S=>Fr G.b G.S0 S) (r:=fun G=>G.r) (R:=fun v j=>(∀z ∈ j,okE B z)/\HE B (.u [.u hs,.u rds]) v j) (c:=6144) (M:=100000) (s:=intsFrom 0 (-(homes B.fams))) (p:=fun G L=>∃K,L=l G.i G.r K) (fun x hx=>by
  let(k,0,hk):=jc hx;rwa[db];let(f,x,g1,g2,_,_,_,_,_,_,hfe,r,cs,ws,0,hr1,hcs,hwl,hwi):=hS.at (k:=k) ();let(nm,crew,Z1,N,whos,X,hF,0):=jV hP.hf^bq g1;obtain⟨rfl,hce,rfl,rfl,rfl,rfl⟩:nm=_/\crew=_/\Z1=_/\N=_/\whos=_/\X=_:=by rwa[P.u.injEq,j4,P.str.injEq,P.int.injEq,P.l.injEq,and_true]at hfe;let(a,b,c,d,e,f):=hfe;exact#[a,Int.ofNat.inj b,c,d,e,f]
  let(E,m1,m2,m3):=SD hP hL (n:=1) rfl hF g1 hr1 hcs hwl hwi hS.hr hS g2;calc#[E,m1,#[m2,m3],λG L S acc hLp fr hS' hM=>?_];let(K,0):=hLp;let(d,o,Z0,s,an):=m3 G.b G.i S^G.bd.fr fr;let(A,e2,q):=nE (b:=G.b) (g:=Ph 013 "hand_ends") (q:=Gn im lz E9) (L:=l G.i G.r^qi (k:8)) (S:=S) (l:=[.ref G.i,.p^.u [.u hs,.u rds],.p^.int (k:8)]) rfl Z0 s (aH G.le fr.len) an;let hS2:=q.hi _ _ (aH G.le G.hr) hS';calc#[l G.i G.r^qi (k:8),_,_,0,pj rfl hS' e2 hS2 (),#[_,0],(fr.trans q).set G.le G.hr _,gB hS2])
 rw[dq]at h1 h3;refine#[((intsFrom 0 (-(homes B.fams))).flatMap f++V++da).isEmpty,#[(intsFrom 0 (-(homes B.fams))).flatMap f++V++da,#[?_,λz u=>?_,λb i S w=>?_],0],λn b i S w=>?_]
 .rw [bo,bo];lia
 .rcases cj.mp u with u|u
  .rcases cj.mp u with u|u
   .let(v,hv,u):=cB.mp u;exact(hR v hv).1 z u
   .exact la3 z u
  .exact da3 z u
 .generalize (intsFrom 0 (-(homes B.fams))).flatMap f=j at h1 h3;let frA:=Fr.app b S [.l []];let H:=w.le;let(L',o,Z0,(K,0),s,hl1):=h3 #[b,i,S,-S,w,ar _] (l i S.length Z) (S++[.l []]) [] #[Z,0] frA (dJ _ _) (by simp;lia);let(d2,T2,f2,q,C):=ela b i o^w.fr s;let(A,e2,m):=nE (b:=b) (g:=Ph 013 "flaw_ends") (q:=Gn im lz^O^vt "lose") (L:=l i S.length K) (S:=o) (l:=[.ref i,.p^.u [.u hs,.u rds],.p^.str "lose"]) rfl f2 q (aH H s.len) C;let hl2:=m.hi _ _ H hl1;have T:Fr b S (A.set (-S)^.l^([]++j++V).map .p):=(s.trans m).set H (ar _) _;let F:=gB (x:=.l^([]++j++V).map .p) hl2;let(d3,T3,f3,Q,I):=eda b i _^w.fr T;let(S3,e3,p):=nE (b:=b) (g:=Ph 013 "flaw_ends") (q:=Gn im lz^O^vt "double") (L:=l i S.length K) (l:=[.ref i,.p^.u [.u hs,.u rds],.p^.str "double"]) rfl f3 Q (aH H T.len) I;let hl3:=p.hi _ _ H F;calc#[S3.set (-S)^.l^([]++j++V++da).map .p,?_,(T.trans p).set H (ar _) _,by rw[gB hl3];simp];let(jh,jp,jl,jm,mk,mv,h):=w.fr frA;have hq:-(homes B.fams) < 1000000:=by lia
  rw[zB];show b8^mM _ [qr i,qt [.u hs,.u rds],Z,Z] S=_;unfold mM;rw[ak (by simp[l];calc#[0,0])];rw[ak (e:=l i S.length K) (c:=o) (by rw[bR,jE (dF^bL (aT Att) im "homes") (l i S.length Z) (S++[.l []])=Y (intsFrom 0 (-(homes B.fams)),S++[.l []])|>by rw[Ew,xi,h.homes rfl];simp[h.ho.len,hq]];calc Z0)]
  rw[ak^pj rfl hl1 e2 hl2 (by simp;lia)];rw[ak^pj rfl F e3 hl3 (by simp;lia)];rfl
 .let(q2,o,s,Z0):=zE (f:=f) (n:=n) (b:=b) (i:=i) (λv hv=>(hR v hv).2) Z S w;have hq:-(homes B.fams) < 1000000:=by lia
  let H:=w.le;let(jh,jp,jl,jm,mk,mv,h):=id w;generalize (intsFrom 0 (-(homes B.fams))).flatMap f=j at Z0;rw[Bh];show ∃S',b8^ov _ [qr i,qt [.u hs,.u rds],Z] S=_/\_;have e0:bR (jE^dF^bL (aT Att) im "homes") (am 2) (fY<|Ph<|n+013) [qr i,qt [.u hs,.u rds],Z] S=Y (if j.isEmpty=W then .nx else .rt (.p^.d Xk),[qr i,qt [.u hs,.u rds],q2],o):=by rw[bR,jE (dF^bL (aT Att) im "homes") [qr i,qt [.u hs,.u rds],Z] S=Y (intsFrom 0 (-(homes B.fams)),S)|>by rw[Ew,xi,h.homes rfl];simp[h.ho.len,hq]];exact Z0
  unfold ov;cases j with
  |cons y j=>calc#[o,by rw[tN e0];rfl,s]
  |nil=>
   rw[ak e0];let(d2,T2,f2,q,C):=ela b i o^w.fr s;rw[<- (K8 n).2]at f2;let(A,e2,m):=nE (b:=b) (g:=Ph (n+013) "flaw_ends") (q:=Gn im lz^O^vt "lose") (L:=[qr i,qt [.u hs,.u rds],q2]) (S:=o) (l:=[.ref i,.p^.u [.u hs,.u rds],.p^.str "lose"]) rfl f2 q (aH H s.len) C;cases V with
   |cons y V=>calc#[A,by rw[aD,O,Fc,e2];rfl,s.trans m]
   |nil=>let(d3,T3,f3,Q,I):=eda b i A (w.fr^s.trans m);rw[<- (K8 n).2]at f3;let(S3,e3,p):=nE (b:=b) (g:=Ph (n+013) "flaw_ends") (q:=Gn im lz^O^vt "double") (L:=[qr i,qt [.u hs,.u rds],q2]) (S:=A) (l:=[.ref i,.p^.u [.u hs,.u rds],.p^.str "double"]) rfl f3 Q (aH H (s.trans m).len) I;calc#[S3,by rw[aD,O,Fc,e2];show b8^bw (bw (bw (cw (Ph (n+013) "flaw_ends") _ _ A) _) _) _=_;rw[e3];ext da<;>rfl,(s.trans m).trans p]
def SS(P:BP B)(L:Places B)(S:StL B hs rds):∃E,SE B (.u [.u hs,.u rds]) E:=by let(_,(E,h,_),_):=Jm P L S;calc#[E,h]
def dA.ok(h:dA B st):cX 05 st=W:=by
 let(hs,rds,0,S):=h;have f:cX 4 (.u hs)=W:=bc.mpr λx s=>by
  let(i,a,0):=iT.mp s;let(_,_,_,_,_,_,_,r,k,w,n,_,m,_,hw):=S.hh i _ _ (bt (by rw[<- S.hl];calc a))^bt a;have o:cX 2 (.u k)=W:=bc.mpr λc h=>by let(i,_,0):=m.2.1 c h;simp
  have p:cX 2 (.u w)=W:=bc.mpr λc h=>(hw c h).isI.ok 1;rw[n];show(List.all [_,P.u k,P.u w]^cX 2)=W;rw[cU,cU,cU,o,p];simp
 have b:cX 4 (.u rds)=W:=bc.mpr λx s=>by let(i,a,0):=iT.mp s;let(q,t,e):=S.hr.2 i _^bt a;rw[e];exact bc.mpr λl h=>g6 (t.2 l h).1.ok ()
 show(List.all [P.u hs,P.u rds]^cX 4)=W;rw[cU,cU,f,b];rfl
theorem kds_all:∀{xs:6 P},(∀x ∈ xs,Nk.kd^pd x=W)->Nk.kds^gM xs=W
 | [],_=>rfl
 |x::xs,h=>by rw[gM,Nk.kds,h x aA,kds_all λy hy=>h y^aC _ hy];rfl
theorem jU(h:∀x ∈ xs,Nk.kd^pd x=W):Nk.kd (pd^.u xs)=W:=kds_all h
def dA.good(h:dA B st):bN st=W:=by
 let ho:=g6 h.ok (05≤08|>by lia);let(hs,rds,0,hS):=h;unfold bN;rw[ho];show(W && (W && Nk.kd (pd^.u [.u hs,.u rds])))=W;rw[oV,oV];calc jU λx hx=>?_;rcases a8.mp hx with rfl|hx
 .calc jU λx hx=>?_;let(i,hi,0):=iT.mp hx;let(_,_,_,_,_,_,_,r,cs,ws,hxe,_,hc,_,hw):=hS.hh i _ _ (bt (by rw[<- hS.hl];calc hi))^bt hi;rw[hxe];calc jU λx hx=>?_;rwa[a8,eO,eN]at hx;rcases hx with rfl|rfl|rfl
  .rfl
  .exact jU λc h=>by let(i,_,0):=hc.2.1 c h;rfl
  .exact jU λc h=>by let(i,0):=(hw c h).isI;rfl
 .rw [cJ.mp hx];calc jU λx hx=>?_;let(i,hi,0):=iT.mp hx;let(ls,hl,e):=hS.hr.2 i _^bt hi;rw[e];calc jU λl h=>?_;let(m,j,hm,_,0):=(hl.2 l h).1;calc jU λy hy=>?_;rwa[a8,eO,eN]at hy;rcases hy with rfl|rfl
  .exact hm
  .rfl
def JI{B:BD}(P:BP B):StL B ((a_ B.fams).map jW) (List.replicate (-B.PR)^.u []):=by
 calc#[∅,λk f x t q=>?_,∅,λk r z=>#[[],#[∅,λZ h=>(by ext h)],(oS.mp^bq z).2]];rw[cm,t]at q;ext q;let(H,n,m,e,o,s,F,0):=jV P.hf^bq t;refine#[H,n,m,e,o,s,0,(0),e.map ul,List.replicate (-o)<|.int<|-1,0,len_pos F.r0,#[∅,λc b=>?_,λi c v b p=>?_],∅,λw hw=>.inl (oS.mp hw).2]
 .let(d,hd,0):=bg.mp b;let(x,lo,y,a,_,u,g,j,l,0):=F.hce.1 d hd;exact#[a,(),0]
 .rw [cm,b]at p;ext p;let(x,lo,y,a,_,u,g,j,l,0):=F.hce.1 c^bq b;calc DV () ()
end My
namespace My
open PySem L2 Ev
variable{a:Type}
theorem AV:∀{s l:6 a},s.Nodup->(∀x ∈ s,x ∈ l)->-s≤-l
 | [],_,_,_=>by simp
 |k::s,l,h,e=>by
  let(b,c):=du.mp h;let(m,r,0):=List.append_of_mem^e k aA;have:=AV (l:=m++r) c λx f=>by have:=e x^aC _ f;have n:x≠k:=λz=>b (z ▸ f);rwa[cj,a8,n,false_or]at this ⊢;exact this
  rwa[bo,aP]at this ⊢;lia
theorem kM{a n:Type}{f:a->6 n}{c:9}:∀{s:6 a},(∀x ∈ s,-(f x)≤c)->-(s.flatMap f)≤-s * c
 | [],_=>by simp
 |x::s,h=>by
  have:=kM (s:=s) λy e=>h y^aC _ e;have:=h x aA
  rw[f_,bo,aP,oM];lia
theorem yR(l:6 a):∀n:9,-(fV^List.replicate n l)=(HPow.hPow l.length n)
 |0=>rfl
 |n+1=>by let i:=yR l n;rw[kH]at i ⊢;rw[cK,aI,CH,i,oK,mQ]
variable{B:BD}
def qS(P:BP B):X0 λb h=>a_ B.fams=b++h/\-b≤2/\(h=[]\/∃z,h=[z]/\yK z)/\∀r ∈ B.roads,∀z ∈ h,br z≠rA r/\br z≠rB r:=by
 let(base,t,e,b,h,s):=P.st;rcases b with ⟨f,rfl,a⟩|⟨f,g,rfl,a,n⟩
 .calc#[List.replicate (dZ f) f,t,?_,by simpa using a,h,s];rcases h with rfl|⟨z,rfl,x⟩<;>rw[e]<;>simp[a_,hw];simp[x.1]
 .calc#[List.replicate (dZ f) f++List.replicate (dZ g) g,t,?_,by simp;lia,h,s];rcases h with rfl|⟨z,rfl,x⟩<;>rw[e]<;>simp[a_,hw];simp[x.1]
variable{b:9}
def zV(i:BP B)(h:pr r x b ∈ B.PR):((x=0/\b=1)\/(x=1/\b=0))/\r ∈ B.roads/\B.N[x]? = Y^rA r/\B.N[b]? = Y^rB r:=by
 let(g,o,e,F,_,l):=qS i;unfold BD.PR bM at h;let(p,n,h):=cB.mp h;unfold xA at h;let(v,j,h):=cB.mp h;let(d,c,h):=bg.mp h;let(m,a):=f8.mp c;rwa[pr,P.u.injEq,j4,P.int.injEq,and_true]at h;let(0,H,S):=h;obtain rfl:v=x:=by lia
 obtain rfl:d=b:=by lia
 let w:=eF.mp j;let u:=eF.mp m;have a:v≠d:=by exists a
 have y:∀{k:9}{s:Str},B.N[k]? = Y s->(s=rA p\/s=rB p)->k < 2:=λ{k s} hk f=>by
  unfold BD.N aM at hk;rw[e,cm]at hk;by_cases q:k < (-g)
  .lia
  .rw [bZ ()]at hk;cases t:o[k-g.length]? with
   |none=>rw[t]at hk;ext hk
   |some z=>
    rw[t]at hk;ext hk;have:=l p n z^bq t
    rcases f with f|f
    .exact absurd f this.1
    .exact absurd f this.2
 have:=y w^.inl rfl;have:=y u^.inr rfl
 calc#[(),n,w,u]
def pk(x:P):P:=.u [gH x 1,gH x 2]
def Qn(s:BP B):-B.PR≤2:=by
 have p:B.PR.Pairwise λx y=>pk x≠pk y:=by
  refine CV.mpr #[λr o=>?_,s.rd.imp_of_mem λ{r z} i c hd x h y e q=>?_]
  .unfold xA;refine CV.mpr #[λa o=>?_,(EU B.N^rA r).imp λ{a m} n x h y e q=>?_]
   .calc CO.mpr (((EU B.N^rB r).filter _).imp λ{b k} n q=>n ?_);rwa[pk,pr,gH,P.u.injEq,j4]at q;have:=q.2.1;simp at this;lia
   .let(b,_,0):=bg.mp h;let(k,_,0):=bg.mp e;calc n ?_;rwa[pk,pr,gH,P.u.injEq,j4]at q;have:=q.1;simp at this;lia
  .have d:x ∈ B.PR:=cB.mpr #[r,i,h];have w:y ∈ B.PR:=cB.mpr #[z,c,e];have f:∀{r x},x ∈ xA B.N r->X0 λa b=>x=pr r a b:=λ{r x} h=>by
    unfold xA at h;let(a,_,h):=cB.mp h;let(b,_,0):=bg.mp h;exact#[a,b,0]
   let(a,b,0):=f h;let(m,k,0):=f e;let(_,_,u,g):=zV s d;let(_,_,t,v):=zV s w;have j:a=m/\b=k:=by rwa[pk,pr,gH,P.u.injEq,j4]at q;simp at q;lia
   let(0,0):=j;rw[u]at t;rw[g]at v;exact hd #[cz t,cz v]
 have:=AV (s:=B.PR.map pk) (l:=[.u [.int 0,.int 1],.u [.int 1,.int 0]]) (CO.mpr p) λy e=>by let(x,h,0):=bg.mp e;let(r,_,a,b,0):=qI h;rcases(zV s h).1 with ⟨rfl,rfl⟩|⟨rfl,rfl⟩<;>simp[pk,pr,gH]
 exists this
def WS(k:9):6 P:=if k=0 then [.int<|-1,.int 1] else if k=1 then [.int<|-1,.int 0] else [.int<|-1]
def Qj(k:9):-(WS k)≤2:=by
 unfold WS;split
 .simp
 .split<;>simp
variable{k:9}
def WH.ws(P:BP B)(L:Places B)(h:WH B k w):w ∈ WS k:=by
 rcases h with rfl|⟨s,d,rfl,g⟩
 .unfold WS;split
  .simp
  .split<;>simp
 .let(j,r,a,b,_,_,p,x,e):=L.ok _ _ _ g;have:=(zV P^bq p).1
  have x:s=a:=by lia
  have e:k=b:=by lia
  subst x e;rcases this with ⟨rfl,rfl⟩|⟨rfl,rfl⟩<;>simp[WS]
def hst(k:9)(f:P):6 P:=(List.range (-(re^gH f 2))).flatMap λ(r:9)=>(je^re^gH f 3).flatMap λc=>(fV^List.replicate (-(re^gH f 4))^WS k).map λw=>.u [.int (r:8),.u c,.u w]
def EC(k:9)(f:P):-(hst k f)≤-(re^gH f 2) * (-(je^re^gH f 3) * (HPow.hPow (WS k).length (-(re^gH f 4)))):=by
 unfold hst;have:=kM (s:=List.range (-(re^gH f 2))) (f:=λ(r:9)=>(je^re^gH f 3).flatMap λs=>(fV^List.replicate (-(re^gH f 4))^WS k).map λw=>P.u [.int (r:8),.u s,.u w]) (c:=-(je^re^gH f 3) * (HPow.hPow (WS k).length (-(re^gH f 4)))) λr z=>kM λs z=>by rw[aU,yR];exact ar _
 (rw [CN]at this;assumption)
variable{f:P}
def VB(h:isFam t f)(k:9):-(hst k f)≤4:=by let(m,e,r,c,w,s,F,0):=h;let x:=EC k^.u [.str m,.int (e:8),.l r,.l c,.l w,.l s];let a:=F.b2;have n:(HPow.hPow (WS k).length (-w))≤2 ^ (-w):=Nat.pow_le_pow_left (Qj k) _;calc aH x^aH ?_ a;show -r * (-(je c) * (HPow.hPow (WS k).length (-w)))≤_;rw[sg];calc sh _^sh _ n
def VC(h:yK f):-(hst 2 f)≤1:=by calc aH (EC 2 f) ?_;rw[h.2.1,h.2.2];simp[WS]
def HandOk.mem(P:BP B)(L:Places B)(h:HandOk B k f x):x ∈ hst k f:=by let(v,e,o,c,a,s,0,r,n,q,0,p,t,w,hw):=h;calc cB.mpr #[r,iO.mpr p,cB.mpr #[n,Jw t,bg.mpr #[q,kI (by rw[wX];calc w) λi d y b m=>?_,0]]];rw[(oS.mp^bq b).2];calc(hw y^bq m).ws P L
def U5(B:BD)(x:P):6 P:=.u []::(Pk^(a_ B.fams)[(iv^gH x 1).toNat]?.getD .n).map λl=>.u [l]
def Sk{b:6 P}{f:P}(h:isFam b f):-(Pk f)≤4:=by
 let(p,w,r,e,o,t,F,0):=h;have:=F.b1
 let x:=F.b3;calc aH (kM (c:=2) λs hst=>?_) (by show -t * 2≤4;lia);let(v,q,u,d,g,n,m,k,S,0):=F.hst s hst;have:=S.sl
 calc aH (kM (c:=2) λn a=>?_) (by show -n * 2≤2;lia);rw[aU];calc x
def Ny(B:BD):6 P:=(fV^(a_ B.fams).mapIdx hst).flatMap λh=>(fV^B.PR.map^U5 B).map λr=>.u [.u h,.u r]
theorem D0:∀{s:6^6 a}{c:9},(∀e ∈ s,-e≤c)->-(fV s)≤(HPow.hPow c (-s))
 | [],c,_=>by simp[fV]
 |e::r,c,h=>by let i:=D0 (s:=r) λx k=>h x^aC _ k;let n:=h e aA;rw[kH]at i ⊢;rw[aI,CH,aP,oK,mQ];calc oN i n
def Gh{B:BD}(P:BP B):-(Ny B)≤400:=by
 have q:-(fV^(a_ B.fams).mapIdx hst)≤016:=by
  let(w,i,e,l,t,_):=qS P;have h:∀f ∈ a_ B.fams,∀k,-(hst k f)≤4:=λf m k=>VB (jV P.hf m) k;rw[e]at h ⊢;rw[kH];match w,l with
  | [],_=>
   rcases t with rfl|⟨z,rfl,_⟩
   .simp
   .have:=h z ∅ 0;simp;lia
  | [f],_=>
   have q:=h f ∅ 0;rcases t with rfl|⟨z,rfl,_⟩
   .simp;lia
   .let n:=h z ∅ 1;have:=oN q n
    exists this
  | [f,g],_=>
   have q:=h f ∅ 0;let n:=h g ∅ 1;let s:=oN q n;rcases t with rfl|⟨z,rfl,t⟩
   .exists s
   .have:=oN s^VC t;simpa[sg] using this
 have n:-(fV^B.PR.map^U5 B)≤25:=by
  refine aH (D0 (c:=05) λj v=>?_) ?_
  .let(x,d,0):=bg.mp v;let(r,_,a,b,0):=qI d;let p:=(zV P d).2.2.1;unfold BD.N aM at p;rw[cm]at p;cases m:(a_ B.fams)[a]? with
   |none=>rw[m]at p;ext p
   |some f=>have:=Sk (jV P.hf^bq m);unfold U5;rw[(iv^gH (pr r a b) 1).toNat=a|>rfl,m,aP,aU];simp;lia
  .rw [aU];exact aH (wL #[]^Qn P) #[]
 calc aH (kM (c:=25) λu y=>by rw[aU];calc n) ?_;lia
variable{s:P}
def dA.mem(P:BP B)(L:Places B)(h:dA B s):s ∈ Ny B:=by
 let(q,d,0,S):=h;refine cB.mpr #[q,kI (by rw[List.length_mapIdx];calc S.hl) λi w y n k=>?_,bg.mpr #[d,kI (by rw[aU];calc S.hr.1) λi w y n k=>?_,0]]
 .rw [List.getElem?_mapIdx]at n;let(f,c,0):=d6.mp n;exact(S.hh i f y c k).mem P L
 .rw [cm]at n;let(x,m,0):=d6.mp n;let(v,e,0):=S.hr.2 i y k;match v,e with
  | [],_=>calc aA
  | [l],e=>let(r,a,b,p,f,c,t):=(e.2 l ∅).2;rw[p]at m;ext m;calc aC _^bg.mpr #[l,?_,0];rw[(iv^gH (pr r a b) 1).toNat=a|>rfl,c];calc t
  |_::_::_,e=>have:=e.1;simp at this
theorem tK{B:BD}(x:BP B)(L:Places B){s:6 P}(h:∀k ∈ s,dA B k)(n:s.Nodup):-s≤400:=aH (AV n λk hk=>(h k hk).mem x L)^Gh x
def EN(B:BD)(s:P):6 P:=open Classical in if h:∃E,SE B s E then h.choose else []
def NE(P:BP B)(L:Places B)(h:dA B s):SE B s^EN B s:=by let(x,r,0,S):=h;let h:=SS P L S;unfold EN;rw[dif_pos h];calc h.choose_spec
def yr(k:6 P)(z:P):6 P:=if il (gH z 1) k=W then k else k++[gH z 1]
def stepK(k E:6 P):6 P:=E.foldl yr k
def KI(B:BD)(s:6 P):5:=(∀k ∈ s,dA B k)/\s.Nodup
theorem KI.good(h:KI B x):x.all bN=W:=bc.mpr λk hk=>(h.1 k hk).good
theorem D5{k:P}:∀{s:6 P},k ∈ s->pd k ∈ gM s
 |q::s,h=>by
  rw[gM];rcases a8.mp h with rfl|h
  .exact aA
  .exact aC _^D5 h
set_option tactic.hygienic true in
def KI.add(h:KI B c)(k:okE B z):KI B^yr c z:=by
 let(d,e,0,_,x):=k;unfold yr;split
 .exact h
 .rename_i q;calc#[fZ h.1 x,j_.mpr #[h.2,∅,λa s b n w=>?_]];rw[cJ.mp n]at w;have w:a=e:=w;subst w;calc q^(ui x.good h.good).mpr^D5 s
theorem KI.step:∀{E k:6 P},KI B k->(∀z ∈ E,okE B z)->KI B^stepK k E
 | [],_,h,_=>h
 |z::E,k,h,x=>KI.step (E:=E) (h.add^x z aA) λy a=>x y^aC _ a
def MO(k:6 P)(z:P):∃t,yr k z=k++t:=by
 unfold yr;split
 .exact#[[],∅]
 .calc#[_,0]
theorem tJ:∀(E k:6 P),∃t,stepK k E=k++t
 | [],k=>#[[],by simp[stepK]]
 |z::E,k=>by let(t,e):=MO k z;let(x,h):=tJ E^yr k z;calc#[t++x,by show stepK (yr k z) E=_;rw[h,e,dS]]
def BF(B:BD):9->9->6 P->6 P
 |0,_,k=>k
 |n+1,i,k=>match k[i]? with
  |some s=>BF B n (i+1)^stepK k^EN B s
  |none=>k
theorem JQ{B:BD}(x:BP B)(L:Places B):∀(n i:9){k:6 P},KI B k->KI B^BF B n i k
 |0,_,_,h=>h
 |n+1,i,k,h=>by
  unfold BF;cases e:k[i]? with
  |none=>calc h
  |some s=>calc JQ x L n (i+1)^h.step (NE x L^h.1 s^bq e).2.1
def yes(k:6 P):6 D:=k.map λz=>.p^.d W
def GZ(s:6 P)(k:P):yes (s++[k])=yes s++[.p^.d W]:=by simp[yes]
noncomputable abbrev yW(f r w:6 P):P:=.u [.l f,.l r,.l w]
def mu(t:P×P×P):P:=.u [t.1,t.2.1,t.2.2]
noncomputable abbrev yu(f:P)(j r:9)(a:P)(q h x:7 D):Lc:=[Y^.p f,Y^.ref j,Y^.ref r,Y<|.ref<|r+1,Y^.p a,q,h,x]
structure RI(b:9)(S0:aK)(ks:6 P)(rs:6 (P×P×P))(S:aK):5 where
 fr:Fr b S0 S
 ro:S[-S0]? = Y (.l^(rs.map mu).map .p)
 li:S[-S0+1]? = Y (.C ks^yes ks)
 ek:rs.map (·.1)=ks
theorem DU(T:Str->GF)(hP:BP B)(Z0:Places B)(G:b≤-x)(f:P)(j:9)(t:P)(c:7 D):∀{E s:6 P}{n:6 (P×P×P)}{S:aK},KI B s->RI b x s n S->(∀z ∈ E,okE B z)->∀H F,X2 λm p v i=>bv (bu [am 06,am 07]) (fE T) E (yu f j x.length t c H F) S=Y (.nx,yu f j x.length t c m p,i)/\RI b x (stepK s E) v i
 | [],s,n,S,_,R,_,H,F=>#[H,F,n,S,0,R]
 |z::E,s,n,S,h,R,hz,H,F=>by
  let u:=hz z aA;let h1:=h.add u;let(d,e,0,_,he):=u;let Z1:=he.good;let X:=h.good;let hf:=tK hP Z0 h.1 h.2;have I:-s≤1000000:=by lia
  have hl:-n=-s:=by rw[<- R.ek,aU]
  have M:-n≤1000000:=by lia
  have Q:¬((-n:8)=2000):=by lia
  have on:jP (.ref<|-x+1) S=Y (-x+1,s,yes s):=by simp[jP,R.li]
  suffices hs:X0 λg K=>fE T (yu f j x.length t c (Y^.p d)^Y^.p e) S=Y (.nx,yu f j x.length t c (Y^.p d)^Y^.p e,K)/\RI b x (yr s^.u [d,e]) g K by let(g,K,e1,A):=hs;let(m,p,v,i,e2,C):=DU T hP Z0 G f j t c (E:=E) h1 A (λy hy=>hz y^aC _ hy) (Y^.p d) (Y^.p e);exact#[m,p,v,i,(bx (h:=yu f j x.length t c (Y^.p d)^Y^.p e) rfl e1).trans e2,C]
  unfold fE kT yr;rw[gH (.u [d,e]) 1=e|>rfl];have V:∀w:15,il e s=w->(bV^a9 i3 (U 07)^U 3) (yu f j x.length t c (Y^.p d)^Y^.p e) S=Y (!w,S):=λw hw=>by simp[i3,Qy,on,Z1,X,hw]
  by_cases q:il e s=W
  .rw [af q];exact#[n,S,by rw[cg,V W q];rfl,R]
  .rw [ag q];have q':il e s=Xk:=by exists q
   have N:-x < -S:=bW R.ro;have l:-x+1 < -S:=bW R.li;have o:(S.set (-x+1)<|.C (s++[e])<|yes s++[.p^.d W])[-x]? = Y (.l^(n.map mu).map .p):=by rw[aV ()];exact R.ro
   refine#[n++[(e,t,d)],(S.set (-x+1)<|.C (s++[e])<|yes s++[.p^.d W]).set (-x)^.l^((n++[(e,t,d)]).map mu).map .p,?_,?_]
   .rw [cg,V Xk q',aq];show ah _ _ _ _=_;rw [ak (e:=yu f j x.length t c (Y^.p d)^Y^.p e) (c:=S) (by simp [dj,R.ro,Q])];rw [ak (e:=yu f j x.length t c (Y^.p d)^Y^.p e) (c:=S.set (-x+1)<|.C (s++[e])<|yes s++[.p^.d W]) (by
     simp[tP,on,Z1,X,q',I])]
    have:=kq (r:=U 2) (a:=O^aQ^ae (vE^U 07)^ae (vE^U 4)^ae (vE^U 06) ao) (L:=yu f j x.length t c (Y^.p d)^Y^.p e) (k:=-x) (c:=n.map mu) (y:=mu (e,t,d)) rfl o (x:=S.set (-x+1)<|.C (s++[e])<|yes s++[.p^.d W]) (by simp[mu]) o (by rw[aU];calc M);rw[this,(n++[(e,t,d)]).map mu=n.map mu++[mu (e,t,d)]|>by simp]
   .refine#[(R.fr.set G () _).set G () _,?_,?_,by simp[R.ek]]
    .rw [bY (by exists N)]
    .rw [aV (),bY l,GZ]
def To(t:SE B s E)(a:Bd B b i S)(p:S[h]? = Y (.fn^Y^.ref i))(hk:L[k]? = Y (Y^.ref h))(q:L[j]? = Y (Y^.p s)):∃x,tF (Ph 014 "ends_on") k (vE^U j) L S=Y (.l E,x)/\Fr b S x:=by
 let(v,c,r,m):=t.2.2 b i S a;calc#[_,?_,(r.set a.le (ar _)^.fz^.l E).trunc];have e:U k L S=Y (.ref h,S):=by simp[hk]
 have n:vE (U j) L S=Y (s,S):=by simp[q]
 have f:fnOf (.ref h) S=Y^.ref i:=by simp[fnOf,p]
 unfold tF;rw[e,aq,f];show bw (vE (U j) L S) _=_;rw[n,aq,c,aq,dw m,aq]
theorem tS{n:9}{B:BD}(C:BP B)(A:Places B){b i q:9}{f:aK}(K:Bd B b i f)(hj:b≤q)(hf:f[q]? = Y (.fn^Y^.ref i))(w:P):∀(m p:9){r:6 P}{o:6 (P×P×P)}{S:aK}(G l z:7 D),KI B r->RI b f r o S->m+p=1000->p≤-r->X4 λZ0 q5' v d F I=>lA (bV^aY JU (vE^U 4)^dF^U 2) (fD (Ph<|n+015)<|Ph<|n+014) m (yu w q f.length (.int (p:8)) G l z) S=Y (.nx,yu w q f.length Z0 q5' v d,I)/\RI b f (BF B m p r) F I
 |0,p,r,o,S,_,_,_,h,R,hm,hi=>by have:=tK C A h.1 h.2;lia
 |m+1,p,r,o,S,G,l,z,h,R,hm,hi=>by
  let hft:=tK C A h.1 h.2;have hl:-o=-r:=by rw[<- R.ek,aU]
  have c1:(bV^aY JU (vE^U 4)^dF^U 2) (yu w q f.length (.int (p:8)) G l z) S=Y (decide<|p < -r,S):=by simp[dj,R.ro,hl]
  unfold lA BF;rw[c1,aq];cases e:r[p]? with
  |none=>
   have:¬p < -r:=by exists e
   rw[ag (by exists this)];calc#[_,G,l,z,o,S,0,R]
  |some s=>
   have X:=bW e;rw[af (by exists X)];let hst:=h.1 s^bq e;let M:=NE C A hst;let(t,et):=tJ (EN B s) r;obtain⟨⟨g,x,y⟩,hr⟩:∃u,o[p]? = Y u:=#[_,bt ()];have Z1:g=s:=by have:=e;rw[<- R.ek,cm,hr]at this;exact cz this
   subst Z1;have V:L2.atI ((o.map mu).map D.p) (p:8)=Y (.p^.u [g,x,y]):=by rw[sT,sT,bD hr];rfl
   let(S1,e1,H):=To (k:=1) (j:=05) (L:=yu w q f.length (.int (p:8)) (Y^.p g) l z) M (K.fr R.fr) (R.fr.hi _ _ hj hf) rfl rfl;have N:RI b f r o S1:=#[R.fr.trans H,H.hi _ _ K.le R.ro,H.hi _ _ (aH K.le^mP _) R.li,R.ek];let(v,d,rs2,S2,e2,Q):=DU (Ph<|n+015) C A K.le w q (.int (p:8)) (Y^.p g) (E:=EN B g) h N M.2.1 l z;let(Z0,a,b',c,F,I,e3,T):=tS (n:=n) C A K hj hf w m (p+1) (Y^.p g) v d (h.step M.2.1) Q () (by rw[et,bo];lia);calc#[Z0,a,b',c,F,I,?_,T];have e4:fD (Ph<|n+015) (Ph<|n+014) (yu w q f.length (.int (p:8)) G l z) S=Y (.nx,yu w q f.length (.int ((p+1:9):8)) (Y^.p g) v d,S2):=by
    unfold fD;rw[ak (e:=yu w q f.length (.int (p:8)) (Y^.p g) l z) (c:=S) (by simp[-gU,R.ro,V])];rw[Oq,ak (e:=yu w q f.length (.int (p:8)) (Y^.p g) v d) (c:=S2) (by rw[bR,d4,e1];calc e2)]
    simp[xy]
   rw[e4];calc e3
end My
namespace My
open PySem L2 Ev
def CM(B:BD)(s:P):6 P:=BF B 1000 0 [s]
variable{s:P}
theorem KI.one(h:dA B s):KI B [s]:=#[λk hk=>by rw[cJ.mp hk];calc h,∅]
variable{n:9}
def Lg(k:BP B)(L:Places B)(x:Bd B b i h)(r:b≤j)(m:h[j]? = Y (.fn^Y^.ref i))(hst:dA B s):X0 λ(q:6 (P×P×P))(S:aK)=>Ph (n+016) "rows_from" [.p^.l [s],.ref j] h=Y (.ref (-h),S)/\S[-h]? = Y (.l^(q.map mu).map .p)/\q.map (·.1)=CM B s:=by let g:=hst.good;let hk:=KI.one hst;have f:RI b h [s] [(s,.n,.n)] (h++[.l [.p^.u [s,.n,.n]],.C [s] [.p^.d W]]):=#[Fr.app ..,by simp[mu],by simp[yes],0];let(p,a,t,c,q,S,e,R):=tS (n:=n) k L x r m (.l [s]) 1000 0 Z Z Z hk f () ∅;calc#[q,S,?_,R.ro,R.ek];rw[uU];show b8^kC _ _ [Y^.p^.l [s],Y^.ref j,Z,Z,Z,Z,Z,Z] h=_;unfold kC;rw[ak (e:=[Y^.p^.l [s],Y^.ref j,Y^.ref (-h),Z,Z,Z,Z,Z]) (c:=h++[.l [.p^.u [s,.n,.n]]]) (by simp[bf,bG,mn])];rw[ak (e:=[Y^.p^.l [s],Y^.ref j,Y^.ref (-h),Y<|.ref<|-h+1,Z,Z,Z,Z]) (c:=h++[.l [.p^.u [s,.n,.n]],.C [s] [.p^.d W]]) (by simp[bf,bG,mn,ye,yV,M',il,g])];rw[ak (e:=yu (.l [s]) j h.length (.int 0) Z Z Z) (c:=h++[.l [.p^.u [s,.n,.n]],.C [s] [.p^.d W]]) ∅];rw[ak (by unfold xw;calc e)];simp
variable{m:6 P}{x:6 P}{a:6 P}
def Te(f:Pln m x a)(hst:dA (pf m x a) s)(p:ba (Ph (n+016) "begin") [yW m x a]=Y s):∃q:6 (P×P×P),ba (Ph (n+017) "coming_rows") [yW m x a]=Y (.l^q.map mu)/\q.map (·.1)=CM (pf m x a) s:=by
 let(S,e,w,_):=uA f (n:=n+011) [];have k:Bd (pf m x a) S.length 0 (S++[.fn^Y^.ref 0]):=w.fr^Fr.app ..;let(q,h,r,v,u):=Lg (n:=n) (B:=pf m x a) f (jI ..) k (j:=-S) (ar _) ∅ hst;calc#[q,?_,u];have e:Ph (n+015) "Board.__init__" [.ref 0,.p^yW m x a] [.B "Board" [] []]=Y (.p .n,S):=e;have t:Ph (n+017) "coming_rows" [.p^yW m x a] []=Y (.ref (-(S++[SO.fn^Y^.ref 0])),h.map Gd):=by
  rw[rG];show b8^ju (Ph<|n+016) (Ph<|n+015) [Y^.p^yW m x a,Z] []=_;unfold ju;rw[ak (e:=[Y^.p^yW m x a,Y^.ref 0]) (c:=S) (by rwa[az,aB,mH,U,b_,aq,List.getElem?_cons_zero,C1,wP,dR,e];rfl)]
  have b:bj (ae (aR (ba^Ph (n+016) "begin")^ae (vE^U 0) ao) ao) [Y^.p^yW m x a,Y^.ref 0] S=Y (.l [s],S):=by simp[p]
  have c:U 1 [Y^.p^yW m x a,Y^.ref 0] S=Y (.ref 0,S):=rfl;rw[aD,yg,b,aq,c,aq,r,aq,aq];rfl
 have d:(h.map Gd)[-(S++[SO.fn^Y^.ref 0])]? = Y (.l^(q.map mu).map .p):=by rw[cm,v];rfl
 unfold ba;rw[aI,d7,t];show(toP 09 (.ref _)^h.map Gd).map (·.1)=_;rw[dw d];rfl
def Tj(h:Pln m x a)(hst:dA (pf m x a) s)(i:ba (Ph (n+016) "begin") [yW m x a]=Y s)(S:aK):Ph (n+018) "comings" [.p^yW m x a] S=Y (.ref (-S),S++[.l^(CM (pf m x a) s).map .p]):=by
 let(q,u,r):=Te (n:=n) h hst i;have hk:KI (pf m x a)^CM (pf m x a) s:=JQ h (jI ..) _ _^KI.one hst;let l:=tK (B:=pf m x a) h (jI ..) hk.1 hk.2;have k:-q≤1000000:=by rw[<- r,aU]at l;lia
 let w:=cI (g:=am 1) (c:=dD) (e:=aY bA (vE^U 1)^vC^.int 0) (S:=S) (p:=λz=>W) (f:=λc=>gH c 0) (s:=q.map mu) (L:=[Y^.p^yW m x a,Z]) (Inv:=λb=>∃d,b=[Y^.p^yW m x a,d]) (λv y b j=>by let(d,0):=j;let(t,_,0):=bg.mp y;calc#[_,0,#[_,0],0,λz=>by simp[mu,gH,re]]) #[Z,0]
 rw[oU.mpr λz z=>rfl,gU,(λc=>gH c 0) ∘ mu=(·.1)|>rfl,r]at w;rw[zC];show b8^mN _ [Y^.p^yW m x a] S=_;unfold mN;simp[bf,mn,u,w,k]
section
variable{q:6 P}
def mE(h:∀f ∈ m,isFam q f)(l:-m≤4):-(a_ m)≤016:=by have:=A' 0 h;unfold a_;simp;lia
theorem Ej(y A:Str->GF)(v:P):∀(m:6 P)(k:9)(a:6 P)(d:7 D),(∀f ∈ m,isFam q f)->-a+4 * (-m)≤1000 ->
  ∃n,bv (am 2) (fO y) m [Y^.p v,Y^.p^.l a,d] []=Y (.nx,[Y^.p v,Y^.p^.l (a++(hw k m).map (·.2)),n],[])
 | [],k,a,d,_,_=>#[d,by simp[bv,hw]]
 |f::r,k,a,d,h,H=>by
  let(K,c,o,l,w,t,z,0):=h f aA;let B:=z.hcr.2;rwa[aP]at H;generalize j:P.u [.str K,.int (c:8),.l o,.l l,.l w,.l t]=F;have i:bA F^.int 1=Y^.int (c:8):=by rw[<- j];simp
  have u:dZ F=c:=by rw[<- j];simp[dZ]
  let(n,e):=Ej y A v r (k+1) (a++List.replicate c F) (Y^.p F) (λx S=>h x^aC _ S) (by simp;lia);calc#[n,?_];have g:(hw k (F::r)).map (·.2)=List.replicate c F++(hw (k+1) r).map (·.2):=by simp[hw,u]
  rw[g,<- dS];calc(bx (h:=[Y^.p v,Y^.p^.l a,Y^.p F]) (L2:=[Y^.p v,Y<|.p<|.l<|a++List.replicate c F,Y^.p F]) (x:=[]) rfl ?_).trans e;have b:c≤1000000:=by lia
  have p:c < 1000000:=by lia
  have s:-a+c≤1000000:=by lia
  simp[fO,i,b,p,s]
def Ei(h:∀f ∈ m,isFam q f)(l:-m≤4)(r w:P):ba (Ph (n+2) "_law_families") [.u [.l m,r,w]]=Y (.l^a_ m):=by let(x,e):=Ej (Ph<|n+1) (Ph n) (.u [.l m,r,w]) m 0 [] Z h (by simp;lia);rw[qx,aL];rwa[dR]at e;simp[kY,e,a_]
def ng(h:∀f ∈ m,isFam q f)(d:-m≤4)(o x:P)(s:Str) :
  ba (Ph (n+3) "_law_crew") [.u [.l m,o,x],.str s]=Y^.l ((aZ (aM m) s).map λ(i:9)=>P.int (i:8)):=by
 let g:=Ei (n:=n) h d o x;let u:=mE h d;have j:bG (bu [am 2,am 3]) (bV^a9 eS (O^aY bA (vE^U 3)^vC^.int 0)^U 1) (vE^U 2) (cy 0<|a_ m) [Y^.p^.u [.l m,o,x],Y^.p^.str s,Z,Z] [] =
   Y (((cy 0<|a_ m).filter λv=>match v with | .u [_,f]=>decide (br f=s)|_=>Xk).map (λv=>match v with | .u [i,_]=>i|_=>.n),[]):=by
  calc cI (Inv:=λL=>X0 λa b=>L=[Y^.p^.u [.l m,o,x],Y^.p^.str s,a,b]) (λv F L y=>?_) #[Z,Z,0];let(a,b,0):=y;let(i,k,e):=iT.mp F;let(f,z,0):=kN (s:=a_ m) (i:=i) (v:=v) (by rw[bt k,e]);let(K,c,r,l,w,t,H,0):=jV h^bq z;exact#[[Y^.p^.u [.l m,o,x],Y^.p^.str s,Y^.p^.int (i:8),Y^.p^.u [.str K,.int (c:8),.l r,.l l,.l w,.l t]],0,#[_,_,0],by simp[br];first|done|calc wD.mpr Iff.rfl,λX=>by simp]
 have S:-(cy 0<|a_ m)≤1000000:=by rw[fB];lia
 rw[yd,aL];simp[pQ,bf,g,S,mn,j];rw[zz];unfold aZ aM;rw[sk,gU,aU];congr 1;calc CL λi k=>?_;have p:i < -(a_ m):=by exists k
 simp[p]
theorem Vr(k f:Str->GF)(p road:P)(n:9):∀(os:6 9)(a:6 P)(x:7 D),-a+-os≤100000->∃q,bv (am 4) (fI k) (bX os) [Y^.p p,Y^.ref 0,Y^.p road,Y^.p^.int (n:8),x] [.l^a.map .p] =
   Y (.nx,[Y^.p p,Y^.ref 0,Y^.p road,Y^.p^.int (n:8),q],[.l^(a++(os.filter λo=>!decide (n=o)).map λo=>pr road n o).map .p])
 | [],a,x,_=>#[x,by simp[bX,bv]]
 |o::os,a,x,b=>by
  rwa[aP]at b;by_cases h:n=o
  .let(q,e):=Vr k f p road n os a (Y^.p^.int (o:8)) ();calc#[q,?_];have s:(o::os).filter (λo=>!decide (n=o))=os.filter λo=>!decide (n=o):=by simp[h]
   rw[s];calc(bx (h:=[Y^.p p,Y^.ref 0,Y^.p road,Y^.p^.int (n:8),Y^.p^.int (o:8)]) (L2:=[Y^.p p,Y^.ref 0,Y^.p road,Y^.p^.int (n:8),Y^.p^.int (o:8)]) (x:=[.l^a.map .p]) rfl ?_).trans e;simp[fI,h]
  .let(q,e):=Vr k f p road n os (a++[pr road n o]) (Y^.p^.int (o:8)) (by simp;lia);calc#[q,?_];have s:((o::os).filter (λo=>!decide (n=o))).map (λo=>pr road n o)=pr road n o::(os.filter λo=>!decide (n=o)).map λo=>pr road n o:=by simp[h]
   rw[s,show a++pr road n o::(os.filter λo=>!decide (n=o)).map (λo=>pr road n o)=a++[pr road n o]++(os.filter λo=>!decide (n=o)).map (λo=>pr road n o) by simp];calc(bx (h:=[Y^.p p,Y^.ref 0,Y^.p road,Y^.p^.int (n:8),Y^.p^.int (o:8)]) (L2:=[Y^.p p,Y^.ref 0,Y^.p road,Y^.p^.int (n:8),Y^.p^.int (o:8)]) (x:=[.l^(a++[pr road n o]).map .p]) rfl ?_).trans e;have z:¬(n:8)=(o:8):=by lia
   have l:-a≤1000000:=by lia
   rw[<- eD];simp[fI,h,z,gC,l,pr]
theorem V_{n:9}{m:6 P}(d:∀f ∈ m,isFam q f)(l:-m≤4)(r w:P){road:P}(g:isRoad road):∀(k:6 9)(h:6 P)(v e:7 D),-h+016 * (-k)≤50000->X0 λx s=>bv (am 3) (kX<|Ph<|n+3) (bX k) [Y^.p^.u [.l m,r,w],Y^.ref 0,Y^.p road,v,e] [.l^h.map .p] =
   Y (.nx,[Y^.p^.u [.l m,r,w],Y^.ref 0,Y^.p road,x,s],[.l^(h++k.flatMap λt=>((aZ (aM m)^rB road).filter λo=>!decide (t=o)).map λo=>pr road t o).map .p])
 | [],h,v,e,_=>#[v,e,by simp[bX,bv]]
 |i::k,h,v,e,K=>by rwa[aP]at K;have S:-(aZ (aM m)^rB road)≤016:=aH (dE _ _) (by unfold aM;rw[aU];calc mE d l);let(s,u):=Vr (Ph<|n+3) (Ph<|n+2) (.u [.l m,r,w]) road i (aZ (aM m)^rB road) h e ();let A:=xq i road (aZ (aM m)^rB road);let(x,p,z):=V_ (n:=n) d l r w g k (h++((aZ (aM m)^rB road).filter λo=>!decide (i=o)).map λo=>pr road i o) (Y^.p^.int (i:8)) s (by rw[bo];lia);calc#[x,p,?_];rw[f_,<- dS];calc(bx (h:=[Y^.p^.u [.l m,r,w],Y^.ref 0,Y^.p road,Y^.p^.int (i:8),e]) rfl ?_).trans z;let(a,b,kd,c,j,y,B,C,F,_,_,0):=g;let H:=ng (n:=n) d l r w b;rwa[rB]at u;show bR _ _ _ _ _=_;rw[bR];rw[d4 (aR (ba^Ph (n+3) "_law_crew")^ae (vE^U 0)^ae (aY bA (vE^U 2)^vC^.int 1) ao) [Y^.p^.u [.l m,r,w],Y^.ref 0,Y^.p^.u [.str a,.str b,.str kd,.int c,.d j,.d y],Y^.p^.int (i:8),e] [.l^h.map .p]=Y (bX^aZ (aM m) b,[.l^h.map .p])|>by simp[H,bX]];calc u
def V9{n:9}{m:6 P}(i:∀f ∈ m,isFam q f)(l:-m≤4)(o w:P):∀(x:6 P)(e:6 P)(j s t:7 D),(∀r ∈ x,isRoad r)->-e+256 * (-x)≤10000->X1 λz k p=>bv (am 2) (kW<|Ph<|n+3) x [Y^.p^.u [.l m,o,w],Y^.ref 0,j,s,t] [.l^e.map .p] =
   Y (.nx,[Y^.p^.u [.l m,o,w],Y^.ref 0,z,k,p],[.l^(e++bM (aM m) x).map .p])
 | [],e,j,s,t,_,_=>#[j,s,t,by simp[bM,bv]]
 |road::x,e,j,s,t,S,G=>by
  rwa[aP]at G;have N:-(aM m)≤016:=by unfold aM;rw[aU];exact mE i l
  have C:-(aZ (aM m)^rA road)≤016:=aH (dE _ _) N;have y:-(aZ (aM m)^rB road)≤016:=aH (dE _ _) N;let v:=S road aA;let(k,p,H):=V_ (n:=n) i l o w v (aZ (aM m)^rA road) e s t ();have I:-(xA (aM m) road)≤256:=by have:=xz (aM m) road _ y (aZ (aM m)^rA road);unfold xA;lia
  let(d,u,g,A):=V9 (n:=n) i l o w x (e++xA (aM m) road) (Y^.p road) k p (λr h=>S r^aC _ h) (by rw[bo];lia);calc#[d,u,g,?_];rw[bM (aM m) (road::x)=xA (aM m) road++bM (aM m) x|>by simp[bM],<- dS];calc(bx (h:=[Y^.p^.u [.l m,o,w],Y^.ref 0,Y^.p road,s,t]) rfl ?_).trans A;let(a,b,kd,c,F,K,L,M,E,_,_,0):=v;let B:=ng (n:=n) i l o w a;rwa[rA]at H;show bR _ _ _ _ _=_;rw[bR];rw[d4 (aR (ba^Ph (n+3) "_law_crew")^ae (vE^U 0)^ae (aY bA (vE^U 2)^vC^.int 0) ao) [Y^.p^.u [.l m,o,w],Y^.ref 0,Y^.p^.u [.str a,.str b,.str kd,.int c,.d F,.d K],s,t] [.l^e.map .p]=Y (bX^aZ (aM m) a,[.l^e.map .p])|>by simp[B,bX]];calc H
def L3(h:Pln m x a):ba (Ph (n+4) "_law_pairs") [.u [.l m,.l x,.l a]]=Y (.l^bM (aM m) x):=by have:=h.rl;let(q,s,k,e):=V9 (n:=n) h.hf h.f0.2 (.l x) (.l a) x [] Z Z Z h.hr (by simp;lia);rw[uY,aL];rwa[dR,d7]at e;simp[nL,e]
end
theorem OB(h:Str->GF):kU h=dg h:=rfl
def pG(w:Str)(i j:8):∃b,(∀n,ba (Ph (n+2) "compared") [.str w,.int i,.int j]=Y^.d b)/\∀n,ba (Ph (n+2) "_law_relation") [.str w,.int i,.int j]=Y^.d b:=by let(b,e):=Nq w i j;calc#[b,λn=>by rw[pD];calc e _,λn=>by rw[qw,OB];calc e _]
section
variable{N:6 P}{f:6 cD}{u:6 P}
def vF(k:8):ba (Ph (n+2) "_law_value") [nT k,.E f u]=Y^.int k:=by rw[fW,aL];simp[eG]
def zd{i:8}(h:cC (.inr e) f u=Y^.int i):ba (Ph (n+2) "_law_value") [nU^.str e,.E f u]=Y^.int i:=by rw[fW,aL];simp[eG,h]
def Pu{i j:8}(a:ba (Ph (n+2) "_law_value") [h,.E f u]=Y^.int i)(x:ba (Ph (n+2) "_law_value") [b,.E f u]=Y^.int j):ba (Ph (n+3) "_law_value") [.u [.str "plus",h,b],.E f u]=Y (.int<|i+j):=by rw[fW,aL];simp[eG,a,x]
def Er{i j:8}(a:ba (Ph (n+2) "_law_value") [h,.E f u]=Y^.int i)(x:ba (Ph (n+2) "_law_value") [b,.E f u]=Y^.int j):ba (Ph (n+3) "_law_value") [.u [.str "minus",h,b],.E f u]=Y (.int<|i-j):=by rw[fW,aL];simp[eG,a,x]
def Mb{i j:8}(m:g8 i j=W)(a:ba (Ph (n+2) "_law_value") [h,.E f u]=Y^.int i)(x:ba (Ph (n+2) "_law_value") [b,.E f u]=Y^.int j):ba (Ph (n+3) "_law_value") [.u [.str "times",h,b],.E f u]=Y (.int<|i * j):=by rw[fW,aL];simp[eG,a,x,m]
def G7(s:∀x ∈ N,mD x)(b:k9 N f u)(h:uc N t):∃r:8,(∀n,ba (Ph (n+4) "value_of") [t,.E f u]=Y^.int r)/\∀n,ba (Ph (n+4) "_law_value") [t,.E f u]=Y^.int r:=by
 rcases h with ⟨k,rfl⟩|⟨y,a,h⟩
 .exact#[k,λz=>fL k,λz=>vF k]
 let(x,_,0):=s y a;let(i,q,e):=b x a;rcases h with rfl|⟨k,rfl⟩|⟨k,j,c,p,rfl⟩|rfl
 .exact#[i,λz=>gX e,λz=>zd e]
 .exact#[_,λz=>xh (gX e)^fL k,λz=>Pu (zd e)^vF k]
 .let m:=b7 (i:=i) (j:=k) () ();exact#[_,λz=>kc (sM m (gX e)^fL k)^fL j,λz=>Er (Mb m (zd e)^vF k)^vF j]
 .calc#[_,λz=>kc (fL 1)^gX e,λz=>Er (vF 1)^zd e]
def HB(f:6 cD)(u:6 P)(m:9)(t:P)(r:15):5:=(∀n,ba (Ph (n+m) "holds") [t,.E f u]=Y^.d r)/\∀n,ba (Ph (n+m) "_law_true") [t,.E f u]=Y^.d r
theorem HB.up(h:HB f u e t r)(k:9):HB f u (k+e) t r:=#[λn=>by rw[<- gO];calc h.1 _,λn=>by rw[<- gO];calc h.2 _]
theorem Bv:HB f u 2 (.u [.str "true"]) W:=#[λz=>xS,λn=>by rw[g_,aL];simp[fF]]
def Tq(w:Str){i j:8}(s:(∀n,ba (Ph (n+4) "value_of") [h,.E f u]=Y^.int i)/\∀n,ba (Ph (n+4) "_law_value") [h,.E f u]=Y^.int i)(k:(∀n,ba (Ph (n+4) "value_of") [b,.E f u]=Y^.int j)/\∀n,ba (Ph (n+4) "_law_value") [b,.E f u]=Y^.int j):∃r,HB f u 06 (.u [.str "is",.str w,h,b]) r:=by
 let(r,c,m):=pG w i j;refine#[r,λn=>?_,λn=>?_]
 .let x:=s.1 (n+1);let a:=k.1 (n+1);let e:=c (n+3);rw[jJ,aL];simp[iI,x,a,e]
 .let x:=s.2 (n+1);let a:=k.2 (n+1);let e:=m (n+3);rw[g_,aL];simp[fF,x,a,e]
theorem Nu(a:HB f u (h+2) e r):HB f u (h+3) (.u [.str "not",e]) (!r):=#[λn=>I_ (n:=n+h)^a.1 n,λn=>by let x:=a.2 n;rw[<- gO]at x;rw[<- gO,g_,aL];simp[fF,x]]
theorem Ts(a:HB f u (h+2) e r)(x:HB f u (h+2) b k):HB f u (h+3) (.u [.str "and",e,b]) (r && k):=#[λn=>Nh (n:=n+h) (a.1 n)^x.1 n,λn=>by let s:=a.2 n;let c:=x.2 n;rw[<- gO]at s c;rw[<- gO,g_,aL];ext r<;>simp[fF,s,c]]
theorem VO(a:HB f u (h+2) e r)(x:HB f u (h+2) b k):HB f u (h+3) (.u [.str "or",e,b]) (r ||k):=#[λn=>SF (n:=n+h) (a.1 n)^x.1 n,λn=>by let s:=a.2 n;let c:=x.2 n;rw[<- gO]at s c;rw[<- gO,g_,aL];ext r<;>simp[fF,s,c]]
def FQ(q:∀x ∈ N,mD x)(v:k9 N f u)(h:n6 N t):∃r,HB f u 09 t r:=by
 have b:∀{y:P},y ∈ N->∃i:8,(∀n,ba (Ph (n+4) "value_of") [nU y,.E f u]=Y^.int i)/\∀n,ba (Ph (n+4) "_law_value") [nU y,.E f u]=Y^.int i:=λ{y} c=>by let(x,_,0):=q y c;let(i,_,k):=v x c;exact#[i,λm=>gX k,λm=>zd k]
 have l:∀{t:P},m_ N t->∃r,HB f u 06 t r:=λ{t} h=>by let(w,y,s,c,o,_,0):=h;let(i,k):=b c;let(j,g):=G7 q v o;exact Tq w k g
 rcases h with rfl|h|⟨p,h,rfl⟩|⟨p,z,h,H,rfl⟩
 .exact#[_,Bv.up 07]
 .let(r,e):=l h;exact#[r,e.up 3]
 .rcases h with h|rfl
  .let(r,e):=l h;exact#[_,Nu (h:=06)^e.up 2]
  .exact#[_,Nu (h:=06)^Bv.up 06]
 .let(r,e):=l h;let(i,k):=b H;let(s,d):=Tq (f:=f) (u:=u) "=" (h:=nT 1) (i:=1) #[λm=>fL 1,λm=>vF 1] k;calc#[_,VO (h:=06) (e.up 2)^Ts (h:=05) (Bv.up 05)^d.up 1]
end
theorem zF:∀{f:6 cD}{u:6 D},k ∉ f->-f=-u->rH k y f u=(f++[k],u++[y])
 | [],[],_,_=>rfl
 | [],_::_,_,h=>by simp at h
 |_::_,[],_,h=>by simp at h
 |q::f,v::u,h,l=>by show(if q=k then _ else _)=_;rw[ag λz=>h (by rw[z];calc aA),zF (λz=>h^aC _ z) (by exists l)];rfl
theorem Ec{S:Str->GF}(t p:7 D):∀{l v:6 P}{K:6 cD}{V:6 P},(∀c ∈ l,isCel c)->-v=-l->(K++cx l).Nodup->-K+-l≤1000->-K=-V->∀b m:7 D,X0 λn k=>
  bv (bu [am 3,am 4]) (h_ S) (q_ l v) [t,p,Y^.ref 0,b,m] [.E K^V.map .p]=Y (.nx,[t,p,Y^.ref 0,n,k],[.E (K++cx l)^(V++v).map .p])
 | [],v,K,V,_,f,_,_,_,b,m=>by cases iX f;calc#[b,m,by simp[q_,cx,bv]]
 |c::r,[],K,V,_,f,_,_,_,b,m=>by simp at f
 |c::r,d::s,K,V,o,f,j,hk,H,b,m=>by
  let(x,lo,i,a,_,_,_,_,_,0):=o c aA;have z:(K++[(.inr x:cD)]++cx r).Nodup:=by rw[dS];exact j
  let(n,k,e):=Ec (S:=S) t p (l:=r) (v:=s) (K:=K++[.inr x]) (V:=V++[d]) (λc h=>o c^aC _ h) (by exists f) z (by simp at hk ⊢;lia) (by simp[H]) (Y^.p^.u [.str x,.int lo,.int i,.int a]) (Y^.p d);calc#[n,k,?_];rw[K++cx (P.u [.str x,.int lo,.int i,.int a]::r)=K++[.inr x]++cx r|>by rw[dS];rfl,show V++d::s=V++[d]++s by simp];have g:K.Nodup:=(j_.mp j).1;have F:(.inr x:cD) ∉ K:=λq=>(j_.mp j).2.2 _ q (.inr x) aA rfl;calc(bx (h:=[t,p,Y^.ref 0,Y^.p^.u [.str x,.int lo,.int i,.int a],Y^.p d]) ∅ ?_).trans e;have w:-K≤1000000:=by lia
  simp[h_,jO,yO,nW,dh,g,w,zF (y:=.p d) F (u:=V.map .p) (by simp[H])]
def A0(f:Fam q p k o c b t)(x:CellsOk c h)(r w:P) :
  ba (Ph (n+2) "_law_values") [eK p k o c b t,.u [r,.u h,w]]=Y^.E (cx c) h:=by
 let s:=f.cl;let a:=x.1;let(m,v,e):=Ec (S:=Ph<|n+1) (Y^.p^eK p k o c b t) (Y^.p^.u [r,.u h,w]) (l:=c) (v:=h) (K:=[]) (V:=[]) f.hce.1 x.1 (kf f.hce) (by simp;lia) rfl Z Z;rwa[dR,d7]at e;have l:-c≤-h:=sf a.symm;have:uP (toP 08) (h.map .p) [SO.E (cx c)^h.map .p]=Y (h,[SO.E (cx c)^h.map .p]):=m7 ..;rw[ur,aL];simp[mJ,Nv,nC,l,e,toP,this]
def zy(a b:Str):bH (pd^.str a) (pd^.str b)=decide (b=a):=by
 by_cases h:b=a
 .subst h;rw[fx rfl];exact beq_self_eq_true b
 .rw [bK h];calc wC λq=>h q.symm
def t5(r:9)(c:6 P):P:=.u [.int (r:8),.u c]
def Jg{B:BD}(H:BP B){S y:6 P}{k:9}{j:Str}{e:9}{m c w s:6 P}(F:Fam B.roads j e m c w s)(E:(a_ B.fams)[k]? = Y^eK j e m c w s){r:9}{v K:6 P}(I:r < -m)(x:CellsOk c v)(G:S[k]? = Y^.u [.int (r:8),.u v,.u K]){o:Str}(i:aJ o=W){cond:P}(D:n6 (pc c) cond) :
  ∃t,(∀n,ba (Ph (n+010) "fits") [eK j e m c w s,t5 r v,.str o,cond]=Y^.d t)/\∀n,ba (Ph (n+010) "_law_fits") [.u [.l B.fams,.l B.roads,.l B.wishes],.u [.u S,.u y],.int (k:8),.str o,cond]=Y^.d t:=by
 let(h,A,C):=FQ (qg F.hce.1) (sO x) D;have g:m[r]? = Y m[r]:=bt I;let(f,u,d):=F.hro m[r]^gW _;rw[d]at g;refine#[(decide (o="") ||decide (o=f)) && h,λn=>?_,λn=>?_]
 .let b:=A n;let p:=vg (n:=n+07) F x;rw[Jk,aL];by_cases a:o=""
  .simp [pR,t5,a,b,p]
  .by_cases q:o=f
   .have l:¬f="":=λz=>a^q.trans z;simp[pR,t5,q,l,QB,bD g,b,p]
   .have l:¬f=o:=λz=>q z.symm;simp[pR,t5,a,q,l,QB,bD g]
 .let b:=C n;let p:=A0 (n:=n+07) F x (.int (r:8))^.u K;let M:=Ei (n:=n+07) H.hf H.f0.2 (.l B.roads)^.l B.wishes;have L:aJ ""=W:=by decide +kernel
  rw[yc,aL];simp[pP,M,bD E,bD G,QB,bD g,gK,io,zY,eX,FO,i,u,L,b,p,zy];by_cases a:o=""<;>by_cases q:o=f<;>simp[a,q]
end My
namespace My
open PySem L2 Ev
noncomputable abbrev bE(B:BD):P:=.u [.l B.fams,.l B.roads,.l B.wishes]
def isOwn(q:P):5:=X0 λ(r:9)(s:6 P)=>q=t5 r s/\∀c ∈ s,isI c
theorem zf:∀{cs:6 P},(∀c ∈ cs,isI c)->Nk.kds^gM cs=W
 | [],_=>rfl
 |c::r,h=>by let(j,0):=h c aA;calc zf (cs:=r) λc hc=>h c^aC _ hc
def isOwn.good(h:isOwn q):bN q=W:=by
 let(r,cs,0,hc):=h;have h1:cX 08 (t5 r cs)=W:=by have:cX 07 (.u cs)=W:=bc.mpr λc h=>(hc c h).ok 06;show(cX 07 (.int (r:8)) && (cX 07 (.u cs) && W))=W;rw[this,D8];rfl
 have h2:Nk.kd (pd^t5 r cs)=W:=by show(Nk.kd (pd^.int (r:8)) && (Nk.kds^gM cs && W))=W;rw[zf hc];rfl
 unfold bN;rw[h1,h2];rfl
theorem pq:∀{s bs:6 P},(∀a ∈ s,isI a)->(∀a ∈ bs,isI a)->qK (gM s)^gM bs=W->s=bs
 | [],[],_,_,_=>rfl
 | [],_::_,_,_,h=>by cases (Xk=W|>h)
 |_::_,[],_,_,h=>by cases (Xk=W|>h)
 |a::s,b::bs,n,k,h=>by let(i,0):=n a aA;let(j,0):=k b aA;let(f,c):=C8.mp (((i == j) && qK (gM s) (gM bs))=W|>h);rw[eq_of_beq f,pq (λx e=>n x^aC _ e) (λx e=>k x^aC _ e) c]
def D7{q k:P}(h:isOwn q)(f:isOwn k)(e:bH (pd q)^pd k=W):q=k:=by let(r,n,0,m):=h;let(s,c,0,x):=f;let(b,a):=C8.mp ((((r:8) == (s:8)) && (qK (gM n)^gM c && W))=W|>e);rw[sE]at a;rw[pq m x a,r=s|>by have:=eq_of_beq b;lia]
def yY(h:isOwn q):bH (pd q)^pd q=W:=by have:=h.good;unfold bN at this;rwa[av]at this;calc wB _ (fA 08 q this.2.1).1
theorem Mh{k:P}(hk:isOwn k):∀{s:6 P},(∀q ∈ s,isOwn q)->(il k s=W↔k ∈ s):=λ{s} h=>by
 constructor
 .intro q;let(x,a,e):=j9.mp q;rw[<- D7 (h x a) hk e];exact a
 .calc λq=>j9.mpr #[k,q,yY hk]
theorem y_{k:P}(hk:isOwn k)(A:P->15):∀{s:6 P},(∀q ∈ s,isOwn q)->k ∈ s->eR k s (s.map λq=>.p^.d^A q)=Y (.p^.d^A k)
 | [],_,h=>by ext h
 |q::s,h,m=>by
  show(if bH (pd q)^pd k=W then _ else _)=_;by_cases e:bH (pd q)^pd k=W
  .rw [af e,D7 (h q aA) hk e]
  .rw [ag e];calc y_ hk A (λx a=>h x^aC _ a) ?_;rcases a8.mp m with z|z
   .subst z;exact absurd (yY hk) e
   .calc z
def WB:7 P->15
 |some (.d b)=>b
 |_=>Xk
def eP(p:P)(h:9):P:=.u [gH (gH (gH p 0) h) 0,gH (gH (gH p 0) h) 1]
def zq{a:6 P}{h:9}{f:P}(x:(a_ a)[h]? = Y f):f ∈ a:=by let(p,_,e):=qu x;calc bq e
section
variable{B:BD}(E:BP B){l:Str}{y:9}{w d H g:6 P}(M:Fam B.roads l y w d H g)(C:eK l y w d H g ∈ B.fams)
include E M C
def Ic{p:P}(k:dA B p){h:9}(o:h ∈ aZ B.N l):(a_ B.fams)[h]? = Y^eK l y w d H g/\X3 λ(k s:6 P)(r:9)(a q:6 P)=>p=.u [.u k,.u s]/\k[h]? = Y^.u [.int (r:8),.u a,.u q]/\r < -w/\CellsOk d a/\eP p h=t5 r a/\isOwn^eP p h:=by
 let N:=eF.mp o;have F:h < -(a_ B.fams):=by have:=bW N;unfold BD.N aM at this;exists this
 let(k,s,0,S):=k;let(f,x,m,u,_,_,_,_,_,_,n,r,a,q,0,t,b,A,K):=S.at F;have j:f=eK l y w d H g:=E.fd f (zq m) _ C (by have:=TB m;rw[N]at this;calc(cz this).symm)
 rw[j]at m n;rwa[P.u.injEq,j4,P.str.injEq,P.int.injEq,P.l.injEq,and_true]at n;let(_,_,0,0,_,_):=n;have v:eP (.u [.u k,.u s]) h=t5 r a:=by simp[eP,u,t5]
 calc#[m,k,s,r,a,q,0,u,t,b,v,by rw[v];calc#[r,a,0,λc z=>by let(i,_,e):=b.2.1 c z;calc#[i,e]]]
def Mr{v:Str}(x:aJ v=W){u:P}(m:n6 (pc d) u):∃A:P->15,∀p,dA B p->∀h ∈ aZ B.N l,(∀n,ba (Ph (n+010) "fits") [eK l y w d H g,eP p h,.str v,u]=Y (.d^A^eP p h))/\∀n,ba (Ph (n+010) "_law_fits") [bE B,p,.int (h:8),.str v,u]=Y (.d^A^eP p h):=by calc#[λo=>WB^ba (Ph (0+010) "fits") [eK l y w d H g,o,.str v,u],λp k h i=>?_];let(q,k,s,r,z,S,0,b,j,c,e,_):=Ic E M C k i;let(t,a,f):=Jg E (y:=s) M q j c b x m;dsimp only;rw[e,a 0];calc#[a,f]
end
def yN:LS:=["board","standings","around","dries"]
structure Sc(B:BD)(web:6 P)(td:P->15)(b i j:9)(S:aK):5 where
 bd:Bd B b j S
 sc:∃dr,S[i]? = Y^.B "Scene" yN [.ref j,.p^.l web,.ref i,dr]/\(dr=.p .n\/dr=.p^.l (web.map λs=>.d^td s))
 hi:i < b
def Sc.fr(h:Sc B x N b i j S)(f:Fr b S s):Sc B x N b i j s:=by
 let(dr,e,hd):=h.sc;calc#[h.bd.fr f,#[dr,?_,hd],h.hi];rcases f.low i _ h.hi e with e|⟨_,q,_⟩
 .exact e
 .ext q
def ny:aT Att "Scene" "board"=W/\aT Att "Scene" "standings"=W/\aT Att "Scene" "around"=W/\aT Att "Scene" "dries"=W:=by decide +kernel
def K':gI "board" yN [e,b,c,s]=Y e/\gI "standings" yN [e,b,c,s]=Y b/\gI "dries" yN [e,b,c,s]=Y s:=by simp[gI,yN]
section
variable{B:BD}{x:6 P}{N:P->15}{b i j:9}{S:aK}{o:EE}{L:Lc}(h:Sc B x N b i j S)(n:o L S=Y (.ref i,S))
include h n
def Sc.board:bL (aT Att) o "board" L S=Y (.ref j,S):=by let(dr,e,_):=h.sc;rw[bL,n,aq];rwa[e,ny,K',fw];rfl
def Sc.stand:bL (aT Att) o "standings" L S=Y (.p^.l x,S):=by let(dr,e,_):=h.sc;rw[bL,n,aq];rwa[e,ny,K',fw];rfl
end
def lM(A:P->15)(N:LS)(l:Str)(p:P):9:=-((aZ N l).filter λh=>A^eP p h)
structure KN(b kd kn:9)(S0:aK)(fv:P->15)(acc:6 P)(m:9)(S:aK):5 where
 fr:Fr b S0 S
 kw:∃ks,S[kd]? = Y^.C ks (ks.map λq=>.p^.d^fv q)/\-ks≤m/\∀q ∈ ks,isOwn q
 ac:S[kn]? = Y (.l^acc.map .p)
abbrev Uh(i j kd kn:9)(v u f:P)(h x a q:7 D):Lc:=[Y^.ref i,Y^.ref j,Y^.p v,Y^.p u,Y^.p f,Y^.ref kd,Y^.ref kn,h,x,a,q]
section
variable{B:BD}(E:BP B){l:Str}{y:9}{w d H g:6 P}(M:Fam B.roads l y w d H g)(C:eK l y w d H g ∈ B.fams){v:Str}{u:P}{A:P->15}(I:∀p,dA B p->∀h ∈ aZ B.N l,∀n,ba (Ph (n+010) "fits") [eK l y w d H g,eP p h,.str v,u]=Y^.d^A^eP p h)
include E M C I
theorem Nm{b i jm kd kn:9}{V:aK}(hb:b≤-V)(hkd:-V≤kd)(hkn:-V≤kn)(hne:kd≠kn){N:6 P}{p:P}(hs:dA B p){n:9}:∀{hl:6 9},(∀h ∈ hl,h ∈ aZ B.N l)->∀{m:9},m+-hl≤100000->∀(c:8)(q9 t:7 D)(S:aK),KN b kd kn V A N m S ->
  X1 λT j S'=>KN b kd kn V A N (m+-hl) S'/\bv (am 09) (eB<|Ph<|n+010) (bX hl) (Uh i jm kd kn (.str v) u (eK l y w d H g) (Y^.p p) (Y^.p^.int c) q9 t) S=Y (.nx,Uh i jm kd kn (.str v) u (eK l y w d H g) (Y^.p p) (Y^.p^.int (c+(-(hl.filter λh=>A^eP p h):8))) T j,S')
 | [],_,m,_,c,q9,t,S,Q=>#[q9,t,S,Q,by simp[bX,bv]]
 |h::r,hh,m,hm,c,q9,t,S,Q=>by
  rwa[aP]at hm;let(hf,s,a,r',cs,ws,0,g2,hr1,hcs,e2,f):=Ic E M C hs^hh h aA;let F:_:=Uh i jm kd kn (.str v) u^eK l y w d H g
  let(L,e3,hkl,K):=Q.kw;let ef:=I _ hs h (hh h aA) n;let R:=f.good;have Z0:L.all bN=W:=bc.mpr λq hq=>(K q hq).good;have Z1:-L≤1000000:=by lia
  have e1:(O^lC (aY bA (aY bA (vE^U 07)^vC^.int 0)^vE^U 09) g7^fM^vC^.int 2) (F (Y^.p^.u [.u s,.u a]) (Y^.p^.int c) (Y^.p^.int (h:8)) t) S=Y (.p^eP (.u [.u s,.u a]) h,S):=by rw[e2];simp[F,bD g2,t5,cut [P.int (r':8),.u cs,.u ws] Z^Y 2=[P.int (r':8),.u cs]|>qz 2]
  generalize hO:eP (.u [.u s,.u a]) h=o at *
  have mid:X0 λG k=>G[kd]? = Y^.C k (k.map λq=>.p^.d^A q)/\-k≤m+1/\(∀q ∈ k,isOwn q)/\o ∈ k/\Fr b V G/\G[kn]? = Y (.l^N.map .p)/\∀X,(cg (bV^a9 i3 (U 010)^U 05) (tP (U 05) (vE^U 010)^aR (ba^Ph (n+010) "fits")^ae (vE^U 4)^ae (vE^U 010)^ae (vE^U 2)^ae (vE^U 3) ao) cN) (F (Y^.p X) (Y^.p^.int c) (Y^.p^.int (h:8))^Y^.p o) S=Y (.nx,F (Y^.p X) (Y^.p^.int c) (Y^.p^.int (h:8))^Y^.p o,G):=by
   by_cases q:il o L=W
   .calc#[S,L,e3,(),K,(Mh f K).mp q,Q.fr,Q.ac,λX=>?_];simp[F,i3,Qy,jP,e3,R,Z0,q]
   .have q':il o L=Xk:=by exists q
    refine#[S.set kd^.C (L++[o]) ((L.map λq=>D.p^.d^A q)++[.p^.d^A o]),L++[o],?_,by simp;lia,λx hx=>?_,∅,Q.fr.set hb hkd _,?_,λX=>?_]
    .rw [gB e3];simp
    .rcases cj.mp hx with z|z
     .exact K x z
     .rw [cJ.mp z];exact f
    .rw [aV hne];exact Q.ac
    .simp [F,i3,Qy,jP,e3,R,Z0,q',tP,ef,Z1]
  let(G,k,k1,k2,k3,k4,k5,k6,k7):=mid;let hlk:=y_ f A k3 k4;let(T,j,S',hK',e):=Nm hb hkd hkn hne hs (n:=n) (hl:=r) (λx hx=>hh x^aC _ hx) (m:=m+1) () (c+if A o=W then 1 else 0) (Y^.p^.int (h:8)) (Y^.p o) G #[k5,#[k,k1,k2,k3],k6];calc#[T,j,S',by rw[aP,m+(-r+1)=m+1+-r|>by lia];calc hK',?_];have hc:(-((h::r).filter λh=>A^eP (.u [.u s,.u a]) h):8)=(if A o=W then 1 else 0)+(-(r.filter λh=>A^eP (.u [.u s,.u a]) h):8):=by rw[mV,hO];cases A o<;>simp;lia
  rw[hc,<- wj];calc(bx (h:=F (Y^.p^.u [.u s,.u a]) (Y^.p^.int c) (Y^.p^.int (h:8)) t) rfl ?_).trans e;unfold eB;rw[ak (e:=F (Y^.p^.u [.u s,.u a]) (Y^.p^.int c) (Y^.p^.int (h:8))^Y^.p o) (c:=S) (by rw[az,e1];rfl),ak^k7 _];have ht:(bT^MA (U 05)^vE^U 010) (F (Y^.p^.u [.u s,.u a]) (Y^.p^.int c) (Y^.p^.int (h:8))^Y^.p o) G=Y (A o,G):=by have hga2:∀x:P,x ∈ k->bN x=W:=λq hq=>(k3 q hq).good;simp[F,jP,k1,R,hlk];rw[af hga2];rfl
  rw[cg,ht];cases A o
  .simp [F]
  .simp [F,xy]
def PU(hw:∀p ∈ x,dA B p)(hwl:-x≤100)(hS:Sc B x N b i j S)(hm:k8 S z (bX^aZ B.N l))(hjm:z < b) :
  X0 λk o=>Ph (c+011) "fitting_numbers" [.ref i,.ref z,.p^.str v,.p u] S=Y (.ref k,o)/\Fr b S o/\-S≤k/\o[k]? = Y^.l^(x.map λp=>P.int (lM A B.N l p:8)).map .p:=by
 have hcl:-(aZ B.N l)≤4:=aH (dE _ _)^lH E;let hb:=hS.bd.le;have hnm:l ∈ B.N:=zW E C;let(h0,hh0):=List.mem_iff_getElem?.mp hnm;have hc0:h0 ∈ aZ B.N l:=eF.mpr hh0;obtain⟨T,r1,hcr⟩:X0 λT r1=>aZ B.N l=T::r1:=by
  cases e:aZ B.N l with
  |nil=>rw[e]at hc0;ext hc0
  |cons a r=>exact#[a,r,0]
 have hf1:(a_ B.fams)[T]? = Y^eK l y w d H g:=by
  have hN:B.N[T]? = Y l:=eF.mp (by rw[hcr];calc aA);unfold BD.N aM at hN;rw[cm]at hN;cases e:(a_ B.fams)[T]? with
  |none=>rw[e]at hN;ext hN
  |some f=>rw[e]at hN;rw[E.fd f (zq e) _ C^cz hN]
 let F:_:=Uh i z S.length (-S+1) (.str v) u^eK l y w d H g
 let Q:aK:=S++[.C [] []]++[.l []]
 have fr0:Fr b S Q:=(Fr.app b S _).trans^Fr.app b _ _;have hl0:-Q=-S+2:=by simp[Q]
 have loop:∀(R:6 P),(∀p ∈ R,dA B p)->∀(n:6 P)(m:9),-n+-R≤100->m+4 * (-R)≤1000->∀(q7 q8 L q:7 D)(G:aK),KN b S.length (-S+1) S A n m G ->
   X3 λX Z0 q9' t o=>Fr b S o/\o[-S+1]? = Y^.l^(n++R.map λp=>P.int (lM A B.N l p:8)).map .p/\bv (am 07) (eA<|Ph<|c+010) R (F q7 q8 L q) G=Y (.nx,(F X Z0 q9' t),o):=by
  intro R;induction R with
  |nil=>calc λW n m W W q7 q8 L q G V=>#[q7,q8,L,q,G,V.fr,by simpa using V.ac,0]
  |cons p R ih=>
   intro hws n m ha hm' q7 q8 L q G V;rwa[aP]at ha hm';let hma:=hm.fr V.fr;let(ks,e3,hkl,hko):=V.kw;have hK2:KN b S.length (-S+1) S A n m (G.set z^.fz^.l^bX^aZ B.N l):=#[V.fr.trans^Fr.frz hjm hma,#[ks,by rw[aV ()];calc e3,hkl,hko],by rw[aV ()];calc V.ac];let(q9',t,S2,K,e4):=Nm E M C I (i:=i) (jm:=z) hb (ar _) (oO _ 1) () (hws p aA) (n:=c) (hl:=aZ B.N l) (λW h=>h) (m:=m) () 0 L q _ hK2;have happ:-n≤1000000:=by lia
   let(ks3,e5,hkl3,hko3):=K.kw;let(X,Z0,q9'',Z1,S3,f3,a3,e6):=ih (λs h=>hws s^aC _ h) (n++[P.int (lM A B.N l p:8)]) (m+4) (by simp;lia) () (Y^.p p) (Y^.p^P.int (lM A B.N l p:8)) q9' t (S2.set (-S+1)^.l^(n++[P.int (lM A B.N l p:8)]).map .p) #[K.fr.set hb (oO _ 1) _,#[ks3,by rw[aV ()];calc e5,(),hko3],gB K.ac];calc#[X,Z0,q9'',Z1,S3,f3,by rw[a3];simp,?_];calc(bx (h:=(F (Y^.p p) q8 L q)) rfl ?_).trans e6;unfold eA;rw[ak (e:=F (Y^.p p) (Y^.p^.int 0) L q) (c:=G) rfl];rw[ak (by rw[bR,d4,(vE^U 1) (F (Y^.p p) (Y^.p^.int 0) L q) G=Y (.l^bX^aZ B.N l,G.set z^.fz^.l^bX^aZ B.N l)|>hma.frz];calc e4)]
   rw[db];exact kq rfl K.ac rfl K.ac happ
 let(q7,q8,L,q,o,f',a',e'):=loop x hw [] 0 (by simp;lia) () Z Z Z Z Q #[fr0,#[[],by simp[Q],∅,λW h=>(by ext h)],by simp[Q]];calc#[-S+1,o,?_,f',oO _ 1,by exists a'];rw[nq];show b8^fQ _ [Y^.ref i,Y^.ref z,Y^.p^.str v,Y^.p u,Z,Z,Z,Z,Z,Z,Z] S=_;unfold fQ;have efam:dY (mT Tb<|Ph<|c+010) (bL (aT Att) (U 0) "board") "family_of" (aB (nc (U 1)^vC^.int 0) b_) [Y^.ref i,Y^.ref z,Y^.p^.str v,Y^.p u,Z,Z,Z,Z,Z,Z,Z] S=Y (.p^eK l y w d H g,S):=by have ex:nc (U 1) (vC^.int 0) [Y^.ref i,Y^.ref z,Y^.p^.str v,Y^.p u,Z,Z,Z,Z,Z,Z,Z] S=Y (.p^.int (T:8),S):=hm.ix rfl rfl (by rw[hcr];calc JK _ _);let(jh,jp,jl,jmm,mk,mv,hBt):=hS.bd;rw[hBt.meth (hS.board rfl) (Si _) SM (l:=[.p^.int (T:8)]) (by rw[aB,ex];rfl)];exact xT (n:=c+08) hS.bd hf1
 rw[ak (by rw[az,efam];rfl)];rw[ak (e:=[Y^.ref i,Y^.ref z,Y^.p^.str v,Y^.p u,Y^.p^eK l y w d H g,Y^.ref (-S),Z,Z,Z,Z,Z]) (c:=S++[.C [] []]) rfl];rw[ak (e:=(F Z Z Z Z)) (c:=Q) (by simp[F,Q])];rw[ak (by rw[bR,d4,vE,(hS.fr fr0).stand rfl];calc e')]
 rfl
end
noncomputable abbrev bs(t:P->15)(x:6 P):6 P:=x.map λp=>.d^t p
theorem uw{a:Type}{g:lc}{e:EV}{Inv:Lc->5}{Sp:aK->5}{F G:a->P}:∀{x:6 a}{L:Lc}{S:aK},(∀p ∈ x,∀L S,Inv L->Sp S->X0 λs k=>g (F p) L=Y s/\Inv s/\e s S=Y (G p,k)/\Sp k)->Inv L->Sp S->∃n,bG g dD e (x.map F) L S=Y (x.map G,n)/\Sp n
 | [],L,S,_,_,f=>#[S,0,f]
 |v::r,L,S,b,h,f=>by let(s,k,c,i,m,q):=b v aA L S h f;let(n,t,d):=uw (x:=r) (λw hw=>b w^aC _ hw) i q;calc#[n,by simp[bG,c,m,t],d]
def qB{a:Type}{i:lf}{g:lc}{e:EV}{x:6 a}{F G:a->P}{L:Lc}{S f:aK}{Sp:aK->5}(m:i L S=Y (x.map F,f))(hw:-x≤1000){n:9}{Inv:Lc->5}(r:∀p ∈ x,∀L S,Inv L->Sp S->X0 λk s=>g (F p) L=Y k/\Inv k/\e k S=Y (G p,s)/\Sp s)(h:Inv^mn [] n L)(c:Sp f):∃s,bf i [] n g dD e L S=Y (.l^x.map G,s)/\Sp s:=by
 let(s,b,t):=uw (x:=x) (F:=F) (G:=G) r h c;have q:-(x.map F)≤1000000:=by rw[aU];lia
 calc#[s,by rw[bf,m,aq,af (by rw[kB];calc q),b];rfl,t]
def jd{a:Type}{i:lf}{e:EV}{x:6 a}{F G:a->P}{L:Lc}{S h:aK}{k:9}(m:i L S=Y (x.map F,h))(hw:-x≤1000)(t:∀p ∈ x,e (L++[Y^.p^F p]) h=Y (G p,h))(hk:-L=k:=by rfl):bf i [] 1 (am k) dD e L S=Y (.l^x.map G,h):=by
 let(v,c,0):=qB (g:=am k) (e:=e) (n:=1) (Sp:=λb=>b=h) (Inv:=λf=>∃q,f=L++[q]) (G:=G) m hw (λp hst f b #[q,r] s=>by subst r s hk;calc#[_,_,0,#[Y^.p^F p,∅],by simpa using t p hst,0]) #[Z,0] rfl
 calc c
def eJ{c:EB}{a:EE}{r:ES}{L:Lc}{S:aK}(h:c L S=Y (W,S)):b8^ah (cg c (aD a) cN) r L S=b8^aD a L S:=by
 have:cg c (aD a) cN L S=aD a L S:=by rw[cg,h];rfl
 rw[ah,this,aD];cases a L S<;>rfl
def bI{c:EB}{x r:ES}{L:Lc}{S:aK}(h:c L S=Y (Xk,S)):ah (cg c x cN) r L S=r L S:=by
 have:cg c x cN L S=Y (.nx,L,S):=by rw[cg,h];rfl
 calc ak this
def QR(S h:aK)(d:D)(y:6 P):5:=∃k,-S≤k/\d=.ref k/\h[k]? = Y (.l^y.map .p)
section
variable{B:BD}(E:BP B){l:Str}{y:9}{w d H g:6 P}(M:Fam B.roads l y w d H g)(C:eK l y w d H g ∈ B.fams){v:Str}{u:P}{A:P->15}(I:∀p,dA B p->∀h ∈ aZ B.N l,∀n,ba (Ph (n+010) "fits") [eK l y w d H g,eP p h,.str v,u]=Y^.d^A^eP p h)
include E M C I
def IW{h:Str}{y:6 P}{t:P->15}(hk:(h="some"/\t=λp=>decide<|0 < (lM A B.N l p:8))\/(h="all"/\t=λp=>decide<|(lM A B.N l p:8)=(-(aZ B.N l):8))\/(h="many"/\X0 λ(w:Str) (z:8)=>y=[.str w,.int z]/\∀p n,ba (Ph (n+2) "compared") [.str w,.int (lM A B.N l p:8),.int z]=Y (.d^t p)))
  {x:6 P} (hw:∀p ∈ x,dA B p) (Z1:-x≤100) {N:P->15}{n b i j:9}{S:aK} (q:Sc B x N b i j S) :
  X0 λd o=>Ph (n+012) "hand_truths" [.ref i,.p^.u (.str h::.str l::.str v::u::y)] S=Y (d,o)/\Fr b S o/\QR S o d^bs t x:=by
 let hb:=q.bd.le;have V:l ∈ B.N:=zW E C;let(jh,jp,jl,jmm,mk,mv,a):=id q.bd;let(r,D,Q,m):=a.mm l V;let(k,S1,Z0,f1,R,X):=PU E M C I hw Z1 (c:=n) q m D;generalize c:P.u (.str h::.str l::.str v::u::y)=f;let(s,e2,K):=nE (b:=b) (g:=Ph (n+011) "fitting_numbers") (q:=aB (U 0)^aB (U 06)^aB (U 4)^aB (U 05) b_) (L:=[Y^.ref i,Y^.p f,Y^.p^.str h,Y^.p^.str l,Y^.p^.str v,Y^.p u,Y^.ref r,Z]) (S:=S) (l:=[.ref i,.ref r,.p^.str v,.p u]) rfl Z0 f1 hb^.inr #[k,R,0,.inl X];let T:=m.fr K;calc#[.ref (-s),s++[.l^(bs t x).map .p],?_,K.trans^Fr.app _ _ _,-s,K.len,0,dJ _ _];rw[rD];show b8^jt _ [Y^.ref i,Y^.p f,Z,Z,Z,Z,Z,Z] S=_;unfold jt;rw[ak (e:=[Y^.ref i,Y^.p f,Y^.p^.str h,Y^.p^.str l,Y^.p^.str v,Y^.p u,Z,Z]) (c:=S) (by rw[<- c];simp[cut (.str h::.str l::.str v::u::y) Z^Y 4=[.str h,.str l,.str v,u]|>qz 4])]
 rw[ak (e:=[Y^.ref i,Y^.p f,Y^.p^.str h,Y^.p^.str l,Y^.p^.str v,Y^.p u,Y^.ref r,Z]) (c:=S) (by rw[az,nc,a.members^q.board rfl];simp[a.me,dh,Q])]
 rw[ak (e:=[Y^.ref i,Y^.p f,Y^.p^.str h,Y^.p^.str l,Y^.p^.str v,Y^.p u,Y^.ref r,Y^.p^.l (x.map λp=>.int (lM A B.N l p:8))]) (c:=s) (by rw[az,O,e2];rfl)];let H:=λ(e:EV) he=>jd (k:=08) (i:=d4^vE^U 07) (e:=e) (L:=[Y^.ref i,Y^.p f,Y^.p^.str h,Y^.p^.str l,Y^.p^.str v,Y^.p u,Y^.ref r,Y^.p^.l (x.map λp=>.int (lM A B.N l p:8))]) (S:=s) (F:=λp=>.int (lM A B.N l p:8)) (G:=λp=>.d^t p) rfl () he;rcases hk with ⟨rfl,rfl⟩|⟨rfl,rfl⟩|⟨rfl,w,z,rfl,hc⟩
 .rw [eJ ∅,aD,e_,H _ λp W=>by simp];rfl
 .rw [bI ∅,eJ ∅,aD,e_,H _ λp W=>by simp[T.len,bX]];rfl
 .rw [bI ∅,bI ∅,aD,e_,H _ fun p _=>by
   let x1:=hc p (n+09);simp[<- c,QO,T1,x1]]
  rfl
end
section
variable{a:Type}(f:a->15)
theorem Nw:∀s:6 a,((s.map λh=>P.d^f h).any λy=>bH (pd y)^pd^.d W)=decide (0 < (-(s.filter f):8))
 | []=>rfl
 |x::r=>by
  rw[aI,cV,Nw r,mV];cases f x
  .rfl
  .show (W ||_)=_;rw[w5,af rfl,aP];calc(fx ()).symm
theorem Nx:∀s:6 a,(!((s.map λh=>P.d^f h).any λy=>bH (pd y)^pd^.d Xk))=decide ((-(s.filter f):8)=(-s:8))
 | []=>rfl
 |x::r=>by
  let l:=iU f r;rw[aI,cV,mV];cases f x
  .show (!(W ||_))=_;rw[w5,ag ∅,aP];exact(bK ()).symm
  .show (!(Xk ||_))=_;rw[ly,Nx r,af rfl,aP,aP];calc wD.mpr ()
theorem Np:∀s:6 a,((gM (s.map λh=>P.d^f h)).countP λz=>bH z^pd^.d W)=-(s.filter f)
 | []=>rfl
 |x::r=>by
  rw[aI,gM,List.countP_cons,Np r,mV];cases f x
  .rfl
  .rfl
theorem AU(s:6 a):(s.map λh=>P.d^f h).all^cX 19=W:=bc.mpr λy x=>by let(h,_,0):=bg.mp x;rfl
end
def jb{a n:9}{b:ES}{s:6 P}(h:-s=a):ba (np a n b) s=(b8^b (s.map (λp=>Y^.p p)++List.replicate (n-s.length) Z) []).bind λz=>(toP 09 z.1 z.2).map (·.1):=by
 unfold ba np;rw [aU,af h,gU];show (match b8^b (s.map (fun p=>Y^D.p p)++List.replicate (n-s.length) Z) [] with
  |some (d,S)=>(toP 09 d S).map (λ(x:P×aK)=>x.1)
  |none=>Z)=_
 cases b8^b (s.map (λp=>Y^D.p p)++List.replicate (n-s.length) Z) []<;>rfl
section
variable{B:BD}(E:BP B){l:Str}{v:Str}{u:P}{A:P->15}{p:P}(I:∀h ∈ aZ B.N l,∀n,ba (Ph (n+010) "_law_fits") [bE B,p,.int (h:8),.str v,u]=Y^.d^A^eP p h)
include E I
def Iy{k:Str}{c:6 P}{t:P->15}(hk:(k="some"/\t=λp=>decide<|0 < (lM A B.N l p:8))\/(k="all"/\t=λp=>decide<|(lM A B.N l p:8)=(-(aZ B.N l):8))\/(k="many"/\X0 λ(w:Str) (z:8)=>c=[.str w,.int z]/\∀n,ba (Ph (n+2) "_law_relation") [.str w,.int (lM A B.N l p:8),.int z]=Y (.d^t p)))(n:9) :
  ba (Ph (n+011) "_law_plain") [bE B,p,.u (.str k::.str l::.str v::u::c)]=Y (.d^t p):=by
 have H:-(aZ B.N l)≤4:=aH (dE _ _)^lH E;let d:=ng (n:=n+07) E.hf E.f0.2 (.l B.roads) (.l B.wishes) l;generalize f:P.u (.str k::.str l::.str v::u::c)=a;let m:=Nw (λh=>A^eP p h)^aZ B.N l;let r:=Nx (λh=>A^eP p h)^aZ B.N l;let q:=Np (λh=>A^eP p h)^aZ B.N l;let s:=AU (λh=>A^eP p h)^aZ B.N l;have e:bA a^.int 0=Y^.str k:=by rw[<- f];simp
 have b:¬k="true"/\¬k="dry"/\¬k="letters":=by rcases hk with ⟨rfl,_⟩|⟨rfl,_⟩|⟨rfl,_⟩<;>simp
 rw[i6,jb (a:=3) rfl];show(b8^eI _ [Y^.p^bE B,Y^.p p,Y^.p a,Z] []).bind _=_;unfold eI;rw[bI (by simp[e,b]),bI (by simp[e,b]),bI (by simp[e,b]),ak (by rw[az,O,jd (h:=[]) (x:=aZ B.N l) (F:=λ(h:9)=>P.int (h:8)) (G:=λh=>.d^A^eP p h) (by simp[<- f,d];rfl) () λh S=>by simp[<- f,I h S n]];rfl)];generalize y:(aZ B.N l).map (λh=>P.d^A^eP p h)=bs at m r q s ⊢;have g:FO (.d W)^.l bs=Y (decide<|0 < (lM A B.N l p:8)):=by show(if (bs.all^cX 19 && cX 19 (.d W))=W then _ else _)=_;rw[s];exact cA Y m
 have i:FO (.d Xk)^.l bs=Y (!decide ((lM A B.N l p:8)=(-(aZ B.N l):8))):=by show(if (bs.all^cX 19 && cX 19 (.d Xk))=W then _ else _)=_;rw[s];exact cA Y (by rw[decide ((lM A B.N l p:8)=(-(aZ B.N l):8))=_|>r.symm,Bool.not_not])
 have j:Jy bs^.d W=Y^lM A B.N l p:=by unfold Jy;rw[s];exact cA Y q
 rcases hk with ⟨rfl,rfl⟩|⟨rfl,rfl⟩|⟨rfl,w,z,rfl,o⟩
 .rw [eJ (by simp[e])];simp[gK,io,zY,g,b8]
 .rw [bI (by simp[e]),eJ (by simp[e])];simp[iw,zY,i,b8]
 .rw [bI (by simp[e]),bI (by simp[e])];let K:=o (n+08);simp[j,<- f,QO,T1,K,b8]
end
end My
namespace My
open PySem L2 Ev
def isM(mk:Str)(l:P):15:=decide (mk="") ||decide (br l=mk)
def P_(mk:Str)(r:P):8:=(-((re r).filter^isM mk):8)
def sumK(f:9->8):6 9->8
 | []=>0
 |k::r=>f k+sumK f r
def nY(l:6 P)(mk:Str)(k:9):8:=P_ mk^l[k]?.getD .n
def M4(st:P):6 P:=re^gH st 1
theorem ol{n:Type}{g:lc}{c:EB}{e:EV}{Inv:Lc->5}{S:aK}{p:n->15}{F f:n->P}:∀{s:6 n}{L:Lc},(∀v ∈ s,∀L,Inv L->∃x,g (F v) L=Y x/\Inv x/\c x S=Y (p v,S)/\(p v=W->e x S=Y (f v,S)))->Inv L ->
  bG g c e (s.map F) L S=Y ((s.filter p).map f,S)
 | [],L,_,h=>rfl
 |v::r,L,t,h=>by
  let(x,b,i,a,q):=t v aA L h;let m:=ol (s:=r) (L:=x) (λw hw=>t w^aC _ hw) i;cases k:p v with
  |false=>rw[k]at a;simp[bG,b,a,m,k]
  |true=>rw[k]at a;simp[bG,b,a,m,k,q k]
variable{B:BD}{l:6 P}
theorem Eg(y:ce B l)(s:P)(mk:Str)(n:P):∀(d:6 9),(∀k ∈ d,k < -l)->∀(c:8)(t:7 D),∃a,bv (am 4) (ff E) (bX d) [Y^.p^.u [s,.u l],Y^.p n,Y^.p^.str mk,Y^.p^.int c,t] []=Y (.nx,[Y^.p^.u [s,.u l],Y^.p n,Y^.p^.str mk,Y<|.p<|.int<|c+sumK (nY l mk) d,a],[])
 | [],_,c,t=>#[t,by simp[bX,bv,sumK]]
 |k::r,h,c,t=>by
  let hk:=h k aA;have b:l[k]? = Y l[k]:=bt hk;let(z,j,e):=y.2 k l[k] b;rw[e]at b;let(a,o):=Eg (E:=E) y s mk n r (λx K=>h x^aC _ K) (c+nY l mk k) (Y^.p^.int (k:8));calc#[a,?_];rw[c+sumK (nY l mk) (k::r)=c+nY l mk k+sumK (nY l mk) r|>by rw[wj];rfl];calc(bx (h:=[Y^.p^.u [s,.u l],Y^.p n,Y^.p^.str mk,Y^.p^.int c,Y^.p^.int (k:8)]) rfl ?_).trans o;let u:=cI (g:=am 05) (c:=zS (bV^a9 eS (U 2)^O^vC^.str "")^bV^a9 eS (O^aY bA (vE^U 05)^vC^.int 0)^U 2) (e:=vE^U 05) (S:=[]) (p:=isM mk) (f:=id) (Inv:=λL=>∃q,L=[Y^.p^.u [s,.u l],Y^.p n,Y^.p^.str mk,Y^.p^.int c,Y^.p^.int (k:8),q]) (s:=z) (λv F L A=>by let(q,H):=A;subst H;let(m,i,G,_,0):=(j.2 v F).1;calc#[_,0,#[_,0],by by_cases C:mk=""<;>simp[isM,br,C]<;>rfl,λX=>rfl]) #[Z,0]
  rw[gS]at u;have w:-z≤1000000:=by have:=j.1;lia
  unfold ff;simp[xy,bf,mn,bD b,u,dj,dP,nY,P_,b,w]
def Sm(r:ce B l)(s:P)(mk:Str)(h:∀k ∈ x,k < -l)(n:9):ba (Ph (n+2) "letter_number") [.u [s,.u l],.l^bX x,.str mk]=Y (.int^sumK (nY l mk) x):=by let(q,e):=Eg (E:=Ph<|n+1) r s mk (.l^bX x) x h 0 Z;rw[db]at e;rw[pB,aL];simp[ko,e]
def ud(B:BD)(a b:Str)(k:9):15:=decide (a=rA^gH (B.PR[k]?.getD .n) 0) && decide (b=rB^gH (B.PR[k]?.getD .n) 0)
def Fw(B:BD)(a b:Str):6 9:=(List.range (-B.PR)).filter^ud B a b
def QC(B:BD)(k:9):P:=.u [.int (k:8),(B.PR[k]?).getD .n]
variable{c:Str}
def W8(o:aJ a=W)(H:aJ b=W)(h:aJ c=W)(hd:aJ d=W):zZ (.u [.str a,.str b])^.u [.str c,.str d]=Y (decide (c=a) && decide (d=b)):=by unfold zZ;show(if (cX 20 (.u [.str a,.str b]) && cX 20 (.u [.str c,.str d]))=W then Y (bH (pd^.u [.str a,.str b])^pd^.u [.str c,.str d]) else Z)=_;rw[af (by simp[o,H,h,hd]),bH (pd^.u [.str a,.str b]) (pd^.u [.str c,.str d])=(bH (pd^.str a) (pd^.str c) && (bH (pd^.str b) (pd^.str d) && W))|>rfl,zy,zy,sE]
section
variable{B:BD}(A:BP B){a b:Str}(o:aJ a=W)(H:aJ b=W)
include A o H
def M5(hk:k < -B.PR):X3 λ(r:P)(t:6 P)(x y:Str)(u:6 P)=>(B.PR[k]?).getD .n=.u (r::t)/\r=.u (.str x::.str y::u)/\zZ (.u [.str x,.str y])^.u [.str a,.str b]=Y^ud B a b k:=by have h:B.PR[k]? = Y B.PR[k]:=bt hk;let(r,f,i,j,e):=qI (B:=B)^gW hk;let(x,y,kd,c,d,n,m,p,_,_,_,s):=A.hr r f;rw[e]at h;calc#[r,_,x,y,[.str kd,.int c,.d d,.d n],by rw[h];rfl,s,?_];rw[W8 m p o H];unfold ud;rw[h,s];rfl
theorem En(Q:ce B l)(j K:P)(Z0:aJ mk=W)(w:Str)(z:8):∀(R:6 9),(∀k ∈ R,k < -B.PR)->∀(c:8)(G I:7 D),X0 λs n=>bv (bu [am 4,am 05]) (iF ψ) (R.map^QC B) [Y^.p K,Y^.p^.u [j,.u l],Y^.p^.u [.str "letters",.str a,.str b,.str mk,.str w,.int z],Y^.p^.int c,G,I] []=Y (.nx,[Y^.p K,Y^.p^.u [j,.u l],Y^.p^.u [.str "letters",.str a,.str b,.str mk,.str w,.int z],Y<|.p<|.int<|c+sumK (nY l mk) (R.filter^ud B a b),s,n],[])
 | [],_,c,G,I=>#[G,I,by simp[bv,sumK]]
 |k::r,h,c,G,I=>by
  let hk:=h k aA;let(ro,t,x,y,u,e0,er,C):=M5 A o H hk;subst er;have M:k < -l:=by rw[Q.1];exact hk
  have E:l[k]? = Y l[k]:=bt M;let(ls,X,e):=Q.2 k l[k] E;rw[e]at E;let(s,n,e2):=En (ψ:=ψ) Q j K Z0 w z r (λx hx=>h x^aC _ hx) (c+if ud B a b k=W then nY l mk k else 0) (Y^.p^.int (k:8)) (Y^.p^.u (.u (.str x::.str y::u)::t));calc#[s,n,?_];have F:c+sumK (nY l mk) ((k::r).filter^ud B a b)=c+(if ud B a b k=W then nY l mk k else 0)+sumK (nY l mk) (r.filter^ud B a b):=by
   rw[mV];cases ud B a b k
   .simp
   .rw [af rfl,af rfl,wj];rfl
  rw [F];calc (bx (h:=[Y^.p K,Y^.p^.u [j,.u l],Y^.p^.u [.str "letters",.str a,.str b,.str mk,.str w,.int z],Y^.p^.int c,Y^.p^.int (k:8),Y^.p^.u (.u (.str x::.str y::u)::t)]) (by rw [QC,e0];rfl) ?_).trans e2;let Z1:=cI (g:=am 06) (c:=bV^a9 gK (O^aY bA (vE^U 2)^vC^.int 3)^O^bj^ae (vC^.str "")^ae (aY bA (vE^U 06)^vC^.int 0) ao) (e:=vE^U 06) (S:=[]) (p:=isM mk) (f:=id) (Inv:=fun L=>∃q,L=[Y^.p K,Y^.p^.u [j,.u l],Y^.p^.u [.str "letters",.str a,.str b,.str mk,.str w,.int z],Y^.p^.int c,Y^.p^.int (k:8),Y^.p^.u (.u (.str x::.str y::u)::t),q]) (s:=ls) (fun v hv L hz=>by
   let(q,hq):=hz;subst hq;let(m,i,N,_,0):=(X.2 v hv).1;have q0:aJ ""=W:=by decide +kernel
   calc#[_,0,#[_,0],by simp[gK,io,zY,eX,FO,Z0,N,q0,zy,isM,br,eq_comm (a:=m)],λJ=>rfl]) #[Z,0]
  rw[gS]at Z1;have d:-ls≤1000000:=by have:=X.1;lia
  have T:cut [P.str "letters",.str a,.str b,.str mk,.str w,.int z] (Y 1)^Y 3=[.str a,.str b]:=rfl;have V:cut (P.str x::.str y::u) Z^Y 2=[.str x,.str y]:=qz 2;unfold iF;cases hp:ud B a b k
  .rw [hp]at C;simp[T,V,C]
  .rw [hp]at C;simp[T,V,C,bf,mn,bD E,Z1,dj,dP,nY,P_,E,d]
theorem Lx(h:k ∈ Fw B a b):k < -B.PR:=iO.mp (f8.mp h).1
end
def t8(B:BD)(a b mk:Str)(st:P):8:=sumK (nY (M4 st) mk)^Fw B a b
section
variable{B:BD}(A:BP B){a b:Str}(o:aJ a=W)(H:aJ b=W)
include A o H
def L7(hst:dA B st)(m:aJ mk=W)(w:Str)(z:8)(n:9):ba (Ph (n+05) "_law_count") [bE B,st,.u [.str "letters",.str a,.str b,.str mk,.str w,.int z]]=Y (.int^t8 B a b mk st):=by let(s,l,0,h):=hst;let(q,x,e):=En A o H (ψ:=Ph<|n+4) h.hr (.u s) (bE B) m w z (List.range (-B.PR)) (λk hk=>iO.mp hk) 0 Z Z;let p:=L3 (n:=n) A;rw[db]at e;rw[u0,aL];rw[(List.range (-B.PR)).map^QC B=cy 0 (bM (aM B.fams) B.roads)|>(zz _).symm]at e;simp[nM,p,e,t8,M4,Fw]
def Sn{st:P}(hst:dA B st){mk:Str}(h:aJ mk=W){w:Str}{z:8}{t:P->15}(x:∀n,ba (Ph (n+2) "_law_relation") [.str w,.int^t8 B a b mk st,.int z]=Y (.d^t st))(n:9) :
  ba (Ph (n+011) "_law_plain") [bE B,st,.u [.str "letters",.str a,.str b,.str mk,.str w,.int z]]=Y (.d^t st):=by
 let e:=L7 A o H hst h w z (n+05);let s:=x (n+08);rw[i6,aL];simp[eI,e,s,QO,T1]
def Sl{mk w:Str}{z:8}{t:P->15}(ht:∀st n,ba (Ph (n+2) "compared") [.str w,.int^t8 B a b mk st,.int z]=Y (.d^t st)){s:6 P}(hw:∀st ∈ s,dA B st)(hwl:-s≤100){r:P->15}{n I i j:9}{S:aK}(N:Sc B s r I i j S) :
  X0 λd m=>Ph (n+012) "letter_truths" [.ref i,.p^.u [.str "letters",.str a,.str b,.str mk,.str w,.int z]] S=Y (d,m)/\Fr I S m/\QR S m d^bs t s:=by
 let(jh,E,jl,jmm,mk',mv,h):=id N.bd;generalize C:P.u [.str "letters",.str a,.str b,.str mk,.str w,.int z]=v;have M:Fr I S (S.set E^.fz^.l B.PR):=Fr.frz h.bp h.pr;let hpl:=uE A;let L:7 D->Lc:=λq=>[Y^.ref i,Y^.p v,Y^.p^.str a,Y^.p^.str b,Y^.p^.str mk,Y^.p^.str w,Y^.p^.int z,q]
 let T:=ol (g:=bu [am 08,am 09]) (c:=(bV^a9 eS (O^lC (aY bA (vE^U 09)^vC^.int 0) g7^fM^vC^.int 2)^O^aQ^ae (vE^U 2)^ae (vE^U 3) ao)) (e:=vE^U 08) (S:=S.set E^.fz^.l B.PR) (p:=ud B a b) (F:=QC B) (f:=λk=>P.int (k:8)) (Inv:=λR=>X0 λZ1 X=>R=L Z++[Z1,X]) (s:=List.range (-B.PR)) (λk hk R hz=>by let(Z1,X,Q):=hz;subst Q;let(ro,t,x,y,u,Z0,er,eq):=M5 A o H^iO.mp hk;subst er;have e6:cut (P.str x::.str y::u) Z^Y 2=[.str x,.str y]:=qz 2;calc#[L Z++[Y^.p^.int (k:8),Y^.p^.u (.u (.str x::.str y::u)::t)],by rw[QC,Z0];rfl,#[_,_,0],by simp[L,e6,eq],λJ=>rfl]) (L:=L Z++[Z,Z]) #[Z,Z,0]
 rw[(List.range (-B.PR)).map^QC B=cy 0 B.PR|>(zz _).symm]at T;calc#[.ref (-(S.set E^.fz^.l B.PR)),S.set E (.fz^.l B.PR)++[.l^(bs t s).map .p],?_,M.trans^Fr.app _ _ _,_,M.len,0,dJ _ _];rw[pA];show b8^h7 _ [Y^.ref i,Y^.p v,Z,Z,Z,Z,Z,Z] S=_;unfold h7;rw[ak (e:=L Z) (c:=S) (by have e5:cut [P.str "letters",.str a,.str b,.str mk,.str w,.int z] (Y 1) Z=[.str a,.str b,.str mk,.str w,.int z]:=rfl;rw[<- C];simp[e5,L,<- C])]
 rw [ak (e:=L^Y^.p^.l^bX^Fw B a b) (c:=S.set E^.fz^.l B.PR) (by
  have Q:-(cy 0 B.PR)≤1000000:=by rw[zz];simp;lia
  rw[az,O,bf,lG,vE,h.pairs^N.board rfl,aq,h.pr.frz,aq];show bw (bw (if few^cy 0 B.PR=W then _ else _) _) _=_;rw[af (by rw[kB];calc Q)];show bw (bw (bw (bG _ _ _ (cy 0 B.PR) (L Z++[Z,Z]) _) _) _) _=_;rw[T];rfl)]
 rw[aD,e_,jd (x:=s) (F:=id) (G:=λst=>.d^t st) (by rw[d4,vE,(N.fr M).stand rfl,gS];rfl) () λst hst=>by let x1:=ht st (n+09);let(V,l,0,K):=hw st hst;let x2:=Sm K.hr (.u V) mk (x:=Fw B a b) (λk hk=>by rw[K.hr.1];calc Lx A o H hk) (n+09);have x3:ba (Ph (n+011) "compared") [.str w,.int^sumK (nY l mk)^Fw B a b,.int z]=Y (.d^t^.u [.u V,.u l]):=x1;simp[L,x2,x3]]
 rfl
end
def Lo(b:9)(S m:aK):5:=b≤-m/\∀k,k < b->m[k]? = S[k]?
section
variable{b i j k n:9}{S m h:aK}
theorem Lo.set(H:b≤-S)(hk:b≤k)(o:SO):Lo b S^S.set k o:=#[by simpa using H,λq h=>aV ()]
theorem Lo.app(H:b≤-S)(T:aK):Lo b S (S++T):=#[by simp;lia,λk hk=>cG ()]
def Lo.trunc(H:b≤-S)(h:b≤n):Lo b S^trunc n S:=by
 unfold Ev.trunc;split
 .exact#[by rw[iR];lia,λk hk=>iW ()]
 .calc#[H,λz z=>rfl]
def Bd.keep(h:Bd B b i S)(r:b≤-m)(f:∀k o,k < b->S[k]? = Y o->(∀e d,o≠.B "Scene" e d)->m[k]? = Y o):Bd B b i m:=by
 let(p,w,q,v,mk,u,h):=h;have l:∀{k:9}{a:6 P},k < b->k8 S k a->k8 m k a:=λhk h=>by
  rcases h with h|h
  .exact .inl (f _ _ hk h λy y z=>by ext z)
  .exact .inr (f _ _ hk h λy y z=>by ext z)
 calc#[p,w,q,v,mk,u,f _ _ h.bi h.ins (λy y z=>by have:("Board":Str)="Scene":=(SO.B.inj z).1;calc absurd this (by decide +kernel)),l h.bh h.ho,l h.bp h.pr,f _ _ h.bl h.pl (λy y z=>by ext z),f _ _ h.bm h.me (λy y z=>by ext z),λs t=>by let(j,x,n,c):=h.mm s t;calc#[j,x,n,l x c],h.bi,h.bh,h.bp,h.bl,h.bm,r]
def Fr.ins(f:Fr b S m)(a:i < b)(h:S[i]? = Y^.B c x d):m[i]? = Y^.B c x d:=by
 rcases f.low i _ a h with e|⟨_,q,_⟩
 .exact e
 .ext q
variable{B:BD}{s:6 P}{r:P->15}
def Sc.lo(h:Sc B s r b i j S)(f:Lo b S m):Sc B s r b i j m:=by let(dr,e,hd):=h.sc;calc#[h.bd.keep f.1 λk o hk e z=>(f.2 k hk).trans e,#[dr,(f.2 i h.hi).trans e,hd],h.hi]
def Sj(h:Str->GF):mT Tb h "Scene" "dry_truths"=Y^h "Scene.dry_truths":=by kernel_rfl
def SN:yN.contains "dry_truths"=Xk:=by decide +kernel
def RK:putK "dries" yN=yN:=by decide +kernel
def RM{a b c d y:D}:nS "dries" y yN [a,b,c,d]=[a,b,c,y]:=by simp[nS,yN]
def MR(B:BD)(r:P->15):5:=∀st,dA B st->∀(n b i:9)(S:aK),Bd B b i S->∃m,Ph (n+014) "is_dry" [.ref i,.p st] S=Y (.p^.d^r st,m)/\Fr b S m
def SU(hd:MR B r)(hw:∀st ∈ s,dA B st)(Q:-s≤100)(h:Sc B s r b i j S):X0 λk m=>Ph (n+015) "Scene.dry_truths" [.ref i] S=Y (.ref k,m)/\Sc B s r b i j m/\b≤k/\m[k]? = Y (.l^(bs r s).map .p):=by
 let H:=h.bd.le;rw[mG];show X0 λk m=>b8^fh _ [Y^.ref i] S=_/\_;unfold fh;have t:∀f,Sc B s r b i j f->(X1 λx y z=>f[i]? = Y^.B "Scene" yN [x,y,z,.p^.l^bs r s])->X0 λk m=>b8^aD (vK^vE^bL (aT Att) (U 0) "dries") [Y^.ref i] f=Y (.ref k,m)/\Sc B s r b i j m/\b≤k/\m[k]? = Y (.l^(bs r s).map .p):=λf P R=>by let(x,y,z,e):=R;calc#[-f,_,?_,P.lo^Lo.app P.bd.le _,P.bd.le,dJ _ _];rw[aD,vK,vE,bL];show b8^bw (bw (bw (bw (Y (D.ref i,f)) _) _) _) _=_;rw[aq];rwa[e,ny,K',fw];rfl
 let(dr,e,A):=h.sc;have l:∀a,a[0]? = Y (Y^D.ref i)->bL (aT Att) (U 0) "dries" a S=Y (dr,S):=λa I=>by rw[bL,U 0 a S=Y (.ref i,S)|>by rwa[EK,I],aq];rwa[e,ny,K',fw];rfl
 rcases A with rfl|rfl
 .let(c,u,w):=qB (i:=d4^vE^bL (aT Att) (U 0) "standings") (g:=am 1) (e:=(cw (Ph (n+014) "is_dry")^aB (bL (aT Att) (U 0) "board")^aB (U 1) b_)) (x:=s) (F:=id) (G:=fun st=>.d^r st) (L:=[Y^.ref i]) (S:=S) (f:=S) (Sp:=fun m=>Fr b S m) (by rw [d4,vE,h.stand rfl,gS];rfl) () (n:=1) (Inv:=fun a=>∃q,a=[Y^.ref i,q]) (fun st hst a m #[q,N] p=>by
   subst N;let v:=h.fr p;let(f,C,E):=hd st (hw st hst) n b j m v.bd;let(c,u,w):=vR (b:=b) (g:=Ph (n+014) "is_dry") (q:=aB (bL (aT Att) (U 0) "board")^aB (U 1) b_) (L:=[Y^.ref i,Y^.p st]) (S:=m) (l:=[.ref j,.p st]) (by rw[aB,v.board rfl];rfl) C E;calc#[[Y^.ref i,Y^.p st],c,0,#[_,0],u,p.trans w]) #[Z,0]^Fr.refl _ _
  let v:=h.fr w;let d:=w.ins h.hi e;have M:Sc B s r b i j (c.set i^.B "Scene" yN [.ref j,.p^.l s,.ref i,.p^.l^bs r s]):=by
   calc#[v.bd.keep (by rw[de];calc v.bd.le) λk o hk K T=>?_,#[_,gB d,.inr rfl],h.hi];rw[aV λz=>?_]
   .exact K
   .subst z;rw[d]at K;ext K;exact T _ _ rfl
  rw[ak (e:=[Y^.ref i]) (c:=c.set i^.B "Scene" yN [.ref j,.p^.l s,.ref i,.p^.l^bs r s]) (by rw[cg,bV,a9,l _ rfl];show jv (aT Att) (U 0) "dries" _ [Y^.ref i] S=_;rw[jv,O,u,aq,aq];show bw (Y (D.ref i,c)) _=_;rw[aq];rwa[d,ny,RK,RM];rfl)]
  exact t _ M #[_,_,_,gB d]
 .rw [ak (e:=[Y^.ref i]) (c:=S) (by
   rw[cg,bV,a9,l _ rfl];rfl)]
  calc t _ h #[_,_,_,e]
end
def NA(B:BD)(s:6 P)(r:P->15)(n:9)(v:P)(t:P->15):5:=∀(b i j:9)(S:aK),Sc B s r b i j S->X0 λk m=>Ph n "truths_in" [.ref i,.p v] S=Y (.ref k,m)/\Sc B s r b i j m/\b≤k/\m[k]? = Y (.l^(bs t s).map .p)
@[simp] theorem WJ:aJ "some"=W/\aJ "all"=W/\aJ "many"=W/\aJ "letters"=W/\aJ "dry"=W:=by decide +kernel
def Sw{k a b:Str}{S:aK}(h:aJ k=W)(x:aJ a=W)(e:aJ b=W):gK (.p^.str k) (.p^.u [.str a,.str b]) S=Y^.d (decide (k=a) ||decide (k=b)):=by simp[gK,io,zY,eX,FO,h,x,e,zy]
def TX(h:aJ k=W)(x:aJ a=W)(e:aJ b=W)(s:aJ c=W):gK (.p^.str k) (.p^.u [.str a,.str b,.str c]) S=Y^.d (decide (k=a) ||(decide (k=b) ||decide (k=c))):=by simp[gK,io,zY,eX,FO,h,x,e,s,zy]
noncomputable abbrev T3(i:9)(v:P)(k:Str):Lc:=[Y^.ref i,Y^.p v,Y^.p^.str k]
section
variable{B:BD}{s:6 P}{r:P->15}{n:9}{t u:P->15}
def Wm(b:9)(S:aK)(d:D)(y:6 P):5:=d=.p^.l y\/∃k,b≤k/\d=.ref k/\S[k]? = Y (.l^y.map .p)
def TI(B:BD)(s:6 P)(r:P->15)(n:9)(v:P)(t:P->15):5:=∀(b i j:9)(S:aK),Sc B s r b i j S->X0 λd m=>Ph n "truths_in" [.ref i,.p v] S=Y (d,m)/\Sc B s r b i j m/\Wm b m d^bs t s
theorem NA.ti(h:NA B s r n v t):TI B s r n v t:=λb i j S c=>by let(k,m,e,x,a,f):=h b i j S c;calc#[_,m,e,x,.inr #[k,a,0,f]]
def E2{v:P}(h:TI B s r n v t){b i j:9}{S:aK}(a:Sc B s r b i j S){f:uH}{L:Lc}(o:f L S=Y ([.ref i,.p v],S)):∃m,cw (Ph n "truths_in") f L S=Y (.l^bs t s,m)/\Sc B s r b i j m:=by
 let(d,m,e,x,hd):=h b i j S a;rcases hd with rfl|⟨k,hk,rfl,c⟩
 .exact#[_,by rw[cw,o,aq,e,aq];rfl,x.lo^Lo.trunc x.bd.le a.bd.le]
 .calc#[_,by rw[cw,o,aq,e,aq,dw c,aq],(x.lo^Lo.set x.bd.le hk _).lo^Lo.trunc (by rw[de];calc x.bd.le) a.bd.le]
theorem K1(w:-s≤100):NA B s r (n+3) (.u [.str "true"]) λz=>W:=λb i j S h=>by
 calc#[-S,S++[.l^(s.map λz=>P.d W).map .p],?_,h.lo^Lo.app h.bd.le _,h.bd.le,dJ _ _];rw[dO];show b8^bB _ [Y^.ref i,Y^.p^.u [.str "true"],Z] S=_;unfold bB;have x:-s≤1000000:=by lia
 have a:-s < 1000000:=by lia
 rw[ak (e:=T3 i (.u [.str "true"]) "true") (c:=S) ∅,eJ ∅,aD,Mz];rw[bj (ae (vC^.d W) ao) (T3 i (.u [.str "true"]) "true") S=Y (.l [.d W],S)|>rfl,aq,xi,h.stand rfl];simp[dj,dP,x,a,List.map_const']
theorem Od(w:-s≤100){v:P}(h:TI B s r (n+2) v t):NA B s r (n+3) (.u [.str "not",v]) λst=>!t st:=λb i j S k=>by let(a,e,x):=E2 h k (f:=aB (U 0)^aB (O^aY bA (vE^U 1)^vC^.int 1) b_) (L:=T3 i (.u [.str "not",v]) "not") ∅;calc#[-a,a++[.l^(s.map λst=>P.d<|!t st).map .p],?_,x.lo^Lo.app x.bd.le _,x.bd.le,dJ _ _];rw[dO];show b8^bB _ [Y^.ref i,Y^.p^.u [.str "not",v],Z] S=_;unfold bB;rw[ak (e:=T3 i (.u [.str "not",v]) "not") (c:=S) ∅,bI ∅,eJ ∅,aD,e_,jd (x:=s) (F:=λst=>.d^t st) (G:=λst=>.d<|!t st) (by rw[d4,e];rfl) () λst z=>by simp];rfl
theorem oX(f g:P->P):∀s:6 P,q_ (s.map f)^s.map g=s.map λst=>.u [f st,g st]
 | []=>rfl
 |w::r=>by have:=oX f g r;unfold q_ at this ⊢;rwa[aI,wU,this]
def vH(l:-s≤100){w:Str}{o:15->15->15}(hw:(w="and"/\o=and)\/(w="or"/\o=or))(S:aK):Ph (n+2) "joined" [.p^.str w,.p^.l^bs t s,.p^.l^bs u s] S=Y (.ref (-S),S++[.l^(s.map λst=>P.d^o (t st)^u st).map .p]):=by
 let L:Lc:=[Y^.p^.str w,Y^.p^.l^bs t s,Y^.p^.l^bs u s]
 suffices h:∀(e:EV),(∀st,e (L++[Y^.p^.d^t st,Y^.p^.d^u st]) S=Y (.d^o (t st)^u st,S))->e_ (bf (A5 (vE^U 1)^vE^U 2) [] 2 (bu [am 3,am 4]) dD e) L S=Y (.ref (-S),S++[.l^(s.map λst=>P.d^o (t st)^u st).map .p]) by
  rw[Bg];show b8^ou _ L S=_;unfold ou;rcases hw with ⟨rfl,rfl⟩|⟨rfl,rfl⟩
  .rw [eJ (by simp[L]),aD,h _ λst=>by cases a:t st<;>simp[L,a]];rfl
  .rw [bI (by simp[L]),aD,h _ λst=>by cases a:t st<;>simp[L,a]];rfl
 intro e b;let(p,f,0):=qB (i:=A5 (vE^U 1)^vE^U 2) (g:=bu [am 3,am 4]) (e:=e) (x:=s) (F:=λst=>.u [.d^t st,.d^u st]) (G:=λst=>.d^o (t st)^u st) (L:=L) (S:=S) (f:=S) (Sp:=λm=>m=S) (by simp[L,oX]) () (n:=2) (Inv:=λk=>X0 λq r=>k=L++[q,r]) (λst hst k m #[q,r,c] x=>by subst c x;calc#[_,_,0,#[_,_,0],b st,0]) #[Z,Z,0] rfl
 rw[e_,f];rfl
theorem Og(l:-s≤100){w:Str}{o:15->15->15}(hw:(w="and"/\o=and)\/(w="or"/\o=or)){v1 v2:P}(c:TI B s r (n+2) v1 t)(m:TI B s r (n+2) v2 u):NA B s r (n+3) (.u [.str w,v1,v2]) λst=>o (t st)^u st:=λb i j S p=>by
 let(d,e,v):=E2 c p (f:=aB (U 0)^aB (O^aY bA (vE^U 1)^vC^.int 1) b_) (L:=T3 i (.u [.str w,v1,v2]) w) ∅;let(h,a,k):=E2 m v (f:=aB (U 0)^aB (O^aY bA (vE^U 1)^vC^.int 2) b_) (L:=T3 i (.u [.str w,v1,v2]) w) ∅;calc#[-h,h++[.l^(s.map λst=>P.d^o (t st)^u st).map .p],?_,k.lo^Lo.app k.bd.le _,k.bd.le,dJ _ _];rw[dO];show b8^bB _ [Y^.ref i,Y^.p^.u [.str w,v1,v2],Z] S=_;unfold bB;let f:=vH (n:=n) (t:=t) (u:=u) l hw h;have q:gK (.p^.str w) (.p^.u [.str "and",.str "or"]) S=Y^.d W:=by rw[Sw (by rcases hw with ⟨rfl,_⟩|⟨rfl,_⟩<;>simp) ∅ ∅];rcases hw with ⟨rfl,_⟩|⟨rfl,_⟩<;>simp
 have x:¬w="true"/\¬w="not":=by rcases hw with ⟨rfl,_⟩|⟨rfl,_⟩<;>simp
 rw[ak (e:=T3 i (.u [.str w,v1,v2]) w) (c:=S) ∅,bI (by simp[x]),bI (by simp[x]),eJ (by simp[q]),aD,d_,aB];show b8^bw (bw (bw (Y (D.p^.str w,S)) _) _) _=_;rw[aq,aB,O,e,aq,aq,aB,O,a,aq,aq];show b8^bw (Ph (n+2) "joined" [.p^.str w,.p^.l^bs t s,.p^.l^bs u s] h) _=_;rw[f];rfl
def QR.low{S m:aK}{d:D}{y:6 P}(h:QR S m d y){b:9}(H:b≤-S):∃k,d=.ref k/\b≤k/\m[k]? = Y (.l^y.map .p):=by let(k,e,x,a):=h;calc#[k,x,(),a]
theorem xo{x:Str}{l:6 P}(hk:x="some"\/x="all"\/x="many")(h:∀(b i j:9) (S:aK),Sc B s r b i j S->X0 λd m=>Ph (n+2) "hand_truths" [.ref i,.p^.u (.str x::l)] S=Y (d,m)/\Fr b S m/\QR S m d^bs t s):NA B s r (n+3) (.u (.str x::l)) t:=λb i j S c=>by
 let(d,m,e,f,o):=h b i j S c;let(k,0,p,q):=o.low c.bd.le;calc#[k,m,?_,c.fr f,p,q];rw[dO];show b8^bB _ [Y^.ref i,Y^.p^.u (.str x::l),Z] S=_;unfold bB;have a:¬x="true"/\¬x="not"/\¬x="and"/\¬x="or"/\aJ x=W:=by rcases hk with rfl|rfl|rfl<;>simp
 have v:gK (.p^.str x) (.p^.u [.str "some",.str "all",.str "many"]) S=Y^.d W:=by rw[TX a.2.2.2.2 ∅ ∅ ∅];rcases hk with rfl|rfl|rfl<;>simp
 rw[ak (e:=T3 i (.u (.str x::l)) x) (c:=S) ∅,bI (by simp[a]),bI (by simp[a]),bI (by simp[Sw,a]),eJ (by simp[v]),aD,d_];show b8^bw (Ph (n+2) "hand_truths" [.ref i,.p^.u (.str x::l)] S) _=_;rw[e];rfl
theorem Oe(h:∀(b i j:9) (S:aK),Sc B s r b i j S->X0 λd m=>Ph (n+2) "letter_truths" [.ref i,.p^.u (.str "letters"::x)] S=Y (d,m)/\Fr b S m/\QR S m d^bs t s):NA B s r (n+3) (.u (.str "letters"::x)) t:=λb i j S a=>by let(d,m,e,f,o):=h b i j S a;let(k,0,c,p):=o.low a.bd.le;calc#[k,m,?_,a.fr f,c,p];rw[dO];show b8^bB _ [Y^.ref i,Y^.p^.u (.str "letters"::x),Z] S=_;unfold bB;rw[ak (e:=T3 i (.u (.str "letters"::x)) "letters") (c:=S) ∅,bI ∅,bI ∅,bI (by simp[Sw]),bI (by simp[TX]),eJ ∅,aD,d_];show b8^bw (Ph (n+2) "letter_truths" [.ref i,.p^.u (.str "letters"::x)] S) _=_;rw[e];rfl
theorem Of(hd:MR B r)(hw:∀st ∈ s,dA B st)(w:-s≤100):NA B s r (n+016) (.u [.str "dry"]) r:=λb i j S a=>by let(k,m,e,h,x,c):=SU (n:=n) hd hw w a;calc#[k,m,?_,h,x,c];rw[dO];show b8^bB _ [Y^.ref i,Y^.p^.u [.str "dry"],Z] S=_;unfold bB;rw[ak (e:=T3 i (.u [.str "dry"]) "dry") (c:=S) ∅,bI ∅,bI ∅,bI (by simp[Sw]),bI (by simp[TX]),bI ∅,eJ ∅,aD,dY];let(dr,f,_):=a.sc;show b8^bw (bw (Y (D.ref i,S)) _) _=_;rw[aq];rwa[f,Sj,SN];show b8^bw (Ph (n+015) "Scene.dry_truths" [.ref i] S) _=_;rw[e];rfl
end
end My
namespace My
open PySem L2 Ev
def gL(st:P)(h:9):P:=gH (gH st 0) h
def kh(q:P):5:=X1 λ(r:8)(s w:6 P)=>q=.u [.int r,.u s,.u w]/\(∀c ∈ s,isI c)/\∀c ∈ w,isI c
def kh.good(h:kh q):bN q=W:=by
 let(r,cs,ws,0,h1,h2):=h;have o1:cX 06 (.u cs)=W:=bc.mpr λc hc=>(h1 c hc).ok 05;have o2:cX 06 (.u ws)=W:=bc.mpr λc hc=>(h2 c hc).ok 05;have o:cX 08 (.u [.int r,.u cs,.u ws])=W:=by show(List.all [P.int r,.u cs,.u ws]^cX 07)=W;rw[cU,cU,cU,g6 o1 (06≤07|>by lia),g6 o2 (06≤07|>by lia)];simp
 unfold bN;rw[o];show(W && (W && Nk.kd (pd^.u [.int r,.u cs,.u ws])))=W;rw[oV,oV];refine jU λx hx=>?_
 rwa[a8,eO,eN]at hx;rcases hx with rfl|rfl|rfl
 .rfl
 .exact jU λc hc=>by let(i,0):=h1 c hc;rfl
 .calc jU λc hc=>by let(i,0):=h2 c hc;rfl
def lX(a b:P):15:=bH (pd a)^pd b
def kh.eqv(h:kh q)(h':kh k):lX q k=W↔q=k:=by calc#[λe'=>?_,λe=>by rw[e];calc(Nk.eqv_kd _ _ (eE h'.good)^eE h'.good).mpr rfl];unfold lX at e';let(r,cs,ws,0,h1,h2):=h;let(r',cs',ws',0,h1',h2'):=h';rwa[pd,gM,bH,qK,av,mO,sE]at e';let(e1,e2,e3):=e';let a1:=pq h1 h1' e2;let a2:=pq h2 h2' e3;rw[a1,a2,e1]
variable{B:BD}{h:9}
def xV(s:dA B st)(m:h < -(a_ B.fams)):kh^gL st h/\X0 λs d=>st=.u [.u s,.u d]/\s[h]? = Y^gL st h:=by
 let(s,d,0,S):=s;let(f,x,p,g,_,_,_,_,_,_,_,r,n,w,t,_,b,_,hw):=S.at (k:=h) m;have e:gL (.u [.u s,.u d]) h=x:=by simp[gL,g]
 rw[e];calc#[#[r,n,w,t,λc a=>by let(i,_,e):=b.2.1 c a;calc#[i,e],λc a=>(hw c a).isI],s,d,0,g]
def kw(a:6 P)(h:9)(t:P->15)(st:P):15:=a.all λx=>!lX (gL x h)^gL st h ||t x
structure FI(web:6 P)(h:9)(t:P->15)(r:9)(S:aK):5 where
 ex:X0 λks vs=>S[r]? = Y^.C ks vs/\-ks=-vs/\-ks≤-web/\(∀k ∈ ks,kh k)/\∀k,kh k->(il k ks=web.any λx=>lX (gL x h) k)/\eR k ks vs=if (web.any λx=>lX (gL x h) k)=W then Y^.p^.d (web.all λx=>!lX (gL x h) k ||t x) else Z
def I0(k q:P)(s:6 P):il k (s++[q])=(il k s ||bH (pd q) (pd k)):=by simp[il]
theorem vx(k q:P)(y:D):∀(s:6 P)(x:6 D),-s=-x->eR k (s++[q]) (x++[y])=(eR k s x).or (if bH (pd q)^pd k=W then Y y else Z)
 | [],[],_=>by show(if bH (pd q)^pd k=W then Y y else eR k [] [])=_;simp[eR]
 | [],_::_,h=>by simp at h
 |_::_,[],h=>by simp at h
 |p::s,v::x,h=>by rw[mU,mU,eR,eR,vx k q y s x (by exists h)];split<;>simp
theorem qh(k q:P)(y:D)(hk:kh k)(f:kh q):∀(s:6 P)(a:6 D),-s=-a->(∀p ∈ s,kh p)->eR k s^rh q y s a=if lX q k=W then (eR k s a).map (λw=>y) else eR k s a
 | [],[],_,_=>by simp[eR,rh]
 | [],_::_,h,_=>by simp at h
 |_::_,[],h,_=>by simp at h
 |p::s,v::a,h,g=>by
  let i:=qh k q y hk f s a (by exists h) λp x=>g p^aC _ x;let x:=g p aA;rw[rh,eR,eR,i];show(if lX p k=W then Y (if lX p q=W then y else v) else _)=_;by_cases e:lX p k=W
  .rw [af e];let c:=(x.eqv hk).mp e;subst c;by_cases n:lX p q=W
   .let b:=(x.eqv f).mp n;subst b;simp[bH (pd p)^pd p=W|>n,lX]
   .have b:¬lX q p=W:=λz=>n ((x.eqv f).mpr ((f.eqv x).mp z).symm);rw[ag n,ag b,af (bH (pd p)^pd p=W|>e)]
  .rw [ag e,ag (¬bH (pd p)^pd k=W|>e)]
theorem yU(q:P)(y:D):∀(k:6 P)(s:6 D),-(rh q y k s)=-s
 | [],s=>by ext s<;>rfl
 |_::_,[]=>rfl
 |p::k,v::s=>by rw[rh,aP,yU q y k s,aP]
def AL:gI "around" yN [x,b,c,d]=Y c:=by simp[gI,yN]
def Sc.around(h:Sc B a p b i j S)(x:o L S=Y (.ref i,S)):bL (aT Att) o "around" L S=Y (.ref i,S):=by let(dr,e,_):=h.sc;rw[bL,x,aq];rwa[e,ny,AL,fw];rfl
def zT(f:e->15)(s:6 e)(x:e):(s++[x]).any f=(s.any f ||f x):=by simp
def vY(f:e->15)(s:6 e)(x:e):(s++[x]).all f=(s.all f && f x):=by simp
variable{t:P->15}
def E6{p:6 P}(q:¬(p.any λx=>lX (gL x h) k)=W):(p.all λx=>!lX (gL x h) k ||t x)=W:=by
 rw[bc];intro x a;have:lX (gL x h) k=Xk:=by
  cases e:lX (gL x h) k with
  |false=>rfl
  |true=>exact absurd (j9.mpr #[x,a,e]) q
 rw[this];rfl
def FI.step(I:FI s h t r S)(n:kh^gL st h)(N:-s≤1000)(H:L[3]? = Y (Y^.ref r))(C:L[05]? = Y (Y^.p^.d^t st))(F:L[06]? = Y (Y^.p^gL st h)) :
  ∃o,vl (U 3) (vE^U 06) (vB^iL (bV^ml (U 3) (vE^U 06)^vC^.d W)^bV^vE^U 05) L S=Y (.nx,L,S.set r o)/\FI (s++[st]) h t r^S.set r o:=by
 let(a,v,e,m,M,f,l):=I.ex;have K:jP (.ref r) S=Y (r,a,v):=by simp[jP,e]
 have G:a.all bN=W:=bc.mpr λk hk=>(f k hk).good;have i:∀k ∈ a,bN k=W:=λk hk=>(f k hk).good;let j:=n.good;have E:-a≤1000000:=by lia
 let(P,w):=l _ n;have A:(vB^iL (bV^ml (U 3) (vE^U 06)^vC^.d W)^bV^vE^U 05) L S=Y (.d ((s.all λx=>!lX (gL x h)^gL st h ||t x) && t st),S):=by
  have g:ml (U 3) (vE^U 06) (vC^.d W) L S=Y (.d (s.all λx=>!lX (gL x h)^gL st h ||t x),S):=by
   by_cases q:(s.any λx=>lX (gL x h)^gL st h)=W
   .rw [af q]at w;simp[H,F,K,j,w];exact i
   .rw [ag q]at w;rw[E6 q];simp[H,F,K,j,w];exact i
  cases B:(s.all λx=>!lX (gL x h)^gL st h ||t x) with
  |false=>rw[B]at g;simp[-ml,g,C]
  |true=>rw[B]at g;simp[-ml,g,C]
 generalize z:((s.all λx=>!lX (gL x h)^gL st h ||t x) && t st)=y at A;have D:vl (U 3) (vE^U 06) (vB^iL (bV^ml (U 3) (vE^U 06)^vC^.d W)^bV^vE^U 05) L S=Y (.nx,L,S.set r (if il (gL st h) a=W then .C a^rh (gL st h) (.p^.d y) a v else .C (a++[gL st h]) (v++[.p^.d y]))):=by unfold vl;rw[A,aq];simp[H,F,K,j,E];exact i
 calc#[_,D,#[?_]];by_cases q:il (gL st h) a=W
 .have b:(s.any λx=>lX (gL x h)^gL st h)=W:=by rw[<- P];exact q
  calc#[a,rh (gL st h) (.p^.d y) a v,by rw[af q];calc gB e,by rw[yU];calc m,by simp;lia,f,λk hk=>?_];let(u,p):=l k hk;rw[zT,vY];by_cases c:lX (gL st h) k=W
  .have:=(n.eqv hk).mp c;subst this;calc#[by rw[q,b];rfl,?_];rw[qh _ _ _ hk n _ _ m f,af c,p,af b,b,c];simp[<- z]
  .have d:lX (gL st h) k=Xk:=by exists c
   calc#[by rw[u,d,C7],?_];rw[qh _ _ _ hk n _ _ m f,ag c,p,d];simp
 .have b:¬(s.any λx=>lX (gL x h)^gL st h)=W:=by rw[<- P];exact q
  refine#[a++[gL st h],v++[.p^.d y],by rw[ag q];calc gB e,by simp[m],by simp;lia,λk hk=>?_,λk hk=>?_]
  .rcases cj.mp hk with hk|hk
   .exact f k hk
   .rw [cJ.mp hk];exact n
  .let(u,p):=l k hk;rw[zT,vY,I0,vx _ _ _ _ _ m,u,p];show(_ ||lX (gL st h) k)=_/\(Option.or _ (if lX (gL st h) k=W then _ else _))=_;calc#[0,?_];by_cases c:lX (gL st h) k=W
   .have:=(n.eqv hk).mp c;subst this;have:=E6 (t:=t) b
    rw[this]at z;rw[ag b,af c,c,this];simp[<- z]
   .have d:lX (gL st h) k=Xk:=by exists c
    rw[ag c,d];simp
section
variable{B:BD}{a:6 P}{p:P->15}{b i j:9}{S:aK}
theorem t_(y:h < -(a_ B.fams))(F:Str->GF)(inn:P)(H:-S≤r)(l:b≤-S):∀{w p:6 P},(∀st ∈ w,dA B st)->-(p++w)≤1000->∀{a:aK}(f c k:7 D),Fr b S a->FI p h t r a ->
  X2 λq e s n=>bv (bu [am 4,am 05]) (fP F) (w.map λst=>.u [st,.d^t st]) [Y^.ref i,Y^.p^.int (h:8),Y^.p inn,Y^.ref r,f,c,k] a=Y (.nx,[Y^.ref i,Y^.p^.int (h:8),Y^.p inn,Y^.ref r,q,e,s],n)/\Fr b S n/\FI (p++w) h t r n
 | [],p,_,_,a,f,c,k,v,I=>#[f,c,k,a,0,v,by exists I]
 |st::w,p,hw,z,a,f,c,k,v,I=>by
  let(C,N,M,m,j):=xV (hw st aA) y;have E:-p≤1000:=by simp at z;lia
  let(o,K,u):=I.step C E (L:=[Y^.ref i,Y^.p^.int (h:8),Y^.p inn,Y^.ref r,Y^.p st,Y^.p^.d^t st,Y^.p^gL st h]) rfl rfl rfl;let(q,e,s,n,A,d,g):=t_ y F inn H l (w:=w) (p:=p++[st]) (λx G=>hw x^aC _ G) (by exists z) (Y^.p st) (Y^.p^.d^t st) (Y^.p^gL st h) (v.set l H o) u;calc#[q,e,s,n,?_,d,by exists g];calc(bx (h:=[Y^.ref i,Y^.p^.int (h:8),Y^.p inn,Y^.ref r,Y^.p st,Y^.p^.d^t st,k]) rfl ?_).trans A;unfold fP;rw[ak (e:=[Y^.ref i,Y^.p^.int (h:8),Y^.p inn,Y^.ref r,Y^.p st,Y^.p^.d^t st,Y^.p^gL st h]) (c:=a) (by rw[m]at j ⊢;simp[bD j])]
  calc K
def ze(H:Sc B a p b i j S)(hw:∀st ∈ a,dA B st)(hwl:-a≤100)(Q:h < -(a_ B.fams))(t:P->15):∃m,Ph (n+2) "known_truths" [.ref i,.p^.int (h:8),.p^.l^bs t a] S=Y (.p^.l^bs (kw a h t) a,m)/\Fr b S m:=by
 let hb:=H.bd.le;let r:=Fr.app b S [.C [] []];let d:=H.fr r;have I:FI [] h t S.length (S++[.C [] []]):=#[[],[],dJ _ _,0,∅,∅,λk J=>#[0,0]];let(T,f,c,s,Z1,v,N):=t_ (i:=i) Q (t:=t) (Ph<|n+1) (.l^bs t a) (ar _) hb (w:=a) (p:=[]) hw (by simp;lia) Z Z Z r I;rw[dR]at N;let A:=H.fr v;let(R,vs,e,h1,h2,M,h4):=N.ex;have on:jP (.ref (-S)) s=Y (-S,R,vs):=by simp[jP,e]
 have ga:R.all bN=W:=bc.mpr λk hk=>(M k hk).good;have Z0:q_ a^bs t a=a.map λst=>.u [st,.d^t st]:=by have:=oX id (λst=>.d^t st) a;(rw [gS]at this;assumption)
 have w:-a≤1000000:=by lia
 let(V,l,C):=uw (g:=am 4) (e:=ml (U 3) (aY bA (aY bA (vE^U 4)^vC^.int 0)^vE^U 1)^vC^.d W) (Inv:=fun L=>∃q,L=[Y^.ref i,Y^.p^.int (h:8),Y^.p^.l^bs t a,Y^.ref (-S),q,f,c]) (Sp:=fun m=>m=s) (F:=id) (G:=fun st=>.d^kw a h t st) (x:=a) (L:=[Y^.ref i,Y^.p^.int (h:8),Y^.p^.l^bs t a,Y^.ref (-S),Z,f,c]) (S:=s) (fun st hst L m #[q,hq] K=>by
  subst hq;rw[m=s|>K];let(u,hs,rds,o,E):=xV (hw st hst) Q;let(a1,D):=h4 _ u;have y:(a.any λx=>lX (gL x h)^gL st h)=W:=j9.mpr #[st,hst,(u.eqv u).mpr rfl];rw[af y]at D;let gk:=u.good;calc#[[Y^.ref i,Y^.p^.int (h:8),Y^.p^.l^bs t a,Y^.ref (-S),Y^.p st,f,c],s,0,#[_,0],?_,0];have X:(aY bA (aY bA (vE^U 4)^vC^.int 0)^vE^U 1) [Y^.ref i,Y^.p^.int (h:8),Y^.p^.l^bs t a,Y^.ref (-S),Y^.p st,f,c] s=Y (gL st h,s):=by rw[o]at E ⊢;simp[bD E]
  unfold kw;simp[-aY,X,on,gk,D];calc λk hk=>(M k hk).good) #[Z,0] rfl
 rw [V=s|>C] at l;calc#[s,?_,v];rw [qy];show b8^iH _ [Y^.ref i,Y^.p^.int (h:8),Y^.p^.l^bs t a,Z,Z,Z,Z] S=_;unfold iH;rw [ak (e:=[Y^.ref i,Y^.p^.int (h:8),Y^.p^.l^bs t a,Y^.ref (-S),Z,Z,Z]) (c:=S++[.C [] []]) rfl];rw [ak (e:=[Y^.ref i,Y^.p^.int (h:8),Y^.p^.l^bs t a,Y^.ref (-S),T,f,c]) (c:=s) (by
  have z:bL (aT Att) (bL (aT Att) (U 0) "around") "standings" [Y^.ref i,Y^.p^.int (h:8),Y^.p^.l^bs t a,Y^.ref (-S),Z,Z,Z] (S++[.C [] []])=Y (.p^.l a,S++[.C [] []]):=d.stand^d.around rfl;have hz:A5 (vE^bL (aT Att) (bL (aT Att) (U 0) "around") "standings") (vE^U 2) [Y^.ref i,Y^.p^.int (h:8),Y^.p^.l^bs t a,Y^.ref (-S),Z,Z,Z] (S++[.C [] []])=Y (q_ a^bs t a,S++[.C [] []]):=by rw[A5,vE,z];simp[bs]
  rw[bR,hz,aq,Z0];calc Z1)]
 have z:bL (aT Att) (U 0) "standings" [Y^.ref i,Y^.p^.int (h:8),Y^.p^.l^bs t a,Y^.ref (-S),T,f,c] s=Y (.p^.l a,s):=A.stand rfl;rw[gS]at l;rw[aD,O,bf,d4,vE,z];show b8^bw (bw (if few a=W then bw (bG _ _ _ a [Y^.ref i,Y^.p^.int (h:8),Y^.p^.l^bs t a,Y^.ref (-S),Z,f,c] s) _ else Z) _) _=_;rw[af (by rw[kB];calc w),l];rfl
end
def Mj(B:BD):-B.N=-(a_ B.fams):=by unfold BD.N aM;simp
variable{m:Str}
def EW(x:h ∈ aZ B.N m):h < -(a_ B.fams):=by rw[<- Mj];calc bW^eF.mp x
def MD(n:m ∈ B.N):X0 λh r=>aZ B.N m=h::r:=by
 let(i,x,e):=iT.mp n;have:i ∈ aZ B.N m:=eF.mpr (by rw[bt x,e]);cases c:aZ B.N m with
 |nil=>rw[c]at this;ext this
 |cons h r=>calc#[h,r,0]
def kn(a:6 P)(s:15)(x:6 9)(t:P->15)(st:P):15:=if s=W then x.any λh=>kw a h t st else x.all λh=>kw a h t st
def Gp(s:15):15->15->15:=if s=W then or else and
theorem Et(a:6 P)(s:15)(t:P->15)(st:P):∀(r:6 9)(x:15),r.foldl (λy h=>Gp s y^kw a h t st) x=Gp s x^kn a s r t st
 | [],x=>by ext s<;>simp[Gp,kn]
 |h::r,x=>by rw[f6,Et a s t st r];ext s<;>simp[Gp,kn,Bool.or_assoc,Bool.and_assoc]
def Mc(a:6 P)(s:15)(t:P->15)(st:P)(h:9)(r:6 9):Gp s (kw a h t st)^kn a s r t st=kn a s (h::r) t st:=by ext s<;>simp[Gp,kn]
def wK(s:15):Str:=if s=W then "some knows" else "each knows"
variable{n:9}
def zg(h:-a≤100)(s:15)(t u:P->15):ba (Ph (n+2) "joined") [.str (if s=W then "or" else "and"),.l^bs t a,.l^bs u a]=Y^.l^bs (λst=>Gp s (t st)^u st) a:=by let e:=vH (n:=n) (t:=t) (u:=u) h (w:=if s=W then "or" else "and") (o:=Gp s) (by ext s<;>simp[Gp]) [];unfold ba;show(match Ph (n+2) "joined" [.p^.str (if s=W then "or" else "and"),.p^.l^bs t a,.p^.l^bs u a] [] with|some (d,S)=>(toP 09 d S).map _|none=>Z)=_;rw[e];show(toP 09 (.ref 0) [SO.l _]).map _=_;rw[dw rfl];rfl
section
variable{B:BD}{a:6 P}{p:P->15}{b i j:9}{S:aK}
abbrev KL(i:9)(s:15)(m:Str)(v inn f:P)(q h:7 D):Lc:=[Y^.ref i,Y^.p^.u [.str^wK s,.str m,v],Y^.p^.str^wK s,Y^.p^.str m,Y^.p v,Y^.p inn,Y^.p f,q,h]
theorem Es(A:Sc B a p b i j S)(hw:∀st ∈ a,dA B st)(l:-a≤100)(w:a≠[])(t:P->15)(s:15)(m:Str)(v:P){n:9}:∀{r:6 9},(∀h ∈ r,h < -(a_ B.fams))->∀{f:P->15}{c:aK}(z k:7 D),Fr b S c ->
  X1 λq e o=>bv (am 07) (cH<|Ph<|n+2) (bX r) (KL i s m v (.l^bs t a) (.l^bs f a) z k) c=Y (.nx,KL i s m v (.l^bs t a) (.l^bs (λst=>r.foldl (λy h=>Gp s y^kw a h t st)^f st) a) q e,o)/\Fr b S o
 | [],_,f,c,z,k,u=>#[z,k,c,0,u]
 |h::r,C,f,c,z,k,u=>by
  let(o,I,H):=ze (n:=n) (A.fr u) hw l (C h aA) t;let(E,M,F):=vR (b:=b) (g:=Ph (n+2) "known_truths") (q:=aB (U 0)^aB (U 07)^aB (U 05) b_) (L:=KL i s m v (.l^bs t a) (.l^bs f a) (Y^.p^.int (h:8)) k) (l:=[.ref i,.p^.int (h:8),.p^.l^bs t a]) rfl I H;let(q,e,G,N,K):=Es A hw l w t s m v (n:=n) (r:=r) (λx Q=>C x^aC _ Q) (f:=λst=>Gp s (f st)^kw a h t st) (Y^.p^.int (h:8)) (Y^.p^.l^bs (kw a h t) a)^u.trans F;calc#[q,e,G,?_,K];calc(bx (h:=KL i s m v (.l^bs t a) (.l^bs f a) (Y^.p^.int (h:8)) k) rfl ?_).trans N;let d:=zg (n:=n) l s f^kw a h t;unfold cH;rw[ak (e:=KL i s m v (.l^bs t a) (.l^bs f a) (Y^.p^.int (h:8))^Y^.p^.l^bs (kw a h t) a) (c:=E) (by rw[az,O,M];rfl)];ext s
  .rwa[sG,j7]at d;simp[dj,dP,w,wK,d]
  .rwa[fw]at d;simp[dj,dP,w,wK,d]
def Sr(hP:BP B)(E:Sc B a p b i j S)(hw:∀st ∈ a,dA B st)(w:-a≤100)(F:a≠[])(s:15)(I:m ∈ B.N)(Z0:TI B a p (n+2) v t):∃P,Ph (n+3) "knowing_truths" [.ref i,.p^.u [.str^wK s,.str m,v]] S=Y (.p^.l^bs (kn a s (aZ B.N m) t) a,P)/\Sc B a p b i j P:=by
 let(c,M,k):=E2 Z0 E (f:=aB (bL (aT Att) (U 0) "around")^aB (U 4) b_) (L:=[Y^.ref i,Y^.p^.u [.str^wK s,.str m,v],Y^.p^.str^wK s,Y^.p^.str m,Y^.p v,Z,Z,Z,Z]) (by rw[aB,E.around rfl];rfl);let(jh,jp,jl,jm,mk,mv,o):=id k.bd;let(K,X,R,H):=o.mm m I;let(e,r,G):=MD I;have l:∀h ∈ aZ B.N m,h < -(a_ B.fams):=λh Z1=>EW Z1;rw[G]at l H;have q:Fr b c (c.set K^.fz^.l^bX (e::r)):=Fr.frz X H;let(S2,N,d):=ze (n:=n) (k.fr q) hw w (l e aA) t;let(A,Q,u):=vR (b:=b) (g:=Ph (n+2) "known_truths") (q:=aB (U 0)^aB (U 07)^aB (U 05) b_) (L:=KL i s m v (.l^bs t a) (.l []) (Y^.p^.int (e:8)) Z) (l:=[.ref i,.p^.int (e:8),.p^.l^bs t a]) rfl N d;let(q7,q8,C,D,z):=Es k hw w F t s m v (n:=n) (r:=r) (λx hx=>l x^aC _ hx) (f:=kw a e t) (Y^.p^.int (e:8)) (Y^.p^.l^bs (kw a e t) a)^q.trans u;calc#[C,?_,k.fr z];have T:(λst=>r.foldl (λy h=>Gp s y^kw a h t st)^kw a e t st)=kn a s (aZ B.N m) t:=by funext st;rw[Et,Mc,G]
 rw [T] at D;rw [n_];show b8^gE _ [Y^.ref i,Y^.p^.u [.str^wK s,.str m,v],Z,Z,Z,Z,Z,Z,Z] S=_;unfold gE;rw [ak (e:=[Y^.ref i,Y^.p^.u [.str^wK s,.str m,v],Y^.p^.str^wK s,Y^.p^.str m,Y^.p v,Z,Z,Z,Z]) (c:=S) ∅];rw [ak (e:=[Y^.ref i,Y^.p^.u [.str^wK s,.str m,v],Y^.p^.str^wK s,Y^.p^.str m,Y^.p v,Y^.p^.l^bs t a,Z,Z,Z]) (c:=c) (by rw [az,O,M];rfl)];rw [ak (e:=KL i s m v (.l^bs t a) (.l []) Z Z) (c:=c) ∅];rw [ak (e:=KL i s m v (.l^bs t a) (.l^bs (kn a s (aZ B.N m) t) a) q7 q8) (c:=C) (by
  have V:nc (bL (aT Att) (bL (aT Att) (U 0) "board") "members") (vE^U 3) (KL i s m v (.l^bs t a) (.l []) Z Z) c=Y (.ref K,c):=by rw[nc,o.members^k.board rfl];simp[o.me,dh,R]
  rw[bR,d4,vE,V,aq,H.frz,aq];calc Eq.trans (b:=bv (am 07) (cH<|Ph<|n+2) (bX (e::r)) (KL i s m v (.l^bs t a) (.l []) Z Z)^c.set K^.fz^.l^bX (e::r)) rfl ?_;calc(bx (h:=KL i s m v (.l^bs t a) (.l []) (Y^.p^.int (e:8)) Z) (L2:=KL i s m v (.l^bs t a) (.l^bs (kw a e t) a) (Y^.p^.int (e:8))^Y^.p^.l^bs (kw a e t) a) (x:=A) rfl ?_).trans D;unfold cH;rw[ak (e:=KL i s m v (.l^bs t a) (.l []) (Y^.p^.int (e:8))^Y^.p^.l^bs (kw a e t) a) (c:=A) (by rw[az,O,Q];rfl)];simp[dj,dP])]
 rfl
theorem K2(P:BP B)(hw:∀st ∈ a,dA B st)(l:-a≤100)(w:a≠[])(s:15)(f:m ∈ B.N)(c:TI B a p (n+2) v t):TI B a p (n+4) (.u [.str^wK s,.str m,v])^kn a s (aZ B.N m) t:=λb i j S k=>by
 let(x,e,h):=Sr P k hw l w s f c;calc#[_,x,?_,h,.inl rfl];have hk:¬wK s="true"/\¬wK s="not"/\¬wK s="and"/\¬wK s="or"/\¬wK s="some"/\¬wK s="all"/\¬wK s="many"/\¬wK s="letters"/\¬wK s="dry"/\aJ^wK s=W:=by ext s<;>decide +kernel
 rw[dO];show b8^bB _ [Y^.ref i,Y^.p^.u [.str^wK s,.str m,v],Z] S=_;unfold bB;rw[ak (e:=T3 i (.u [.str^wK s,.str m,v])^wK s) (c:=S) ∅,bI (by simp[hk]),bI (by simp[hk]),bI (by simp[Sw,hk]),bI (by simp[TX,hk]),bI (by simp[hk]),bI (by simp[hk]),aD,d_];show b8^bw (Ph (n+3) "knowing_truths" [.ref i,.p^.u [.str^wK s,.str m,v]] S) _=_;rw[e];rfl
end
end My
namespace My
open PySem L2 Ev
def Wb{h:Type}(f:h->15)(s:6 h):FO (.d Xk)^.l (s.map λx=>.d^f x)=Y (!s.all f):=by
 show(if ((s.map λx=>P.d^f x).all^cX 19 && cX 19 (.d Xk))=W then Y ((s.map λx=>P.d^f x).any λy=>bH (pd y)^pd^.d Xk) else Z)=_;rw[AU];calc cA Y ?_;induction s with
 |nil=>rfl
 |cons x s i=>rw[aI,cV,i,cU];cases f x<;>rfl
def inT{h:Type}(f:h->15)(s:6 h):FO (.d W)^.l (s.map λx=>.d^f x)=Y^s.any f:=by
 show(if ((s.map λx=>P.d^f x).all^cX 19 && cX 19 (.d W))=W then Y ((s.map λx=>P.d^f x).any λy=>bH (pd y)^pd^.d W) else Z)=_;rw[AU];calc cA Y ?_;induction s with
 |nil=>rfl
 |cons x s i=>rw[aI,cV,i,cV];cases f x<;>rfl
def Mv(h:kh a)(x:kh b):zZ a b=Y^lX a b:=by let o:=g6 (cX 08 a=W|>by have:=h.good;unfold bN at this;rwa[av]at this;calc this.2.1) (08≤20|>by lia);let k:=g6 (cX 08 b=W|>by have:=x.good;unfold bN at this;rwa[av]at this;calc this.2.1) (08≤20|>by lia);let(r,s,n,0,_):=h;let(e,c,w,0,_):=x;unfold zZ;show(if (cX 20 (.u [.int r,.u s,.u n]) && cX 20 (.u [.int e,.u c,.u w]))=W then Y (bH (pd^.u [.int r,.u s,.u n])^pd^.u [.int e,.u c,.u w]) else Z)=_;rw[o,k];rfl
def Sq(r:6 P)(h:9)(t:P->15)(st:P):(r.filter λx=>lX (gL x h)^gL st h).all t=kw r h t st:=by
 unfold kw;induction r with
 |nil=>rfl
 |cons x s i=>rw[mV,cU,<- i];cases lX (gL x h)^gL st h<;>simp
section
variable{B:BD}{r:6 P}(hw:∀st ∈ r,dA B st)(x:-r≤100)
include hw x
theorem Eh(l:P)(j:h < -(a_ B.fams))(t:P->15)(I:Str->GF):∀{w a:6 P},(∀st ∈ w,st ∈ r)->-a+-w≤1000->∀(d q:7 D),X0 λs n=>bv (am 05) (iE I) w [Y^.p l,Y^.p^.l r,Y^.p^.int (h:8),Y^.p^.l^bs t r,Y^.ref 0,d,q] [.l^a.map .p]=Y (.nx,[Y^.p l,Y^.p^.l r,Y^.p^.int (h:8),Y^.p^.l^bs t r,Y^.ref 0,s,n],[.l^(a++bs (kw r h t) w).map .p])
 | [],a,_,_,d,q=>#[d,q,by simp[bs,bv]]
 |st::w,a,A,Z1,d,q=>by
  rw[aP]at Z1;let(V,hs,rds,u,H):=xV (hw st^A st aA) j;let(s,n,Q):=Eh l j t I (w:=w) (a:=a++[.d^kw r h t st]) (λx z=>A x^aC _ z) (by simp;lia) (Y^.p st)^Y^.p^.l ((r.filter λx=>lX (gL x h)^gL st h).map λx=>.d^t x);calc#[s,n,?_];rw[a++bs (kw r h t) (st::w)=a++[.d^kw r h t st]++bs (kw r h t) w|>by simp[bs]];calc(bx (h:=[Y^.p l,Y^.p^.l r,Y^.p^.int (h:8),Y^.p^.l^bs t r,Y^.ref 0,Y^.p st,q]) rfl ?_).trans Q;have T:q_ r^bs t r=r.map λx=>.u [x,.d^t x]:=by have:=oX id (λx=>.d^t x) r;(rw [gS]at this;assumption)
  have v:-r≤1000000:=by lia
  let R:=ol (g:=bu [am 07,am 08]) (c:=bV^a9 eS (O^aY bA (aY bA (vE^U 07)^vC^.int 0)^vE^U 2)^O^aY bA (aY bA (vE^U 05)^vC^.int 0)^vE^U 2) (e:=vE^U 08) (S:=[SO.l^a.map .p]) (p:=fun x=>lX (gL x h)^gL st h) (F:=fun x=>.u [x,.d^t x]) (f:=fun x=>.d^t x) (s:=r) (Inv:=fun L=>X0 fun C E=>L=[Y^.p l,Y^.p^.l r,Y^.p^.int (h:8),Y^.p^.l^bs t r,Y^.ref 0,Y^.p st,q,C,E]) (L:=[Y^.p l,Y^.p^.l r,Y^.p^.int (h:8),Y^.p^.l^bs t r,Y^.ref 0,Y^.p st,q,Z,Z]) (fun x z L o=>by
   let(C,E,X):=o;subst X;let(i,Z0,G,m,b):=xV (hw x z) j;calc#[[Y^.p l,Y^.p^.l r,Y^.p^.int (h:8),Y^.p^.l^bs t r,Y^.ref 0,Y^.p st,q,Y^.p x,Y^.p^.d^t x],0,#[_,_,0],?_,λW=>rfl];have M:(aY bA (aY bA (vE^U 07)^vC^.int 0)^vE^U 2) [Y^.p l,Y^.p^.l r,Y^.p^.int (h:8),Y^.p^.l^bs t r,Y^.ref 0,Y^.p st,q,Y^.p x,Y^.p^.d^t x] [SO.l^a.map .p]=Y (gL x h,[SO.l^a.map .p]):=by rw[m]at b ⊢;simp[bD b]
   have N:(aY bA (aY bA (vE^U 05)^vC^.int 0)^vE^U 2) [Y^.p l,Y^.p^.l r,Y^.p^.int (h:8),Y^.p^.l^bs t r,Y^.ref 0,Y^.p st,q,Y^.p x,Y^.p^.d^t x] [SO.l^a.map .p]=Y (gL st h,[SO.l^a.map .p]):=by rw[u]at H ⊢;simp[bD H]
   simp[-aY,M,N,eS,Mv i V]) #[Z,Z,0]
  unfold iE;rw [ak (e:=[Y^.p l,Y^.p^.l r,Y^.p^.int (h:8),Y^.p^.l^bs t r,Y^.ref 0,Y^.p st,Y^.p^.l ((r.filter fun x=>lX (gL x h)^gL st h).map fun x=>.d^t x)]) (c:=[SO.l^a.map .p]) (by
   have o:A5 (vE^U 1) (vE^U 3) [Y^.p l,Y^.p^.l r,Y^.p^.int (h:8),Y^.p^.l^bs t r,Y^.ref 0,Y^.p st,q] [SO.l^a.map .p]=Y (r.map λx=>.u [x,.d^t x],[SO.l^a.map .p]):=by rw[<- T];simp[bs]
   rw[az,O,bf,o,aq,af (by rw[kB,aU];calc v)];show bw (bw (bw (bG _ _ _ _ [Y^.p l,Y^.p^.l r,Y^.p^.int (h:8),Y^.p^.l^bs t r,Y^.ref 0,Y^.p st,q,Z,Z] [SO.l^a.map .p]) _) _) _=_;rw[R];rfl)]
  calc kq (k:=0) (S:=[.l^a.map .p]) (x:=[.l^a.map .p]) (c:=a) (y:=.d^kw r h t st) rfl rfl ?_ rfl ();let K:=Wb t (r.filter λx=>lX (gL x h)^gL st h);rw[Sq]at K;simp[iw,zY,K]
def So(p:P)(a:h < -(a_ B.fams))(t:P->15):ba (Ph (n+2) "_law_known") [p,.l r,.int (h:8),.l^bs t r]=Y (.l^bs (kw r h t) r):=by let(q,s,e):=Eh hw x p a t (Ph<|n+1) (w:=r) (a:=[]) (λz h=>h) (by simp;lia) Z Z;rw[uZ,jb (a:=4) rfl];show(b8^kD _ [Y^.p p,Y^.p^.l r,Y^.p^.int (h:8),Y^.p^.l^bs t r,Z,Z,Z] []).bind _=_;unfold kD;rw[ak (by simp;calc#[0,0]),ak (by rw[bR,d4];calc e)];show(toP 09 (.ref 0) [SO.l^([]++bs (kw r h t) r).map .p]).map _=_;rw[dw rfl];rfl
end
def LT(B:BD)(r:6 P)(n:9)(v:P)(t:P->15):5:=ba (Ph n "_law_table") [bE B,.l r,v]=Y (.l^bs t r)
noncomputable abbrev TL(p:P)(r:6 P)(v:P)(q h x a e s n:7 D):Lc:=[Y^.p p,Y^.p^.l r,Y^.p v,q,h,x,a,e,s,n]
def VA{k a b:Str}{S:aK}(h:aJ k=W)(x:aJ a=W)(e:aJ b=W):gK (.p^.str k) (.p^.l [.str a,.str b]) S=Y^.d (decide (k=a) ||decide (k=b)):=by simp[gK,io,zY,eX,FO,h,x,e,zy]
def Sd(h:aJ k=W)(x:aJ a=W)(e:aJ b=W):iw (.p^.str k) (.p^.l [.str a,.str b]) S=Y (.d<|!(decide (k=a) ||decide (k=b))):=by simp[iw,zY,eX,FO,h,x,e,zy]
@[simp] theorem WI:aJ "some knows"=W/\aJ "each knows"=W/\aJ "and"=W/\aJ "or"=W/\aJ "not"=W:=by decide +kernel
section
variable{B:BD}{r:6 P}{t u:P->15}{n:9}(x:-r≤100)
include x
def kJ{i:Str}{l:6 P}(hk:¬i="not"/\¬i="and"/\¬i="or"/\¬i="some knows"/\¬i="each knows"/\aJ i=W)(h:∀st ∈ r,ba (Ph (n+1) "_law_plain") [bE B,st,.u (.str i::l)]=Y (.d^t st)):LT B r (n+2) (.u (.str i::l)) t:=by unfold LT;let c:=jd (k:=010) (i:=d4^vE^U 1) (e:=aR (ba^Ph (n+1) "_law_plain")^ae (vE^U 0)^ae (vE^U 010)^ae (vE^U 2) ao) (x:=r) (F:=id) (G:=λst=>.d^t st) (L:=TL (bE B) r (.u (.str i::l)) Z Z Z Z Z Z Z) (S:=[]) (h:=[]) (by rw[gS];rfl) () (λst hst=>by simp[h st hst]);rw[i5,jb (a:=3) rfl];show(b8^cM _ (TL (bE B) r (.u (.str i::l)) Z Z Z Z Z Z Z) []).bind _=_;unfold cM;rw[bI (by simp[hk]),bI (by simp[VA,hk]),eJ (by simp[Sd,hk]),aD,O,c];rfl
def Pl(h:LT B r (n+1) v t):LT B r (n+2) (.u [.str "not",v]) λst=>!t st:=by unfold LT at h ⊢;let c:=jd (k:=010) (i:=d4^aR (ba^Ph (n+1) "_law_table")^ae (vE^U 0)^ae (vE^U 1)^ae (aY bA (vE^U 2)^vC^.int 1) ao) (e:=vB^l7^bV^vE^U 010) (x:=r) (F:=λst=>.d^t st) (G:=λst=>.d<|!t st) (L:=TL (bE B) r (.u [.str "not",v]) Z Z Z Z Z Z Z) (S:=[]) (h:=[]) (by simp[h,bs]) () (λst hst=>by simp);rw[i5,jb (a:=3) rfl];show(b8^cM _ (TL (bE B) r (.u [.str "not",v]) Z Z Z Z Z Z Z) []).bind _=_;unfold cM;rw[eJ ∅,aD,O,c];rfl
omit x in
theorem Eo{w:Str}{o:15->15->15}(hw:(w="and"/\o=and)\/(w="or"/\o=or))(p r:P)(v1 v2:P)(d:Str->GF):∀{s:6 P}{a:6 P},-a+-s≤1000->∀(c m e n f b:7 D),X0 λq h=>bv (bu [am 4,am 05]) (iC d) (s.map λst=>.u [.d^t st,.d^u st]) [Y^.p p,Y^.p r,Y^.p^.u [.str w,v1,v2],Y^.ref 0,c,m,e,n,f,b] [.l^a.map .p]=Y (.nx,[Y^.p p,Y^.p r,Y^.p^.u [.str w,v1,v2],Y^.ref 0,q,h,e,n,f,b],[.l^(a++bs (λst=>o (t st)^u st) s).map .p])
 | [],a,_,c,m,_,_,_,_=>#[c,m,by simp[bs,bv]]
 |st::s,a,l,c,m,e,n,f,b=>by
  rw[aP]at l;let(q,h,g):=Eo hw p r v1 v2 d (s:=s) (a:=a++[.d^o (t st)^u st]) (by simp;lia) (Y^.p^.d^t st) (Y^.p^.d^u st) e n f b;calc#[q,h,?_];rw[a++bs (λst=>o (t st)^u st) (st::s)=a++[.d^o (t st)^u st]++bs (λst=>o (t st)^u st) s|>by simp[bs]];calc(bx (h:=[Y^.p p,Y^.p r,Y^.p^.u [.str w,v1,v2],Y^.ref 0,Y^.p^.d^t st,Y^.p^.d^u st,e,n,f,b]) rfl ?_).trans g;calc kq (k:=0) (S:=[.l^a.map .p]) (x:=[.l^a.map .p]) (c:=a) (y:=.d^o (t st)^u st) rfl rfl ?_ rfl ();rcases hw with ⟨rfl,rfl⟩|⟨rfl,rfl⟩
  .cases v:t st<;>simp[v,iz,nG]
  .cases v:t st<;>simp[v,iz,nG]
def Pm{w:Str}{o:15->15->15}(hw:(w="and"/\o=and)\/(w="or"/\o=or)){v1 v2:P}(x:LT B r (n+1) v1 t)(a:LT B r (n+1) v2 u):LT B r (n+2) (.u [.str w,v1,v2]) λst=>o (t st)^u st:=by
 unfold LT at x a ⊢;let(q,s,e):=Eo (t:=t) (u:=u) hw (bE B) (.l r) v1 v2 (Ph<|n+1) (s:=r) (a:=[]) (by simp;lia) Z Z Z Z Z Z;have hk:¬w="not"/\(w="and"\/w="or")/\aJ w=W:=by rcases hw with ⟨rfl,_⟩|⟨rfl,_⟩<;>simp
 rw[i5,jb (a:=3) rfl];show(b8^cM _ (TL (bE B) r (.u [.str w,v1,v2]) Z Z Z Z Z Z Z) []).bind _=_;unfold cM;rw[bI (by simp[hk.1])];have z:A5 (aR (ba^Ph (n+1) "_law_table")^ae (vE^U 0)^ae (vE^U 1)^ae (aY bA (vE^U 2)^vC^.int 1) ao) (aR (ba^Ph (n+1) "_law_table")^ae (vE^U 0)^ae (vE^U 1)^ae (aY bA (vE^U 2)^vC^.int 2) ao) [Y^.p^bE B,Y^.p^.l r,Y^.p^.u [.str w,v1,v2],Y^.ref 0,Z,Z,Z,Z,Z,Z] [.l []]=Y (r.map λst=>.u [.d^t st,.d^u st],[.l []]):=by rw[<- oX];simp[x,a,bs]
 have h:cg (bV^a9 gK (O^aY bA (vE^U 2)^vC^.int 0)^O^bj^ae (vC^.str "and")^ae (vC^.str "or") ao) (ah (az 3<|dI ao)
  (ah (bR (A5 (aR (ba^Ph (n+1) "_law_table")^ae (vE^U 0)^ae (vE^U 1)^ae (aY bA (vE^U 2)^vC^.int 1) ao)^aR (ba^Ph (n+1) "_law_table")^ae (vE^U 0)^ae (vE^U 1)^ae (aY bA (vE^U 2)^vC^.int 2) ao) (bu [am 4,am 05])<|iC<|Ph<|n+1)
  (aD^U 3))) cN (TL (bE B) r (.u [.str w,v1,v2]) Z Z Z Z Z Z Z) []=Y (.rt^.ref 0,[Y^.p^bE B,Y^.p^.l r,Y^.p^.u [.str w,v1,v2],Y^.ref 0,q,s,Z,Z,Z,Z],[.l^([]++bs (λst=>o (t st)^u st) r).map .p]):=by
  rw[ug (by rcases hk.2.1 with rfl|rfl<;>simp[VA])];rw[ak (e:=[Y^.p^bE B,Y^.p^.l r,Y^.p^.u [.str w,v1,v2],Y^.ref 0,Z,Z,Z,Z,Z,Z]) (c:=[.l []]) rfl];rw[ak (by rw[bR,z,aq];calc e)];rfl
 rw[tN h];show(toP 09 (.ref 0) [SO.l^([]++bs (λst=>o (t st)^u st) r).map .p]).map _=_;rw[dw rfl];rfl
omit x in
theorem Eb(s:15)(n:6 9)(i:-n≤100)(l:P)(u v:P)(H:Str->GF)(inn:P):∀{w p c:6 P},r=p++w->-c+-w≤1000->∀(b m g d:7 D),X0 λq f=>bv (am 08) (iB H) (Ev.intsFrom (-p:8) (-w)) [Y^.p l,Y^.p^.l r,Y^.p^.u [.str^wK s,u,v],Y^.ref 0,b,m,Y^.p inn,Y^.p^.l (n.map λh=>.l^bs (kw r h t) r),g,d] [.l^c.map .p]=Y (.nx,[Y^.p l,Y^.p^.l r,Y^.p^.u [.str^wK s,u,v],Y^.ref 0,b,m,Y^.p inn,Y^.p^.l (n.map λh=>.l^bs (kw r h t) r),q,f],[.l^(c++bs (kn r s n t) w).map .p])
 | [],p,c,_,_,_,_,g,d=>#[g,d,by simp[bs,bv,Ev.intsFrom]]
 |st::w,p,c,o,E,b,m,g,d=>by
  rw[aP]at E;let(q,f,K):=Eb s n i l u v H inn (w:=w) (p:=p++[st]) (c:=c++[.d^kn r s n t st]) (by rw[o];simp) (by simp;lia) b m (Y^.p^.int (-p:8))^Y^.p^.l (n.map λh=>.d^kw r h t st);calc#[q,f,?_];rw[c++bs (kn r s n t) (st::w)=c++[.d^kn r s n t st]++bs (kn r s n t) w|>by simp[bs]];have B:Ev.intsFrom (-p:8) (-(st::w))=.int (-p:8)::Ev.intsFrom (-(p++[st]):8) (-w):=by simp[Ev.intsFrom,List.range_succ_eq_map,gU];intro a _;lia
  rw[B];calc(bx (h:=[Y^.p l,Y^.p^.l r,Y^.p^.u [.str^wK s,u,v],Y^.ref 0,b,m,Y^.p inn,Y^.p^.l (n.map λh=>.l^bs (kw r h t) r),Y^.p^.int (-p:8),d]) rfl ?_).trans K;have C:r[-p]? = Y st:=by rw[o];simp
  let A:=jd (k:=010) (i:=d4^vE^U 07) (e:=aY bA (vE^U 010)^vE^U 08) (x:=n) (F:=fun h=>.l^bs (kw r h t) r) (G:=fun h=>.d^kw r h t st) (L:=[Y^.p l,Y^.p^.l r,Y^.p^.u [.str^wK s,u,v],Y^.ref 0,b,m,Y^.p inn,Y^.p^.l (n.map fun h=>.l^bs (kw r h t) r),Y^.p^.int (-p:8),d]) (S:=[SO.l^c.map .p]) (h:=[SO.l^c.map .p]) rfl () (fun h I=>by
   have:(bs (kw r h t) r)[-p]? = Y (.d^kw r h t st):=by unfold bs;rw[cm,C];rfl
   simp[bD this])
  unfold iB;rw[ak (by rw[az,O,A];rfl)];calc kq (k:=0) (S:=[.l^c.map .p]) (x:=[.l^c.map .p]) (c:=c) (y:=.d^kn r s n t st) rfl rfl ?_ rfl ();let j:=Wb (λh=>kw r h t st) n;let z:=inT (λh=>kw r h t st) n;ext s
  .simp [wK,iw,gK,io,zY,j,z,iz,nG,kn]
  .simp [wK,iw,gK,io,zY,j,z,iz,nG,kn]
def L0(f:BP B)(hw:∀st ∈ r,dA B st)(s:15)(h:LT B r (n+3) v t):LT B r (n+4) (.u [.str^wK s,.str a,v])^kn r s (aZ B.N a) t:=by
 unfold LT at h ⊢;have hk:¬wK s="not"/\¬wK s="and"/\¬wK s="or"/\(wK s="some knows"\/wK s="each knows")/\aJ^wK s=W:=by ext s<;>decide +kernel
 have l:-(aZ B.N a)≤4:=aH (dE _ _)^lH f;let c:=ng (n:=n) f.hf f.f0.2 (.l B.roads) (.l B.wishes) a;let(d,w,e):=Eb (r:=r) (t:=t) s (aZ B.N a) () (bE B) (.str a) v (Ph<|n+3) (.l^bs t r) (w:=r) (p:=[]) (c:=[]) rfl (by simp;lia) Z Z Z Z;let b:=jd (k:=010) (i:=d4^aR (ba^Ph (n+3) "_law_crew")^ae (vE^U 0)^ae (aY bA (vE^U 2)^vC^.int 1) ao) (e:=aR (ba^Ph (n+3) "_law_known")^ae (vE^U 0)^ae (vE^U 1)^ae (vE^U 010)^ae (vE^U 06) ao) (x:=aZ B.N a) (F:=λ(h:9)=>P.int (h:8)) (G:=λh=>.l^bs (kw r h t) r) (L:=TL (bE B) r (.u [.str^wK s,.str a,v]) Z Z Z (Y^.p^.l^bs t r) Z Z Z) (S:=[]) (h:=[]) (by simp[c];rfl) () (λh m=>by have:=So hw x (bE B) (EW m) t (n:=n+1);simp[this])
 rw[i5,jb (a:=3) rfl];show(b8^cM _ (TL (bE B) r (.u [.str^wK s,.str a,v]) Z Z Z Z Z Z Z) []).bind _=_;unfold cM;rw[bI (by simp[hk]),bI (by simp[VA,hk]),bI (by rcases hk.2.2.2.1 with q|q<;>simp[Sd,q])];rw[ak (e:=TL (bE B) r (.u [.str^wK s,.str a,v]) Z Z Z (Y^.p^.l^bs t r) Z Z Z) (c:=[]) (by simp[h])];rw[ak (e:=TL (bE B) r (.u [.str^wK s,.str a,v]) Z Z Z (Y^.p^.l^bs t r) (Y^.p^.l ((aZ B.N a).map λh=>.l^bs (kw r h t) r)) Z Z) (c:=[]) (by rw[az,O,b];rfl)];rw[ak (e:=TL (bE B) r (.u [.str^wK s,.str a,v]) (Y^.ref 0) Z Z (Y^.p^.l^bs t r) (Y^.p^.l ((aZ B.N a).map λh=>.l^bs (kw r h t) r)) Z Z) (c:=[.l []]) rfl];have p:-r < 1000000:=by lia
 have i:jE (dF^U 1) (TL (bE B) r (.u [.str^wK s,.str a,v]) (Y^.ref 0) Z Z (Y^.p^.l^bs t r) (Y^.p^.l ((aZ B.N a).map λh=>.l^bs (kw r h t) r)) Z Z) [.l []]=Y (Ev.intsFrom 0 (-r),[.l []]):=by simp[dj,dP,p]
 rw[ak (by rw[bR,i,aq];calc e)];show(toP 09 (.ref 0) [SO.l^([]++bs (kn r s (aZ B.N a) t) r).map .p]).map _=_;rw[dw rfl];rfl
end
def P0(j:BP B)(u:B=pf B.fams B.roads B.wishes):∃f:P->15,MR B f/\∀st,dA B st->∀n,ba (Ph (n+20) "_law_plain") [bE B,st,.u [.str "dry"]]=Y (.d^f st):=by
 have T:Places B:=by rw[u];exact jI ..
 have all:∀st,∃t:15,dA B st->(∃E,SE B st E/\E.isEmpty=t)/\∀(n b i:9)(S:aK),Bd B b i S->∃x,Ph (n+014) "is_dry" [.ref i,.p st] S=Y (.p^.d t,x)/\Fr b S x:=λst=>by
  by_cases h:dA B st
  .let(s,Z0,0,V):=h;let(t,w,c):=Jm j T V;exact#[t,λO=>#[w,c]]
  .exact#[W,λz=>absurd z h]
 calc#[λst=>Classical.choose^all st,λst s=>(tu (all st) s).2,λst s n=>?_];let(E,(w,c,M),I):=(tu (all st) s).1;show _=Y (P.d^Classical.choose^all st);rw[<- I];let(x,F,l,_):=uA j (n:=n+012) [];rw[<- u]at l;let(o,p,fr,H):=M _ _ _ l;rw[<- Oq (n+3)]at p;have a:Ph (n+016) "Board.__init__" [.ref 0,.p^bE B] [.B "Board" [] []]=Y (.p .n,x):=F;have K:ba (Ph (n+018) "ends_from") [bE B,st]=Y^.l E:=by have k:Ph (n+017) "ends_on" [.ref 0,.p st] x=Y (.ref (-x),o):=p;rw[u6,aL];simp[nO,a,k,dw H]
 have m:-E≤1000000:=by lia
 let(r,A,N,R):=lL (g:=am 2) (e:=aY bA (vE^U 2)^vC^.int 0) (Inv:=λL=>∃q,L=[Y^.p^bE B,Y^.p st,q]) (Q:=λy=>cX 19 y=W) (S:=[]) (s:=E) (L:=[Y^.p^bE B,Y^.p st,Z]) (λv Z1 L X=>by let(q,m):=X;subst m;let(d,e,0,hd,_):=c v Z1;calc#[_,d,0,#[_,0],∅,g6 hd ()]) #[Z,0]
 have C:ba (Ph (n+19) "deeds") [bE B,st]=Y^.l r:=by rw[FZ,aL];simp[vW,K,bf,mn,A,m]
 have D:r.isEmpty=E.isEmpty:=by ext r<;>ext E<;>first|rfl|simp at R
 let G:=xU^Vn (n:=19) N;rw[i6,aL];simp[eI,C,G,D]
def FT(B:BD)(f:P->15)(r:6 P)(m:9)(v:P)(t:P->15):5:=(∀n,TI B r f (n+m) v t)/\∀n,LT B r (n+m) v t
section
variable{B:BD}{f t u:P->15}{m:9}{r:6 P}
theorem FT.up(h:FT B f r m v t)(k:9):FT B f r (k+m) v t:=#[λn=>by rw[<- gO];calc h.1 _,λn=>by rw[<- gO];calc h.2 _]
section
variable(x:-r≤100)
include x
theorem PV (h:FT B f r (m+2) v t):FT B f r (m+4) (.u [.str "not",v]) fun st=>!t st:=#[fun n=>(Od (n:=n+m+1) x (by let z:=h.1 (n+1);(rw [n+1+(m+2)=n+m+1+2|>by lia]at z;assumption))).ti,λn=>Pl (n:=n+m+2) x (by let z:=h.2 (n+1);(rw [n+1+(m+2)=n+m+2+1|>by lia]at z;assumption))]
def PX{w:Str}{o:15->15->15}(hw:(w="and"/\o=and)\/(w="or"/\o=or)){v1 v2:P}(a:FT B f r (m+2) v1 t)(e:FT B f r (m+2) v2 u):FT B f r (m+4) (.u [.str w,v1,v2]) λst=>o (t st)^u st:=by let g:=a.up 1;let h:=e.up 1;rw[1+(m+2)=m+3|>by lia]at g h;calc#[λn=>(Og (n:=n+m+1) x hw (g.1 n)^h.1 n).ti,λn=>Pm (n:=n+m+2) x hw (g.2 n)^h.2 n]
def Mn(P:BP B)(hw:∀st ∈ r,dA B st)(w:r≠[])(s:15)(e:a ∈ B.N)(h:FT B f r (m+2) v t):FT B f r (m+4) (.u [.str^wK s,.str a,v])^kn r s (aZ B.N a) t:=by let g:=h.up 1;rw[1+(m+2)=m+3|>by lia]at g;calc#[λn=>K2 (n:=n+m) P hw x w s e^h.1 n,λn=>L0 (n:=n+m) x P hw s^g.2 n]
end
inductive isPart(B:BD):P->5
 |hand {nm:Str}{crew:9}{rooms cells whos steps:6 P}{kind room:Str}{cond:P}{tl:6 P} (hF:Fam B.roads nm crew rooms cells whos steps) (hfa:eK nm crew rooms cells whos steps ∈ B.fams) (hro:aJ room=W) (hc:n6 (pc cells) cond) (hk:kind="some"\/kind="all"\/(kind="many"/\X0 λ(w:Str)(z:8)=>tl=[.str w,.int z])):isPart B^.u (.str kind::.str nm::.str room::cond::tl)
 |lett {a b mk:Str} (w:Str) (z:8) (ha:aJ a=W) (hb:aJ b=W) (hm:aJ mk=W):isPart B^.u [.str "letters",.str a,.str b,.str mk,.str w,.int z]
 |dry:isPart B^.u [.str "dry"]
 |tru:isPart B^.u [.str "true"]
theorem Jz(w:Str)(c:P->8)(z:8):∃t:P->15,(∀st n,ba (Ph (n+2) "compared") [.str w,.int^c st,.int z]=Y (.d^t st))/\∀st n,ba (Ph (n+2) "_law_relation") [.str w,.int^c st,.int z]=Y (.d^t st):=
 #[λst=>Classical.choose^pG w (c st) z,λst=>(tu^pG w (c st) z).1,λst=>(tu^pG w (c st) z).2]
def LI(x:-r≤100)(hw:∀st ∈ r,dA B st)(c:BP B)(hd:MR B f)(u:∀st,dA B st->∀n,ba (Ph (n+20) "_law_plain") [bE B,st,.u [.str "dry"]]=Y (.d^f st)){v:P}(h:isPart B v):∃t,FT B f r 21 v t:=by
 cases h with
 | @hand Q C y l I H k G cond T F m o M hk=>
  let(L,e):=Mr c F m o M;have g:¬k="not"/\¬k="and"/\¬k="or"/\¬k="some knows"/\¬k="each knows"/\aJ k=W:=by rcases hk with rfl|rfl|⟨rfl,_⟩<;>simp
  have q:k="some"\/k="all"\/k="many":=hk.imp id^Or.imp id (·.1);rcases hk with rfl|rfl|⟨rfl,w,z,rfl⟩
  .exact#[_,λn=>(xo (n:=n+018) q λb i j S p=>IW (n:=n+08) c F m (λst d h s=>(e st d h s).1) (.inl #[0,0]) hw x p).ti,λn=>kJ (n:=n+19) x g λst hst=>(Iy c (λh s=>(e st (hw st hst) h s).2) (.inl #[0,0])<|n+09)]
  .exact#[_,λn=>(xo (n:=n+018) q λb i j S p=>IW (n:=n+08) c F m (λst d h s=>(e st d h s).1) (.inr^.inl #[0,0]) hw x p).ti,λn=>kJ (n:=n+19) x g λst hst=>(Iy c (λh s=>(e st (hw st hst) h s).2) (.inr^.inl #[0,0])<|n+09)]
  .let(t,K,A):=Jz w (λst=>(lM L B.N Q st:8)) z;calc#[t,λn=>(xo (n:=n+018) q λb i j S p=>IW (n:=n+08) c F m (λst d h s=>(e st d h s).1) (.inr^.inr #[0,w,z,0,K]) hw x p).ti,λn=>kJ (n:=n+19) x g λst hst=>(Iy c (λh s=>(e st (hw st hst) h s).2) (.inr^.inr #[0,w,z,0,A st])<|n+09)]
 | @lett a b mk w z D E N=>let(t,K,A):=Jz w (t8 B a b mk) z;calc#[t,λn=>(Oe (n:=n+018) λR i j S p=>Sl (n:=n+08) c D E K hw x p).ti,λn=>kJ (n:=n+19) x ∅ λst hst=>(Sn c D E (hw st hst) N (A st)<|n+09)]
 |dry=>calc#[f,λn=>(Of (n:=n+05) hd hw x).ti,λn=>kJ (n:=n+19) x ∅ λst hst=>(u st (hw st hst) n)]
 |tru=>calc#[_,λn=>(K1 (n:=n+018) x).ti,λn=>kJ (n:=n+19) x ∅ λst hst=>(by rw[i6,aL];simp[eI])]
end
end My
namespace My
open PySem L2 Ev
variable{n:9}
def Hu(u:Pln f r w)(T:aK)(q:6 P)(x:P->15):∃S,Ph (n+06) "Scene.__init__" [.ref (-T),.p^.u [.l f,.l r,.l w],.p^.l q,.p .n] (T++[.B "Scene" [] []])=Y (.p .n,S)/\Sc (pf f r w) q x S.length T.length (-T+1) S:=by
 let(S,s,m,lo):=uA u (n:=n) (T++[.B "Scene" [] []]);have h:-(T++[SO.B "Scene" [] []])=-T+1:=by simp
 rw[h]at s m lo;have e:S[-T]? = Y^.B "Scene" [] []:=by rw[lo T.length ()];exact dJ _ _
 let i:=bW e;generalize l:P.u [.l f,.l r,.l w]=p at s;have v:∀(a b:SO),(S.set T.length a).set T.length b=S.set T.length b:=λa b=>cT ..;have t:∀(a:SO),(S.set T.length a)[-T]? = Y a:=λa=>gB e;refine#[S.set (-T)^.B "Scene" yN [.ref<|-T+1,.p^.l q,.ref (-T),.p .n],?_,?_]
 .rw [ut];show b8 (j0 _ _ [Y^.ref (-T),Y^.p p,Y^.p^.l q,Y^.p .n]<|T++[.B "Scene" [] []])=_;unfold j0;rw [ak (e:=[Y^.ref (-T),Y^.p p,Y^.p^.l q,Y^.p .n]) (c:=S.set (-T)^.B "Scene" ["board"] [.ref<|-T+1]) (by
   rw[jv,mH];show bw (match Ph (n+4) "Board.__init__" (.ref (-(T++[SO.B "Scene" [] []]))::[.p p]) (T++[SO.B "Scene" [] []]++[.B "Board" [] []]) with|some (.p .n,d)=>Y (D.ref (-(T++[SO.B "Scene" [] []])),d)|_=>Z) _=_;rw[h,s];show bw (Y (D.ref<|-T+1,S)) _=_;rw[aq];show bw (Y (D.ref (-T),S)) _=_;rw[aq];rwa[e,ny];rfl)]
  rw[ak (e:=[Y^.ref (-T),Y^.p p,Y^.p^.l q,Y^.p .n]) (c:=S.set (-T)^.B "Scene" ["board","standings"] [.ref<|-T+1,.p^.l q]) (by simp[t,ny,Ev.putK,Ev.nS])];rw[ak (e:=[Y^.ref (-T),Y^.p p,Y^.p^.l q,Y^.p .n]) (c:=S.set (-T)^.B "Scene" ["board","standings","around"] [.ref<|-T+1,.p^.l q,.ref (-T)]) (by simp[t,ny,Ev.putK,Ev.nS,uR,eY])];simp[t,ny,Ev.putK,Ev.nS,yN,b8]
 .rw [de];calc#[m.keep ∅ λk o hk c g=>?_,#[_,t _,.inl rfl],i];rw[aV λz=>?_]
  .exact c
  .subst z;rw[e]at c;ext c;calc g _ _ rfl
section
variable{B:BD}(s:B=pf B.fams B.roads B.wishes)(u:BP B){x t:P->15}{v:P}{q:6 P}(h:∀n,TI B q x (n+27) v t){n:9}
include s u h
def Fh(S:aK):X1 λd e b=>Ph (n+28) "truths" [.p^bE B,.p v,.p^.l q] S=Y (d,e)/\Wm b e d^bs t q:=by let(f,c,k):=Hu u (n:=n+20) S q x;rw[<- s]at k;let(d,a,m,_,r):=h n _ _ _ _ k;calc#[d,a,_,?_,r];rw[Bf];show b8^oo _ _ [Y^.p^bE B,Y^.p v,Y^.p^.l q] S=_;unfold oo;rw[aD,d_,aB,mH];show b8^bw (bw (bw (match gD (Ph (n+26) "Scene.__init__") (.ref (-S)::[.p^bE B,.p^.l q]) (S++[.B "Scene" [] []]) with|some (.p .n,a)=>Y (D.ref (-S),a)|_=>Z) _) _) _=_;rw[gD];show b8^bw (bw (bw (match Ph (n+26) "Scene.__init__" [.ref (-S),.p^bE B,.p^.l q,.p .n] (S++[.B "Scene" [] []]) with|some (.p .n,a)=>Y (D.ref (-S),a)|_=>Z) _) _) _=_;rw[c];show b8^bw (Ph (n+27) "truths_in" [.ref (-S),.p v] f) _=_;rw[m];rfl
def yG:ba (Ph (n+28) "truths") [bE B,v,.l q]=Y (.l^bs t q):=by
 let(d,a,b,e,x):=Fh s u h (n:=n) [];unfold ba;show(match Ph (n+28) "truths" [.p^bE B,.p v,.p^.l q] [] with|some (d,S)=>(toP 09 d S).map _|none=>Z)=_;rw[e];show(toP 09 d a).map _=_;rcases x with rfl|⟨k,_,rfl,x⟩
 .rfl
 .rw [dw x];rfl
end
def m3(a:8):∃w:Str,aJ w=W/\L2.atI [P.str "",.str "ma",.str "mb"] (a % 3)=Y^.str w:=by
 let(w,hw,e):=oy (s:=[P.str "",.str "ma",.str "mb"]) (k:=a % 3) () (by simp;lia);rwa[a8,eO,eN]at hw;have h:aJ ""=W/\aJ "ma"=W/\aJ "mb"=W:=by decide +kernel
 rcases hw with rfl|rfl|rfl
 .exact#[_,h.1,e]
 .exact#[_,h.2.1,e]
 .calc#[_,h.2.2,e]
variable{B:BD}
def D6(u:BP B)(d:8):∃v,isPart B v/\ba (Ph (n+4) "_law_part") [.int d,bE B,.d W]=Y v:=by
 have k:B.fams≠[]:=λz=>by have:=u.f0.1;rw[z]at this;simp at this
 have l:0 < -B.fams:=u.f0.1;let(f,t,I):=fj k d;let(nm,a,r,c,b,s,F,0):=u.hf f t;let(g,Z0,L):=fj k (d / 4);let(nm',j,p,m,A,q,y,0):=u.hf g Z0;let(E,S,C):=fj (s:=.str ""::r) ∅ (d / 2);have K:mD E:=by
  rcases a8.mp S with rfl|h
  .exact#[_,by decide +kernel,0]
  .exact F.hro E h
 let(G,o,0):=K;let(cond,H,M):=cond_ok (n:=n) (d / 012 % 27000)^qg F.hce.1;let(w,hw,N):=w6 (d / 360);let(mk,hm,Q):=m3 (d / 24);let X:=F.cl;let hrl:=F.rl;have T:-c≤1000000:=by lia
 have V:-r+1≤1000000:=by lia
 have Z1:(0:8) < (-r:8)+1:=by lia
 rw[aP,jK]at C;let R:=qD F.hce.1 [Y^.p^.int d,Y^.p^bE B,Y^.p^.d W,Y^.p^eK nm a r c b s,Z,Z,Z,Z,Z,Z,Z,Z] 011 ∅ [];have hd:d / 8640 % 06=0\/d / 8640 % 06=1\/d / 8640 % 06=2\/d / 8640 % 06=3\/d / 8640 % 06=4\/d / 8640 % 06=05:=by lia
 have i:∀{v:P}{x:7 (D×aK)},isPart B v->x=Y (.p v,[])->∃v,isPart B v/\(x.bind λz=>(toP 09 z.1 z.2).map (·.1))=Y v:=λ{v x} h e=>#[v,h,by rw[e];rfl];rw[ya,jb (a:=3) rfl];show ∃v,isPart B v/\(b8^lR _ [Y^.p^.int d,Y^.p^bE B,Y^.p^.d W,Z,Z,Z,Z,Z,Z,Z,Z] []).bind _=_;unfold lR;rw[ak (by simp[dj,dP,l,I];calc#[0,0]),ak (by simp[bf,mn,Nv,T,R];calc#[0,0]),ak (by simp[QB,dj,dP,V,Z1,C,wF 1];calc#[0,0]),ak (by simp[M];calc#[0,0]),ak (by simp[N];calc#[0,0]),ak (by simp;calc#[0,0]),ak (by simp;calc#[0,0])];rcases hd with hd|hd|hd|hd|hd|hd<;>rw[hd]
 .exact i (.hand F t o H (tl:=[])^.inr^.inl rfl) (by rw[eJ ∅];simp[b8])
 .exact i (.hand F t o H^.inr^.inr #[0,w,d / 2160 % 4,0]) (by rw[bI ∅,eJ ∅];simp[b8])
 .exact i (.lett w (d / 2160 % 4) F.hnm y.hnm hm) (by rw[bI ∅,bI ∅];simp[b8,dj,dP,l,L,Q])
 .exact i .dry (by rw[bI ∅,bI ∅,bI ∅,eJ ∅];simp[b8])
 .exact i .tru (by rw[bI ∅,bI ∅,bI ∅,bI ∅,eJ ∅];simp[b8])
 .calc i (.hand F t o H (tl:=[])^.inl rfl) (by rw[bI ∅,bI ∅,bI ∅,bI ∅,bI ∅];simp[b8])
def Mu(u:BP B)(H:-q≤100)(hw:∀st ∈ q,dA B st)(Z0:q≠[])(F:∀v,isPart B v->∃t,FT B x q 21 v t)(P:6 8){S:8}(K:0≤S):∀(d:9)(k:9),2 ^ (3-d)≤k+1->k≤014->∀n,X0 λv t=>ba (Ph (n+(d+06)) "_law_fact") [jD P,bE B,.int S,.int (k:8),.d W]=Y v/\FT B x q (2 * d+21) v t:=by
 have M:B.fams≠[]:=λz=>by have:=u.f0.1;rw[z]at this;simp at this
 have N:0 < -B.fams:=u.f0.1;intro d;induction d with
 |zero=>
  intro k hk Q n;let(c,r,hr,e,g):=i7 (n:=n+3) P (k:=S) (p:=3+(k:8)) K () ();let(v,X,A):=D6 u (n:=n+1) (r / 08);let(t,Z1):=F v X;have R:(06:8) < (k:8):=by have:2 ^ (3-0)=08:=rfl;lia
  calc#[v,t,?_,Z1];rw[n+(0+06)=n+4+2|>rfl,hU,aL];simp[ee,e,g,A,R]
 |succ d ih=>
  intro k hk Q n;let(c,r,hr,e,g):=i7 (n:=n+d+4) P (k:=S) (p:=3+(k:8)) K () ();by_cases h:(06:8) < (k:8)\/r % 08 < 2
  .let(v,X,A):=D6 u (n:=n+d+2) (r / 08);let(t,Z1):=F v X;calc#[v,t,?_,Z1.up<|2 * (d+1)];rw[n+(d+1+06)=n+d+05+2|>rfl,hU,aL];by_cases y:(06:8) < (k:8)
   .simp [ee,e,g,A,y]
   .let C:=h.resolve_left y;simp[ee,e,g,A,y,C]
  have y:¬(06:8) < (k:8):=λz=>h^.inl z;have C:¬r % 08 < 2:=λz=>h^.inr z;have hpow:2 ^ (3-d)≤2 * (k+1):=by
   by_cases h3:d < 3
   .have:3-d=(3-(d+1))+1:=by lia
    rw[this,oK];lia
   .rw [3-d=0|>by lia];lia
  let(v1,t1,f1,I):=ih (2 * k+1) () () n;let(v2,t2,f2,g2):=ih (2 * k+2) () () n;let T:=b7 (i:=2) (j:=(k:8)) #[] ();have l:ba (Ph (n+d+06) "_law_fact") [jD P,bE B,.int S,.int<|2 * (k:8)+1,.d W]=Y v1:=f1;have G:ba (Ph (n+d+06) "_law_fact") [jD P,bE B,.int S,.int<|2 * (k:8)+2,.d W]=Y v2:=f2;by_cases L:r % 08=2
  .calc#[_,_,?_,PV (m:=2 * d+19) H I];rw[n+(d+1+06)=n+d+05+2|>rfl,hU,aL];simp[ee,e,g,y,L,T,l]
  by_cases h5:r % 08 < 05
  .let(w,o,E):=tX (a:="and") (b:="or") (r / 08);obtain⟨op,V⟩:∃op:15->15->15,(w="and"/\op=and)\/(w="or"/\op=or):=by
    rcases o with rfl|rfl
    .exact#[and,.inl #[0,0]]
    .exact#[or,.inr #[0,0]]
   calc#[_,_,?_,PX (m:=2 * d+19) H V I g2];rw[n+(d+1+06)=n+d+05+2|>rfl,hU,aL];simp[ee,e,g,y,C,L,h5,T,E,l,G]
  .let(w,o,E):=tX (a:="some knows") (b:="each knows") (r / 016);obtain⟨s,hs⟩:∃s,w=wK s:=by
    rcases o with rfl|rfl
    .exact#[W,0]
    .exact#[Xk,0]
   subst hs;let(f,hf,ef):=fj M (r / 08);let(nm,crew,rooms,D,whos,steps,hF,0):=u.hf f hf;have hn:nm ∈ B.N:=zW u hf;calc#[_,_,?_,Mn (m:=2 * d+19) H u hw Z0 s hn I];rw[n+(d+1+06)=n+d+05+2|>rfl,hU,aL];simp[ee,e,g,y,C,L,h5,T,E,l,dj,dP,N,ef]
theorem NF:∀(n i:9){k:6 P},k≠[]->BF B n i k≠[]
 |0,_,_,h=>h
 |n+1,i,k,h=>by
  unfold BF;split
  .let(t,e):=tJ (EN B _) k;exact NF n (i+1) (by rw[e];simp[h])
  .calc h
def Nr(h:-a=05):∀(s:6 P)(q:7 D),bG (am 05) (l7^bT^O^nv "bool"^U 05) (vE^U 05) (bs t s) (a++[q]) []=Y ([],[])
 | [],q=>rfl
 |w::r,q=>by
  have e:(l7^bT^O^nv "bool"^U 05) (a++[Y^.p^.d^t w]) []=Y (Xk,[]):=by
   have:U 05 (a++[Y^.p^.d^t w]) []=Y (.p^.d^t w,[]):=by rw[EK,bZ (),h];rfl
   rw[l7,bT,O,nv,this];rfl
  rw[show bs t (w::r)=.d^t w::bs t r from rfl];unfold bG;have x:am 05 (.d^t w) (a++[q])=Y (a++[Y^.p^.d^t w]):=by unfold am;rw[CW _ _ (),h];rfl
  rw[x];show bw _ _=_;rw[e,aq,ag #[]];calc Nr h r _
theorem O6:cX 20 (.l^bs t q)=W:=Vn λx h=>by let(st,_,0):=bg.mp h;rfl
def Po(h:6 8):ba (Ph (n+32) "law") [jD h]=Y^.d W:=by
 let(f,r,w,u,j):=Ly (n:=n+25) h;have j:ba (Ph (n+31) "_law_plan") [jD h,.int 2]=Y^yW f r w:=j;let A:=JI (B:=pf f r w) u;have y:∀k,ba (Ph (k+4) "begin") [yW f r w]=Y^.u [.u^(a_ f).map jW,.u^List.replicate (-(bM (aM f) r))^.u []]:=λk=>JJ u;have hst:dA (pf f r w)^.u [.u^(a_ f).map jW,.u^List.replicate (-(bM (aM f) r))^.u []]:=#[_,_,0,A];generalize P.u [.u^(a_ f).map jW,.u^List.replicate (-(bM (aM f) r))^.u []]=st at y hst;have z:ba (Ph (n+31) "comings") [yW f r w]=Y (.l^CM (pf f r w) st):=by unfold ba;rw[aI,d7,Tj (n:=n+013) u hst (y<|n+25) []];show(toP 09 (.ref 0) _).map (·.1)=_;rw[dw (by rfl)];rfl
 have hk:KI (pf f r w)^CM (pf f r w) st:=JQ u (jI ..) _ _^KI.one hst;let L:=tK (B:=pf f r w) u (jI ..) hk.1 hk.2;have m:CM (pf f r w) st≠[]:=NF _ _ ∅;generalize CM (pf f r w) st=q at z hk L m;generalize b:pf f r w=B at hk;have d:B.fams=f:=by rw[<- b];rfl
 have g:B.roads=r:=by rw[<- b];rfl
 have i:B.wishes=w:=by rw[<- b];rfl
 have s:B=pf B.fams B.roads B.wishes:=by rw[d,g,i,b]
 have p:yW f r w=bE B:=by rw[<- d,<- g,<- i]
 rw[p]at j z;rw[<- d,<- g,<- i]at u;clear b d g i p y hst A;rw[Mx,jb (a:=1) rfl];show(b8^yp (Ph<|n+31) [Y^.p^jD h,Z,Z,Z,Z] []).bind _=_;unfold yp;rw[ak (e:=[Y^.p^jD h,Y^.p^bE B,Z,Z,Z]) (c:=[]) (by simp[j])];rw[ak (e:=[Y^.p^jD h,Y^.p^bE B,Y^.p^.l q,Z,Z]) (c:=[]) (by simp[z])];by_cases I:60 < (-q)
 .have e:(60:8) < (-q:8):=by lia
  rw[eJ (by simp[dj,dP,e])];rfl
 have e:¬(60:8) < (-q:8):=by lia
 have l:-q≤100:=by lia
 have c:-q≤1000000:=by lia
 rw [bI (by simp [dj,dP,e])];let(x,hd,H):=P0 u s;let(v,t,G,K):=Mu u l hk.1 m (fun v M=>LI l hk.1 u hd H M) h (S:=56) #[] 3 0 #[] () (n+22);have o:ba (Ph (n+31) "_law_fact") [jD h,bE B,.int 56,.int 0,.d W]=Y v:=G;let E:=yG s u K.1 (n:=n+3);have D:ba (Ph (n+31) "_law_table") [bE B,.l q,v]=Y (.l^bs t q):=K.2 (n+4);let S:=Jj^O6 (t:=t) (q:=q);rw [ak (e:=[Y^.p^jD h,Y^.p^bE B,Y^.p^.l q,Y^.p v,Z]) (c:=[]) (by simp [o])];rw [ak (e:=[Y^.p^jD h,Y^.p^bE B,Y^.p^.l q,Y^.p v,Y^.p^.l^bs t q]) (c:=[]) (by simp [E])];let F:=Nr (t:=t) (a:=[Y^.p^jD h,Y^.p^bE B,Y^.p^.l q,Y^.p v,Y^.p^.l^bs t q]) rfl q Z;rw [bI (by
  have C:O (bf (d4^vE^U 4) [] 1 (am 05) (l7^bT^O^nv "bool"^U 05)^vE^U 05) [Y^.p^jD h,Y^.p^bE B,Y^.p^.l q,Y^.p v,Y^.p^.l^bs t q] []=Y (.p^.l [],[]):=by rw[O,bf];show bw (if few^bs t q=W then bw (bG (am 05) (l7^bT^O^nv "bool"^U 05) (vE^U 05) (bs t q) ([Y^.p^jD h,Y^.p^bE B,Y^.p^.l q,Y^.p v,Y^.p^.l^bs t q]++[Z]) []) _ else _) _=_;rw[af (by rw[kB];unfold bs;rw[aU];calc c),F];rfl
  rw[zS];show bw (Y (Xk,([]:aK))) _=_;rw[aq];show bV _ _ _=_;rw[bV,a9,C];rfl)]
 simp[D,eS,S,b8]
def Iz{s:6 8}(l:-s≤63)(h:Gm H)(S:j3 K H a^s.map V.int):pT K (MQ Gv Att Tb 200 "law") [.ref a] H (λv z=>v=.d W) (λz z z=>False):=by have e:ba (MQ Gv Att Tb 200 "law") [.ro^s.map .int]=Y^.d W:=Po (n:=168) s;calc Pp h S e
end My
set_option tactic.hygienic true
end
namespace PySem.W.Fast
def tw16173293038785325166:=Nat
def tw13647886120646243801:=Nat
def tw7996899405581980435:=Nat
def tw9653816881731083130:=Nat
def tw10096510311651612098:=Nat
def tw9305868348130069731:=Nat
def tw8284791521037606581:=Nat
def tw6235402532435493140:=Nat
def tw3374807147314158738:=Nat
def tw8843039858528381378:=Nat
def tw6499702533485468859:=Nat
def tw1079977755940310761:=Nat
def tw6459626104835403542:=Nat
def tw17048343992685449402:=Nat
def tw8762125118218468865:=Nat
def tw5974074796877035278:=Nat
def tw17969210219594961870:=Nat
def tw2561868804897658896:=Nat
def tw7620950455637810105:=Nat
def tw8860992177480208775:=Nat
def tw13319480738132944923:=Nat
def tw6303440849175750947:=Nat
def tw7597497513564024303:=Nat
def tw10171216555057682572:=Nat
def tw7818103398563070533:=Nat
def tw14784651517026958984:=Nat
def tw7257441774190181561:=Nat
def tw367224486260672136:=Nat
def tw4048270304363342818:=Nat
def tw13008064683557835626:=Nat
def tw16123567364641458523:=Nat
def tw5255787365478620342:=Nat
def tw17330614783107312446:=Nat
def tw9678275541195193969:=Nat
def tw12794431376848034794:=Nat
def tw16948939400399847503:=Nat
def tw6741633508816568429:=Nat
def tw1827992631900660008:=Nat
def tw10927645016983198923:=Nat
def tw11275606000969569381:=Nat
def tw313026345277369969:=Nat
def tw18051680544867989999:=Nat
def tw5983150131593116503:=Nat
def tw15699596756497015041:=Nat
def tw7757640909392707422:=Nat
def tw16646594513184864294:=Nat
def tw7600448797221015233:=Nat
def tw4246225237162771643:=Nat
def tw4195044436926289234:=Nat
def tw10744177436811578608:=Nat
def tw9772972154066247440:=Nat
def tw5116765902852060790:=Nat
def tw12448970928341799509:=Nat
def tw9236721378215109453:=Nat
def tw15351881113249499151:=Nat
def tw12286209150859496784:=Nat
def tw11934309210934525123:=Nat
def tw2317684260012653368:=Nat
def tw16158271106689385867:=Nat
def tw46653401366401745:=Nat
def tw13927115636612445317:=Nat
def tw13728398559911661706:=Nat
def tw10569742373699090520:=Nat
def tw2369641952646558462:=Nat
def tw7988246500197938893:=Nat
def tw4925367313337279742:=Nat
def tw4066679850511551633:=Nat
def tw10123553936934085095:=Nat
def tw9118283430808184415:=Nat
def tw13664703454856064111:=Nat
def tw14645989850126707738:=Nat
def tw12690294816096130610:=Nat
def tw12940693634783524115:=Nat
def tw16841425962741978243:=Nat
def tw17005777314034651348:=Nat
def tw8788990696016746621:=Nat
def tw3435465319209822849:=Nat
def tw13737577476303099667:=Nat
def tw1560661476860347644:=Nat
def tw18026997127989694025:=Nat
def tw15151885134586259084:=Nat
def tw4002214115413927558:=Nat
def tw2240091604816096165:=Nat
def tw18100653843571081639:=Nat
def tw3660645835747746651:=Nat
def tw17402358885518213412:=Nat
def tw47430088853618707:=Nat
def tw11776796549965950972:=Nat
def tw4289317329034701809:=Nat
def tw12201485536807978447:=Nat
def tw7531714357773523926:=Nat
def tw6009055927592422672:=Nat
def tw5221440284033391318:=Nat
def tw5590004308551566760:=Nat
def tw2551733608158245629:=Nat
def tw14745610145914116760:=Nat
def tw9664435459353574210:=Nat
def tw14739285922109251580:=Nat
def tw5306223646783603188:=Nat
def tw10232049737482617636:=Nat
def tw17112498101205864523:=Nat
def tw16855796277408873567:=Nat
def tw9139675556361289004:=Nat
def tw18241589117997096654:=Nat
def tw8575032168280115047:=Nat
def tw15462258449289646645:=Nat
def tw6993326152156572562:=Nat
def tw10099973013996990965:=Nat
def tw2455237894886130624:=Nat
def tw3498345957615237074:=Nat
def tw6168855774073037099:=Nat
def tw17681776599957921399:=Nat
def tw14282343602291325104:=Nat
def tw924734769751210508:=Nat
def tw5159548051915312111:=Nat
def tw12666050825660822718:=Nat
def tw3807082938882827242:=Nat
def tw14181454618408709795:=Nat
def tw5623619890024678993:=Nat
def tw1151641517988134041:=Nat
def tw17019749102375736544:=Nat
def tw9685278016406134118:=Nat
def tw11646529913267540123:=Nat
def tw17186434309209597533:=Nat
def tw17485839937486371868:=Nat
def tw12181169563865950778:=Nat
def tw2862362357063473743:=Nat
def tw474085978676937939:=Nat
def tw12455594552363294261:=Nat
def tw6854451966306576782:=Nat
def tw17564854441987804664:=Nat
def tw14977104572663437075:=Nat
def tw945463390653059819:=Nat
def tw3547962087207941213:=Nat
def tw12665213061662531041:=Nat
def tw9928275722239435823:=Nat
def tw9444992326678855903:=Nat
def tw2961790368631922651:=Nat
def tw202739996865307311:=Nat
def tw316686315652924041:=Nat
def tw15046460193466229062:=Nat
def tw12167366140505038502:=Nat
def tw8818169468142489545:=Nat
def tw923639734613983609:=Nat
def tw17971421278042982927:=Nat
def tw7147562158651928540:=Nat
def tw7582723647381545640:=Nat
def tw14883796026328963771:=Nat
def tw5429740728190335562:=Nat
def tw4209371141427664012:=Nat
def tw13105602913015647161:=Nat
def tw5449590634273195052:=Nat
def tw16846367650110641507:=Nat
def tw7212040924332282995:=Nat
def tw4537123149361504515:=Nat
def tw9812464228900206150:=Nat
def tw6734056639977404080:=Nat
def tw3744859900125534775:=Nat
def tw1752134840700225614:=Nat
def tw6170237807635315875:=Nat
def tw445377839671677307:=Nat
def tw10773487748917814100:=Nat
def tw896801427828027069:=Nat
def tw9747907748925620988:=Nat
def tw15317107710089056426:=Nat
def tw12577744079534294904:=Nat
def tw9924106475907318648:=Nat
def tw6442740462654719317:=Nat
def tw2845551171438445441:=Nat
def tw8654155739009354478:=Nat
def tw3906771080081174169:=Nat
def tw9827272300008723613:=Nat
def tw12792940896944916579:=Nat
def tw9878883800940560991:=Nat
def tw9684135142611716738:=Nat
def tw11520903936130712372:=Nat
def tw3492373994740191282:=Nat
def tw2956620729061830240:=Nat
def tw876080898810280693:=Nat
def tw16527562705126833679:=Nat
def tw2906833994339482698:=Nat
def tw17802601086841412971:=Nat
def tw5165087238013223787:=Nat
def tw17140057478258863472:=Nat
def tw14629171786187354522:=Nat
def tw8685152475216866952:=Nat
def tw14489456523271334773:=Nat
def tw6895058460500777448:=Nat
def tw6090686934536572767:=Nat
def tw12243374558970013875:=Nat
def tw4173155256863435461:=Nat
def tw8992196775028018446:=Nat
def tw7832871260857801214:=Nat
def tw7175363525000390773:=Nat
def tw3876360015849567587:=Nat
def tw4090213739814759087:=Nat
def tw5440605231768439692:=Nat
def tw1950866806115915970:=Nat
def tw665416003804663850:=Nat
def tw16698237796105110855:=Nat
def tw12836613135637053598:=Nat
def tw15875686091336277530:=Nat
def tw13236575925908526288:=Nat
def tw15970753725252558716:=Nat
def tw4243746800858169842:=Nat
def tw8315472754598740875:=Nat
def tw1489018646785135019:=Nat
def tw4128382399039683877:=Nat
def tw15068554866732020176:=Nat
def tw5270658443946646639:=Nat
def tw6371638160679663389:=Nat
def tw1475471876837818870:=Nat
def tw16959836068513346071:=Nat
def tw18332224880179198022:=Nat
def tw5808598221300885495:=Nat
def tw6410901211238082354:=Nat
def tw3623118543298945664:=Nat
def tw15748457714266184139:=Nat
def tw9782242973212130801:=Nat
def tw370846363802635215:=Nat
def tw15147317695178159877:=Nat
def tw5623809646692332134:=Nat
def tw14397523756219674643:=Nat
def tw13454590468373195885:=Nat
def tw15515270818693273558:=Nat
def tw9579281834031146662:=Nat
def tw12847671862146791437:=Nat
def tw5840627323080098395:=Nat
def tw4469988822094905556:=Nat
def tw10918106788474439151:=Nat
def tw4115905458290798013:=Nat
def tw9704467352059300028:=Nat
def tw17428489573184826995:=Nat
def tw7940235223798484165:=Nat
def tw18280430372346473474:=Nat
def tw3860428397270398321:=Nat
def tw18098346287531096021:=Nat
def tw2054971837871749340:=Nat
def tw16805475294337353733:=Nat
def tw12181711144310183982:=Nat
def tw471300507409443263:=Nat
def tw2133994349143181955:=Nat
def tw8678446244746768727:=Nat
def tw1344739212806390697:=Nat
def tw3316044095492581652:=Nat
def tw870248414331052954:=Nat
def tw18332175324801027628:=Nat
def tw8593302793898365522:=Nat
def tw14251804975817794528:=Nat
def tw6196486065980547016:=Nat
def tw7988038200247833038:=Nat
def tw5227072367493169188:=Nat
def tw9806972955811008954:=Nat
def tw17837785976168037506:=Nat
def tw9251984642248259720:=Nat
def tw12144913487694556249:=Nat
def tw12560327100461359870:=Nat
def tw6054430511191275568:=Nat
def tw12647810170562583309:=Nat
def tw16744774411210258426:=Nat
def tw4959515143872334195:=Nat
def tw8535360802520032853:=Nat
def tw1883762446202563567:=Nat
def tw9180254461302522631:=Nat
def tw13310999290599594080:=Nat
def tw588426941074716079:=Nat
def tw7652188405091934125:=Nat
def tw14844430101267988405:=Nat
def tw388974489580677405:=Nat
def tw2872988447444067874:=Nat
def tw12124717141655850059:=Nat
def tw9186697998835881633:=Nat
def tw12290647223090534051:=Nat
def tw13117115112155995962:=Nat
def tw16982346516683922544:=Nat
def tw4109276938598550033:=Nat
def tw15170131873675006242:=Nat
def tw7355703279018434065:=Nat
def tw7466079392682344011:=Nat
def tw13900271766347225761:=Nat
def tw1570106985434141522:=Nat
def tw8125496051508168258:=Nat
def tw3642268501998977806:=Nat
def tw10407251916840029132:=Nat
def tw11839868688478765859:=Nat
def tw5199924415317713852:=Nat
def tw6084351486660276323:=Nat
def tw18413388427863844931:=Nat
def tw9145004626422547665:=Nat
end PySem.W.Fast
open PySem PySem.W PyProof.Rows
set_option maxRecDepth 100000 in
set_option maxHeartbeats 0 in
theorem PySem.Challenge.cw_roadsall_k42_whole_what_hands_know_holds : PySem.Challenge.rw_roadsall_k42_whole_what_hands_know.Holds := by
 w_on;o_law;k_head;(case hw=>w_witness2)
 k_fill
 refine L2.G6 (l:=PySem.Challenge.rw_roadsall_k42_whole_what_hands_know) (n:=63) (k:=200) (x:="_law_script") (CX:=L2.qJ) (sp:=fun K=>Ev.pT K (Ev.MQ My.Gv My.Att My.Tb 200 "law")) rfl (by decide) rfl ⟨rfl,by decide,by decide⟩ (fun w h Y=>PySem.W.km_in_of Y) (fun w=>by kernel_rfl) (fun w h Y=>My.K4 Y (by kernel_rfl) (by kernel_rfl)) ?F ?S ?C
 case F=>
  intro w mg fa h KX G hmg
  have T:Ev.TOk w My.Gv My.Att My.Tb (L2.Wn KX) mg:=by
   dsimp only [L2.Wn]
   refine' My.Qh KX G ?cb ?cs ?hh ?lmk ?gv2 ?gvs ?gv0 ?gv1 ?z
   case cb=>exact⟨⟨by k_is,by k_is,by k_is,by k_is,by k_is,by k_is,by k_is⟩,by k_is,by k_is,by k_is,by k_is,by k_is,⟨_,_,_,_,_,_,_,_,_,_,by k_is,by k_is,by k_is,by k_is,by k_is⟩,⟨_,_,_,_,_,_,_,_,_,_,by k_is,by k_is,by k_is,by k_is,by k_is⟩,⟨_,_,_,_,_,_,_,_,_,_,by k_is,by k_is,by k_is,by k_is,by k_is⟩⟩
   case cs=>exact⟨⟨by k_is,by k_is,by k_is,by k_is,by k_is,by k_is,by k_is⟩,by k_is,by k_is,by k_is,by k_is,⟨_,_,_,_,_,_,_,_,_,_,by k_is,by k_is,by k_is,by k_is,by k_is⟩,⟨_,_,_,_,_,_,_,_,_,_,by k_is,by k_is,by k_is,by k_is,by k_is⟩,⟨_,_,by k_is,by first|rfl|kernel_rfl⟩⟩
   case hh=>
    intro d hd
    simp only [My.QQ,List.mem_cons,List.not_mem_nil,or_false] at hd
    rcases hd with rfl|rfl|rfl|rfl|rfl|rfl|rfl|rfl|rfl|rfl|rfl|rfl|rfl|rfl|rfl|rfl|rfl|rfl|rfl|rfl|rfl|rfl|rfl|rfl|rfl|rfl|rfl|rfl|rfl|rfl|rfl|rfl|rfl|rfl|rfl|rfl|rfl|rfl|rfl|rfl|rfl|rfl|rfl|rfl|rfl|rfl|rfl|rfl|rfl|rfl|rfl|rfl|rfl|rfl|rfl|rfl|rfl|rfl|rfl|rfl|rfl|rfl|rfl|rfl <;> (dsimp only [My.sR,My.gh,My.Vq];exact⟨_,_,_,_,_,_,_,_,_,_,by k_is,by k_is,by k_is,by k_is⟩)
   case lmk=>kernel_rfl
   case gvs=>exact⟨_,_,_,_,_,_,by k_is,by k_is⟩
   case gv0|gv1|gv2=>exact⟨_,by k_is⟩
   case z=>
    intro x hx
    simp only [Ev.MM,List.mem_cons,List.not_mem_nil,or_false] at hx
    rcases hx with rfl|rfl|rfl|rfl|rfl|rfl|rfl|rfl|rfl|rfl|rfl|rfl|rfl|rfl|rfl|rfl|rfl|rfl|rfl <;> k_is
  obtain⟨f,fd,h1⟩:=T.fn My.sR (by simp [My.Tb,My.QQ])
  have e0:=hmg.symm.trans (h1.gl (by decide +kernel))
  cases e0
  refine⟨fd,?_,fun base kb nb=>(Ev.EL T 200).1 My.sR (by simp [My.Tb,My.QQ]) _ fd h1.fn⟩
  obtain⟨kV,doc,pm,an,cdv,ct,rfl⟩:=h1.pl (by decide +kernel)
  exact fun s v=>.of_eq rfl
 case S=>exact fun w H a ns hl hO hS=>My.Iz hl hO hS
 case C=>exact fun _ _ _ _ z=>z
