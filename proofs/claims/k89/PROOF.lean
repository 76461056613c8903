import PyProof.Rows.All
import Wide.All
import OpenK.AllK
import Wide.FinOn
import Lean
import PyProof.EqAt
import PyProof.EqKinds
import PyProof.TupleCall
import PySem.Challenge.RW_roadsall_k89_whole_judge_beyond_two_thou
set_option Elab.async false
set_option linter.all false
set_option maxRecDepth 100000
set_option maxHeartbeats 4000000
noncomputable section
abbrev VP:=PySem.Value->PySem.Shared->Prop
abbrev PN:=List (PySem.Addr×PySem.Obj)
abbrev SV:=PySem.Str->Option PySem.Value
abbrev Aa:=PySem.Addr->Prop
abbrev LS:=List PySem.Str
abbrev LV:=List PySem.Value
abbrev Ab:=List PySem.Expr
abbrev OV:=Option PySem.Value
abbrev FG:=PySem.W.Frag
open PySem.PyData renaming eqv->bQ,eqvAll->kQ,depthAll->pT,canLayAll0->vm,strOk->rR,depth->rQ,canLay0->C2
open PySem.Builtin.Tuple renaming tupleExact->yv,tupleItemsOf->C1,tupleHashOf->I0,tupleTooMany->JH
open PySem.W renaming findIn->bG,keepIn->fw,emptyDict->i6,codeIn->ik,instObj->jP,fnOf->ij,nsIn->i5,callWith_K->mW,methodCall_KW->t0,plainGet->pS,tabObj->pR,CodeHd->pQ,hasDictIn->tX,lookIn->tW,plainGet_of->xp,mg_of->ll,plainOver->xo,methodObj->xn,kitx_list->xm,isFn->tD,codeHdIn->xl,takerIn->xk,makesIn->xj,noTabs->xi,mem_of_lookupK->De,cellsFrom_some->Dd,kla_codeExpr->Dc,pyHash_slot->Db,codeHd_of_K->C_,specialIn->C9,handedIn->C8,OpenLaw->C7,kitAny->C6,KasFin->C5,WalkO->C4,KitX->C3
open PySem renaming wpAny_bind->ae,wpAny_pure->aq,wpAny_holding->cF,wpAny_mono->bN,wpAny_field->cV,wpAny_Call_Name_kw->ii,wpAny_seqItems->gG,wpAny_truthy_bool->jO,wpAny_loadPart'->iR,call_meets->eF,wpAny_pyIter_list->lj,wpAny_callSpecial?_slot->pP,wpAny_passesOwn->li,mem_of_lookup->pO,wpAny_call_entry->mV,codeAny_mono->jN,codeAny_builtin->mU,wpAny_setField_rec->pN,wpAny_pyIter_tuple->pM,tupleKind_room_in1->pL,sizeLine_eq->jM,wpAny_typeOf->lh,wpAny_pyNext_list_item->sY,wpAny_newObj_type->pK,wpAny_pyNext_list_end->sX,wpAny_Name->jL,wpAny_loadName_local->sW,wpAny_loadName_free->sV,wpAny_pyIter_enum->sU,wpAny_standAt->pJ,plainId_quiet->pI,wpAny_call->mS,wpAny_Call_method_late->xh,call_meetsIn->pH,wpAny_execs_nil->sT,builtinLookup_eq_fast->xg,wpAny_newFunctionEnv->xf,wpAny_rule->pG,typeIs_int->pF,wpAny_assign_Name->xc,wpAny_Call_method->xb,slot_dict_getitem->xa,wpAny_pyIter_zip->w_,wpAny_Dict_empty->w9,noFill_tuple_add->w8,wpAny_specialOf->w6,typeLookup_type->w5,Within->w4,wpAny_newTuple->w1,wpAny_letOwnedTupleGo_enum->C0,wpAny_binaryOp_repeat_ref->CZ,wpAny_onRaise->wZ,seq_tuple_add->wY,wpAny_nextOf_list_item->AO,wpAny_Assign_Subscript->AN,seqSlot_of->AM,seqIndex_neg->uj,concat_meets->ui,callType_new->uh,wpAny_notOrdered_dict->AL,wpAny_nextOf_list_end->AK,exec_Assign_Name_used->AJ,wpAny_updateSeq_pair->AI,seqIndex_of->ug,boot_len->AH,wpAny_loadName_cell->AG,wpAny_setItem_heap->AF,wpAny_getItem_heap->AE,sub_AttributeError->AD,wpAny_sequenceKey->AC,slot_list_getitem->AB,wpAny_pyHash_str->AA,wpAny_pyHash_int->Az,wpAny_isInstance->Ay,wpAny_forIn_list->Ax,wpAny_execs_cons->Aw,wpAny_eqBool_str->Av,wpAny_eqBool_int->Au,kt_code_dict_new->As,beq_builtin_none->Ar,wpAny_tryCatch->Aq,wpAny_setField->Ap,callType_codes->Ao,wpAny_newList->An,wpAny_in_heap->Am,rangeSize_one->Al,eval_ListComp->Ak,evalPart_none->Aj,call_list_seq->Ai
open PySem.F renaming slot_dict_get->kt,plainAttrs_list->lO,slot_tuple_iterator_next->pf,called_set->hE,slot_tuple_mul->pe,entry_dict_get->pc,slot_int_rmul->pb,args_tuple_add_2->uf,plainAttrs_dict->ue,entry_tuple_add->ud,slot_tuple_add->uc,slot_list_getattribute->ua,slot_zip_getattribute->t_,slot_list_extend->t8,slot_dict_setdefault->Ah,slot_tuple_index->Ag,args_tuple_mul_2->Af,slot_tuple_rmul->Ae,slot_list_index->Ad,slot_list_count->Ac,entry_tuple_mul->z_,args_dict_get_3->z9,args_dict_get_2->z8,args_tuple_iterator_next_1->z7,type_dict_get->z6,entry_tuple_iterator_next->z5,slot_list_append->z4,args_int_rmul_2->z3,slot_int_index->z0,entry_int_rmul->zZ,slot_list_pop->zY,fills_int_mul->zX,kt_typeCall_dict_1->zW,args_object_init_3->zV,args_list_extend_2->zU,entry_list_extend->zT,args_dict_init_2->zS,slot_tuple_hash->zR,entry_dict_init->zQ,typeCall_zip_2->zP,kt_called_dict->zO,slot_zip_next->zN,newCall_zip_2->zM,entry_zip_new->zL,called_zip->zK
open Array renaming length_toList->lN,forIn_toList->lM,size_append->t6,getElem?_eq_getElem->zJ,toList->t5,getElem?_toList->zI,all_append->zH
open PySem.Around renaming in1_units->i4,under_plainId->lL,under->tZ,frames_deeper->zG
open Bool renaming and_eq_true->az,false_ne_true->be,eq_iff_iff->i3,not_eq_true'->kr,false_eq_true->lK,false_or->kq,not_true->pa,or_eq_true->tY,and_false->zF,or_false->zE
open List renaming mem_cons_self->aJ,mem_cons_of_mem->aN,map_cons->aD,getElem?_eq_some_iff->bg,getElem?_set_ne->bb,size_toArray->aY,mem_cons->aM,getElem?_append_right->bF,getElem?_append_left->bE,length_append->bc,length_map->bv,length_cons->bz,getElem?_take_of_lt->cY,all_eq_true->bD,replicate_succ->cn,eq_nil_of_length_eq_zero->eh,not_mem_nil->bM,length_set->bC,nodup_cons->bL,mem_of_getElem?->dg,getElem?_set_self->ee,length_take->cX,append_nil->cW,flatten_cons->dD,any_cons->cG,mem_append_right->fG,mem_singleton->eK,getD_eq_getElem?_getD->i0,map_append->d_,getElem?_map->fF,mem_append->fE,find?_cons->fD,getElem?_eq_getElem->ko,forIn_cons->gw,foldl_cons->gv,mem_map->eJ,length->d9,cons_append->g_,lookup->eI,mem_filterMap->km,map_map->g9,filterMap_cons->lJ,all_cons->iY,nil_append->kl,drop_zero->kj,append_assoc->lI,isEmpty_iff->lH,any_eq_true->lG,map_nil->ki,nodup_nil->lF,drop_eq_getElem_cons->tU,nodup_append->o_,lookup_cons->o9,getElem_mem->o8,getElem?_replicate->tT,find?_cons_of_neg->tS,of_mem_zip->o7,mem_filter->o6,length_singleton->tR,getElem?_eq_none->tP,dropLast_eq_take->tN,drop_drop->o5,take_succ_cons->tM,flatMap_cons->tL,take_length->tK,mem_flatMap->tJ,flatMap_nil->tH,drop_length->tG,dropLast_concat_getLast->zD,foldl->o4,mem_or_eq_of_mem_set->zC,mem_of_find?_eq_some->zB,getElem?_eq_none_iff->zA,take_of_length_le->zz,find?_cons_of_pos->zy,all_map->tF,set_getElem_self->zx,length_replicate->zw,mem_iff_getElem->zv,mem_append_left->zu,length_dropLast->zt,map_congr_left->zr,zip_cons_cons->zq,map_inj_right->zp,take_sublist->zo,any_eq_false->zn,range'_succ->zm,mem_reverse->zj,length_drop->zi,cons_ne_nil->zh,length_nil->zg,find?_some->zf,mem_range->ze,forIn_nil->zd,map_take->zc,map->zb
abbrev aL:=@of_decide_eq_true
abbrev ag:=@if_pos
abbrev aX:=@decide_eq_false
abbrev aj:=@if_neg
abbrev df:=@decide_eq_true
abbrev gu:=@beq_eq_false_iff_ne
abbrev bK:=@or_false
abbrev bX:=@congrArg
abbrev gq:=@if_false
abbrev g8:=@if_true
abbrev gp:=@not_or
abbrev tB:=@decide_eq_true_iff
abbrev lE:=@beq_iff_eq
abbrev tz:=@decide_eq_true_eq
open PySem.SeqAt renaming readOf->iX,readsAll_map->y',items_eqAt->y_,shaped->y9,eqAt_reads->GU
open PySem.Heap renaming get?_push_of_some->aF,lt_size->av,get?_push_size->aR,SameBut->cD,ExtBut->g7,size_push->kh,get?_update_self->o3,get?_none_of_le->tw,get?_update_other->y8,IsTuple->tu,NewAttrErr->y7,IsList->y6
open Option.some renaming inj->d8,injEq->GS
open Nat renaming le_refl->al,lt_of_lt_of_le->bu,ne_of_lt->aQ,le_trans->ba,ne_of_gt->bA,zero_le->bW,lt_succ_self->d6,lt_irrefl->d5,le_of_lt->d0,lt_of_le_of_lt->iW,le_succ->iV,lt_trans->kg,mul_comm->o0,le_of_succ_le->tt,not_lt->oZ,succ_mul->tm,sub_zero->tj,le_succ_of_le->y4,min_eq_left->y3,le_of_eq->y0,log2_lt->yZ
open Ne renaming symm->aH
open PySem.Calls renaming spliced_cons->cm,spliced_nil->dC,callWith_builtin->iU,evalArgs_plain->kf,Name_function_global->yY
open PyProof.Rows renaming callWith_type1->g6,slot_tuple_getitem->iT,boot_list->oY,boot_isinstance->yX,boot_tuple->yW,boot_dict->yV,boot_zip->yU,boot_int->yS,tail_any->lD,reads_list_at->tf,subscriptTail_builtinR->yR,lt_int->yQ,entry_tuple_getitem->yP,args_tuple_getitem->yO,get?_update_seq->yN,callWith_builtin1->GR,boot_str->GQ,boot_sorted->GP,boot_set->GO,boot_bool->GN,boot_any->GL,boot_all->GK,boot_abs->GJ,slicePart_none->yM,boot_enumerate->yL,UnaryOp_->s_,tupleItemsOf_->yK,listUpdate_at->yJ
open PySem.EqNone renaming ne_str_none->GI,ne_none_str->GH,ne_none_none->GG,ne_none_int->GD,ne_none_bool->GC,ne_int_none->GB,ne_bool_none->GA,eq_str_none->Gz,eq_none_str->Gy,eq_none_none->Gx,eq_none_int->Gw,eq_none_bool->Gu,eq_int_none->Gs,eq_bool_none->Gr
open PySem.EqMixed renaming ne_str_int->Gq,ne_str_bool->Gp,ne_int_str->Go,ne_bool_str->Gn,eq_str_int->Gm,eq_str_bool->Gk,eq_int_str->Gj,eq_bool_str->Gh
open Option renaming map_eq_some_iff->bJ,bind_some->eG,isSome_iff_exists->lC,bind_eq_some_iff->lB,map->gZ,isSome_map->yI,getD_none->yH
open Int renaming toNat_natCast->ke,emod_lt_of_pos->oX,zero_add->lA,emod_nonneg->oW,toNat_of_nonneg->yG,natCast_mul->yF
open PySem.Builtin.Slice renaming slicePlaces->oV,sliceAdjust->s0,sliceApplied->yE,slicePartIndex->Gg,sliceFields->Gf
open PySem.Str renaming length->lz,ofString_eq_toList->yD
open PySem.Obj renaming mapSeq->gY,mapFields->yC
open PySem.Builtin.List renaming listTooLong->kc
open PySem.Heap.SameBut renaming update->ka,refl->Ge
open PySem.AutoSeq1 renaming wpAny_loadPart'->sZ,sub_tuple_tuple->yB,idx_int->yA,sub_list_tuple->Gd,sub_list_list->Gc
open PySem.Builtin.SmallTypes renaming nextOf->dZ,ownedTupleIsFree->oU,ownedTupleHandOut->Gb
open PySem.Shared renaming heap->ly,TypeIs->yz
open PySem.Builtin.Dict renaming updateFrom->oS,selfAndRest->yy,addKeywords->yx,pairItems->yw
open PySem.SetTable renaming insertAt->oR
set_option tactic.hygienic false
namespace Nk
open PySem
mutual
noncomputable def kd:PyData->Bool
 | .none=>true
 | .int _=>true
 | .str x=>C2 (.str x)
 | .tuple xs=>kds xs
 | .bool _=>false
 | .list _=>false
 | .dict _=>false
noncomputable def kds:List PyData->Bool
 | []=>true
 |x::xs=>kd x && kds xs
end
mutual
noncomputable def hk(w:World):PyData->Int
 | .none=>PySem.W.hashW w.params .none
 | .int i=>hashInt i
 | .str x=>hashStr w x
 | .tuple xs=>reduceHash (I0 (MA w xs))
 | .bool _=>0
 | .list _=>0
 | .dict _=>0
noncomputable def MA(w:World):List PyData->List Int
 | []=>[]
 |x::xs=>hk w x::MA w xs
end
mutual
noncomputable def dr:PyData->Nat
 | .tuple xs=>PP xs+1
 | .none=>1
 | .int _=>1
 | .str _=>1
 | .bool _=>0
 | .list _=>0
 | .dict _=>0
noncomputable def PP:List PyData->Nat
 | []=>0
 |x::xs=>dr x+PP xs
end
noncomputable instance decPD:DecidableEq PyData:=λa b=>Classical.propDecidable (a=b)
section
variable{prog:Program}{w:World}{E:VP}
mutual
theorem hash_of:∀(d:PyData)(v:Value)(as:List Addr)(A:Around)(s:Shared)(Q:Int->Shared->Prop),kd d=true->Reads s.heap v d as->A.units+d.depth < cLine->Q (hk w d) { s with toks:=s.toks+dr d }->wpAny (model prog w) A (pyHash v) Q E s
 | .none,_,_,A,s,Q,_,r,hu,h=>by cases r;exact Db (T:="NoneType") rfl F.slot_NoneType_hash F.entry_NoneType_hash (F.args_NoneType_hash_1 _) (Ar _) (.inr (by lia)) (ae (aq (ae (wpAny_mkInt (aq ⟨_,_,rfl,h⟩)))))
 | .int _,_,_,_,_,_,_,r,_,h=>by cases r;exact Az h
 | .str _,_,_,_,_,_,_,r,_,h=>by cases r;exact AA h
 | .tuple xs,_,_,A,s,Q,k,r,hu,h=>by
  cases r with
  | @tuple a o vs n _ _ g1 g2 g3 g4=>simp only[rQ]at hu;refine Db ⟨o,g1,g2⟩ zR F.entry_tuple_hash (F.args_tuple_hash_1 _) (Ar _) (.inr (by lia)) ?_;show wpAny _ _ (C1 (.ref a) >>= _) _ _ s;refine ae (wpAny_tupleItemsOf g1 g3 (ae ?_));rw[<- lM];refine wg xs vs.toList _ A.in1 s #[] _ k g4 (by rw[i4];lia) λb e=>?_;show wpAny _ _ (retInt (I0 b.toList)) _ _ _;rw[e];exact ae (wpAny_mkInt (aq ⟨_,_,rfl,h⟩))
 | .bool _,_,_,_,_,_,k,_,_,_ | .list _,_,_,_,_,_,k,_,_,_ | .dict _,_,_,_,_,_,k,_,_,_=>nomatch k
theorem wg:∀(xs:List PyData)(vs:LV)(as:List Addr)(A:Around)(s:Shared)(b:Array Int)(Q:Array Int->Shared->Prop),kds xs=true->ReadsAll s.heap vs xs as->A.units+pT xs < cLine ->
  (∀b',b'.toList=b.toList++MA w xs->Q b' { s with toks:=s.toks+PP xs })->wpAny (model prog w) A (forIn vs b λx r=>do let h <- pyHash x;pure PUnit.unit;pure (ForInStep.yield (r.push h))) Q E s
 | [],_,_,_,s,b,_,_,r,_,h=>by cases r;exact aq (h b (by simp[MA]))
 |d::xs,_,_,A,s,b,Q,k,r,hu,h=>by
  cases r with
  |cons r1 r2=>
   simp only[kds,az]at k;simp only[pT]at hu;rw[gw];refine ae (ae (hash_of d _ _ A s _ k.1 r1 (by lia) ?_));refine aq (wg xs _ _ A { s with toks:=s.toks+dr d } _ Q k.2 r2 (by lia) λb' e=>?_);have:=h b' (by rw[e];simp[MA])
   simpa[PP,Nat.add_assoc] using this
end
end
mutual
theorem HY:∀d:PyData,kd d=true->d.canLay0=true
 | .none,_ | .int _,_=>rfl
 | .str _,k=>k
 | .tuple xs,k=>by have:=v6 xs k;simpa[C2] using this
 | .bool _,k | .list _,k | .dict _,k=>nomatch k
theorem v6:∀xs:List PyData,kds xs=true->vm xs=true
 | [],_=>rfl
 |d::xs,k=>by simp only[kds,az]at k;simp[vm,HY d k.1,v6 xs k.2]
end
mutual
theorem eqv_kd:∀a b:PyData,kd a=true->kd b=true->(bQ a b=true↔a=b)
 | .none,.none,_,_=>by simp[bQ]
 | .none,.int _,_,_ | .none,.str _,_,_ | .none,.tuple _,_,_=>by simp[bQ]
 | .int _,.none,_,_ | .int _,.str _,_,_ | .int _,.tuple _,_,_ | .int _,.int _,_,_=>by simp[bQ]
 | .str _,.none,_,_ | .str _,.str _,_,_ | .str _,.tuple _,_,_ | .str _,.int _,_,_=>by simp[bQ]
 | .tuple _,.none,_,_ | .tuple _,.str _,_,_ | .tuple _,.int _,_,_=>by simp[bQ]
 | .tuple xs,.tuple ys,h,k=>by have:=BA xs ys h k;simp[bQ,this]
 | .bool _,_,k,_ | .list _,_,k,_ | .dict _,_,k,_=>nomatch k
 | .none,.bool _,_,k | .none,.list _,_,k | .none,.dict _,_,k | .int _,.bool _,_,k | .int _,.list _,_,k | .int _,.dict _,_,k=>nomatch k
 | .str _,.bool _,_,k | .str _,.list _,_,k | .str _,.dict _,_,k | .tuple _,.bool _,_,k | .tuple _,.list _,_,k | .tuple _,.dict _,_,k=>nomatch k
theorem BA:∀xs ys:List PyData,kds xs=true->kds ys=true->(kQ xs ys=true↔xs=ys)
 | [],[],_,_=>by simp[kQ]
 | [],_::_,_,_|_::_,[],_,_=>by simp[kQ]
 |x::xs,y::ys,h,k=>by simp only[kds,az]at h k;simp[kQ,eqv_kd x y h.1 k.1,BA xs ys h.2 k.2]
end
mutual
theorem stay:∀(x:PyData){h h':Heap}{v:Value}{as:List Addr},kd x=true->Reads h v x as->(∀b o,h.get? b=some o->o.cls=.type "tuple"->(∃vs n,o.data=.seq vs n)->h'.get? b=some o)->Reads h' v x as
 | .none,_,_,_,_,_,r,_ | .int _,_,_,_,_,_,r,_ | .str _,_,_,_,_,_,r,_=>by cases r;constructor
 | .tuple xs,_,_,_,_,k,r,q=>by
  cases r with
  |tuple g1 g2 g3 g4=>exact .tuple (q _ _ g1 g2 ⟨_,_,g3⟩) g2 g3 (stays xs k g4 q)
 | .bool _,_,_,_,_,k,_,_ | .list _,_,_,_,_,k,_,_ | .dict _,_,_,_,_,k,_,_=>nomatch k
theorem stays:∀(xs:List PyData){h h':Heap}{vs:LV}{as:List Addr},kds xs=true->ReadsAll h vs xs as->(∀b o,h.get? b=some o->o.cls=.type "tuple"->(∃vs n,o.data=.seq vs n)->h'.get? b=some o)->ReadsAll h' vs xs as
 | [],_,_,_,_,_,r,_=>by cases r;constructor
 |x::xs,_,_,_,_,k,r,q=>by
  simp only[kds,az]at k;cases r with
  |cons r1 r2=>exact .cons (stay x k.1 r1 q) (stays xs k.2 r2 q)
end
section
variable{prog:Program}{w:World}{E:VP}
mutual
theorem vO:∀(d:PyData)(n:Nat)(v:Value)(as:List Addr)(A:Around)(s:Shared)(Q:Bool->Shared->Prop),kd d=true->d.depth≤n->Reads s.heap v d as->Q true s->wpAny (model prog w) A (eqIsQuiet n v) Q E s
 | .none,n,_,_,_,_,_,_,_,r,q | .int _,n,_,_,_,_,_,_,_,r,q | .str _,n,_,_,_,_,_,_,_,r,q=>by cases r;rw[eqIsQuiet_byValue n rfl];exact aq q
 | .tuple xs,n,_,_,A,s,Q,k,l,r,q=>by
  simp only[rQ]at l;obtain⟨n,rfl⟩:∃m,n=m+1:=⟨n-1,by lia⟩;cases r with
  | @tuple a o vs m _ _ g1 g2 g3 g4=>
   have T:s.TypeIs (.ref a) "tuple":=⟨o,g1,g2⟩;unfold eqIsQuiet;refine ae (w6 T F.slot_tuple_eq.lookup ?_);show wpAny _ _ (isInstance (.ref a) (.type "tuple") >>= _) _ _ s;refine ae (Ay T isSubtype_tuple_tuple ?_);simp only[pa,lK,gq];refine ae (gG g1 g3 (ae ?_));show wpAny _ _ (forIn vs _ _) _ _ s;rw[<- lM];have all:=sd xs n vs.toList _ A s k (by lia) g4;refine Ax _ (λrest r s'=>r.1=none/\s'=s/\∀v ∈ rest,∀Q:Bool->Shared->Prop,Q true s->wpAny (model prog w) A (eqIsQuiet n v) Q E s) _ ?_ ?_ _ _ ⟨rfl,rfl,λv hv Q=>all v hv Q⟩
   .rintro v rest ⟨r1,r2⟩ s' ⟨e1,e2,hall⟩;subst e2;refine ae (hall v aJ _ ?_);simp only[pa,lK,gq];exact aq ⟨rfl,rfl,λu hu=>hall u (aN _ hu)⟩
   .rintro ⟨r1,r2⟩ s' ⟨e1,e2,_⟩;cases e1;cases e2;exact aq q
 | .bool _,_,_,_,_,_,_,k,_,_,_ | .list _,_,_,_,_,_,_,k,_,_,_ | .dict _,_,_,_,_,_,_,k,_,_,_=>nomatch k
theorem sd:∀(xs:List PyData)(n:Nat)(vs:LV)(as:List Addr)(A:Around)(s:Shared),kds xs=true->pT xs≤n->ReadsAll s.heap vs xs as->∀v ∈ vs,∀Q:Bool->Shared->Prop,Q true s->wpAny (model prog w) A (eqIsQuiet n v) Q E s
 | [],_,_,_,_,_,_,_,r,v,hv,_,_=>by cases r;cases hv
 |x::xs,n,_,_,A,s,k,l,r,v,hv,Q,q=>by
  simp only[kds,az]at k;simp only[pT]at l;cases r with
  |cons r1 r2=>
   rcases aM.mp hv with rfl|hv
   .exact vO x n _ _ A s Q k.1 (by lia) r1 q
   .exact sd xs n _ _ A s k.2 (by lia) r2 v hv Q q
end
end
def nest(prog:Program)(w:World):HeapKind prog w PyData where
 is:=λh d a=>kd d=true/\d.depth≤8/\∃n,Reads h (.ref a) d n
 hash:=hk w
 draws:=dr
 room:=λA=>A.units+8 < cLine
 inj:=λx y=>by obtain⟨k,_,_,r⟩:=x;obtain⟨_,_,_,m⟩:=y;exact PySem.SeqAt.Reads.unique _ _ _ _ _ (HY _ k) r m
 keeps:=λx u v z=>by obtain⟨k,l,n,r⟩:=x;refine⟨k,l,n,stay _ k r λb o c _ f=>?_⟩;refine(z.2 b λe=>?_).trans c;subst e;obtain⟨_,_,f⟩:=f;rw[u]at c;cases c;rw[v]at f;cases f
 pyHash:=λg x q=>by obtain⟨k,l,n,r⟩:=x;exact hash_of _ _ _ _ _ _ k r (by lia) q
 eqBool:=λ{A E s x y a b Q} g i j q=>by
  obtain⟨k,l,n,r⟩:=i;obtain⟨t,H,p,m⟩:=j;have e:=GU x y A s _ _ n p r m (HY _ k) (HY _ t) (by lia);refine e prog w E Q ?_;have:bQ x y=decide (x=y):=by rw[i3,eqv_kd x y k t,tB]
  rw[this];exact q
 quiet:=λx q=>by obtain⟨k,l,n,r⟩:=x;exact vO _ 8 _ _ _ _ _ k l r q
end Nk
set_option Elab.async false
set_option linter.all false
set_option maxRecDepth 100000
namespace L2
open PySem PySem.Spec PyProof.Rows
noncomputable abbrev dj:=Sum Int Str
noncomputable def sr:dj->Value->Bool
 | .inl k,v=>Value.isInt k v
 | .inr x,v=>Value.isStrOf x v
noncomputable def Rm(w:World):dj->Int
 | .inl k=>hashInt k
 | .inr x=>hashStr w x
theorem cI:∀{k:dj}{v:Value},sr k v=true->(∃i t,k=Sum.inl i/\v=Value.int i t)\/(∃x t,k=Sum.inr x/\v=Value.str x t)
 | .inl i,v,h=>by obtain⟨t,e⟩:=Value.isInt_shape (k:=i) (v:=v) h;exact .inl ⟨i,t,rfl,e⟩
 | .inr x,v,h=>by obtain⟨t,e⟩:=Value.isStrOf_shape (x:=x) (v:=v) h;exact .inr ⟨x,t,rfl,e⟩
theorem Cf(i:Int)(t:Tok):sr (.inl i) (.int i t)=true:=by simp[sr,Value.isInt]
theorem Ce(x:Str)(t:Tok):sr (.inr x) (.str x t)=true:=by simp[sr,Value.isStrOf]
theorem LI(a b:Int):decide ((Sum.inl a:dj)=Sum.inl b)=(a == b):=by
 by_cases e:a=b
 .subst e;simp
 .have h:¬(Sum.inl a:dj)=Sum.inl b:=λq=>e (Sum.inl.inj q);rw[aX h];exact(gu.mpr e).symm
theorem LF(a b:Str):decide ((Sum.inr a:dj)=Sum.inr b)=decide (a=b):=by
 by_cases e:a=b
 .subst e;simp
 .have h:¬(Sum.inr a:dj)=Sum.inr b:=λq=>e (Sum.inr.inj q);rw[aX h,aX e]
theorem LH(a:Int)(b:Str):decide ((Sum.inl a:dj)=Sum.inr b)=false:=aX (λq=>nomatch q)
theorem LG(a:Str)(b:Int):decide ((Sum.inr a:dj)=Sum.inl b)=false:=aX (λq=>nomatch q)
def bP(prog:Program)(w:World):PySem.KeyKind prog w dj where
 is:=sr
 hash:=Rm w
 inj:=λv a b c f=>by
  rcases cI c with ⟨i,t,rfl,rfl⟩|⟨x,t,rfl,rfl⟩
  .rcases cI f with ⟨j,u,rfl,e⟩|⟨y,u,rfl,e⟩
   .injection e with s _;rw[s]
   .exact nomatch e
  .rcases cI f with ⟨j,u,rfl,e⟩|⟨y,u,rfl,e⟩
   .exact nomatch e
   .injection e with s _;rw[s]
 byValue:=λk v h=>by rcases cI h with ⟨i,t,rfl,rfl⟩|⟨x,t,rfl,rfl⟩<;>rfl
 pyHash:=λn h=>by
  rcases cI n with ⟨i,t,rfl,rfl⟩|⟨x,t,rfl,rfl⟩
  .exact Az h
  .exact AA h
 eqBool:=λm n h=>by
  rcases cI m with ⟨i,t,rfl,rfl⟩|⟨x,t,rfl,rfl⟩
  .rcases cI n with ⟨j,u,rfl,rfl⟩|⟨y,u,rfl,rfl⟩
   .rw [LI]at h;exact Au h
   .rw [LH]at h;exact SeqAt.EqAt.int_str i t y u _ _ _ _ h
  .rcases cI n with ⟨j,u,rfl,rfl⟩|⟨y,u,rfl,rfl⟩
   .rw [LG]at h;exact SeqAt.EqAt.str_int x t j u _ _ _ _ h
   .rw [LF]at h;exact Av h
 «strs»:=λk x t v h=>by
  rcases cI h with ⟨i,u,rfl,e⟩|⟨y,u,rfl,e⟩
  .exact nomatch e
  .injection e with s _;subst s;cases v<;>rfl
theorem vZ(prog:Program)(w:World)(i:Int)(t:Tok):(bP prog w).is (.inl i) (.int i t)=true:=Cf i t
theorem vY(prog:Program)(w:World)(x:Str)(t:Tok):(bP prog w).is (.inr x) (.str x t)=true:=Ce x t
inductive V where
 |non|bl (b:Bool)|int (i:Int)|str (x:Str)|byt (b:Array UInt8)|flt (b:UInt64)|ref (a:Addr)|ty (n:String)
 deriving DecidableEq
def RelV:V->Value->Prop
 | .non,u=>u=Value.none
 | .bl b,u=>u=Value.bool b
 | .int i,u=>∃t,u=Value.int i t
 | .str x,u=>∃t,u=Value.str x t
 | .byt b,u=>∃t,u=Value.bytes b t
 | .flt b,u=>∃t,u=Value.float b t
 | .ref a,u=>u=Value.ref a
 | .ty n,u=>u=Value.type n
abbrev aU:List V->LV->Prop:=Paired RelV
variable{j:LV}
theorem aU.length(r:aU xs j):xs.length=j.length:=Paired.length r
theorem aU.get:∀{xs:List V}{j:LV}{i:Nat}{x:V},aU xs j->xs[i]? = some x->∃u,j[i]? = some u/\RelV x u
 |_,_,_,_,.nil,e=>by simp at e
 |_,_,0,_,.cons r _,e=>by simp at e;subst e;exact⟨_,rfl,r⟩
 |_,_,i+1,x,.cons _ t,e=>by obtain⟨u,h1,h2⟩:=aU.get (i:=i) (x:=x) t (by simpa using e);exact⟨u,by simpa using h1,h2⟩
variable{u:Value}
theorem aU.set(r:RelV x u):∀{xs:List V}{j:LV}(i:Nat),aU xs j->aU (xs.set i x) (j.set i u)
 |_,_,_,.nil=>.nil
 |_,_,0,.cons _ t=>.cons r t
 |_,_,i+1,.cons q t=>.cons q (aU.set r i t)
theorem aU.append:∀{xs ys:List V}{j w:LV},aU xs j->aU ys w->aU (xs++ys) (j++w)
 |_,_,_,_,.nil,s=>s
 |_,_,_,_,.cons r t,s=>.cons r (aU.append t s)
theorem aU.take:∀{xs:List V}{j:LV}(n:Nat),aU xs j->aU (xs.take n) (j.take n)
 |_,_,0,_=>.nil
 |_,_,_+1,.nil=>.nil
 |_,_,n+1,.cons r t=>.cons r (aU.take n t)
theorem aU.drop:∀{xs:List V}{j:LV}(n:Nat),aU xs j->aU (xs.drop n) (j.drop n)
 |_,_,0,r=>r
 |_,_,_+1,.nil=>.nil
 |_,_,n+1,.cons _ t=>aU.drop n t
def jK:Option V->OV->Prop
 |some v,some u=>RelV v u
 |none,none=>True
 |_,_=>False
def KV:List (κ×V)->List (κ×Value)->Prop:=Paired λ(p:κ×V)(q:κ×Value)=>p.1=q.1/\RelV p.2 q.2
noncomputable def kV:dj->V
 | .inl i=>.int i
 | .inr x=>.str x
def nQ(h:Heap)(a:Addr)(i:Array Value):Prop:=∃o,h.get? a=some o/\(o.cls=.type "tuple"/\∃n,o.data=.seq i n)/\o.dict=none
variable{h:Heap}{a:Addr}
theorem nQ.tup(x:nQ h a q):IsTup h a q:=by obtain⟨o,e,c,_⟩:=x;exact⟨o,e,c⟩
theorem nQ.lt(x:nQ h a q):a < h.objs.size:=x.tup.lt
theorem nQ.new(h:Heap)(i:Array Value):nQ (h.push { cls:=.type "tuple",data:=.seq i }) h.objs.size i:=⟨_,aR _ rfl,⟨rfl,_,rfl⟩,rfl⟩
inductive HO where
 |lst (xs:List V)
 |tup (xs:List V)
 |dK (kvs:List (dj×V))|dT (kvs:List (List dj×V))|dN (kvs:List (PyData×V×V))
 |set (S:Int->Bool) (n:Nat)
 |ins (C dx:Addr) (fs:List (Str×V))
 |own (x:Addr)
 |xd (fs:List (Str×V))
 |met (f x:Addr)
 |rng (lo hi:Int)
 |frz (o:Obj) (u:HO)
 |tbl
 |ext (φ:Heap->Prop)
noncomputable abbrev Hp:=Addr->Option HO
noncomputable def br(H:Hp)(a:Addr)(o:HO):Hp:=λb=>if b=a then some o else H b
variable{H:Hp}
theorem aC:br H a o a=some o:=by unfold br;rw[ag rfl]
variable{b:Addr}
theorem ar(h:b≠a):br H a o b=H b:=by unfold br;rw[aj h]
theorem Og{H:Hp}{a b:Addr}{o u:HO}(h:H a=some o)(h':H b=some u)(d:o≠u):a≠b:=by intro e;subst e;rw[h]at h';exact d (d8 h')
theorem a9(h:H a=some o)(h':H b=none):a≠b:=by intro e;subst e;rw[h]at h';cases h'
noncomputable def xS:Bool->Str
 |false=>"is_closed"
 |true=>"bad_and_final_at"
noncomputable def rn:Bool->Str
 |false=>"is_closed.<locals>.<lambda>"
 |true=>"bad_and_final_at.<locals>.<lambda>"
noncomputable def rA:Bool->Pos
 |false=>⟨551,43,551,83⟩
 |true=>⟨577,39,577,84⟩
def DD(p:Addr×Obj):Option Addr:=match p.2.data with
 | .fields v=>match (v[1]?:OV),(v[11]?:OV) with
  |some (.str q _),some (.ref P)=>if q=xS false\/q=xS true then some P else none
  |_,_=>none
 |_=>none
def bR(K:FG):List Addr:=K.filterMap DD
def xX(k:Bool)(o:Obj):Prop:=∃v t,o.data=.fields v/\v[1]? = some (.str (rn k) t)
def nX(es:List (Bool×Addr)):LV:=es.flatMap λz=>[rawInt (rA z.1).line,rawInt (rA z.1).col,.ref z.2]
def qZ(H:Hp)(h:Heap)(a:Addr):Prop:=∃es,h.get? a=some (pR (nX es).toArray)/\∀z ∈ es,∃o,H z.2=some (.frz o (.own a))/\xX z.1 o
section
variable(P:Program)(w:World)
def cM(H:Hp)(h:Heap)(a:Addr):HO->Prop
 | .lst xs=>xs.length≤sizeLine/\∃(its:LV)(n:Nat),aU xs its/\h.get? a=some { cls:=.type "list",data:=.seq its.toArray n }
 | .tup xs=>xs.length≤sizeLine/\∃its:LV,aU xs its/\nQ h a its.toArray
 | .dK kvs=>kvs.length≤sizeLine/\(a == sysModules)=false/\∃vs,KV kvs vs/\h.DictOf (bP P w) a vs
 | .dT kvs=>kvs.length≤sizeLine/\(a == sysModules)=false/\∃xs:List (List dj×Addr×Value),
   Paired (λ(p:List dj×V)(q:List dj×Addr×Value)=>p.1=q.1/\H q.2.1=some (.tup (p.1.map kV))/\RelV p.2 q.2.2) kvs xs /\
   ∃o es ep,h.get? a=some o/\o.ExactDict/\o.data=.dict es ep/\es.toList=xs.map (entryOfKey (tupleKind (bP P w)))/\(xs.map (·.1)).Nodup
 | .dN kvs=>kvs.length≤sizeLine/\(a == sysModules)=false/\∃xs:List (PyData×Addr×Value),Paired (λ(p:PyData×V×V)(q:PyData×Addr×Value)=>p.1=q.1/\p.2.1=V.ref q.2.1/\RelV p.2.2 q.2.2) kvs xs /\
   ∃o es ep,h.get? a=some o/\o.ExactDict/\o.data=.dict es ep/\es.toList=xs.map (entryOfKey (Nk.nest P w))/\(xs.map (·.1)).Nodup
 | .set S n=>h.SetOf (intKind P w) a S n
 | .ins C dx fs=>H dx=some (.own a)/\fs.length≤1000/\dx≠a/\h.get? a=some (jP C dx) /\
   ∃mA,h.Ns1 dx mA/\(∀f,jK (fs.lookup f) (mA f))/\w4 mA (fs.map (·.1))
 | .own _=>∃o,h.get? a=some o
 | .xd fs=>∃mA,h.Ns1 a mA/\∀f,jK (fs.lookup f) (mA f)
 | .rng lo hi=>∃t u v,h.get? a=some { cls:=.type "range",data:=.fields #[.int lo t,.int hi u,.int 1 v] }
 | .frz o u=>h.get? a=some o/\cM H h a u
 | .tbl=>qZ H h a
 | .met f x=>h.get? a=some (xn (.ref f) (.ref x))
 | .ext φ=>φ h/\(∃o,h.get? a=some o)/\∀h1 h2:Heap,φ h1->(∀o,h1.get? a=some o->h2.get? a=some o)->φ h2
def iB(H:Hp)(h:Heap):Prop:=∀a o,H a=some o->cM P w H h a o
end
section
variable{P:Program}{w:World}{H H':Hp}{h h':Heap}{a:Addr}{o:HO}
theorem cM.lt(x:cM P w H h a o):a < h.objs.size:=by
 cases o with
 |lst xs=>obtain⟨_,_,_,_,e⟩:=x;exact av e
 |tup xs=>obtain⟨_,_,_,p⟩:=x;exact p.lt
 |dK kvs=>obtain⟨_,_,_,_,o,_,_,e,_⟩:=x;exact av e
 |dT kvs=>obtain⟨_,_,_,_,o,_,_,e,_⟩:=x;exact av e
 |dN kvs=>obtain⟨_,_,_,_,o,_,_,e,_⟩:=x;exact av e
 |set S n=>obtain⟨o,_,_,_,e,_⟩:=x;exact av e
 |ins C dx fs=>obtain⟨_,_,_,e,_⟩:=x;exact av e
 |own y=>obtain⟨_,e⟩:=x;exact av e
 |xd fs=>obtain⟨_,⟨_,_,_,e,_⟩,_⟩:=x;exact av e
 |rng lo hi=>obtain⟨_,_,_,e⟩:=x;exact av e
 |frz ob u=>obtain⟨e,_⟩:=x;exact av e
 |tbl=>obtain⟨_,e,_⟩:=(show qZ H h a from x);exact av e
 |met f y=>exact av (show h.get? a=some _ from x)
 |ext φ=>obtain⟨_,⟨_,e⟩,_⟩:=x;exact av e
theorem Paired.mapP:∀{l:List α}{h:List z},Paired F l h->(∀a b,F a b->q a b)->Paired q l h
 |_,_,.nil,_=>.nil
 |_,_,.cons r t,f=>.cons (f _ _ r) (Paired.mapP t f)
theorem cM.stay(x:cM P w H h a o)(k:∀b u,(b=a\/H b=some (.own a))->h.get? b=some u->h'.get? b=some u)
  (ho:∀b,H b=some (.own a)->H' b=some (.own a)) (ht:∀b xs,H b=some (.tup xs)->H' b=some (.tup xs))
  (hf:∀b oc,H b=some (.frz oc (.own a))->H' b=some (.frz oc (.own a)):=by first|exact λ_ _ q=>q|exact λ_ _ q=>(ar (a9 q (by assumption))).trans q):cM P w H' h' a o:=by
 induction o with
 |lst xs=>obtain⟨z,its,n,r,e⟩:=x;exact⟨z,its,n,r,k _ _ (.inl rfl) e⟩
 |tup xs=>obtain⟨z,its,r,ob,e,c⟩:=x;exact⟨z,its,r,ob,k _ _ (.inl rfl) e,c⟩
 |dK kvs=>obtain⟨z,y,vs,r,ob,es,ep,e,c⟩:=x;exact⟨z,y,vs,r,ob,es,ep,k _ _ (.inl rfl) e,c⟩
 |dT kvs=>obtain⟨z,y,xs,r,ob,es,ep,e,c⟩:=x;exact⟨z,y,xs,Paired.mapP r λp q z=>⟨z.1,ht _ _ z.2.1,z.2.2⟩,ob,es,ep,k _ _ (.inl rfl) e,c⟩
 |dN kvs=>obtain⟨z,y,xs,r,ob,es,ep,e,c⟩:=x;exact⟨z,y,xs,r,ob,es,ep,k _ _ (.inl rfl) e,c⟩
 |set S n=>obtain⟨ob,es,ep,t,e,c⟩:=x;exact⟨ob,es,ep,t,k _ _ (.inl rfl) e,c⟩
 |ins C dx fs=>obtain⟨d,z,ne,e,mA,⟨od,es,ep,e2,c⟩,r⟩:=x;exact⟨ho _ d,z,ne,k _ _ (.inl rfl) e,mA,⟨od,es,ep,k _ _ (.inr d) e2,c⟩,r⟩
 |own y=>obtain⟨ob,e⟩:=x;exact⟨ob,k _ _ (.inl rfl) e⟩
 |xd fs=>obtain⟨mA,⟨od,es,ep,e,c⟩,r⟩:=x;exact⟨mA,⟨od,es,ep,k _ _ (.inl rfl) e,c⟩,r⟩
 |rng lo hi=>obtain⟨t,u,v,e⟩:=x;exact⟨t,u,v,k _ _ (.inl rfl) e⟩
 |frz ob u ih=>obtain⟨e,q⟩:=x;exact⟨k _ _ (.inl rfl) e,ih q⟩
 |tbl=>obtain⟨ps,e,z⟩:=(show qZ H h a from x);refine⟨ps,k a _ (.inl rfl) e,λy hy=>?_⟩;obtain⟨oc,e2,e3⟩:=z y hy;exact⟨oc,hf _ _ e2,e3⟩
 |met f y=>have e:h.get? a=some (xn (.ref f) (.ref y)):=x;show h'.get? a=some (xn (.ref f) (.ref y));exact k a _ (.inl rfl) e
 |ext φ=>obtain⟨p,⟨o,e⟩,st⟩:=x;exact⟨st _ _ p λo q=>k _ _ (.inl rfl) q,⟨o,k _ _ (.inl rfl) e⟩,st⟩
theorem iB.lt(x:iB P w H h)(e:H a=some o):a < h.objs.size:=(x a o e).lt
theorem iB.fresh(x:iB P w H h)(e:h.objs.size≤a):H a=none:=by
 cases q:H a with
 |none=>rfl
 |some u=>exact absurd (bu (x.lt q) e) (d5 _)
theorem iB.kept(x:iB P w H h)(k:∀b u,h.get? b=some u->h'.get? b=some u):iB P w H h':=λa o e=>
 (x a o e).stay (λb u _ q=>k b u q) (λ_ q=>q) λ_ _ q=>q
theorem iB.laid(x:iB P w H h)(k:∀b u,h.get? b=some u->h'.get? b=some u)(p:h.objs.size≤a)(n:cM P w (br H a o) h' a o):iB P w (br H a o) h':=λb u e=>by
 have f:=x.fresh p;by_cases s:b=a
 .subst s;rw[aC]at e;cases e;exact n
 .rw [ar s]at e;exact(x b u e).stay (λc v _ q=>k c v q) (λc q=>by rw[ar (a9 q f)];exact q) λc xs q=>by rw[ar (a9 q f)];exact q
end
def Rd(H:Hp)(a:Addr)(u:HO):Prop:=H a=some u\/∃o,H a=some (.frz o u)
theorem Rd.ok{P:Program}{w:World}{H:Hp}{h:Heap}{a:Addr}{u:HO}(r:Rd H a u)(x:iB P w H h):cM P w H h a u:=by
 rcases r with r|⟨o,r⟩
 .exact x a u r
 .obtain⟨_,q⟩:=x a _ r;exact q
def Pe:Option HO->Prop
 |some (.lst _)=>True
 |some (.dK _)=>True
 |some (.dT _)=>True
 |some (.dN _)=>True
 |some (.set _ _)=>True
 |some (.ins _ _ _)=>True
 |some (.ext _)=>True
 |_=>False
section
variable{P:Program}{w:World}{H:Hp}{h h':Heap}{x e:Addr}{o':HO}
theorem iB.write(ok:iB P w H h)(m:Pe (H x))(i:e=x\/H e=some (.own x))(k:∀b u,b≠e->h.get? b=some u->h'.get? b=some u)(d:∃u,h'.get? e=some u)
  (g:cM P w (br H x o') h' x o'):iB P w (br H x o') h':=λb u q=>by
 have n:∀c y,H c=some (.own y)->c≠x:=λc y r z=>by subst z;rw[r]at m;exact m
 have t:∀c xs,H c=some (.tup xs)->c≠x:=λc xs r z=>by subst z;rw[r]at m;exact m
 have f:∀c o u,H c=some (.frz o u)->c≠x:=λc o u r z=>by subst z;rw[r]at m;exact m
 by_cases s:b=x
 .subst s;rw[aC]at q;cases q;exact g
 .rw [ar s]at q;by_cases a:b=e
  .have j:H b=some (.own x):=by
    rcases i with z|z
    .exact absurd (a.trans z) s
    .rw [a];exact z
   rw[q]at j;cases j;obtain⟨v,l⟩:=d;exact⟨v,by rw[a];exact l⟩
  .refine (ok b u q).stay (λc v p r=>k c v ?_ r) (λc r=>by rw[ar (n c b r)];exact r) (λc xs r=>by rw[ar (t c xs r)];exact r) (λc S r=>by rw[ar (f c _ _ r)];exact r);rcases p with rfl|p
   .exact a
   .rintro rfl;rcases i with z|z
    .exact n c b p z
    .rw [p]at z;cases z;exact s rfl
end
structure Un(fs ex:List Addr)(H H':Hp)(h h':Heap):Prop where
 keep:∀b o,h.get? b=some o->H b=none->b ∉ fs->b ∉ ex->h'.get? b=some o
 slot:∀b o,h.get? b=some o->H b=none->b ∈ fs->b ∉ ex->∃sl,h'.get? b=some { o with slots:=sl }
 free:∀b o,h.get? b=some o->H b=none->b ∉ ex->H' b=none
 there:∀b o,h.get? b=some o->b ∉ ex->∃o',h'.get? b=some o'
 tups:∀b xs,H b=some (.tup xs)->H' b=some (.tup xs)
 frzs:∀b o u,H b=some (.frz o u)->H' b=some (.frz o u)
 tbls:∀b,H b=some .tbl->H' b=some .tbl
section
variable{fs fs' ex ex':List Addr}{H G H2:Hp}{h h1 h2 h':Heap}{a x e:Addr}{o:HO}
theorem Un.any(u:Un fs ex H G h h1)(q:h.get? b=some z)(n:H b=none)(a:b ∉ ex):∃s,h1.get? b=some { z with slots:=s }:=by
 by_cases x:b ∈ fs
 .exact u.slot b z q n x a
 .exact⟨z.slots,u.keep b z q n x a⟩
theorem Un.kept(k:∀b u,h.get? b=some u->h'.get? b=some u):Un fs ex H H h h':=
 ⟨λb o q _ _ _=>k b o q,λb o q _ _ _=>⟨o.slots,k b o q⟩,λ_ _ _ n _=>n,λb o q _=>⟨o,k b o q⟩,λ_ _ q=>q,λ_ _ _ q=>q,λ_ q=>q⟩
theorem Un.refl:Un fs ex H H h h:=Un.kept λ_ _ q=>q
theorem Un.laid(k:∀b u,h.get? b=some u->h'.get? b=some u)(p:h.objs.size≤a)(x:H a=none):Un fs ex H (br H a o) h h' where
 keep:=λb u q _ _ _=>k b u q
 slot:=λb u q _ _ _=>⟨u.slots,k b u q⟩
 free:=λb u q n _=>by rw[ar (aQ (bu (av q) p))];exact n
 there:=λb u q _=>⟨u,k b u q⟩
 tups:=λb xs q=>by rw[ar (a9 q x)];exact q
 frzs:=λb u xs q=>by rw[ar (a9 q x)];exact q
 tbls:=λb q=>by rw[ar (a9 q x)];exact q
theorem Un.write(m:Pe (H x))(p:e=x\/H e=some (.own x))(k:∀b u,b≠e->h.get? b=some u->h'.get? b=some u)(s:∃u,h'.get? e=some u):Un fs ex H (br H x o) h h':=by
 have t:∀b,H b=none->b≠x:=λb n z=>by subst z;rw[n]at m;exact m
 have c:∀b,H b=none->b≠e:=λb n z=>by
  subst z;rcases p with r|r
  .exact t b n r
  .rw [n]at r;cases r
 have f:∀b u,H b=some u->¬Pe (some u)->b≠x:=λb u q nm z=>by subst z;rw[q]at m;exact nm m
 refine⟨fun b u q n _ _=>k b u (c b n) q,fun b u q n _ _=>⟨u.slots,k b u (c b n) q⟩,fun b u q n _=>by rw [ar (t b n)];exact n,fun b u q _=>?_,
  λb xs q=>by rw[ar (f b _ q λz=>z)];exact q,λb u xs q=>by rw[ar (f b _ q λz=>z)];exact q,λb q=>by rw[ar (f b _ q λz=>z)];exact q⟩
 by_cases a:b=e
 .subst a;exact s
 .exact⟨u,k b u a q⟩
end
noncomputable def trk(h:Heap)(H:Hp):List Addr:=(List.range h.objs.size).filter λa=>(H a).isSome
def uP(h:Heap)(H:Hp):Heap:=PySem.W.hideAll h (trk h H)
theorem Cj(h:Heap)(H:Hp):(uP h H).objs.size=h.objs.size:=PySem.W.hideAll_size _ _
variable{o:Obj}
theorem EX(e:h.get? b=some o)(n:H b=none):(uP h H).get? b=some o:=
 PySem.W.hideAll_get _ e λm=>by have q:(H b).isSome=true:=(o6.mp m).2;rw[n]at q;simp at q
theorem HM(e:(uP h H).get? b=some o):h.get? b=some o/\H b=none:=by
 have a:h.get? b=some o:=PySem.W.of_hideAll (trk h H) e;refine⟨a,?_⟩;cases q:H b with
 |none=>rfl
 |some x=>have m:b ∈ trk h H:=o6.mpr ⟨ze.mpr (av a),by simp[q]⟩;have z:(uP h H).get? b=none:=PySem.W.hideAll_none (trk h H) m;rw[z]at e;cases e
noncomputable def mP(g h:Heap)(L:Addr):PN:=(List.range h.objs.size).filterMap λa=>if a=L\/(g.get? a).isSome=true then none else (h.get? a).map λo=>(a,o)
variable{g:Heap}{L:Addr}
theorem v3(h1:a≠L)(h2:g.get? a=none)(x:h.get? a=some o):(a,o) ∈ mP g h L:=
 km.mpr ⟨a,ze.mpr (av x),by simp[h1,h2,x]⟩
set_option tactic.hygienic true in
theorem qf(x:p ∈ mP g h L):p.1≠L/\g.get? p.1=none/\h.get? p.1=some p.2:=by
 obtain⟨b,_,e⟩:=km.mp x;split at e
 .cases e
 .rename_i n;cases q:h.get? b with
  |none=>rw[q]at e;simp at e
  |some u=>
   rw[q]at e;simp only[Option.map_some,GS]at e;subst e;refine⟨λz=>n (.inl z),?_,q⟩;show g.get? b=none;cases r:g.get? b with
   |none=>rfl
   |some v=>exact(n (.inr (by simp[r]))).elim
theorem qh:News g L h (mP g h L):=λp x=>let ⟨a,b,c⟩:=qf x;⟨c,a,b⟩
structure Mod(K:FG)(mg:SV)(base:Heap):Prop where
 kin:K.In base
 glob:base.Ns mainGlobals mg
 blt:∃mb,base.Ns builtinsNs mb/\∀x:Str,x≠"__name__"->mb x=bootBuiltins x
 nolimit:base.NoLimit
 bmain:∃bm ob,mg "__builtins__"=some (.ref bm)/\bm≠builtinsNs/\base.get? bm=some ob/\ob.cls=.type "module"/\ob.dict=some builtinsNs/\ob.data=.plain
structure Cx where
 p:Program
 w:World
 K:FG
 g:SV
 b:Heap
 A:Around
 N:LS
 z:Shared
 y:Hp
 e:Env
 o:List Env
 k:List Env
 ex:List Addr
 fn:Str->Bool
 c:Bool
 pn:PN
 xe:VP
noncomputable def wW(l:List Env):List Addr:=l.filterMap (·.frame)
abbrev Cx.fs(X:Cx):List Addr:=wW X.o
def IX(sc:Scope)(x:Str):Prop:=sc.names.lookup x=some .local\/sc.names.lookup x=some .cell\/sc.names.lookup x=some .free
def Loc(sc:Scope)(x:Str):Prop:=sc.names.lookup x=some .local\/sc.names.lookup x=some .cell
def Look(e:Env)(h:Heap)(m:SV)(x:Str)(u:Value):Prop:=
 (e.kindOf x=some .local/\m x=some u)\/((e.kindOf x=some .cell\/e.kindOf x=some .free)/\∃c,e.cells.lookup x=some c/\h.IsCell c (some u))
structure Cx.Ok(X:Cx):Prop where
 mod:Mod X.K X.g X.b
 kind:X.e.scope.kind=.function
 glob:X.e.globals=mainGlobals
 blt:X.e.builtins=builtinsNs
 above:X.z.heap.objs.size≤X.e.locals
 inj:∀x y c,X.e.cells.lookup x=some c->X.e.cells.lookup y=some c->x=y
 has:∀x,(X.e.kindOf x=some .cell\/X.e.kindOf x=some .free)->∃c,X.e.cells.lookup x=some c
 cab:∀x c,X.fn x=true->X.e.cells.lookup x=some c->X.z.heap.objs.size≤c
 hd:X.c=true->X.A.handled=none
 frames:X.A.frames=some X.k
 stk:X.k=X.o\/(X.k=X.e::X.o/\X.e.frame=some X.e.locals)
 exf:∀b ∈ X.ex,b≠X.e.locals/\∀x c,X.e.cells.lookup x=some c->c≠b
 bs:∀b o,X.b.get? b=some o->X.z.heap.get? b=some o/\X.y b=none
 bsz:X.b.objs.size≤X.z.heap.objs.size
 noex:∀b o,X.b.get? b=some o->b ∉ X.ex
 exfs:∀b ∈ X.ex,b ∉ X.fs
 funs:X.z.heap.FunFrames X.b X.o
 frf:∀b ∈ X.fs,X.y b=none
 tab:∀P ∈ bR X.K,X.y P=some .tbl
structure Inv(X:Cx)(pins:PN)(J:List (Option V))(H:Hp)(s:Shared):Prop where
 o:X.Ok
 os:s.os=X.z.os
 bare:AllBare s.gens
 base:Un X.fs X.ex X.y H X.z.heap s.heap
 loc:∃m,s.heap.Ns X.e.locals m/\∀(i:Nat)(x:Str)(v:V),X.N[i]? = some x->J[i]? = some (some v)->IX X.e.scope x->∃u,RelV v u/\Look X.e s.heap m x u
 cell:∀x c,X.e.cells.lookup x=some c->∃v,s.heap.IsCell c v
 free:H X.e.locals=none
 freeC:∀x c,X.e.cells.lookup x=some c->H c=none
 pin:∀p ∈ X.pn++pins,s.heap.get? p.1=some p.2/\H p.1=none/\p.1≠X.e.locals/\p.1 ∉ X.fs/\∀v,p.2.data≠.cell v
 h:iB X.p X.w H s.heap
 len:J.length=X.N.length
section
variable{X:Cx}{pins:PN}{J:List (Option V)}{H H':Hp}{s:Shared}{h':Heap}
theorem Cx.Ok.nofr(ok:X.Ok)(e:X.b.get? b=some o):b ∉ X.fs:=λh=>by have:=(ok.funs.mem h).1;rw[e]at this;cases this
theorem Inv.bs(I:Inv X pins J H s):∀b o,X.b.get? b=some o->s.heap.get? b=some o/\H b=none:=λb o e=>
 ⟨I.base.keep b o (I.o.bs b o e).1 (I.o.bs b o e).2 (I.o.nofr e) (I.o.noex b o e),I.base.free b o (I.o.bs b o e).1 (I.o.bs b o e).2 (I.o.noex b o e)⟩
theorem Inv.bk(I:Inv X pins J H s):∀b o,X.b.get? b=some o->s.heap.get? b=some o:=λb o e=>(I.bs b o e).1
theorem Inv.mod(I:Inv X pins J H s):Mod X.K X.g X.b:=I.o.mod
theorem Inv.kIn(I:Inv X pins J H s):X.K.In s.heap:=I.o.mod.kin.keeps I.bk
theorem Inv.nolimit(I:Inv X pins J H s):s.heap.NoLimit:=I.o.mod.nolimit.keeps I.bk
theorem Inv.fr(I:Inv X pins J H s):∃m,Fr X.b X.e.locals s.heap m:=
 let ⟨m,h,_⟩:=I.loc
 ⟨m,h,I.bk,ba I.o.bsz I.o.above⟩
theorem Inv.lt(I:Inv X pins J H s):X.e.locals < s.heap.objs.size:=let ⟨_,h,_⟩:=I.loc;h.lt
theorem Inv.sz(I:Inv X pins J H s):X.z.heap.objs.size≤s.heap.objs.size:=ba I.o.above (d0 I.lt)
theorem Inv.nofs(I:Inv X pins J H s)(h:s.heap.objs.size≤a):a ∉ X.fs:=λb=>by obtain⟨_,o,x,_⟩:=I.o.funs.mem b;exact absurd (bu (av x) (ba I.sz h)) (d5 _)
theorem Inv.cne(I:Inv X pins J H s):∀x c,X.e.cells.lookup x=some c->c≠X.e.locals:=λx c e z=>by obtain⟨v,o,n,d⟩:=I.cell x c e;obtain⟨m,⟨o',es,p,a,h,_⟩,_⟩:=I.loc;rw[z,a]at n;cases n;rw[h]at d;cases d
theorem Inv.funs(I:Inv X pins J H s):s.heap.FunFrames X.b X.o:=by
 have all:∀(l:List Env),(∀b ∈ wW l,b ∈ X.fs)->X.z.heap.FunFrames X.b l->s.heap.FunFrames X.b l:=by
  intro l;induction l with
  |nil=>intro _ _;trivial
  |cons n r i=>
   intro a k;obtain⟨hk,⟨L,o,f,c,m,d⟩,t⟩:=k;have h:L ∈ X.fs:=a L (by unfold wW;rw[lJ,f];exact aJ);obtain⟨p,e⟩:=I.base.slot L o m (I.o.frf L h) h λz=>I.o.exfs L z h
   exact⟨hk,⟨L,_,f,c,e,d⟩,i (λb x=>a b (by unfold wW;rw[lJ,f];exact aN _ x)) t⟩
 exact all X.o (λ_ x=>x) I.o.funs
theorem Inv.stack(I:Inv X pins J H s):s.heap.FunFrames X.b X.k:=by
 rcases I.o.stk with e|⟨e,h⟩
 .rw [e];exact I.funs
 .rw [e];obtain⟨m,n,_⟩:=I.loc;refine .cons (by rw[I.o.kind];decide) h n ?_ I.funs;exact tw (ba I.o.bsz I.o.above)
theorem Inv.stkSub(I:Inv X pins J H s):∀b ∈ wW X.k,b ∈ X.e.locals::X.fs:=λb h=>by
 rcases I.o.stk with e|⟨e,f⟩
 .rw [e]at h;exact aN _ h
 .rw [e]at h;unfold wW at h;rw[lJ,f]at h;exact h
theorem Inv.stkFree(I:Inv X pins J H s):∀b ∈ wW X.k,H b=none:=λb h=>by
 rcases aM.mp (I.stkSub b h) with e|h
 .rw [e];exact I.free
 .obtain⟨_,o,x,_⟩:=I.o.funs.mem h;exact I.base.free b o x (I.o.frf b h) λz=>I.o.exfs b z h
theorem Inv.step{g':Array GenState}{t':Nat}{d':Drawn}{ch:List Addr}(I:Inv X pins J H s)
  (a:∀b ∈ ch,(b ∈ X.ex\/X.z.heap.objs.size≤b)/\b≠X.e.locals/\(∀x c,X.e.cells.lookup x=some c->c≠b)/\∀p ∈ X.pn++pins,p.1≠b)
  (t:∀b o,b≠X.e.locals->b ∉ X.fs->b ∉ ch->s.heap.get? b=some o->H b=none->h'.get? b=some o)
  (slot:∀b o,b≠X.e.locals->b ∈ X.fs->b ∉ ch->s.heap.get? b=some o->H b=none->∃G,h'.get? b=some { o with slots:=G }) (f:∀b o,b ∉ ch->s.heap.get? b=some o->H b=none->H' b=none)
  (y:∀b o,b ∉ ch->s.heap.get? b=some o->∃o',h'.get? b=some o')
  (A:∀b xs,H b=some (.tup xs)->H' b=some (.tup xs)) (F:∀b o u,H b=some (.frz o u)->H' b=some (.frz o u)) (P:∀b,H b=some .tbl->H' b=some .tbl)
  (ns:∀m,s.heap.Ns X.e.locals m->h'.Ns X.e.locals m) (E:iB X.p X.w H' h') (W:AllBare g') :
  Inv X pins J H' { s with heap:=h',gens:=g',drawn:=d',toks:=t' }:=by
 have L:∀b o,X.z.heap.get? b=some o->b≠X.e.locals:=λb o e=>aQ (bu (av e) I.o.above);have C:∀b o,X.z.heap.get? b=some o->b ∉ X.ex->b ∉ ch:=λb o e h j=>by
  rcases(a b j).1 with z|z
  .exact h z
  .exact absurd (bu (av e) z) (d5 _)
 have K:∀x c,X.e.cells.lookup x=some c->∀v,s.heap.IsCell c v->h'.IsCell c v:=λx c e v hz=>by
  obtain⟨o,S,D⟩:=hz;have w:c ∉ ch:=λz=>(a c z).2.2.1 x c e rfl;by_cases N:c ∈ X.fs
  .obtain⟨G,q⟩:=slot c o (I.cne x c e) N w S (I.freeC x c e);exact⟨_,q,D⟩
  .exact⟨o,t c o (I.cne x c e) N w S (I.freeC x c e),D⟩
 refine⟨I.o,I.os,W,⟨λb o e n j h=>?_,λb o e n j h=>?_,λb o e n h=>?_,λb o e h=>?_,λb xs e=>A b xs (I.base.tups b xs e),λb o xs e=>F b o xs (I.base.frzs b o xs e),λb e=>P b (I.base.tbls b e)⟩,?_,λx c e=>?_,?_,λx c e=>?_,λp Q=>?_,E,I.len⟩
 .exact t b o (L b o e) j (C b o e h) (I.base.keep b o e n j h) (I.base.free b o e n h)
 .obtain⟨G,g⟩:=I.base.slot b o e n j h;obtain⟨M,B⟩:=slot b _ (L b o e) j (C b o e h) g (I.base.free b o e n h);exact⟨M,B⟩
 .obtain⟨o',g⟩:=I.base.there b o e h;exact f b o' (C b o e h) g (I.base.free b o e n h)
 .obtain⟨o',g⟩:=I.base.there b o e h;exact y b o' (C b o e h) g
 .obtain⟨m,hn,Z⟩:=I.loc;refine⟨m,ns m hn,λi x v g B V=>?_⟩;obtain⟨u,r,l⟩:=Z i x v g B V;refine⟨u,r,?_⟩;rcases l with l|⟨k,c,e,z⟩
  .exact .inl l
  .exact .inr ⟨k,c,e,K x c e _ z⟩
 .obtain⟨v,z⟩:=I.cell x c e;exact⟨v,K x c e v z⟩
 .obtain⟨m,⟨o,_,_,S,_⟩,_⟩:=I.loc;exact f _ o (λz=>(a _ z).2.1 rfl) S I.free
 .obtain⟨v,o,S,D⟩:=I.cell x c e;exact f c o (λz=>(a c z).2.2.1 x c e rfl) S (I.freeC x c e)
 .obtain⟨e,n,R,T,d⟩:=I.pin p Q;have w:p.1 ∉ ch:=λz=>(a p.1 z).2.2.2 p Q rfl;exact⟨t p.1 p.2 R T w e n,f p.1 p.2 w e n,R,T,d⟩
theorem Inv.un{t':Nat}(I:Inv X pins J H s)(u:Un X.fs [] H H' s.heap h')(k:iB X.p X.w H' h'):Inv X pins J H' { s with heap:=h',toks:=t' }:=by
 obtain⟨m,⟨o,es,q,f,r⟩,_⟩:=id I.loc;obtain⟨l,L⟩:=u.any f I.free (by simp);exact I.step (g':=s.gens) (d':=s.drawn) (ch:=[]) (λ_ z=>nomatch z) (λb o _ a _ e n=>u.keep b o e n a (by simp)) (λb o _ a _ e n=>u.slot b o e n a (by simp)) (λb o _ e n=>u.free b o e n (by simp)) (λb o _ e=>u.there b o e (by simp)) u.tups u.frzs u.tbls (λv c=>by obtain⟨o',x,p,h,t⟩:=c;rw[f]at h;cases h;exact⟨_,x,p,L,t⟩) k I.bare
theorem Inv.call{g':Array GenState}{t':Nat}{d':Drawn}{ch:List Addr}(I:Inv X pins J H s)(u:Un (wW X.k) ch H H' s.heap h')(q:iB X.p X.w H' h')(g:AllBare g')
  (a:∀b ∈ ch,(b ∈ X.ex\/X.z.heap.objs.size≤b)/\b≠X.e.locals/\(∀x c,X.e.cells.lookup x=some c->c≠b)/\∀p ∈ X.pn++pins,p.1≠b) :
  Inv X pins J H' { s with heap:=h',gens:=g',drawn:=d',toks:=t' }:=by
 obtain⟨m,⟨o,es,j,v,r⟩,_⟩:=id I.loc;obtain⟨y,L⟩:=u.any v I.free λz=>(a _ z).2.1 rfl;exact I.step (ch:=ch) a (λb o L d h e n=>u.keep b o e n (λz=>(aM.mp (I.stkSub b z)).elim L d) h) (λb o _ _ h e n=>u.any e n h) (λb o h e n=>u.free b o e n h) (λb o h e=>u.there b o e h) u.tups u.frzs u.tbls (λl w=>by obtain⟨o',t,f,k,i⟩:=w;rw[v]at k;cases k;exact⟨_,t,f,L,i⟩) q g
theorem Inv.turned{t':Nat}{i:Addr}(I:Inv X pins J H s)(k:∀b o,b≠i->s.heap.get? b=some o->h'.get? b=some o)(g:H i=none)(L:i≠X.e.locals)
  (h1:i ∈ X.ex\/X.z.heap.objs.size≤i) (h2:∀x c,X.e.cells.lookup x=some c->c≠i) (f:∀p ∈ X.pn++pins,p.1≠i):Inv X pins J H { s with heap:=h',toks:=t' }:=by
 have t:∀b u,H b=some u->b≠i:=λb u e z=>by rw[z,g]at e;cases e
 refine I.step (g':=s.gens) (d':=s.drawn) (ch:=[i]) (λb d=>?_) (λb o _ _ h e _=>k b o (λz=>h (by simp[z])) e) (λb o _ _ h e _=>⟨o.slots,k b o (λz=>h (by simp[z])) e⟩) (λ_ _ _ _ n=>n)
  (λb o h e=>⟨o,k b o (λz=>h (by simp[z])) e⟩) (λ_ _ e=>e) (λ_ _ _ e=>e) (λ_ e=>e) (λm w=>?_) (λb u e=>?_) I.bare
 .have e:b=i:=by simpa using d
  subst e;exact⟨h1,L,h2,f⟩
 .obtain⟨o,es,a,j,r⟩:=w;exact⟨o,es,a,k _ o (aH L) j,r⟩
 .refine (I.h b u e).stay (λc v h q=>k c v ?_ q) (λ_ q=>q) λ_ _ q=>q;rcases h with z|z
  .rw [z];exact t b u e
  .exact t c _ z
theorem Inv.tok(I:Inv X pins J H s)(t:Nat):Inv X pins J H { s with toks:=t }:=I.un (h':=s.heap) (t':=t) Un.refl I.h
theorem Inv.kept{t':Nat}(I:Inv X pins J H s)(k:∀b u,s.heap.get? b=some u->h'.get? b=some u):Inv X pins J H { s with heap:=h',toks:=t' }:=I.un (Un.kept k) (I.h.kept k)
theorem Inv.laid{a:Addr}{o:HO}{t':Nat}(I:Inv X pins J H s)(k:∀b u,s.heap.get? b=some u->h'.get? b=some u)(h:s.heap.objs.size≤a)(n:cM X.p X.w (br H a o) h' a o) :
  Inv X pins J (br H a o) { s with heap:=h',toks:=t' }:=I.un (Un.laid k h (I.h.fresh h)) (I.h.laid k h n)
theorem Inv.write{x e:Addr}{o:HO}{t:Nat}(I:Inv X pins J H s)(m:Pe (H x))(a:e=x\/H e=some (.own x))(k:∀b u,b≠e->s.heap.get? b=some u->h'.get? b=some u)(h:∃u,h'.get? e=some u)
  (n:cM X.p X.w (br H x o) h' x o):Inv X pins J (br H x o) { s with heap:=h',toks:=t }:=I.un (Un.write m a k h) (I.h.write m a k h n)
theorem Inv.pins_of(I:Inv X pins J H s)(h:∀p ∈ q,s.heap.get? p.1=some p.2/\H p.1=none/\p.1≠X.e.locals/\p.1 ∉ X.fs/\∀v,p.2.data≠.cell v):Inv X q J H s:=
 ⟨I.o,I.os,I.bare,I.base,I.loc,I.cell,I.free,I.freeC,λp x=>(fE.mp x).elim (λz=>I.pin p (zu _ z)) (h p),I.h,I.len⟩
theorem vW{N:LS}(s:N.Nodup){i j:Nat}{x:Str}(a:N[i]? = some x)(b:N[j]? = some x):i=j:=by obtain⟨h1,e⟩:=bg.mp a;obtain⟨h2,h⟩:=bg.mp b;exact(List.getElem_inj s).mp (e.trans h.symm)
theorem m_{M:Model}{A:Around}{E:VP}{i:Nat}{x:Str}{v:V}{u:Value}{Q:Unit->Shared->Prop}(I:Inv X pins J H s)(hN:X.N.Nodup)(hi:X.N[i]? = some x)(l:Loc X.e.scope x)(r:RelV v u)
  (h:∀s',Inv X pins (J.set i (some v)) H s'->(∃a,cD a s.heap s'.heap/\(a=X.e.locals\/X.e.cells.lookup x=some a))->Q () s') (hf:X.fn x=true\/X.e.scope.names.lookup x=some .local:=by first|exact .inl rfl|exact .inr rfl|assumption):wpAny M A (storeName X.e x u) Q E s:=by
 obtain⟨m,hn,hl⟩:=id I.loc;have L:(X.e.scope.kind == .class ||(X.e.scope.kind == .module && X.e.locals != X.e.globals))=false:=by rw[I.o.kind];rfl
 have N:i < J.length:=by rw[I.len];exact(bg.mp hi).1
 have K:=I.cne;have w:∀{a:Addr}{h':Heap},(∃o,s.heap.get? a=some o/\H a=none)->cD a s.heap h'->iB X.p X.w H h':=λ{a h'} ha f b ob e=>by
  obtain⟨_,_,S⟩:=ha;refine(I.h b ob e).stay (λc w' g q=>(f.2 c ?_).trans q) (λ_ q=>q) λ_ _ q=>q;rintro rfl;rcases g with rfl|g
  .rw [S]at e;cases e
  .rw [S]at g;cases g
 rcases l with hk|hk
 .refine wpAny_storeName_local hk hn (λh' hn' f=>?_) L;obtain⟨oL,_,_,hoL,_⟩:=id hn;refine h _ ⟨I.o,I.os,I.bare,⟨λb o e n P l=>?_,λb o e n P l=>?_,I.base.free,λb o e l=>?_,I.base.tups,I.base.frzs,I.base.tbls⟩,⟨_,hn',λj y v' t F e3=>?_⟩,λy c e=>?_,I.free,I.freeC,λp hp=>?_,w ⟨oL,hoL,I.free⟩ f,by simpa using I.len⟩ ⟨_,f,.inl rfl⟩
  .exact (f.2 b (aQ (bu (av e) I.o.above))).trans (I.base.keep b o e n P l)
  .obtain⟨sl,t⟩:=I.base.slot b o e n P l;exact⟨sl,(f.2 b (aQ (bu (av e) I.o.above))).trans t⟩
  .obtain⟨o',t⟩:=I.base.there b o e l;exact⟨o',(f.2 b (aQ (bu (av e) I.o.above))).trans t⟩
  .by_cases C:j=i
   .subst C;rw[hi]at t;cases t;rw[ee N]at F;cases F;exact⟨u,r,.inl ⟨hk,by simp⟩⟩
   .rw [bb (aH C)]at F;obtain⟨u',r',q⟩:=hl j y v' t F e3;refine⟨u',r',?_⟩;rcases q with ⟨k,e⟩|⟨k,c,e,z⟩
    .refine .inl ⟨k,?_⟩;have:y≠x:=λe=>C (vW hN t (e ▸ hi));simp[this,e]
    .exact .inr ⟨k,c,e,z.sameBut f (K y c e)⟩
  .obtain⟨w',z⟩:=I.cell y c e;exact⟨w',z.sameBut f (K y c e)⟩
  .obtain⟨e,n,Z,nf,d⟩:=I.pin p hp;exact⟨(f.2 p.1 Z).trans e,n,Z,nf,d⟩
 .have B:X.fn x=true:=by
   rcases hf with z|z
   .exact z
   .rw [z]at hk;cases hk
  obtain⟨c,g⟩:=I.o.has x (.inl hk);obtain⟨w',z⟩:=I.cell x c g;refine wpAny_storeName_cell I.o.kind hk g z (λh' D f=>?_);obtain⟨oc,R,T⟩:=id z;refine h { s with heap:=h' } ⟨I.o,I.os,I.bare,⟨λb o e n P l=>?_,λb o e n P l=>?_,I.base.free,λb o e l=>?_,I.base.tups,I.base.frzs,I.base.tbls⟩,⟨m,hn.sameBut f (aH (K x c g)),λj y v' t F e3=>?_⟩,λy W e=>?_,I.free,I.freeC,λp hp=>?_,w ⟨oc,R,I.freeC x c g⟩ f,by simpa using I.len⟩ ⟨c,f,.inr g⟩
  .exact (f.2 b (aQ (bu (av e) (I.o.cab x c B g)))).trans (I.base.keep b o e n P l)
  .obtain⟨sl,t⟩:=I.base.slot b o e n P l;exact⟨sl,(f.2 b (aQ (bu (av e) (I.o.cab x c B g)))).trans t⟩
  .obtain⟨o',t⟩:=I.base.there b o e l;exact⟨o',(f.2 b (aQ (bu (av e) (I.o.cab x c B g)))).trans t⟩
  .by_cases C:j=i
   .subst C;rw[hi]at t;cases t;rw[ee N]at F;cases F;exact⟨u,r,.inr ⟨.inl hk,c,g,D⟩⟩
   .rw [bb (aH C)]at F;obtain⟨u',r',q⟩:=hl j y v' t F e3;refine⟨u',r',?_⟩;rcases q with q|⟨k,W,e,z'⟩
    .exact .inl q
    .refine .inr ⟨k,W,e,z'.sameBut f ?_⟩;rintro rfl;exact C (vW hN t (I.o.inj _ _ _ e g ▸ hi))
  .by_cases G:W=c
   .subst G;exact⟨_,D⟩
   .obtain⟨w2,z2⟩:=I.cell y W e;exact⟨w2,z2.sameBut f G⟩
  .obtain⟨e,n,Z,nf,d⟩:=I.pin p hp;refine⟨(f.2 p.1 ?_).trans e,n,Z,nf,d⟩;intro q;rw[q,R]at e;have q':oc=p.2:=d8 e;exact d w' (by rw[<- q'];exact T)
theorem p6(I:Inv X pins J H s)(N:X.N.Nodup)(hi:X.N[i]? = some x)(e:Loc X.e.scope x)(r:RelV v u)
  (h:∀s',Inv X pins (J.set i (some v)) H s'->Q () s') (f:X.fn x=true\/X.e.scope.names.lookup x=some .local:=by first|exact .inl rfl|exact .inr rfl|assumption):wpAny M A (storeName X.e x u) Q E s:=
 m_ I N hi e r (λs' a _=>h s' a) f
theorem Inv.call'(I:Inv X pins J H s)(n:s'.os=s.os)(u:Un (wW X.k) q H H' s.heap s'.heap)(o:iB X.p X.w H' s'.heap)(a:AllBare s'.gens)
  (h:∀b ∈ q,(b ∈ X.ex\/X.z.heap.objs.size≤b)/\b≠X.e.locals/\(∀x c,X.e.cells.lookup x=some c->c≠b)/\∀p ∈ X.pn++pins,p.1≠b):Inv X pins J H' s':=by
 obtain⟨h',g,d,t,o'⟩:=s';have e:o'=s.os:=n;subst e;exact I.call (g':=g) (t':=t) (d':=d) u o a h
end
noncomputable abbrev XK:=Value->Option Addr->Hp->Prop
noncomputable abbrev St:=List (Option V)
noncomputable abbrev VK:=V->Hp->Prop
noncomputable abbrev TE:=St->Hp->VK->Prop
noncomputable abbrev TT:=St->Hp->(Bool->Hp->Prop)->Prop
noncomputable abbrev TA:=St->Hp->(List V->Hp->Prop)->Prop
structure Ends where
 nx:St->Hp->Prop
 rt:VK
 bk:St->Hp->Prop:=λ_ _=>False
 ct:St->Hp->Prop:=λ_ _=>False
noncomputable abbrev TS:=Ends->St->Hp->Prop
def EP(X:Cx)(pins:PN)(J:St)(Q:VK)(u:Value)(s':Shared):Prop:=∃v H',Inv X pins J H' s'/\RelV v u/\Q v H'
def TP(X:Cx)(pins:PN)(J:St)(Q:Bool->Hp->Prop)(b:Bool)(s':Shared):Prop:=∃H',Inv X pins J H' s'/\Q b H'
def AP(X:Cx)(pins:PN)(J:St)(Q:List V->Hp->Prop)(j:LV)(s':Shared):Prop:=∃v H',Inv X pins J H' s'/\aU v j/\Q v H'
def SP(X:Cx)(pins:PN)(D:Ends)(f:Flow)(s':Shared):Prop:=
 match f with
 | .next=>∃h H',Inv X pins h H' s'/\D.nx h H'
 | .brk=>∃h H',Inv X pins h H' s'/\D.bk h H'
 | .cont=>∃h H',Inv X pins h H' s'/\D.ct h H'
 | .ret u=>∃v h H',Inv X pins h H' s'/\RelV v u/\D.rt v H'
def PE(X:Cx)(e:Expr)(t:TE):Prop:=
 ∀(pins:PN)(s:Shared)(J:St)(H:Hp)(Q:VK),Inv X pins J H s->t J H Q->wpAny (model X.p X.w) X.A (eval e X.e) (EP X pins J Q) X.xe s
def PT(X:Cx)(e:Expr)(t:TT):Prop:=
 ∀(pins:PN)(s:Shared)(J:St)(H:Hp)(Q:Bool->Hp->Prop),Inv X pins J H s->t J H Q->wpAny (model X.p X.w) X.A (isTrue e X.e (eval e X.e)) (TP X pins J Q) X.xe s
def PW(X:Cx)(e:Expr)(t:TT):Prop:=
 ∀(w:Sem Value)(pins:PN)(s:Shared)(J:St)(H:Hp)(Q:Bool->Hp->Prop),Inv X pins J H s->t J H Q->wpAny (model X.p X.w) X.A (isTrue e X.e w) (TP X pins J Q) X.xe s
variable{X:Cx}{e:Expr}
theorem PW.pt(h:PW X e t):PT X e t:=h _
def PA(X:Cx)(es:Ab)(t:TA):Prop:=
 ∀(B:Pos)(pins:PN)(s:Shared)(J:St)(H:Hp)(Q:List V->Hp->Prop),Inv X pins J H s->t J H Q->wpAny (model X.p X.w) X.A (spliced (backTo B (starEach es X.e))) (AP X pins J Q) X.xe s
def PS(X:Cx)(st:Stmt)(t:TS):Prop:=
 ∀(pins:PN)(s:Shared)(J:St)(H:Hp)(D:Ends),Inv X pins J H s->t D J H->wpAny (model X.p X.w) X.A (exec st X.e) (SP X pins D) X.xe s
def oy(X:Cx)(st:List Stmt)(t:TS):Prop:=
 ∀(pins:PN)(s:Shared)(J:St)(H:Hp)(D:Ends),Inv X pins J H s->t D J H->wpAny (model X.p X.w) X.A (execs st X.e) (SP X pins D) X.xe s
variable{M:Model}{A:Around}{E:VP}{s:Shared}
theorem b_(h:wpAny M A t Q E s)(e:∀a s,Q a s->q a s):wpAny M A t q E s:=bN h e λ_ _ x=>x
section
variable{X:Cx}
noncomputable def QH(i:Nat):TE:=λJ H Q=>∃v,J[i]? = some (some v)/\Q v H
noncomputable def tC(v:V):TE:=λ_ H Q=>Q v H
theorem K1(N:X.N[i]? = some x)(p:IX X.e.scope x)(n:(x == ("__debug__":Str))=false:=by decide)(d:(x == ("__classdict__":Str))=false:=by decide):PE X (.Name x B) (QH i):=by
 intro pins s J H Q I h;obtain⟨v,e,h⟩:=h;obtain⟨m,t,f⟩:=I.loc;obtain⟨u,r,l⟩:=f i x v N e p;have dH:EP X pins J Q u s:=⟨v,H,I,r,h⟩;rcases l with ⟨hk,b⟩|⟨hk,c,k,a⟩
 .exact jL (sW I.o.kind hk t b dH) n
 .rcases hk with hk|hk
  .exact jL (AG I.o.kind hk k a dH) n
  .exact jL (sV I.o.kind hk k a dH d) n
theorem K5 {i q B}:PE X (.Constant (.int i) q B) (tC (.int i)):=λ_ _ _ H _ I h=>wpAny_Constant_int ⟨.int i,H,I.tok _,⟨_,rfl⟩,h⟩
theorem NS {b q B}:PE X (.Constant (.bool b) q B) (tC (.bl b)):=λ_ _ _ H _ I h=>Constant_bool ⟨.bl b,H,I,rfl,h⟩
theorem K4 {q B}:PE X (.Constant .none q B) (tC .non):=λ_ _ _ H _ I h=>Constant_none ⟨.non,H,I,rfl,h⟩
theorem K2 {x q B}:PE X (.Constant (.str x) q B) (tC (.str x)):=λ_ _ _ H _ I h=>Calls.Constant_str ⟨.str x,H,I.tok _,⟨_,rfl⟩,h⟩
def Gl(X:Cx)(x:Str):Prop:=X.e.kindOf x=some .globalImplicit
theorem pA(I:Inv X pins J H s)(g:Gl X x)(m:X.g x=some u)(h:Q u s)
  (d:(x == ("__debug__":Str))=false:=by decide):wpAny (model X.p X.w) X.A (eval (.Name x B) X.e) Q E s:=
 yY I.o.kind g (Calls.loadGlobal_global (by rw[I.o.glob];exact I.mod.glob.keeps I.bk) m h) d
theorem ir(I:Inv X pins J H s)(g:Gl X x)(m:X.g x=none)(v:bootBuiltins x=some u)(h:Q u s)
  (n:x≠"__name__":=by decide) (d:(x == ("__debug__":Str))=false:=by decide):wpAny (model X.p X.w) X.A (eval (.Name x B) X.e) Q E s:=by
 obtain⟨b,h1,h2⟩:=I.mod.blt;exact yY I.o.kind g (Calls.loadGlobal_builtin (by rw[I.o.glob];exact I.mod.glob.keeps I.bk) m (by rw[I.o.blt];exact h1.keeps I.bk) ((h2 x n).trans v) h) d
theorem HD(g:Gl X x)(m:X.g x=some u)(r:RelV v u)(d:(x == ("__debug__":Str))=false:=by decide):PE X (.Name x B) (tC v):=
 λ_ _ _ H _ I h=>pA I g m ⟨v,H,I,r,h⟩ d
theorem uG(g:Gl X x)(m:X.g x=none)(a:bootBuiltins x=some u)(r:RelV v u)(n:x≠"__name__":=by decide)(d:(x == ("__debug__":Str))=false:=by decide):PE X (.Name x B) (tC v):=
 λ_ _ _ H _ I h=>ir I g m a ⟨v,H,I,r,h⟩ n d
variable{a b:Expr}{ta tb:TE}{B:Pos}
variable{tA tB':TT}{rest:Ab}
noncomputable def QU(t u:TT):TT:=λJ H Q=>t J H λc G=>if c=true then u J G Q else Q false G
noncomputable def Sw(t u:TT):TT:=λJ H Q=>t J H λc G=>if c=true then Q true G else u J G Q
noncomputable def QM(t:TT):TT:=λJ H Q=>t J H λc G=>Q (!c) G
theorem Hs(x:PT X a tA):PW X (.BoolOp .And [a] B) tA:=by
 intro w pins s J H Q I h;refine isTrue_and (b_ (x pins s J H Q I h) λc n e=>?_);cases c with
 |true=>exact isTrue_and_nil e
 |false=>exact e
theorem KJ(x:PT X a tA):PW X (.BoolOp .Or [a] B) tA:=by
 intro w pins s J H Q I h;refine isTrue_or (b_ (x pins s J H Q I h) λc n e=>?_);cases c with
 |false=>exact isTrue_or_nil e
 |true=>exact e
theorem KL(e:PT X a tA)(n:PW X (.BoolOp .And (b::rest) B) tB'):PW X (.BoolOp .And (a::b::rest) B) (QU tA tB'):=by
 intro w pins s J H Q I h;refine isTrue_and (b_ (e pins s J H _ I h) λc k z=>?_);obtain⟨G,x,q⟩:=z;cases c with
 |true=>exact n w pins k J G Q x q
 |false=>exact⟨G,x,q⟩
theorem NL(e:PT X a tA)(n:PW X (.BoolOp .Or (b::rest) B) tB'):PW X (.BoolOp .Or (a::b::rest) B) (Sw tA tB'):=by
 intro w pins s J H Q I h;refine isTrue_or (b_ (e pins s J H _ I h) λc k z=>?_);obtain⟨G,x,q⟩:=z;cases c with
 |true=>exact⟨G,x,q⟩
 |false=>exact n w pins k J G Q x q
theorem KO(x:PT X a tA):PT X (.UnaryOp .Not a B) (QM tA):=by intro pins s J H Q I h;exact isTrue_not (x pins s J H (λc G=>Q (!c) G) I h)
noncomputable def NA(ta tb:TE):TE:=λJ H Q=>ta J H λx G=>∃c,x=.bl c/\if c=true then tb J G Q else Q (.bl false) G
noncomputable def QL(ta tb:TE):TE:=λJ H Q=>ta J H λx G=>∃c,x=.bl c/\if c=true then Q (.bl true) G else tb J G Q
noncomputable def Nq(ta:TE):TE:=λJ H Q=>ta J H λx G=>∃c,x=.bl c/\Q (.bl (!c)) G
theorem D6 {q} (h:PE X a t):PE X (.BoolOp q [a] B) t:=λpins s J H Q I w=>BoolOp_one (h pins s J H Q I w)
theorem K8(n:PE X a ta)(k:PE X (.BoolOp .And (b::rest) B) tb):PE X (.BoolOp .And (a::b::rest) B) (NA ta tb):=by
 intro pins s J H Q I h;refine BoolOp_and (b_ (n pins s J H _ I h) λv f z=>?_);obtain⟨x,G,e,r,q⟩:=z;obtain⟨c,rfl,q⟩:=q;cases r;refine jO ?_;cases c with
 |true=>exact k pins f J G Q e q
 |false=>exact⟨.bl false,G,e,rfl,q⟩
theorem NR(n:PE X a ta)(k:PE X (.BoolOp .Or (b::rest) B) tb):PE X (.BoolOp .Or (a::b::rest) B) (QL ta tb):=by
 intro pins s J H Q I h;refine BoolOp_or (b_ (n pins s J H _ I h) λv f z=>?_);obtain⟨x,G,e,r,q⟩:=z;obtain⟨c,rfl,q⟩:=q;cases r;refine jO ?_;cases c with
 |false=>exact k pins f J G Q e q
 |true=>exact⟨.bl true,G,e,rfl,q⟩
theorem K3(n:PE X a ta):PE X (.UnaryOp .Not a B) (Nq ta):=by intro pins s J H Q I h;refine s_ (b_ (n pins s J H _ I h) λv k z=>?_);obtain⟨x,G,e,r,q⟩:=z;obtain⟨c,rfl,q⟩:=q;cases r;exact not_of (jO ⟨.bl (!c),G,e,rfl,q⟩)
noncomputable def Sx(t:TT)(ta tb:TE):TE:=λJ H Q=>t J H λc G=>if c=true then ta J G Q else tb J G Q
theorem vT(f:PT X c tA)(n:PE X a ta)(k:PE X b tb):PE X (.IfExp c a b B) (Sx tA ta tb):=by
 intro pins s J H Q I h;refine wpAny_IfExp (b_ (f pins s J H _ I h) λd e z=>?_);obtain⟨G,x,q⟩:=z;cases d with
 |true=>exact n pins e J G Q x q
 |false=>exact k pins e J G Q x q
end
def fq(K:FG)(H:Hp)(a:Addr)(xs:List V):Prop:=
 Rd H a (.lst xs) \/
  ∃(o:Obj)(i:Array Value)(n:Nat),K.lookup a=some o/\o.cls=.type "list"/\o.dict=none/\o.data=.seq i n/\i.size≤sizeLine/\aU xs i.toList
def kF(K:FG)(H:Hp)(a:Addr)(xs:List V):Prop:=
 Rd H a (.tup xs) \/
  ∃(o:Obj)(i:Array Value)(n:Nat),K.lookup a=some o/\o.cls=.type "tuple"/\o.dict=none/\o.data=.seq i n/\i.size≤sizeLine/\aU xs i.toList
noncomputable def RF:Value->Option V
 | .none=>some .non
 | .bool b=>some (.bl b)
 | .int i _=>some (.int i)
 | .str x _=>some (.str x)
 | .bytes b _=>some (.byt b)
 | .float b _=>some (.flt b)
 | .ref a=>some (.ref a)
 | .type n=>some (.ty n)
 |_=>none
theorem RelV.abs(r:RelV x u):RF u=some x:=by
 cases x with
 |non=>cases r;rfl
 |bl _=>cases r;rfl
 |int _=>obtain⟨t,rfl⟩:=r;rfl
 |str _=>obtain⟨t,rfl⟩:=r;rfl
 |byt _=>obtain⟨t,rfl⟩:=r;rfl
 |flt _=>obtain⟨t,rfl⟩:=r;rfl
 |ref _=>cases r;rfl
 |ty _=>cases r;rfl
variable{y:V}
theorem RelV.inj(r:RelV x u)(q:RelV y u):x=y:=d8 (r.abs.symm.trans q.abs)
theorem aU.inj:∀{xs ys:List V}{j:LV},aU xs j->aU ys j->xs=ys
 |_,_,_,.nil,.nil=>rfl
 |_,_,_,.cons r t,.cons h x=>by rw[r.inj h,aU.inj t x]
section
variable{X:Cx}{pins:PN}{J:St}{H:Hp}{s:Shared}{a:Addr}{xs ys:List V}
theorem fq.of{K:FG}(h:H a=some (.lst xs)):fq K H a xs:=.inl (.inl h)
theorem kF.of{K:FG}(h:H a=some (.tup xs)):kF K H a xs:=.inl (.inl h)
theorem Inv.list(I:Inv X pins J H s)(h:fq X.K H a xs):∃i:LV,aU xs i/\PlainL s.heap a i.toArray/\xs.length≤sizeLine:=by
 rcases h with h|⟨o,i,n,hk,c,d,x,k,r⟩
 .obtain⟨z,i,n,r,e⟩:=h.ok I.h;exact⟨i,r,⟨_,n,e,rfl,rfl,rfl⟩,z⟩
 .refine⟨i.toList,r,⟨o,n,I.kIn a o hk,c,d,by simpa using x⟩,?_⟩;have e:=r.length;simp only[lN]at e;lia
theorem Inv.tuple(I:Inv X pins J H s)(h:kF X.K H a xs):∃i:LV,aU xs i/\IsTup s.heap a i.toArray/\xs.length≤sizeLine:=by
 rcases h with h|⟨o,i,n,hk,c,_,x,k,r⟩
 .obtain⟨z,i,r,p⟩:=h.ok I.h;exact⟨i,r,p.tup,z⟩
 .refine⟨i.toList,r,⟨o,I.kIn a o hk,c,n,by simpa using x⟩,?_⟩;have e:=r.length;simp only[lN]at e;lia
theorem Inv.tupleN(I:Inv X pins J H s)(h:kF X.K H a xs):∃its:LV,aU xs its/\nQ s.heap a its.toArray:=by
 rcases h with q|⟨ob,vs,m,e1,e2,e3,e4,_,rv⟩
 .exact⟨_,(q.ok I.h).2.choose_spec⟩
 .exact⟨vs.toList,rv,ob,I.kIn a ob e1,⟨e2,m,by simpa using e4⟩,e3⟩
theorem Inv.list_inj(I:Inv X pins J H s)(h:fq X.K H a xs)(h':fq X.K H a ys):xs=ys:=by
 obtain⟨t,r,⟨o,n,e,_,_,d⟩,_⟩:=I.list h;obtain⟨i,b,⟨o',c,k,_,_,x⟩,_⟩:=I.list h';rw[e]at k;cases k;rw[d]at x;injection x with f _;have:t=i:=by simpa using bX t5 f
 subst this;exact r.inj b
theorem Inv.tuple_inj(I:Inv X pins J H s)(h:kF X.K H a xs)(h':kF X.K H a ys):xs=ys:=by
 obtain⟨t,r,⟨o,e,_,n,d⟩,_⟩:=I.tuple h;obtain⟨i,b,⟨o',k,_,c,x⟩,_⟩:=I.tuple h';rw[e]at k;cases k;rw[d]at x;injection x with f _;have:t=i:=by simpa using bX t5 f
 subst this;exact r.inj b
end
noncomputable abbrev Cx.wish(X:Cx)(E:VP):Cx:={ X with xe:=E }
abbrev Cx.nox(X:Cx):Cx:=X.wish λ_ _=>False
theorem Cx.Ok.wish(ok:X.Ok)(E:VP):(X.wish E).Ok:=
 ⟨ok.mod,ok.kind,ok.glob,ok.blt,ok.above,ok.inj,ok.has,ok.cab,ok.hd,ok.frames,ok.stk,ok.exf,ok.bs,ok.bsz,ok.noex,ok.exfs,ok.funs,ok.frf,ok.tab⟩
theorem Cx.Ok.unwish(ok:(X.wish E).Ok):X.Ok:=
 ⟨ok.mod,ok.kind,ok.glob,ok.blt,ok.above,ok.inj,ok.has,ok.cab,ok.hd,ok.frames,ok.stk,ok.exf,ok.bs,ok.bsz,ok.noex,ok.exfs,ok.funs,ok.frf,ok.tab⟩
section
variable{X:Cx}{pins:PN}{J:St}{H:Hp}{s:Shared}{E:VP}
theorem Inv.wish(I:Inv X pins J H s)(E:VP):Inv (X.wish E) pins J H s:=⟨I.o.wish E,I.os,I.bare,I.base,I.loc,I.cell,I.free,I.freeC,I.pin,I.h,I.len⟩
theorem Inv.unwish(I:Inv (X.wish E) pins J H s):Inv X pins J H s:=⟨I.o.unwish,I.os,I.bare,I.base,I.loc,I.cell,I.free,I.freeC,I.pin,I.h,I.len⟩
set_option tactic.hygienic true in
theorem SP.unwish(h:SP (X.wish E) pins D f s'):SP X pins D f s':=by
 cases f with
 |next=>obtain⟨x,H',I,q⟩:=h;exact⟨x,H',I.unwish,q⟩
 |brk=>obtain⟨x,H',I,q⟩:=h;exact⟨x,H',I.unwish,q⟩
 |cont=>obtain⟨x,H',I,q⟩:=h;exact⟨x,H',I.unwish,q⟩
 |ret u=>obtain⟨v,x,H',I,r,q⟩:=h;exact⟨v,x,H',I.unwish,r,q⟩
theorem oy.nox{st:List Stmt}{t:TS}(h:oy X.nox st t):oy X st t:=λpins s J H D I w=>
 bN (h pins s J H D (I.wish _) w) (λ_ _ q=>q.unwish) λ_ _ z=>False.elim z
end
section
variable{X:Cx}{st:Stmt}{rest:List Stmt}{t u:TS}{e:Expr}{te:TE}{B:Pos}
noncomputable def Nt:TS:=λD J H=>D.nx J H
noncomputable def QJ(t u:TS):TS:=λD J H=>t { D with nx:=u D } J H
theorem Hu:oy X [] Nt:=λ_ _ J H _ I h=>sT ⟨J,H,I,h⟩
set_option tactic.hygienic true in
theorem D0(h1:PS X st t)(h2:oy X rest u):oy X (st::rest) (QJ t u):=by
 intro pins s J H D I h;refine Aw (b_ (h1 pins s J H { D with nx:=u D } I h) λf e q=>?_);cases f with
 |next=>obtain⟨a,H',x,q⟩:=q;exact h2 pins e a H' D x q
 |ret v=>exact q
 |brk=>exact q
 |cont=>exact q
set_option tactic.hygienic true in
theorem Ht(h1:PS X st t):oy X [st] t:=by
 intro pins s J H D I h;refine Aw (b_ (h1 pins s J H D I h) λf x q=>?_);cases f with
 |next=>exact sT q
 |ret v=>exact q
 |brk=>exact q
 |cont=>exact q
noncomputable def Ks:TS:=λD J H=>D.bk J H
noncomputable def Nw:TS:=λD J H=>D.ct J H
theorem D2:PS X (.Break B) Ks:=λ_ _ J H _ I h=>wpAny_Break ⟨J,H,I,h⟩
theorem vR:PS X (.Continue B) Nw:=λ_ _ J H _ I h=>wpAny_Continue ⟨J,H,I,h⟩
theorem Inv.quiet(I:Inv X pins J H s):interactive X.e=false:=by simp[interactive,I.o.kind]
noncomputable def Nv(te:TE):TS:=λD J H=>te J H λ_ G=>D.nx J G
theorem Hw(n:PE X e te)(k:swapsWith e none B.line X.e=pure false:=by rfl):PS X (.Expr e B) (Nv te):=by intro pins s J H D I h;exact wpAny_Expr_any (b_ (n pins s J H _ I h) λv f z=>by obtain⟨x,G,a,r,q⟩:=z;exact⟨J,G,a,q⟩) I.quiet k
noncomputable def QK(te:TE):TS:=λD J H=>te J H D.rt
theorem KQ(n:PE X e te):PS X (.Return (some e) B) (QK te):=by intro pins s J H D I h;exact wpAny_Return_some (b_ (n pins s J H _ I h) λv k z=>by obtain⟨x,G,a,r,q⟩:=z;exact⟨x,J,G,a,r,q⟩)
noncomputable def QO(c:TT)(t u:TS):TS:=λD J H=>c J H λb G=>if b=true then t D J G else u D J G
theorem NN{c:Expr}{a b:List Stmt}{tc:TT}(f:PT X c tc)(n:oy X a t)(k:oy X b u):PS X (.If c a b B) (QO tc t u):=by
 intro pins s J H D I h;refine wpAny_If (b_ (f pins s J H _ I h) λd e z=>?_);obtain⟨G,x,q⟩:=z;cases d with
 |true=>exact n pins e J G D x q
 |false=>exact k pins e J G D x q
noncomputable def Kl:TS:=λ_ _ _=>False
theorem vQ:PS X st Kl:=λ_ _ _ _ _ _ h=>h.elim
end
noncomputable abbrev TG:=V->St->Hp->(St->Hp->Prop)->Prop
noncomputable abbrev JD:=List V->St->Hp->(St->Hp->Prop)->Prop
def PG(X:Cx)(a:Expr)(t:TG):Prop:=
 ∀(pins:PN)(s:Shared)(J:St)(H:Hp)(v:V)(u:Value)(Q:St->Hp->Prop),Inv X pins J H s->RelV v u->t v J H Q ->
  wpAny (model X.p X.w) X.A (assign a X.e u) (λ_ s'=>∃h H',Inv X pins h H' s'/\Q h H') X.xe s
def MP(X:Cx)(x:Ab)(t:JD):Prop:=
 ∀(pins:PN)(s:Shared)(J:St)(H:Hp)(v:List V)(j:LV)(Q:St->Hp->Prop),Inv X pins J H s->aU v j->t v J H Q ->
  wpAny (model X.p X.w) X.A (assignInOrder ((assignEach x X.e).map (·.2)) j) (λ_ s'=>∃h H',Inv X pins h H' s'/\Q h H') X.xe s
noncomputable abbrev Ml:=V->V->V->Hp->(Hp->Prop)->Prop
def Pc(X:Cx)(t:Ml):Prop:=
 ∀(pins:PN)(s:Shared)(J:St)(H:Hp)(o i v:V)(x h u:Value)(Q:Hp->Prop),Inv X pins J H s->RelV o x->RelV i h->RelV v u->t o i v H Q ->
  wpAny (model X.p X.w) X.A (setItem x h u) (λ_ s'=>∃H',Inv X pins J H' s'/\Q H') X.xe s
noncomputable abbrev RI:=V->V->Hp->VK->Prop
def Sb(X:Cx)(o:Operator)(t:RI):Prop:=
 ∀(pins:PN)(s:Shared)(J:St)(H:Hp)(x y:V)(v u:Value)(Q:VK),Inv X pins J H s->RelV x v->RelV y u->t x y H Q ->
  wpAny (model X.p X.w) X.A (inplaceOp o v u) (EP X pins J Q) X.xe s
section
variable{X:Cx}{B:Pos}
noncomputable def Jt(i:Nat):TG:=λv J H Q=>Q (J.set i (some v)) H
theorem HB(N:X.N.Nodup)(hi:X.N[i]? = some x)(e:Loc X.e.scope x)(f:X.fn x=true\/X.e.scope.names.lookup x=some .local:=by first|exact .inl rfl|exact .inr rfl|assumption):PG X (.Name x B) (Jt i):=by intro pins s J H v u Q I r h;exact xc (p6 I N hi e r (λs' a=>⟨_,H,a,h⟩) f)
noncomputable def Rx:JD:=λv J H Q=>v=[]/\Q J H
noncomputable def OE(t:TG)(u:JD):JD:=λs J H Q=>∃v r,s=v::r/\t v J H λh H'=>u r h H' Q
theorem HA:MP X [] Rx:=by intro pins s J H v j Q I r h;obtain⟨e,h⟩:=h;subst e;cases r;exact assignInOrder_nil ⟨J,H,I,h⟩
theorem D5{e:Expr}{es:Ab}{t:TG}{u:JD}(h1:PG X e t)(h2:MP X es u)
  (k:(assignEach (e::es) X.e).map (·.2)=assign e X.e::(assignEach es X.e).map (·.2):=by rfl):MP X (e::es) (OE t u):=by
 intro pins s J H m j Q I r h;obtain⟨v,c,n,h⟩:=h;subst n;cases r with
 |cons r f=>rw[k];refine assignInOrder_cons (b_ (h1 pins s J H _ _ _ I r h) λ_ b z=>?_);obtain⟨a,G,x,q⟩:=z;exact h2 pins b a G _ _ Q x f q
noncomputable def Ru(K:FG)(n:Nat)(t:JD):TG:=λv J H Q=>∃a xs,v=.ref a/\kF K H a xs/\xs.length=n/\t xs J H Q
theorem KY(p:X.c=true)(h:MP X es t)
  (q:(assignEach es X.e).length=n:=by rfl) (x:(assignEach es X.e).findIdx? (·.1)=none:=by rfl):PG X (.Tuple es k B) (Ru X.K n t):=by
 intro pins s J H v u Q I r w;obtain⟨a,xs,m,d,l,w⟩:=w;subst m;cases r;obtain⟨j,f,g,z⟩:=I.tuple d;refine assign_Tuple_tuple (I.o.hd p) g (by simp[q,<- l,f.length]) x λh' i=>?_
 have c:Inv X pins J H { s with heap:=h' }:=I.kept (t':=s.toks) λb o e=>i b o (aQ (av e)) e;exact h pins _ J H xs _ Q c (by simpa using f) w
noncomputable def Rv(to x:TE)(t:Ml):TG:=λv J H Q=>to J H λo G=>x J G λi H2=>t o i v H2 λh=>Q J h
theorem KZ{o i:Expr}{to a:TE}{t:Ml}(c:PE X o to)(hi:PE X i a)(m:Pc X t)
  (b:∀v,assign (.Subscript o i B) X.e v=(do
   let q <- holding [v] (eval o X.e)
   let N <- holding [v,q] (eval i X.e)
   standAt B
   holding [v,q,N] (setItem q N v)
   release [v,q,N] []):=by intro _;rfl):PG X (.Subscript o i B) (Rv to a t):=by
 intro pins s J H v u Q I r h;rw[b];refine ae (cF (b_ (c pins s J H _ I h) λq l z=>?_));obtain⟨x,G,n,g,p⟩:=z;refine ae (cF (b_ (hi pins l J G _ n p) λN S z=>?_));obtain⟨y,H2,k,j,d⟩:=z;refine ae (pJ (ae (cF (b_ (m pins S J H2 x y v q N u _ k g j r d) λ_ F z=>?_))));obtain⟨e,f,w⟩:=z;exact wpAny_release ⟨J,e,f,w⟩
noncomputable def Nz(te:TE)(g:TG):TS:=λD J H=>te J H λx G=>g x J G D.nx
theorem D3{tg e:Expr}{te:TE}{g:TG}(n:PE X e te)(k:PG X tg g)(f:swapsWithSole [tg] e B.line X.e=pure false:=by rfl)(w:swappedStores [tg] e X.e=pure none:=by rfl)
  (h1:(assignEach [tg] X.e).map (·.2)=[assign tg X.e]:=by rfl):PS X (.Assign [tg] e B) (Nz te g):=by
 intro pins s J H D I h;refine wpAny_Assign_stores (b_ (n pins s J H _ I h) λv c z=>?_) f w;obtain⟨x,G,a,r,b⟩:=z;rw[h1];exact b_ (k pins c J G x v _ a r b) λ_ m q=>q
theorem KP(N:X.N.Nodup)(hi:X.N[i]? = some x)(c:Loc X.e.scope x)(k:PE X e te)(b:swapsWith e (some (.Name x pos')) B.line X.e=pure false:=by rfl)(f:X.fn x=true\/X.e.scope.names.lookup x=some .local:=by first|exact .inl rfl|exact .inr rfl|assumption) :
  PS X (.Assign [.Name x pos'] e B) (Nz te (Jt i)):=by
 intro pins s J H D I h;refine wpAny_Assign_Name (b_ (k pins s J H _ I h) λv m z=>?_) b;obtain⟨y,G,a,r,q⟩:=z;exact p6 a N hi c r (λt n=>⟨_,G,n,q⟩) f
noncomputable def QT(i:Nat)(te:TE)(t:RI):TS:=λD J H=>∃x,J[i]? = some (some x)/\te J H λy G=>t x y G λz H2=>D.nx (J.set i (some z)) H2
set_option tactic.hygienic true in
theorem KU(N:X.N.Nodup)(hi:X.N[i]? = some x)(b:Loc X.e.scope x)(F:PE X e te)(E:Sb X q ti)(K:X.fn x=true\/X.e.scope.names.lookup x=some .local:=by first|exact .inl rfl|exact .inr rfl|assumption) :
  PS X (.AugAssign (.Name x pos') q e B) (QT i te ti):=by
 intro pins s J H D I h;obtain⟨v,o,h⟩:=h;obtain⟨m,C,P⟩:=I.loc;have p:IX X.e.scope x:=by rcases b with k|k;exact .inl k;exact .inr (.inl k)
 obtain⟨u,r,l⟩:=P i x v hi o p;refine wpAny_AugAssign_Name ?_;have go:wpAny (model X.p X.w) X.A (eval e X.e) (λw n=>wpAny (model X.p X.w) X.A (inplaceOp q u w) (λr f=>wpAny (model X.p X.w) X.A (storeName X.e x r) (λ_=>SP X pins D .next) X.xe f) X.xe n) X.xe s:=by refine b_ (F pins s J H _ I h) λw T t=>?_;obtain⟨y,G,d,Q,L⟩:=t;refine b_ (E pins T J G v y u w _ d r Q L) λz V t=>?_;obtain⟨Z,H2,g,R,M⟩:=t;exact p6 g N hi b R (λW j=>⟨_,H2,j,M⟩) K
 rcases l with ⟨hk,A⟩|⟨hk,c,S,a⟩
 .exact sW I.o.kind hk C A go
 .rcases hk with hk|hk
  .exact AG I.o.kind hk S a go
  .rcases b with k|k
   .have:X.e.scope.names.lookup x=some .free:=hk;rw[k]at this;cases this
   .have:X.e.scope.names.lookup x=some .free:=hk;rw[k]at this;cases this
noncomputable def SK(f:Int->Int->Int):RI:=λx y H Q=>∃i j,x=.int i/\y=.int j/\Q (.int (f i j)) H
theorem LP:Sb X .Add (SK λi j=>i+j):=by intro pins s J H x y v u Q I r n h;obtain⟨i,j,e,a,q⟩:=h;subst e;subst a;obtain⟨t,rfl⟩:=r;obtain⟨k,rfl⟩:=n;exact iadd_int ⟨.int _,H,I.tok _,⟨_,rfl⟩,q⟩
end
section
variable{X:Cx}{B:Pos}
noncomputable def Kj(c:TT)(tb:TS):TS:=λD J H=>∃W:Nat->St->Hp->Prop,(∃m,W m J H)/\∀m J H,W m J H ->
 c J H λb G=>if b=true then ∃N:St->Hp->Prop,(∀h H',N h H'->∃x,x < m/\W x h H')/\tb { D with nx:=N,ct:=N,bk:=D.nx } J G else D.nx J G
set_option tactic.hygienic true in
theorem D1(l:PassesOwn (model X.p X.w) X.A X.e X.xe)(o:PT X c tc)(z:oy X q tb):PS X (.While c q [] B) (Kj tc tb):=by
 intro pins s J H D I h;obtain⟨W,⟨F,A⟩,t⟩:=h;refine wpAny_While (codeAny_whileLoop (λn s'=>∃i H',Inv X pins i H' s'/\W n i H') ?_ F ⟨J,H,I,A⟩);rintro n K ⟨e,G,y,C⟩;refine li l (b_ (o pins K e G _ y (t n e G C)) λb P S=>?_);obtain⟨H2,g,k⟩:=S;cases b with
 |true=>
  obtain⟨N,j,k⟩:=k;rw[ag rfl];refine li l (b_ (z pins P e H2 _ g k) λf E m=>?_);cases f with
  |next=>obtain⟨a,x,r,w⟩:=m;obtain⟨d,p,u⟩:=j a x w;exact⟨d,p,a,x,r,u⟩
  |cont=>obtain⟨a,x,r,w⟩:=m;obtain⟨d,p,u⟩:=j a x w;exact⟨d,p,a,x,r,u⟩
  |brk=>exact m
  |ret v=>exact m
 |false=>rw[aj be];exact sT ⟨e,H2,g,k⟩
end
structure It where
 go:Nat->Hp->Prop
 yld:Nat->Hp->V->Hp->Prop
 stop:Nat->Hp->Prop
def re(X:Cx)(pins:PN)(H:Hp)(b:Addr):Prop:=
 H b=none/\b≠X.e.locals/\b ∉ X.fs/\(b ∈ X.ex\/X.z.heap.objs.size≤b)/\(∀x c,X.e.cells.lookup x=some c->c≠b)/\∀p ∈ X.pn++pins,p.1≠b
variable{pins:PN}{J:St}
theorem Inv.fpOk(I:Inv X pins J H s)(h:s.heap.objs.size≤b)(n:H' b=none):re X pins H' b:=by
 refine⟨n,bA (bu I.lt h),I.nofs h,.inr (ba I.sz h),λx c e z=>?_,λp a z=>?_⟩
 .obtain⟨v,q⟩:=I.cell x c e;exact absurd (bu q.lt (by rw[z];exact h)) (d5 _)
 .exact absurd (bu (av (I.pin p a).1) (by rw[z];exact h)) (d5 _)
structure Turn(P:Program)(w:World)(K:FG)(tg:Expr)(J9:It)(fp:List Addr)(it:Addr)(tn:Nat->Heap->Prop):Prop where
 mem:it ∈ fp
 obj:∀i h,tn i h->∀b ∈ fp,∃o,h.get? b=some o/\∀v,o.data≠.cell v
 keep:∀i h h',tn i h->(∀b ∈ fp,∀o,h.get? b=some o->h'.get? b=some o)->tn i h'
 item:∀(X:Cx),X.p=P->X.w=w->X.K=K->X.c=true->∀(i:Nat)(pins:PN)(s:Shared)(J:St)(H:Hp)(E:VP),Inv X pins J H s->(∀b ∈ fp,re X pins H b)->tn i s.heap->J9.go i H ->
  wpAny (model P w) X.A (pyNext (.ref it)) (fun r s1=>∃u,r=some u /\
   wpAny (model P w) X.A (letOwnedTupleGo tg (.ref it) u) (λ_ s2=>∃x H',Inv X pins J H' s2/\RelV x u/\J9.yld i H x H'/\tn (i+1) s2.heap/\∀b ∈ fp,H' b=none) E s1) E s
 done:∀(X:Cx),X.p=P->X.w=w->X.K=K->X.c=true->∀(i:Nat)(pins:PN)(s:Shared)(J:St)(H:Hp)(E:VP),Inv X pins J H s->(∀b ∈ fp,re X pins H b)->tn i s.heap->J9.stop i H ->
  wpAny (model P w) X.A (pyNext (.ref it)) (λr s1=>r=none/\Inv X pins J H s1) E s
 self:∀(A:Around)(i:Nat)(s:Shared)(Q:VP)(E:VP),tn i s.heap->Q (.ref it) s->wpAny (model P w) A (pyIter (.ref it)) Q E s
noncomputable abbrev TI:=St->Hp->(It->Hp->Prop)->Prop
def Pd(X:Cx)(pins:PN)(J:St)(tg:Expr)(R:It->Hp->Prop)(i:Value)(s:Shared):Prop:=
 ∃(t:Addr)(f:List Addr)(n:Nat->Heap->Prop)(h:It)(H':Hp),i=.ref t/\Inv X pins J H' s/\Turn X.p X.w X.K tg h f t n/\n 0 s.heap/\(∀b ∈ f,re X pins H' b)/\R h H'
def PI(X:Cx)(tg iter:Expr)(w:TI):Prop:=
 ∀(pins:PN)(s:Shared)(J:St)(H:Hp)(R:It->Hp->Prop),Inv X pins J H s->w J H R ->
  wpAny (model X.p X.w) X.A (eval iter X.e) (λv h=>wpAny (model X.p X.w) X.A (pyIter v) (Pd X pins J tg R) X.xe h) X.xe s
variable{tg:Expr}
theorem E3(e:s.heap.get? q=some o)(c:o.cls=.type n)(d:o.data=.fields z)
    (a:["enumerate","zip","dict_itemiterator","dict_reverseitemiterator","odict_iterator","itertools.zip_longest","itertools.pairwise"].contains n=false) (x:Q () s):wpAny M A (letOwnedTupleGo tg (.ref q) u) Q E s:=by
  unfold letOwnedTupleGo;cases tg<;>first
    |exact aq x
    | (cases u <;> first
        |exact aq x
        | (refine ae (wpAny_load e ?_)
           rw[c,d];show wpAny M A (if (["enumerate","zip","dict_itemiterator","dict_reverseitemiterator","odict_iterator","itertools.zip_longest","itertools.pairwise"].contains n && z[0]? == some (rawInt _))=true then _ else _) Q E s;rw[aj (by intro h;rw[a,Bool.false_and]at h;cases h)];exact aq x))
noncomputable def Pj(K:FG)(a:Addr):It:=
 ⟨λi H=>∃xs x,fq K H a xs/\xs[i]? = some x,λi H x H'=>H'=H/\∀xs,fq K H a xs->xs[i]? = some x,λi H=>∃xs,fq K H a xs/\xs.length≤i⟩
noncomputable def Se(K:FG)(a:Addr):It:=
 ⟨λi H=>∃xs x,kF K H a xs/\xs[i]? = some x,λi H x H'=>H'=H/\∀xs,kF K H a xs->xs[i]? = some x,λi H=>∃xs,kF K H a xs/\xs.length≤i⟩
noncomputable def P7(lo:Int)(n:Nat):It:=⟨λi _=>i < n,λi H x H'=>H'=H/\x=.int (lo+i),λi _=>n≤i⟩
variable{w:World}{K:FG}
theorem rY(a t:Addr):Turn P w K tg (Pj K a) [t] t (λi h=>h.IsListIter t a i) where
 mem:=by simp
 obj:=λi h st b n=>by
  have e:b=t:=by simpa using n
  subst e;obtain⟨o,e,c,d⟩:=st;exact⟨o,e,λv z=>by rw[d]at z;cases z⟩
 keep:=λi h h' st k=>st.at λo e=>k t (by simp) o e
 item:=by
  intro X hP A S G i pins s J H E I m st F;subst hP A S;obtain⟨xs,x,q,B⟩:=F;obtain⟨C,D,p,T⟩:=I.list q;obtain⟨u,Q,V⟩:=D.get B;obtain⟨r,g,N,j,l,y⟩:=m t (by simp);refine sY st p.isList (x:=u) (by simpa using Q) λh' f W=>?_
  have L:Inv X pins J H { s with heap:=h' }:=I.turned (t':=s.toks) (λb o n e=>(W.2 b n).trans e) r g j l y;obtain⟨o,e,c,d⟩:=id f;exact⟨u,rfl,E3 (s:={ s with heap:=h' }) e c d (by decide) ⟨x,H,L,V,⟨rfl,λys R=>by rw[I.list_inj R q];exact B⟩,f,λb n=>(m b n).1⟩⟩
 done:=by intro X hP A S G i pins s J H E I m st F;subst hP A S;obtain⟨xs,q,B⟩:=F;obtain⟨C,D,p,T⟩:=I.list q;obtain⟨r,g,N,j,l,y⟩:=m t (by simp);have Z:=D.length;exact sX (I.o.hd G) st p.isList (by simp;lia) λh' M=>⟨rfl,I.turned (t':=s.toks) (λb o n e=>M b o n e) r g j l y⟩
 self:=λ_ _ _ _ _ st h=>wpAny_pyIter_listiter st h
theorem xu(a t:Addr):Turn P w K tg (Se K a) [t] t (λi h=>h.IsTupleIter t a i) where
 mem:=by simp
 obj:=λi h st b n=>by
  have e:b=t:=by simpa using n
  subst e;obtain⟨o,e,c,d⟩:=st;exact⟨o,e,λv z=>by rw[d]at z;cases z⟩
 keep:=λi h h' st k=>st.at λo e=>k t (by simp) o e
 item:=by
  intro X hP B F G i pins s J H E I r st A;subst hP B F;obtain⟨xs,x,q,C⟩:=A;obtain⟨f,D,p,T⟩:=I.tuple q;obtain⟨u,Q,V⟩:=D.get C;obtain⟨g,j,N,l,y,S⟩:=r t (by simp);refine wpAny_pyNext_tuple_item st (show s.heap.IsTuple a f.toArray from p) (x:=u) (by simpa using Q) λh' m W=>?_
  have L:Inv X pins J H { s with heap:=h' }:=I.turned (t':=s.toks) (λb o n e=>(W.2 b n).trans e) g j l y S;obtain⟨o,e,c,d⟩:=id m;exact⟨u,rfl,E3 (s:={ s with heap:=h' }) e c d (by decide) ⟨x,H,L,V,⟨rfl,λys R=>by rw[I.tuple_inj R q];exact C⟩,m,λb n=>(r b n).1⟩⟩
 done:=by intro X hP B F G i pins s J H E I r st A;subst hP B F;obtain⟨xs,q,C⟩:=A;obtain⟨f,D,p,T⟩:=I.tuple q;obtain⟨g,j,N,l,y,S⟩:=r t (by simp);have Z:=D.length;exact wpAny_pyNext_tuple_end (I.o.hd G) st (show s.heap.IsTuple a f.toArray from p) (by simp;lia) λh' M=>⟨rfl,I.turned (t':=s.toks) (λb o n e=>M b o n e) g j l y S⟩
 self:=λ_ _ _ _ _ st h=>wpAny_pyIter_tupleiter st h
theorem xw(x:Addr)(lo:Int)(n:Nat):Turn P w K tg (P7 lo n) [x] x (λi h=>IsRangeIter h x (lo+(i:Nat) * 1) ((n:Int)-(i:Nat)) 1) where
 mem:=by simp
 obj:=λi h st b a=>by
  have e:b=x:=by simpa using a
  subst e;exact⟨_,st,λv z=>by have C:Data.fields _=Data.cell v:=z;cases C⟩
 keep:=λi h h' st k=>k x (by simp) _ st
 item:=by
  intro X hP l u g i pins s J H E I c st j;subst hP l u;obtain⟨m,r,F,p,q,d⟩:=c x (by simp);have W:=Walks.range (prog:=X.p) (w:=X.w) (I.o.hd g) x lo 1 n;refine W.item i s _ _ j st λv h' tk A f B=>?_
  obtain⟨t,rfl⟩:=A;have y:Inv X pins J H { s with heap:=h',toks:=tk }:=I.turned (λb o a e=>B b o (by simpa using a) e) m r p q d;refine⟨_,rfl,E3 (s:={ s with heap:=h',toks:=tk }) (n:="range_iterator") f rfl rfl (by decide) ⟨.int (lo+i),H,y,⟨t,?_⟩,⟨rfl,rfl⟩,f,λb a=>(c b a).1⟩⟩;rw[Int.mul_one]
 done:=by intro X hP l u g i pins s J H E I c st j;subst hP l u;obtain⟨m,r,F,p,q,d⟩:=c x (by simp);exact wpAny_pyNext_range_end (I.o.hd g) st (by have:n≤i:=j;lia) λh' S=>⟨rfl,I.turned (t':=s.toks) (λb o a e=>S b o a e) m r p q d⟩
 self:=λ_ _ _ _ _ st h=>wpAny_pyIter_rangeiter st h
section
variable{X:Cx}{tg:Expr}
noncomputable def Oy(K:FG)(tl:TE):TI:=λJ H R=>tl J H λx G=>∃a,x=.ref a/\(∃xs,fq K G a xs)/\R (Pj K a) G
theorem Hz(c:PE X l tl):PI X tg l (Oy X.K tl):=by
 intro pins s J H R I h;refine b_ (c pins s J H _ I h) λv k z=>?_
 obtain⟨x,G,n,t,r⟩:=z;obtain⟨a,e,⟨xs,m⟩,q⟩:=r;subst e;cases t;obtain⟨i,d,p,z⟩:=n.list m;refine lj p.isList ?_;refine⟨k.heap.objs.size,[k.heap.objs.size],_,_,G,rfl,n.kept (t':=k.toks) λb o e=>aF _ e,rY a _,⟨_,aR _ rfl,rfl,rfl⟩,λb f=>?_,q⟩;have e:b=k.heap.objs.size:=by simpa using f
 subst e;exact n.fpOk (al _) (n.h.fresh (al _))
theorem DV{lo hi:Int}{t u v:Tok}{tk:Nat}(I:Inv X pins J H s)(h1:-(2 ^ 62)≤lo)(h2:lo < 2 ^ 62)(n:-(2 ^ 62)≤hi)(k:hi < 2 ^ 62)
  (q:R (P7 lo (hi-lo).toNat) H):wpAny (model X.p X.w) X.A (pyIter (.ref s.heap.objs.size)) (Pd X pins J tg R) E { s with heap:=s.heap.push { cls:=.type "range",data:=.fields #[.int lo t,.int hi u,.int 1 v] },toks:=tk }:=by
 refine wpAny_pyIter_range (IsRange.new ..) (small_one h1 h2 n k) ?_;have h:Inv X pins J H { s with heap:=s.heap.push { cls:=.type "range",data:=.fields #[.int lo t,.int hi u,.int 1 v] },toks:=tk }:=I.kept fun b o e=>aF _ e;refine⟨(s.heap.push { cls:=.type "range",data:=.fields #[.int lo t,.int hi u,.int 1 v] }).objs.size,[(s.heap.push { cls:=.type "range",data:=.fields #[.int lo t,.int hi u,.int 1 v] }).objs.size],_,_,H,rfl,
  h.kept (t':=tk) λb o e=>aF _ e,xw _ lo (hi-lo).toNat,?_,λb f=>?_,q⟩
 .have x:lo+((0:Nat):Int) * 1=lo:=by simp
  have a:(((hi-lo).toNat:Nat):Int)-((0:Nat):Int)=Builtin.Range.rangeSize lo hi 1:=by rw[Al];split<;>lia
  show IsRangeIter _ _ (lo+((0:Nat):Int) * 1) ((((hi-lo).toNat:Nat):Int)-((0:Nat):Int)) 1;rw[x,a];exact aR _ rfl
 .have e:b=(s.heap.push { cls:=.type "range",data:=.fields #[.int lo t,.int hi u,.int 1 v] }).objs.size:=by simpa using f
  subst e;exact h.fpOk (al _) (h.h.fresh (al _))
noncomputable def Ox(ta:TA):TI:=λJ H R=>ta J H λv G=>∃j:Int,v=[.int j]/\-(2 ^ 62)≤j/\j < 2 ^ 62/\R (P7 0 j.toNat) G
theorem B9{a:Expr}{ta:TA}{p B:Pos}(g:Gl X "range")(m:X.g "range"=none)(f:PA X [a] ta)(b:starEach [a] X.e=[(false,eval a X.e)]:=by rfl):PI X tg (.Call (.Name "range" p) [a] [] B) (Ox ta):=by
 intro pins s J H R I h;refine Call_ (ir I g m boot_range (g6 (b_ (f B pins s J H _ I h) λj w z=>?_) b rfl));obtain⟨u,G,k,v,n⟩:=z;obtain⟨x,e,n,c,q⟩:=n;subst e;cases v with
 |cons r d=>cases d;obtain⟨t,rfl⟩:=r;exact call_range_1 (DV k (by lia) (by lia) n c (by simpa using q))
noncomputable def QP(w:TI)(g:TG)(tb:TS):TS:=λD J H=>w J H λh G=>∃W:Nat->Nat->St->Hp->Prop,(∃m,W 0 m J G)/\∀i m J H,W i m J H ->
 (h.stop i H/\D.nx J H)\/(h.go i H/\∃N:St->Hp->Prop,(∀a H',N a H'->∃e,e < m/\W (i+1) e a H')/\∀x H',h.yld i H x H'->g x J H' λs H2=>tb { D with nx:=N,ct:=N,bk:=D.nx } s H2)
noncomputable def nl(f:List Addr)(h:Heap):PN:=f.filterMap λb=>(h.get? b).map λo=>(b,o)
theorem jc(x:b ∈ q)(e:h.get? b=some o):(b,o) ∈ nl q h:=km.mpr ⟨b,x,by rw[e];rfl⟩
theorem B_(s:p ∈ nl z h):p.1 ∈ z/\h.get? p.1=some p.2:=by
 obtain⟨b,a,e⟩:=km.mp s;cases q:h.get? b with
 |none=>rw[q]at e;cases e
 |some o=>rw[q]at e;have x:(b,o)=p:=d8 e;subst x;exact⟨a,q⟩
theorem Inv.pinned(I:Inv X pins J H s)(k:∀b ∈ q,re X pins H b)(c:∀b ∈ q,∃o,s.heap.get? b=some o/\∀v,o.data≠.cell v):Inv X (pins++nl q s.heap) J H s:=
 I.pins_of λp m=>(fE.mp m).elim (λz=>I.pin p (fG _ z)) λz=>by obtain⟨x,e⟩:=B_ z;obtain⟨f,a,n,_⟩:=k p.1 x;obtain⟨o,h,d⟩:=c p.1 x;rw[e]at h;cases h;exact⟨e,f,a,n,d⟩
theorem Inv.unpinned(I:Inv X (pins++q) J H s):Inv X pins J H s:=I.pins_of λp h=>I.pin p (fG _ (zu _ h))
set_option tactic.hygienic true in
theorem KR{iter:Expr}{y:List Stmt}{wi:TI}{g:TG}{tb:TS}{B:Pos}(K:PassesOwn (model X.p X.w) X.A X.e X.xe)(hc:X.c=true)(hi:PI X tg iter wi)(hg:PG X tg g)(t:oy X y tb)
  (hs:∀x,foldedSetIterable iter X.e x=pure x:=by intro _;rfl):PS X (.For tg iter y [] B) (QP wi g tb):=by
 intro pins s J H D I h;refine wpAny_For (b_ (hi pins s J H _ I h) λv s1 h1=>b_ h1 λitv s2 h2=>?_) hs;obtain⟨it,S,tn,J9,H2,e,I2,T,V,f2,W,⟨m0,w0⟩,E⟩:=h2;subst e;have p:∀{H':Hp},(∀b ∈ S,H' b=none)->∀b ∈ S,re X pins H' b:=λhn b t=>⟨hn b t,(f2 b t).2⟩
 refine codeAny_forLoop_any (λn s'=>∃i j H',Inv X pins j H' s'/\tn i s'.heap/\(∀b ∈ S,H' b=none)/\W i n j H') ?_ m0 ⟨0,J,H2,I2,V,λb t=>(f2 b t).1,w0⟩;rintro n s3 ⟨i,l,G,I3,A,F,w3⟩;rcases E i n l G w3 with ⟨C,qn⟩|⟨go,N,hN,step⟩
 .refine li K (b_ (T.done X rfl rfl rfl hc i pins s3 l G X.xe I3 (p F) A C) λr s4 z=>?_);obtain⟨Q,I4⟩:=z;subst Q;exact sT ⟨l,G,I4,qn⟩
 .refine li K (b_ (T.item X rfl rfl rfl hc i pins s3 l G X.xe I3 (p F) A go) λr s4 z=>?_);obtain⟨u,Q,h4⟩:=z;subst Q;refine li K (b_ h4 λ_ s5 z=>?_);obtain⟨x,Z,I5,r5,y5,w,M⟩:=z;have L:=I5.pinned (p M) (T.obj _ _ w);refine li K (b_ (hg _ s5 l Z x u _ L r5 (step x Z y5)) λ_ s6 z=>?_);obtain⟨J6,H6,I6,q6⟩:=z;refine li K (b_ (t _ s6 J6 H6 _ I6 q6) λf R q=>?_);have again:∀{c:St}{a:Hp},Inv X (pins++nl S s5.heap) c a R->N c a->∃m,m < n/\∃i j H',Inv X pins j H' R/\tn i R.heap/\(∀b ∈ S,H' b=none)/\W i m j H':=λ{c a} k P=>by
   obtain⟨m',hm,w7⟩:=hN c a P;refine⟨m',hm,i+1,c,a,k.unpinned,T.keep _ _ _ w λb t o e=>(k.pin (b,o) (fG _ (fG _ (jc t e)))).1,λb t=>?_,w7⟩;obtain⟨o,e,d⟩:=T.obj _ _ w b t;exact(k.pin (b,o) (fG _ (fG _ (jc t e)))).2.1
  cases f with
  |next=>obtain⟨c,a,k,P⟩:=q;exact again k P
  |cont=>obtain⟨c,a,k,P⟩:=q;exact again k P
  |brk=>obtain⟨c,a,k,q⟩:=q;exact⟨c,a,k.unpinned,q⟩
  |ret v=>obtain⟨x7,c,a,k,r7,q⟩:=q;exact⟨x7,c,a,k.unpinned,r7,q⟩
end
noncomputable abbrev R2:=V->V->Hp->VK->Prop
def gX(X:Cx)(f:Value->Value->Sem Value)(r:R2):Prop:=
 ∀(pins:PN)(s:Shared)(J:St)(H:Hp)(x y:V)(v u:Value)(Q:VK),Inv X pins J H s->RelV x v->RelV y u->r x y H Q ->
  wpAny (model X.p X.w) X.A (f v u) (EP X pins J Q) X.xe s
def RG(X:Cx)(f:Value->Sem Value)(r:V->Hp->VK->Prop):Prop:=
 ∀(pins:PN)(s:Shared)(J:St)(H:Hp)(x:V)(v:Value)(Q:VK),Inv X pins J H s->RelV x v->r x H Q ->
  wpAny (model X.p X.w) X.A (f v) (EP X pins J Q) X.xe s
def cN(X:Cx)(f:Value)(r:List V->Hp->VK->Prop):Prop:=
 ∀(pins:PN)(s:Shared)(J:St)(H:Hp)(xs:List V)(j:LV)(Q:VK),Inv X pins J H s->aU xs j->r xs H Q ->
  wpAny (model X.p X.w) X.A (call f j) (EP X pins J Q) X.xe s
def RH(X:Cx)(r:V->Hp->(Bool->Hp->Prop)->Prop):Prop:=
 ∀(pins:PN)(s:Shared)(J:St)(H:Hp)(x:V)(v:Value)(Q:Bool->Hp->Prop),Inv X pins J H s->RelV x v->r x H Q ->
  wpAny (model X.p X.w) X.A (truthy v) (TP X pins J Q) X.xe s
noncomputable def Kk(r:R2)(ta tb:TE):TE:=λJ H Q=>ta J H λx G=>tb J G λy H2=>r x y H2 Q
noncomputable def Su(r:V->Hp->VK->Prop)(ta:TE):TE:=λJ H Q=>ta J H λx G=>r x G Q
noncomputable def rI(C:Int->Int->Prop)(g:Int->Int->V):R2:=λx y H Q=>∃i j,x=.int i/\y=.int j/\C i j/\Q (g i j) H
noncomputable def Ho(g:Int->Int->V):R2:=λx y H Q=>∃i j,x=.int i/\y=.int j/\Q (g i j) H
def rU(g:Int->V):V->Hp->VK->Prop:=λx H Q=>∃i,x=.int i/\Q (g i) H
section
variable{X:Cx}{a b c:Expr}{ta tb tc:TE}{B:Pos}
theorem Mf(r:PE X a ta)(t:PE X b tb){pins:PN}{s:Shared}{J:St}{H:Hp}{R:V->V->Hp->Prop}(I:Inv X pins J H s)
  (h:ta J H λx G=>tb J G λy H2=>R x y H2) {Q:VP}{f:Value->Value->Sem Value}
  (p:∀v u k x y H2,Inv X pins J H2 k->RelV x v->RelV y u->R x y H2->wpAny (model X.p X.w) X.A (f v u) Q X.xe k) :
  wpAny (model X.p X.w) X.A (eval a X.e) (λv e=>wpAny (model X.p X.w) X.A (eval b X.e) (λu n=>wpAny (model X.p X.w) X.A (f v u) Q X.xe n) X.xe e) X.xe s:=by
 refine b_ (r pins s J H _ I h) λv i z=>?_;obtain⟨x,G,c,w,q⟩:=z;refine b_ (t pins i J G _ c q) λu k z=>?_;obtain⟨y,H2,m,g,d⟩:=z;exact p v u k x y H2 m w g d
theorem Jj{o:Operator}{r:R2}(f:gX X (binaryOp o) r)(n:PE X a ta)(k:PE X b tb):PE X (.BinOp a o b B) (Kk r ta tb):=by intro pins s J H Q I h;exact wpAny_BinOp (Mf n k I h λv u t x y H2 e c m q=>f pins t J H2 x y v u Q e c m q)
theorem NQ(o:RG X (unaryOp q) r)(n:PE X a ta):PE X (.UnaryOp q a B) (Su r ta):=by intro pins s J H Q I h;exact s_ (b_ (n pins s J H _ I h) λv b z=>by obtain⟨x,G,e,f,k⟩:=z;exact o pins b J G x v Q e f k)
theorem Ps{f:Value->Value->Sem Value}{C:Int->Int->Prop}{g:Int->Int->Int}
  (rule:∀(i j:Int)(t u:Tok)(s:Shared)(Q:VP)(E:VP),C i j->Q (.int (g i j) s.toks) { s with toks:=s.toks+1 }->wpAny (model X.p X.w) X.A (f (.int i t) (.int j u)) Q E s) :
  gX X f (rI C λi j=>.int (g i j)):=by
 intro pins s J H x y v u Q I r a h;obtain⟨i,j,rfl,rfl,c,q⟩:=h;obtain⟨t,rfl⟩:=r;obtain⟨e,rfl⟩:=a;exact rule i j t e s _ _ c ⟨.int (g i j),H,I.tok _,⟨_,rfl⟩,q⟩
theorem N_{f:Value->Value->Sem Value}{g:Int->Int->Int}
  (rule:∀(i j:Int)(t u:Tok)(s:Shared)(Q:VP)(E:VP),Q (.int (g i j) s.toks) { s with toks:=s.toks+1 }->wpAny (model X.p X.w) X.A (f (.int i t) (.int j u)) Q E s) :
  gX X f (Ho λi j=>.int (g i j)):=by
 intro pins s J H x y v u Q I r a h;obtain⟨i,j,rfl,rfl,q⟩:=h;obtain⟨t,rfl⟩:=r;obtain⟨e,rfl⟩:=a;exact rule i j t e s _ _ ⟨.int (g i j),H,I.tok _,⟨_,rfl⟩,q⟩
theorem HK{f:Value->Value->Sem Value}{g:Int->Int->Bool}
  (rule:∀(i j:Int)(t u:Tok)(s:Shared)(Q:VP)(E:VP),Q (.bool (g i j)) s->wpAny (model X.p X.w) X.A (f (.int i t) (.int j u)) Q E s) :
  gX X f (Ho λi j=>.bl (g i j)):=by
 intro pins s J H x y v u Q I r a h;obtain⟨i,j,rfl,rfl,q⟩:=h;obtain⟨t,rfl⟩:=r;obtain⟨e,rfl⟩:=a;exact rule i j t e s _ _ ⟨.bl (g i j),H,I,rfl,q⟩
def RQ(i j:Int):Prop:=0≤j/\j≤1000000/\i.natAbs < 2 ^ 64
theorem Le:gX X (binaryOp .Add) (Ho λi j=>.int (i+j)):=N_ λ_ _ _ _ _ _ _ q=>add_int q
theorem K_:gX X (binaryOp .Sub) (Ho λi j=>.int (i-j)):=N_ λ_ _ _ _ _ _ _ q=>sub_int q
theorem La:gX X (binaryOp .Mod) (rI (λ_ j=>0 < j) λi j=>.int (i % j)):=Ps λi j _ _ _ _ _ h q=>by have h1:(0:Int) < j:=h;exact mod_int' (by lia) (by rw[Int.fmod_eq_emod_of_nonneg i (by lia)];exact q)
theorem K':gX X (binaryOp .Pow) (rI RQ λi j=>.int (i ^ j.toNat)):=Ps λ_ _ _ _ _ _ _ h q=>pow_int_small h.1 h.2.1 h.2.2 q
theorem Sr{f:Value->Sem Value}{g:Int->Int}
  (rule:∀(i:Int)(t:Tok)(s:Shared)(Q:VP)(E:VP),Q (.int (g i) s.toks) { s with toks:=s.toks+1 }->wpAny (model X.p X.w) X.A (f (.int i t)) Q E s) :
  RG X f (rU λi=>.int (g i)):=by
 intro pins s J H x v Q I r h;obtain⟨i,rfl,q⟩:=h;obtain⟨t,rfl⟩:=r;exact rule i t s _ _ ⟨.int (g i),H,I.tok _,⟨_,rfl⟩,q⟩
theorem Ka:RG X (unaryOp .USub) (rU λi=>.int (-i)):=Sr λ_ _ _ _ _ q=>neg_int q
end
noncomputable def NF:V->V->Bool
 | .non,.non=>true | .non,.int _=>true | .int _,.non=>true | .non,.bl _=>true | .bl _,.non=>true | .non,.str _=>true | .str _,.non=>true
 | .int _,.int _=>true | .bl _,.bl _=>true | .str _,.str _=>true | .byt _,.byt _=>true
 | .int _,.str _=>true | .str _,.int _=>true | .bl _,.str _=>true | .str _,.bl _=>true
 |_,_=>false
def SD:R2:=λx y H Q=>NF x y=true/\Q (.bl (decide (x=y))) H
def SA:R2:=λx y H Q=>NF x y=true/\Q (.bl (!decide (x=y))) H
theorem BG{i j:Int}:decide (V.int i=V.int j)=(i == j):=by rw[i3];simp
theorem Ft:decide (V.bl i=V.bl q)=(i == q):=by rw[i3];simp
theorem BF:decide (V.str i=V.str q)=(i == q):=by rw[i3];simp
theorem BH:decide (V.byt i=V.byt q)=(i.toList == q.toList):=by rw[i3];cases i;cases q;simp
section
variable{X:Cx}{a b c:Expr}{ta tb tc:TE}{B:Pos}
theorem bx(I:Inv X pins J H s)(q:Q (.bl k) H)(e:k=z):EP X pins J Q (.bool z) s:=by subst e;exact⟨.bl k,H,I,rfl,q⟩
theorem Ef:gX X (compareOp .Eq) SD:=by
 intro pins s J H x y v u Q I n r h;obtain⟨e,q⟩:=h;cases x with
 |non=>
  cases n;cases y with
  |non=>cases r;exact Gx (bx I q (by simp))
  |bl j=>cases r;exact Gu (bx I q (by simp))
  |int j=>obtain⟨a,rfl⟩:=r;exact Gw (bx I q (by simp))
  |str j=>obtain⟨a,rfl⟩:=r;exact Gy (bx I q (by simp))
  |_=>exact absurd (show false=true from e) be
 |bl i=>
  cases n;cases y with
  |non=>cases r;exact Gr (bx I q (by simp))
  |bl j=>cases r;exact eq_bool (bx I q Ft)
  |str j=>obtain⟨a,rfl⟩:=r;exact Gh (bx I q (by simp))
  |_=>exact absurd (show false=true from e) be
 |int i=>
  obtain⟨t,rfl⟩:=n;cases y with
  |non=>cases r;exact Gs (bx I q (by simp))
  |int j=>obtain⟨a,rfl⟩:=r;exact eq_int (bx I q BG)
  |str j=>obtain⟨a,rfl⟩:=r;exact Gj (bx I q (by simp))
  |_=>exact absurd (show false=true from e) be
 |str i=>
  obtain⟨t,rfl⟩:=n;cases y with
  |non=>cases r;exact Gz (bx I q (by simp))
  |bl j=>cases r;exact Gk (bx I q (by simp))
  |int j=>obtain⟨a,rfl⟩:=r;exact Gm (bx I q (by simp))
  |str j=>obtain⟨a,rfl⟩:=r;exact eq_str (bx I q BF)
  |_=>exact absurd (show false=true from e) be
 |byt i=>
  obtain⟨t,rfl⟩:=n;cases y with
  |byt j=>obtain⟨a,rfl⟩:=r;exact PySem.W.eq_bytes (bx I q BH)
  |_=>exact absurd (show false=true from e) be
 |_=>cases y<;>exact absurd (show false=true from e) be
theorem Ed:gX X (compareOp .NotEq) SA:=by
 intro pins s J H x y v u Q I n r h;obtain⟨e,q⟩:=h;cases x with
 |non=>
  cases n;cases y with
  |non=>cases r;exact GG (bx I q (by simp))
  |bl j=>cases r;exact GC (bx I q (by simp))
  |int j=>obtain⟨a,rfl⟩:=r;exact GD (bx I q (by simp))
  |str j=>obtain⟨a,rfl⟩:=r;exact GH (bx I q (by simp))
  |_=>exact absurd (show false=true from e) be
 |bl i=>
  cases n;cases y with
  |non=>cases r;exact GA (bx I q (by simp))
  |bl j=>cases r;exact ne_bool (bx I q (bX not Ft))
  |str j=>obtain⟨a,rfl⟩:=r;exact Gn (bx I q (by simp))
  |_=>exact absurd (show false=true from e) be
 |int i=>
  obtain⟨t,rfl⟩:=n;cases y with
  |non=>cases r;exact GB (bx I q (by simp))
  |int j=>obtain⟨a,rfl⟩:=r;exact ne_int (bx I q (bX not BG))
  |str j=>obtain⟨a,rfl⟩:=r;exact Go (bx I q (by simp))
  |_=>exact absurd (show false=true from e) be
 |str i=>
  obtain⟨t,rfl⟩:=n;cases y with
  |non=>cases r;exact GI (bx I q (by simp))
  |bl j=>cases r;exact Gp (bx I q (by simp))
  |int j=>obtain⟨a,rfl⟩:=r;exact Gq (bx I q (by simp))
  |str j=>obtain⟨a,rfl⟩:=r;exact ne_str (bx I q (bX not BF))
  |_=>exact absurd (show false=true from e) be
 |byt i=>
  obtain⟨t,rfl⟩:=n;cases y with
  |byt j=>obtain⟨a,rfl⟩:=r;exact PySem.W.ne_bytes (bx I q (bX not BH))
  |_=>exact absurd (show false=true from e) be
 |_=>cases y<;>exact absurd (show false=true from e) be
theorem NV:gX X (compareOp .Lt) (Ho λi j=>.bl (decide (i < j))):=HK λ_ _ _ _ _ _ _ q=>yQ q
theorem NX:gX X (compareOp .LtE) (Ho λi j=>.bl (decide (i≤j))):=HK λ_ _ _ _ _ _ _ q=>le_int q
theorem NY:gX X (compareOp .Gt) (Ho λi j=>.bl (decide (j < i))):=HK λ_ _ _ _ _ _ _ q=>gt_int q
theorem NZ:gX X (compareOp .GtE) (Ho λi j=>.bl (decide (j≤i))):=HK λ_ _ _ _ _ _ _ q=>ge_int q
theorem Lb:gX X (compareOp .Is) (λx y H Q=>y=.non/\Q (.bl (decide (x=.non))) H):=by
 intro pins s J H x y v u Q I r a h;obtain⟨rfl,q⟩:=h;cases a;refine is_none_gen (bx I q ?_);cases x<;>first
  |(cases r;rfl)
  |(obtain⟨t,rfl⟩:=r;rfl)
theorem HG:gX X (compareOp .IsNot) (λx y H Q=>y=.non/\Q (.bl (!decide (x=.non))) H):=by
 intro pins s J H x y v u Q I r a h;obtain⟨rfl,q⟩:=h;cases a;refine isnot_none_gen (bx I q ?_);cases x<;>first
  |(cases r;rfl)
  |(obtain⟨t,rfl⟩:=r;rfl)
theorem A8{o:CmpOp}{r:R2}(f:gX X (compareOp o) r)(n:PE X a ta)(k:PE X b tb)(m:behindInMarks o b=false):PE X (.Compare a [o] [b] B) (Kk r ta tb):=by intro pins s J H Q I h;exact wpAny_Compare1 (Mf n k I h λv u p x y H2 e c t q=>f pins p J H2 x y v u Q e c t q) m
noncomputable def DF(t:TE):TT:=λJ H Q=>t J H λx H'=>∃k,x=.bl k/\Q k H'
theorem A4(o:gX X (compareOp q) r)(p:PE X a ta)(d:PE X b tb)(w:behindInMarks q b=false):PT X (.Compare a [q] [b] B) (DF (Kk r ta tb)):=by
 intro pins s J H Q I h;refine wpAny_isTrue_Compare1 (b_ (p pins s J H _ I h) fun v K ⟨x,G,f,l,g⟩=>b_ (d pins K J G _ f g) fun u P ⟨y,H2,m,S,i⟩=>
  b_ (o pins P J H2 x y v u _ m l S i) λc A ⟨z,n,t,F,k,e,j⟩=>?_) w
 subst e;cases F;exact jO ⟨n,t,j⟩
noncomputable def xz(r e:R2)(ta tb tc:TE):TE:=λJ H Q=>ta J H λx G=>tb J G λy H2=>r x y H2 λz h=>∃k,z=.bl k /\
 (if k=true then tc J h λw a=>e y w a Q else Q (.bl false) h)
theorem Eb(K:gX X (compareOp N) r)(o:gX X (compareOp q) r')(j:PE X a ta)(l:PE X b tb)(S:PE X c tc)
  (F:lastMarks [N,q] [b,c]=false:=by with_unfolding_all rfl):PE X (.Compare a [N,q] [b,c] B) (xz r r' ta tb tc):=by
 intro pins s J H Q I h;refine Compare_chain (b_ (j pins s J H _ I h) fun v M ⟨x,G,w,D,P⟩=>chain_link (b_ (l pins M J G _ w P) fun u R ⟨y,H2,g,t,A⟩=>
  b_ (K pins R J H2 x y v u _ g D t A) λd T ⟨z,n,f,E,k,e,m⟩=>?_)) F
 subst e;cases E;refine jO ?_;cases k with
 |false=>exact ite_ff ⟨.bl false,n,f,rfl,m⟩
 |true=>exact ite_tt (chain_last (b_ (S pins T J n _ f m) λW V ⟨Z,p,i,L,C⟩=>o pins V J p y Z u W Q i t L C))
theorem DZ(D:gX X (compareOp N) r)(o:gX X (compareOp q) r')(K:PE X a ta)(P:PE X b tb)(A:PE X c tc)
  (C:lastMarks [N,q] [b,c]=false:=by with_unfolding_all rfl):PT X (.Compare a [N,q] [b,c] B) (DF (xz r r' ta tb tc)):=by
 intro pins s J H Q I h;refine isTrue_chain (b_ (K pins s J H _ I h) fun v s1 ⟨x,G,g,W,M⟩=>test_link (b_ (P pins s1 J G _ g M) fun u s2 ⟨y,H2,i,t,R⟩=>
  b_ (D pins s2 J H2 x y v u _ i W t R) λd s3 ⟨z,n,f,Z,k,e,m⟩=>?_)) C
 subst e;cases Z;refine jO ?_;cases k with
 |false=>obtain⟨k',S,L⟩:=m;cases S;exact ite_ff ⟨n,f,L⟩
 |true=>refine ite_tt (test_last (b_ (A pins s3 J n _ f m) λw' s4 ⟨z',p,j,r4,T⟩=>b_ (o pins s4 J p y z' u w' _ j t r4 T) λd' s5 E=>?_));obtain⟨z2,w,l,r5,k2,F,V⟩:=E;subst F;cases r5;exact jO ⟨w,l,V⟩
def Mj(K:FG)(x:V)(H:Hp)(k:Bool):Prop:=
 match x with
 | .non=>k=false
 | .bl b=>k=b
 | .int i=>k=(i != 0)
 | .str y=>y.length≤sizeLine/\k=((y.length:Int) != 0)
 | .byt y=>y.size≤sizeLine/\k=((y.size:Int) != 0)
 | .ref p=>(∃xs,fq K H p xs/\k=!xs.isEmpty)\/(∃xs,kF K H p xs/\k=!xs.isEmpty)\/∃kvs,H p=some (.dK kvs)/\k=!kvs.isEmpty
 |_=>False
theorem xY(r:KV kvs q):(!q.isEmpty)=!kvs.isEmpty:=by cases r<;>rfl
theorem qx(r:aU xs q):(!q.toArray.isEmpty)=!xs.isEmpty:=by cases r<;>simp
theorem jV:(sizeLine:Nat) < 2 ^ 63:=by rw[jM];decide
theorem ur:RH X (λx H Q=>∃k,Mj X.K x H k/\Q k H):=by
 intro pins s J H x v Q I rx h;obtain⟨k,e,q⟩:=h;have hl:=jV;have hs:sizeLine=16777216:=jM;cases x with
 |non=>cases rx;have e':k=false:=e;subst e';exact truthy_none ⟨H,I,q⟩
 |bl b=>cases rx;have e':k=b:=e;subst e';exact jO ⟨H,I,q⟩
 |int i=>obtain⟨t,rfl⟩:=rx;have e':k=(i != 0):=e;subst e';exact PySem.P.truthy_int ⟨H,I,q⟩
 |str y=>obtain⟨t,rfl⟩:=rx;obtain⟨hy,e'⟩:y.length≤sizeLine/\k=((y.length:Int) != 0):=e;subst e';exact PySem.P.truthy_str (by lia) ⟨H,I.tok _,q⟩
 |byt y=>obtain⟨t,rfl⟩:=rx;obtain⟨hy,e'⟩:y.size≤sizeLine/\k=((y.size:Int) != 0):=e;subst e';exact PySem.W.truthy_bytes (by lia) ⟨H,I.tok _,q⟩
 |ref p=>
  cases rx;have e':(∃xs,fq X.K H p xs/\k=!xs.isEmpty)\/(∃xs,kF X.K H p xs/\k=!xs.isEmpty)\/∃kvs,H p=some (.dK kvs)/\k=!kvs.isEmpty:=e;rcases e' with ⟨xs,hx,e'⟩|⟨xs,hx,e'⟩|⟨kvs,hx,e'⟩
  .subst e';obtain⟨its,r,pl,hz⟩:=I.list hx;have hlen:=r.length;exact wpAny_truthy_list pl.isList (by simp only[aY];lia) ⟨H,I.tok _,by rw[qx r];exact q⟩
  .subst e';obtain⟨its,r,pl,hz⟩:=I.tuple hx;have hlen:=r.length;exact truthy_tuple pl (by simp only[aY];lia) ⟨H,I.tok _,by rw[qx r];exact q⟩
  .subst e';obtain⟨hz,hS,vs,r,m⟩:kvs.length≤sizeLine/\(p == sysModules)=false/\∃vs,KV kvs vs/\s.heap.DictOf (bP X.p X.w) p vs:=I.h p _ hx;have hlen:kvs.length=vs.length:=Paired.length r;exact wpAny_truthy_dict hS m (by lia) ⟨H,I.tok _,by rw[xY r];exact q⟩
 |_=>exact(show False from e).elim
theorem DY(n:PE X a ta)(f:∀w,isTrue a X.e w=(do let v <- w;standAt a.pos;holding [v] (truthy v))) :
  PT X a (λJ H Q=>ta J H λx H'=>∃k,Mj X.K x H' k/\Q k H'):=by
 intro pins s J H Q I h;exact isTrue_plain (b_ (n pins s J H _ I h) λv b z=>by obtain⟨x,G,e,r,q⟩:=z;exact ur pins b J G x v Q e r q) (f _)
theorem xN:gX X (binaryOp .Add) (λx y H Q=>∃i j,x=.str i/\y=.str j/\i.length+j.length≤sizeLine/\Q (.str (i++j)) H):=by intro pins s J H x y v u Q I r a h;obtain⟨i,j,rfl,rfl,z,q⟩:=h;obtain⟨t,rfl⟩:=r;obtain⟨e,rfl⟩:=a;exact add_str (λe tk=>⟨.str (i++j),H,I.tok _,⟨_,rfl⟩,q⟩) z
theorem vals1(r:aU [x] j):∃u,j=[u]/\RelV x u:=by
 cases r with
 |cons h a=>cases a;exact⟨_,rfl,h⟩
theorem vals2(r:aU [x,y] j):∃u w,j=[u,w]/\RelV x u/\RelV y w:=by
 cases r with
 |cons h a=>
  cases a with
  |cons e s=>cases s;exact⟨_,_,rfl,h,e⟩
theorem FI:cN X (.builtin "abs") (λxs H Q=>∃i,xs=[.int i]/\Q (.int (if i < 0 then -i else i)) H):=by intro pins s J H xs j Q I r h;obtain⟨i,rfl,q⟩:=h;obtain⟨u,rfl,t,rfl⟩:=vals1 r;exact call_abs_int λu tk=>⟨.int (if i < 0 then -i else i),H,I.tok _,⟨_,rfl⟩,q⟩
theorem sL:cN X (.type "int") (λxs H Q=>(∃i,xs=[.int i]/\Q (.int i) H)\/∃k,xs=[.bl k]/\Q (.int (if k then 1 else 0)) H):=by
 intro pins s J H xs j Q I r h;rcases h with ⟨i,rfl,q⟩|⟨k,rfl,q⟩
 .obtain⟨u,rfl,t,rfl⟩:=vals1 r;exact call_int_int ⟨.int i,H,I,⟨_,rfl⟩,q⟩
 .obtain⟨u,rfl,x⟩:=vals1 r;cases x;exact call_int_bool ⟨.int (if k then 1 else 0),H,I.tok _,⟨_,rfl⟩,q⟩
end
structure ObjM(h:Heap)(x dx C:Addr)(mA:SV):Prop where
 obj:h.get? x=some (jP C dx)
 ns:h.Ns1 dx mA
 ne:dx≠x
set_option tactic.hygienic true in
theorem Cc(n:h.Ns1 dx mA):∃d,h.get? dx=some d/\∀name,tW name d=some (mA name):=by
 obtain⟨o,es,p,f,s,hk,_,m⟩:=n;refine⟨o,f,λname=>?_⟩;have e:=m name;unfold nsFind findBy at e;rw[<- Array.find?_toList]at e;unfold tW;rw[s];dsimp only;split
 .rename_i y q;rw[q]at e;exact bX some e
 .rename_i q;rw[q]at e;have a:es.toList.any (·.refKey)=false:=by
   rw[zn];intro y b;obtain⟨z,t,k⟩:=hk y (Array.mem_toList_iff.mp b);simp[DictEntry.refKey,k]
  have x:¬es.toList.any (·.refKey)=true:=by rw[a];exact be
  rw[aj x];exact bX some e
variable{C:Addr}
theorem ObjM.look(I:ObjM h x dx C mA):∃o,PySem.W.InstAt h x (jP C dx) C (some o)/\∀name,tW name o=some (mA name):=
 let ⟨o,a,l⟩:=Cc I.ns
 ⟨o,⟨I.obj,rfl,rfl,a⟩,l⟩
section
variable{prog:Program}{w:World}{A:Around}{E:VP}{s:Shared}{K:FG}{x dx C f:Addr}{mA:SV}{name:Str}{v:Value}
theorem Ir(X:K.In s.heap)(I:ObjM s.heap x dx C mA)(g:pS K C name=true)(k:tX K C=true)
  (n:bG K (.ref C) name=some none) (f:mA name=some v) (a:C8 v=true) (h:Q v { s with toks:=s.toks+1 }) :
  wpAny (model prog w) A (getAttr (.ref x) name q) Q E s:=by
 obtain⟨o,e,l⟩:=I.look;exact PySem.W.get_value X e (xp g).1 (PySem.W.findObj_own k n rfl (by rw[l,f])) a h
theorem E4(X:K.In s.heap)(I:ObjM s.heap x dx C mA)(g:pS K C name=true)
  (e:bG K (.ref C) name=some (some (.ref f))) (t:tD K (.ref f)=true) (v:mA name=none) (h:Q (.ref f,[.ref x]) s) :
  wpAny (model prog w) A (getMethod (.ref x) name q) Q E s:=by
 obtain⟨o,a,l⟩:=I.look;exact PySem.W.method_fn X a (xp g).1 (xp g).2 e (lE.mp t) (by show(tW name o).map (·.isSome)=some false;rw[l,v];rfl) h
theorem Hg(X:K.In s.heap)(I:ObjM s.heap x dx C mA)
  (u:bG K (.ref C) "__setattr__"=some (some (.builtin "object.__setattr__"))) (q:xo K C=true) (g:xk K C name=some none) (t:tX K C=true)
  (i:w4 mA N) (z:N.length≤sizeLine)
  (h:∀h',ObjM h' x dx C (λy=>if y=name then some v else mA y)->cD dx s.heap h'->Q () { s with heap:=h',toks:=s.toks+2 }) :
  wpAny (model prog w) A (setAttr (.ref x) name v) Q E s:=by
 obtain⟨F,k,H⟩:=I.look;refine PySem.W.set_plain X k u (PySem.W.osa_open (s:={ s with toks:=s.toks+1 }) (r:=none) X k q g λb=>?_);obtain⟨l,m,d⟩:=PySem.W.any_some t;have j:s.heap.get? x=some ⟨.ref C,some dx,.plain,#[]⟩:=I.obj;refine ae (aq (ae (ae (wpAny_loadPart j (ae (PySem.W.Looks.here (s:={ s with toks:=s.toks+1 }) (PySem.W.looks_clsIn X m) ?_))))));rw[d];refine aq (a:=some dx) (ae (aq (ae ?_)));refine wpAny_nsSet1 (s:={ s with toks:=s.toks+1 }) I.ns λh' n e=>?_;obtain⟨S,f,p,o,D,c⟩:=n.count (PySem.Within.cons name v i);refine ae (wpAny_lookBehind o (by rw[D];exact pastItsLine_dict (ba c (by rw[bz];lia))) ?_);exact aq (h _ ⟨(e.2 _ (aH I.ne)).trans I.obj,n,I.ne⟩ e)
theorem Ep(X:K.In s.heap)(m:xj K C=true)
  (hi:bG K (.ref C) "__init__"=some (some (.ref f))) (x:PySem.W.typeIn K (.ref f)=some (.type "function"))
  (h:codeAny (model prog w) (A.under (.builtin "type.__call__" ⟨.ref C::q,kw⟩)) (.call (.ref f) ⟨.ref (s.heap.objs.size+1)::q,kw⟩) (PySem.W.InitBack (s.heap.objs.size+1) R)
   { s with heap:=(s.heap.push i6).push (jP C s.heap.objs.size) }) :
  codeAny (model prog w) A (.call (.ref C) ⟨q,kw⟩) R s:=by
 obtain⟨a,g,d,t,os⟩:=s;exact PySem.W.make_core (PySem.W.makes_of X m) (PySem.W.looks_findIn X hi) (λe=>PySem.W.bind_fn X e x) (.inl rfl) h
end
noncomputable def io(f:Str)(v:V):List (Str×V)->List (Str×V)
 | []=>[(f,v)]
 |(g,x)::r=>if g=f then (g,v)::r else (g,x)::io f v r
theorem nV(f g:Str)(v:V):∀fs:List (Str×V),(io f v fs).lookup g=if g=f then some v else fs.lookup g
 | []=>by
  show eI g [(f,v)]=_;by_cases h:g=f
  .have b:(g == f)=true:=lE.mpr h;simp only[eI,b,ag h]
  .have b:(g == f)=false:=gu.mpr h;simp only[eI,b,aj h]
 |(k,x)::r=>by
  have i:=nV f g v r;rw[show io f v ((k,x)::r)=(if k=f then (k,v)::r else (k,x)::io f v r) from rfl];by_cases hk:k=f
  .rw [ag hk];by_cases h:g=k
   .have b:(g == k)=true:=lE.mpr h;simp only[eI,b,ag (h.trans hk)]
   .have b:(g == k)=false:=gu.mpr h;simp only[eI,b,aj (λe:g=f=>h (e.trans hk.symm))]
  .rw [aj hk];by_cases h:g=k
   .have b:(g == k)=true:=lE.mpr h;simp only[eI,b,aj (λe:g=f=>hk (h.symm.trans e))]
   .have b:(g == k)=false:=gu.mpr h;simp only[eI,b];exact i
theorem nq(f:Str)(v:V):∀fs:List (Str×V),f ∈ (io f v fs).map (·.1)/\∀g,g ∈ fs.map (·.1)->g ∈ (io f v fs).map (·.1)
 | []=>⟨by simp[io],λg h=>by simp at h⟩
 |(k,x)::r=>by
  obtain⟨i,a⟩:=nq f v r;rw[show io f v ((k,x)::r)=(if k=f then (k,v)::r else (k,x)::io f v r) from rfl];by_cases hk:k=f
  .rw [ag hk];subst hk;exact⟨by simp,λg h=>by simpa using h⟩
  .rw [aj hk];refine⟨?_,λg h=>?_⟩
   .rw [aD];exact aN _ i
   .rw [aD]at h ⊢;rcases aM.mp h with e|e
    .exact aM.mpr (.inl e)
    .exact aN _ (a g e)
theorem nW(f:Str)(v:V):∀fs:List (Str×V),(io f v fs).length≤fs.length+1
 | []=>by simp[io]
 |(k,x)::r=>by
  have i:=nW f v r;rw[show io f v ((k,x)::r)=(if k=f then (k,v)::r else (k,x)::io f v r) from rfl];by_cases hk:k=f
  .rw [ag hk,bz,bz];lia
  .rw [aj hk,bz,bz];lia
theorem jK.some_of{v:V}{o:OV}(r:jK (some v) o):∃u,o=some u/\RelV v u:=by
 cases o with
 |none=>exact(show False from r).elim
 |some u=>exact⟨u,rfl,r⟩
theorem jK.none_of{o:OV}(r:jK none o):o=none:=by
 cases o with
 |none=>rfl
 |some u=>exact(show False from r).elim
variable{v:V}
theorem Cm(r:RelV v u):C8 u=true:=by
 cases v with
 |non=>cases (show u=Value.none from r);rfl
 |bl b=>cases (show u=Value.bool b from r);rfl
 |int i=>obtain⟨t,e⟩:=(show ∃t,u=Value.int i t from r);cases e;rfl
 |str x=>obtain⟨t,e⟩:=(show ∃t,u=Value.str x t from r);cases e;rfl
 |byt b=>obtain⟨t,e⟩:=(show ∃t,u=Value.bytes b t from r);cases e;rfl
 |flt b=>obtain⟨t,e⟩:=(show ∃t,u=Value.float b t from r);cases e;rfl
 |ref a=>cases (show u=Value.ref a from r);rfl
 |ty n=>cases (show u=Value.type n from r);rfl
section
variable{P:Program}{w:World}{H H':Hp}{h h':Heap}{a C dx:Addr}{fs fs':List (Str×V)}
theorem uO(o:iB P w H h)(e:H a=some (.ins C dx fs)):∃mA,ObjM h a dx C mA/\(∀f,jK (fs.lookup f) (mA f))/\w4 mA (fs.map (·.1))/\fs.length≤1000/\H dx=some (.own a):=by obtain⟨d,z,x,b,mA,n,r,q⟩:=(show cM P w H h a (.ins C dx fs) from o a _ e);exact⟨mA,⟨b,n,x⟩,r,q,z,d⟩
end
structure Cls(K:FG)(C:Addr):Prop where
 pg:pS K C Str.empty=true
 hd:tX K C=true
 po:xo K C=true
 sa:bG K (.ref C) "__setattr__"=some (some (.builtin "object.__setattr__"))
theorem Cls.get(c:Cls K C)(f:Str):pS K C f=true:=c.pg
def lw(K:FG)(C:Addr)(f:Str):Prop:=bG K (.ref C) f=some none
theorem lw.taker(n:lw K C f):xk K C f=some none:=by unfold xk;rw[show bG K (.ref C) f=some none from n];rfl
structure Con(K:FG)(C:Addr)(f:Str)(v:V)(u:Value):Prop where
 at_:bG K (.ref C) f=some (some u)
 rel:RelV v u
 get:C9 K u "__get__"=some none
 cp:PySem.W.copiedNames.contains f=false
structure Meth(K:FG)(C:Addr)(m:Str)(f:Addr):Prop where
 at_:bG K (.ref C) m=some (some (.ref f))
 fn:tD K (.ref f)=true
 kp:fw K (.ref f)=true
section
variable{X:Cx}{pins:PN}{J:St}{H:Hp}{s:Shared}{a C dx:Addr}{fs:List (Str×V)}{f:Str}{v:V}{A:Around}{E:VP}
theorem x5{b:Bool}{Q:VP}(I:Inv X pins J H s)(e:H a=some (.ins C dx fs))(c:Cls X.K C)(n:lw X.K C f)(l:fs.lookup f=some v)
  (h:∀u s',Inv X pins J H s'->RelV v u->Q u s'):wpAny (model X.p X.w) A (getAttr (.ref a) f b) Q E s:=by
 obtain⟨mA,k,r,_,_,_⟩:=uO I.h e;obtain⟨u,m,x⟩:=jK.some_of (v:=v) (o:=mA f) (by rw[<- l];exact r f);exact Ir I.kIn k (c.get f) c.hd n m (Cm x) (h u _ (I.tok _) x)
theorem jd{m:Str}{g:Addr}{p:Sem Bool}{Q:Value×LV->Shared->Prop}(I:Inv X pins J H s)(e:H a=some (.ins C dx fs))(c:Cls X.K C)(k:Meth X.K C m g)(l:fs.lookup m=none)
  (h:Q (.ref g,[.ref a]) s):wpAny (model X.p X.w) A (getMethod (.ref a) m p) Q E s:=by
 obtain⟨mA,x,r,_,_,_⟩:=uO I.h e;have n:mA m=none:=jK.none_of (by rw[<- l];exact r m);exact E4 I.kIn x (c.get m) k.at_ k.fn n h
theorem xF(I:Inv X pins J H s)(e:H a=some (.ins C dx fs))(c:Cls X.K C)(n:lw X.K C f)(hl:fs.length < 1000)(ry:RelV y u)
  (h:∀s',Inv X pins J (br H a (.ins C dx (io f y fs))) s'->Q () s'):wpAny (model X.p X.w) A (setAttr (.ref a) f u) Q E s:=by
 obtain⟨mA,O9,r,wi,_,ho⟩:=uO I.h e;have hz:(fs.map (·.1)).length≤sizeLine:=by rw[bv,jM];lia
 refine Hg I.kIn O9 c.sa c.po n.taker c.hd wi hz λh' O' sb=>h _ ?_;have hd:∃o,h'.get? dx=some o:=let ⟨o,_,_,e',_⟩:=O'.ns;⟨o,e'⟩
 refine I.write (x:=a) (e:=dx) (by rw[e];exact True.intro) (.inr ho) (λb q hb z=>(sb.2 b hb).trans z) hd ?_;refine⟨by rw[ar O9.ne];exact ho,?_,O9.ne,O'.obj,_,O'.ns,λg=>?_,λg hg=>?_⟩
 .have:=nW f y fs;lia
 .show jK ((io f y fs).lookup g) (if g=f then some u else mA g);rw[nV];by_cases q:g=f
  .rw [ag q,ag q];exact ry
  .rw [aj q,aj q];exact r g
 .by_cases q:g=f
  .rw [q];exact(nq f y fs).1
  .refine (nq f y fs).2 g (wi g λz=>hg ?_);show(if g=f then some u else mA g)=none;rw[aj q];exact z
theorem Inv.made(I:Inv X pins J H s):Inv X pins J (br (br H s.heap.objs.size (.own (s.heap.objs.size+1))) (s.heap.objs.size+1) (.ins C s.heap.objs.size []))
  { s with heap:=(s.heap.push i6).push (jP C s.heap.objs.size) }:=by
 have h:(s.heap.push i6).get? s.heap.objs.size=some i6:=aR s.heap rfl;have k:((s.heap.push i6).push (jP C s.heap.objs.size)).get? (s.heap.objs.size+1)=some (jP C s.heap.objs.size):=by have:=aR (s.heap.push i6) (o:=jP C s.heap.objs.size) rfl;rwa [kh]at this
 have f:(s.heap.push i6).Ns s.heap.objs.size (λ_=>none):=⟨i6,#[],_,h,rfl,(λe c=>absurd c (by simp)),λ_=>rfl⟩;have x:=I.laid (a:=s.heap.objs.size) (o:=.own (s.heap.objs.size+1)) (h':=s.heap.push i6) (t':=s.toks) (λb u q=>aF _ q) (al _) ⟨_,h⟩;refine x.laid (a:=s.heap.objs.size+1) (o:=.ins C s.heap.objs.size []) (t':=s.toks) (λb u q=>aF _ q) (y0 (kh _ _)) ?_;have n:s.heap.objs.size≠s.heap.objs.size+1:=aQ (d6 _);refine⟨by rw[ar n,aC],bW _,n,k,λ_=>none,(Heap.Ns1.of_empty f).at λo q=>aF _ q,λ_=>True.intro,λy m=>absurd rfl m⟩
theorem IS(b:attributeBase e f q (eval e q)=eval e q)
  (h:wpAny (model prog w) A (eval e q) (λo x=>wpAny (model prog w) A (getAttr o f true) Q E x) E s):wpAny (model prog w) A (eval (.Attribute e f B) q) Q E s:=
 Attribute_any_ h (by rw[arm_eval_Attribute,b])
end
def QQ(K:FG)(ta:TE)(f:Str):TE:=λJ H Q=>ta J H λx G=>∃a C dx fs v,x=.ref a/\G a=some (.ins C dx fs)/\Cls K C/\lw K C f/\fs.lookup f=some v/\Q v G
def QW(K:FG)(ta tv:TE)(f:Str):TS:=λD J H=>tv J H λy G=>ta J G λx H2=>∃a C dx fs,x=.ref a/\H2 a=some (.ins C dx fs)/\Cls K C/\lw K C f/\fs.length < 1000 /\
 D.nx J (br H2 a (.ins C dx (io f y fs)))
section
variable{X:Cx}{o e value:Expr}{f:Str}{B pos' tpos:Pos}{ta tv:TE}
theorem K6(t:PE X e ta)(r:attributeBase e f X.e (eval e X.e)=eval e X.e):PE X (.Attribute e f B) (QQ X.K ta f):=by intro pins s J H Q I h;refine IS r (b_ (t pins s J H _ I h) λu w z=>?_);obtain⟨x,G,k,d,a,C,dx,fs,v,ex,m,c,n,l,q⟩:=z;subst ex;obtain rfl:u=Value.ref a:=d;exact x5 k m c n l λi g b p=>⟨v,G,b,p,q⟩
theorem KS(r:PE X o ta)(v:PE X value tv)(t:swapsWith value (some (.Attribute o f pos')) B.line X.e=pure false):PS X (.Assign [.Attribute o f pos'] value B) (QW X.K ta tv f):=by intro pins s J H D I h;refine plainObj_wpAny_Assign_Attribute (b_ (v pins s J H _ I h) λu i ⟨y,G,e,g,q⟩=>b_ (r pins i J G _ e q) λp j z=>?_) t;obtain⟨x,H2,k,w,a,C,dx,fs,ex,m,c,n,l,d⟩:=z;subst ex;obtain rfl:p=Value.ref a:=w;exact xF k m c n l g λS b=>⟨J,_,b,d⟩
end
section
variable{X:Cx}{pins:PN}{J:St}{H:Hp}{s:Shared}{A:Around}{E:VP}{Q:VP}{c:Value}{b:Bool}
inductive TyOf(K:FG)(H:Hp):V->Value->Prop where
 |non:TyOf K H .non (.type "NoneType")
 |bl (x:Bool):TyOf K H (.bl x) (.type "bool")
 |int (i:Int):TyOf K H (.int i) (.type "int")
 |str (x:Str):TyOf K H (.str x) (.type "str")
 |flt (x:UInt64):TyOf K H (.flt x) (.type "float")
 |lst {a:Addr}{xs:List V} (e:H a=some (.lst xs)):TyOf K H (.ref a) (.type "list")
 |frz {a:Addr}{o:Obj}{xs:List V} (e:H a=some (.frz o (.lst xs))):TyOf K H (.ref a) (.type "list")
 |tup {a:Addr}{xs:List V} (e:H a=some (.tup xs)):TyOf K H (.ref a) (.type "tuple")
 |dK {a:Addr}{kvs:List (dj×V)} (e:H a=some (.dK kvs)):TyOf K H (.ref a) (.type "dict")
 |dT {a:Addr}{kvs:List (List dj×V)} (e:H a=some (.dT kvs)):TyOf K H (.ref a) (.type "dict")
 |ins {a C dx:Addr}{fs:List (Str×V)} (e:H a=some (.ins C dx fs)) (cl:Cls K C) (ha:bG K (.ref C) "__class__"=some (some (.builtin "object.__class__")))
   (hn:C9 K (.builtin "object.__class__") "__get__"=some (some (.builtin "getset_descriptor.__get__"))) (htk:PySem.W.takesIn K (.builtin "object.__class__")=some true)
   (hm:PySem.W.mroIn K C (.type "object")=some true):TyOf K H (.ref a) (.ref C)
end
structure Room(k:Nat)(A:Around):Prop where
 hd:A.handled=none
 dp:A.depth+3 * k+5 < recursionLimit
 un:A.units+16 * k+200 < cLine
variable{k:Nat}
theorem Room.mono(r:Room k A)(h:q≤k):Room q A:=⟨r.hd,by have:=r.dp;lia,by have:=r.un;lia⟩
theorem Room.deeper(r:Room (k+1) A)(e:Env):Room k (A.deeper e):=
 ⟨r.hd,by have:=r.dp;show A.depth+1+3 * k+5 < _;lia,by have:=r.un;show A.units+3+16 * k+200 < _;lia⟩
variable{kw:List (Str×Value)}
theorem xQ:(A.under (.builtin "type.__call__" ⟨.ref C::j,kw⟩)).depth=A.depth+1:=by first|rfl|simp[tZ,Code.weight,Code.isCreation,Code.isGuard,Code.isCaller,Code.frames,Code.isFrame,guardIds]
theorem xP:(A.under (.builtin "type.__call__" ⟨.ref C::j,kw⟩)).units=A.units+1:=by first|rfl|simp[tZ,Code.cUnits,Code.frames,Code.isFrame]
theorem Room.make(r:Room (k+1) A)(C:Addr)(j:LV)(kw:List (Str×Value)):Room k (A.under (.builtin "type.__call__" ⟨.ref C::j,kw⟩)):=
 ⟨r.hd,by have:=r.dp;rw[xQ];lia,by have:=r.un;rw[xP];lia⟩
theorem Room.depth(r:Room k A):A.depth < recursionLimit:=by have:=r.dp;lia
noncomputable def Nr:TA:=λ_ H Q=>Q [] H
noncomputable def Nx(ta:TE)(tr:TA):TA:=λJ H Q=>ta J H λx G=>tr J G λxs H2=>Q (x::xs) H2
section
variable{X:Cx}{e:Expr}{es:Ab}{te:TE}{t:TA}{B:Pos}
theorem dI:PA X [] Nr:=λ_ _ _ _ H Q I h=>dC ⟨[],H,I,.nil,h⟩
theorem cq(k:PE X e te)(r:PA X es t)(f:starEach (e::es) X.e=(false,eval e X.e)::starEach es X.e:=by rfl):PA X (e::es) (Nx te t):=by intro B pins s J H Q I h;rw[f];show wpAny _ _ (spliced ((false,eval e X.e)::backTo B (starEach es X.e))) _ _ s;refine cm (b_ (k pins s J H _ I h) λu p z=>?_);obtain⟨x,G,a,c,q⟩:=z;exact b_ (r B pins p J G _ a q) λj v z=>by obtain⟨xs,H2,n,m,b⟩:=z;exact⟨x::xs,H2,n,.cons c m,b⟩
def QI(t:TA):TE:=λJ H Q=>t J H λxs G=>xs.length≤sizeLine/\∀p,G p=none->Q (.ref p) (br G p (.tup xs))
def QN(t:TA):TE:=λJ H Q=>t J H λxs G=>xs.length≤sizeLine/\∀p,G p=none->Q (.ref p) (br G p (.lst xs))
theorem qd {N} (h:PA X es t):PE X (.Tuple es N B) (QI t):=by intro pins s J H Q I n;refine wpAny_Tuple_spliced (b_ (h B pins s J H _ I n) λj x k=>?_);obtain⟨xs,G,a,r,z,q⟩:=k;refine⟨by rw[<- r.length];exact z,?_⟩;have f:G x.heap.objs.size=none:=a.h.fresh (al _);refine⟨.ref x.heap.objs.size,br G x.heap.objs.size (.tup xs),a.laid (t':=x.toks) (λb u e=>aF _ e) (al _) ?_,rfl,q _ f⟩;exact⟨z,j,r,nQ.new _ _⟩
theorem xM(h:PA X es t):PE X (.List es B) (QN t):=by intro pins s J H Q I n;refine wpAny_List_spliced (b_ (h B pins s J H _ I n) λj x k=>?_);obtain⟨xs,G,a,r,z,q⟩:=k;refine⟨by rw[<- r.length];exact z,?_⟩;have f:G x.heap.objs.size=none:=a.h.fresh (al _);refine⟨.ref x.heap.objs.size,br G x.heap.objs.size (.lst xs),a.laid (t':=x.toks) (λb u e=>aF _ e) (al _) ?_,rfl,q _ f⟩;exact⟨z,j,0,r,aR _ rfl⟩
end
noncomputable abbrev Sp:=List V->Hp->VK->XK->Prop
noncomputable abbrev CY:=List Env->Hp->Shared->XK->VP
structure Env0(P:Program)(w:World)(K:FG)(mg:SV)(base:Heap)(A:Around)(outer:List Env)(s:Shared)(H:Hp):Prop where
 frames:A.frames=some outer
 mod:Mod K mg base
 bs:∀b o,base.get? b=some o->s.heap.get? b=some o/\H b=none
 bsz:base.objs.size≤s.heap.objs.size
 funs:s.heap.FunFrames base outer
 frf:∀b ∈ wW outer,H b=none
 tab:∀P ∈ bR K,H P=some .tbl
 h:iB P w H s.heap
 bare:AllBare s.gens
def CE(o:List Env)(P:Program)(w:World)(H:Hp)(s:Shared)(Q:VK)(u:Value)(s':Shared):Prop:=
 ∃v H',s'.os=s.os/\AllBare s'.gens/\Un (wW o) [] H H' s.heap s'.heap/\iB P w H' s'.heap/\RelV v u/\Q v H'
def CR(CX:CY)(o:List Env)(P:Program)(w:World)(H:Hp)(s:Shared)(Q:VK)(E:XK)(r:Result)(s':Shared):Prop:=
 match r with
 | .ok (.ret u)=>CE o P w H s Q u s'
 | .ok _=>False
 | .error e=>CX o H s E e s'
structure FnOk(P:Program)(w:World)(K:FG)(mg:SV)(base:Heap)(CX:CY)(k:Nat)(f:Addr)(fd:FuncData)(ps:LS)(sp:Sp):Prop where
 len:∀vs H Q E,sp vs H Q E->vs.length=ps.length
 run:∀(A:Around)(outer:List Env)(s:Shared)(H:Hp)(args:Args)(us:LV)(vs:List V)(Q:VK)(E:XK),Room k A->Env0 P w K mg base A outer s H->BindsTo s fd args (ps.zip us)->aU vs us->sp vs H Q E ->
  codeAny (model P w) A (.call (.ref f) args) (CR CX outer P w H s Q E) s
variable{mg:SV}{base:Heap}{fd:FuncData}{ps:LS}
theorem FnOk.mono(F:FnOk P w K mg base CX q f fd ps sp)(h:q≤k) :
  FnOk P w K mg base CX k f fd ps sp:=⟨F.len,λA o s H a j v Q E r=>F.run A o s H a j v Q E (r.mono h)⟩
theorem FnOk.imp(F:FnOk P w K mg base CX k f fd ps sp)
  (h:∀v H Q E,z v H Q E->sp v H Q E):FnOk P w K mg base CX k f fd ps z:=
 ⟨λv H Q E q=>F.len v H Q E (h _ _ _ _ q),λA o s H a j v Q E r e b n x=>F.run A o s H a j v Q E r e b n (h _ _ _ _ x)⟩
theorem Env0.make(e:Env0 P w K mg base A q s H)(C:Addr)(j:LV)(kw:List (Str×Value)) :
  Env0 P w K mg base (A.under (.builtin "type.__call__" ⟨.ref C::j,kw⟩)) q s H:=⟨by first|exact e.frames|(simpa[tZ,Code.envs,Code.isFrame,pushEnvs] using e.frames),e.mod,e.bs,e.bsz,e.funs,e.frf,e.tab,e.h,e.bare⟩
section
variable{X:Cx}{pins:PN}{J:St}{H:Hp}{s s':Shared}
theorem Inv.env0(I:Inv X pins J H s):Env0 X.p X.w X.K X.g X.b X.A X.k s H:=
 ⟨I.o.frames,I.o.mod,I.bs,ba I.o.bsz I.sz,I.stack,I.stkFree,λP hP=>I.base.tbls P (I.o.tab P hP),I.h,I.bare⟩
theorem Inv.after(I:Inv X pins J H s)(h:CE X.k X.p X.w H s Q u s'):EP X pins J Q u s':=by obtain⟨v,H',os,a,un,o,r,q⟩:=h;obtain⟨e,g,d,t,x⟩:=s';obtain rfl:x=s.os:=os;exact⟨v,H',I.call (h':=e) (g':=g) (d':=d) (t':=t) (ch:=[]) un o a (λb z=>absurd z (by simp)),r,q⟩
end
noncomputable def Ny(sp:Sp)(dvs:List V)(E:XK)(t:TA):TE:=λJ H Q=>t J H λv G=>sp (v++dvs) G Q E
def DG(C:Addr)(m:Str)(sp:Sp)(dvs:List V)(E:XK)(ta:TE)(t:TA):TE:=λJ H Q=>ta J H λx G=>∃a dx fs,x=.ref a/\G a=some (.ins C dx fs)/\fs.lookup m=none /\
 t J G λv H2=>sp (x::(v++dvs)) H2 Q E
def Nu(C:Addr)(sp:Sp)(dvs:List V)(E:XK)(t:TA):TE:=λJ H Q=>t J H λs G=>∀x dx,G x=none->G dx=none->dx≠x ->
 sp (.ref x::(s++dvs)) (br (br G dx (.own x)) x (.ins C dx [])) (λv H2=>v=.non/\Q (.ref x) H2) E
def Binds(K:FG)(fd:FuncData)(ps:LS)(ds:LV):Prop:=
 ∀(s:Shared)(j:LV),K.In s.heap->(j++ds).length=ps.length->BindsTo s fd ⟨j,[]⟩ (ps.zip (j++ds))
theorem Binds.all(h:∀j:LV,j.length=ps.length->bindArgs fd ⟨j,[]⟩=pure (ps.zip j)):Binds K fd ps []:=λs j _ l=>by rw[cW]at l ⊢;exact .of_eq (h j l)
def lv(CX:CY)(X:Cx)(E:XK):Prop:=∀(pins:PN)(J:St)(H:Hp)(s:Shared)(e:Value)(s':Shared),Inv X pins J H s->CX X.k H s E e s'->X.xe e s'
section
variable{X:Cx}{CX:CY}{k:Nat}{f C:Addr}{fd:FuncData}{ps:LS}{sp:Sp}{dvs:List V}{ds:LV}{E:XK}{x m:Str}{p B apos:Pos}{e o:Expr}{es:Ab}{ta:TE}{t:TA}
set_option tactic.hygienic true in
theorem xI(F:FnOk X.p X.w X.K X.g X.b CX k f fd ps sp)(n:Room k X.A)(b:Binds X.K fd ps ds)(d:aU dvs ds)(c:lv CX X E)
  (I:Inv X pins J H s) (r:aU z j) (h:sp (z++dvs) H Q E):wpAny (model X.p X.w) X.A (call (.ref f) j) (EP X pins J Q) X.xe s:=by
 have x:aU (z++dvs) (j++ds):=r.append d;have a:(j++ds).length=ps.length:=by rw[<- x.length];exact F.len _ _ _ _ h
 refine mS (jN (F.run X.A X.k s H ⟨j,[]⟩ (j++ds) (z++dvs) Q E n I.env0 (b s j I.kIn a) x h) λr s' q=>?_);cases r with
 |error e=>exact c pins J H s e s' I q
 |ok l=>
  cases l with
  |ret u=>exact I.after q
  |next=>exact False.elim q
  |brk=>exact False.elim q
  |cont=>exact False.elim q
theorem uF(F:FnOk X.p X.w X.K X.g X.b CX k f fd ps sp)(w:Room k X.A)(g:Gl X x)(v:X.g x=some (.ref f))(hk:fw X.K (.ref f)=true)(b:Binds X.K fd ps ds)(c:aU dvs ds)(u:lv CX X E)
  (n:PA X (e::es) t) (d:(x == ("__debug__":Str))=false:=by decide) (m:starEach (e::es) X.e=(false,eval e X.e)::starEach es X.e:=by rfl) (l:(backTo B (starEach es X.e)).any (·.1)=false:=by rfl) :
  PE X (.Call (.Name x p) (e::es) [] B) (Ny sp dvs E t):=by
 intro pins s J H Q I h;refine ii (pA I g v ?_ d);refine mW (h₀:=X.b) I.o.mod.kin hk (b_ (n B pins s J H _ I h) λj i z=>?_) m l;obtain⟨y,G,a,r,q⟩:=z;refine⟨a.kIn,?_⟩;exact xI F w b c u a r q
theorem HC(S:PE X o ta)(c:Cls X.K C)(d:Meth X.K C m f)(F:FnOk X.p X.w X.K X.g X.b CX k f fd ps sp)(K:Room k X.A)(i:Binds X.K fd ps ds)(y:aU dvs ds)(A:lv CX X E)(g:PA X (e::es) t)
  (n:starEach (e::es) X.e=(false,eval e X.e)::starEach es X.e:=by rfl) (p:(backTo B (starEach es X.e)).any (·.1)=false:=by rfl)
  (P:eval (.Call (.Attribute o m apos) (e::es) [] B) X.e=(do
   let N <- eval o X.e
   standAt apos.atName
   let (f,first) <- holding [N] (getMethod N m pl)
   callWith B f first (backTo B (starEach (e::es) X.e)) (backToKw B (keywordEach [] X.e))):=by rfl) :
  PE X (.Call (.Attribute o m apos) (e::es) [] B) (DG C m sp dvs E ta t):=by
 intro pins s J H Q I h;refine t0 (pl:=pl) (b_ (S pins s J H _ I h) λu M z=>?_) P;obtain⟨x,G,b,L,a,dx,fs,ex,w,l,q⟩:=z;subst ex;obtain rfl:u=Value.ref a:=L;refine jd b w c d l ?_;refine mW (first:=[.ref a]) (h₀:=X.b) I.o.mod.kin d.kp (b_ (g B pins M J G _ b q) λj T z=>?_) n p;obtain⟨R,H2,v,r,D⟩:=z;refine⟨v.kIn,?_⟩;exact xI (j:=.ref a::j) (z:=.ref a::R) F K i y A v (.cons rfl r) D
theorem D7(t:PE X o ta)(c:Cls X.K C)(n:Meth X.K C m f)(F:FnOk X.p X.w X.K X.g X.b CX k f fd ps sp)(p:Room k X.A)(r:Binds X.K fd ps ds)(d:aU dvs ds)(w:lv CX X E)
  (v:eval (.Call (.Attribute o m apos) [] [] B) X.e=(do
   let z <- eval o X.e
   standAt apos.atName
   let (f,first) <- holding [z] (getMethod z m N)
   callWith B f first (backTo B (starEach [] X.e)) (backToKw B (keywordEach [] X.e))):=by rfl) :
  PE X (.Call (.Attribute o m apos) [] [] B) (DG C m sp dvs E ta Nr):=by
 intro pins s J H Q I h;refine t0 (pl:=N) (b_ (t pins s J H _ I h) λu y g=>?_) v;obtain⟨x,G,e,i,a,dx,fs,ex,b,l,q⟩:=g;subst ex;obtain rfl:u=Value.ref a:=i;refine jd e b c n l ?_;exact PySem.W.callWith_K0 (first:=[.ref a]) e.kIn n.kp (xI (j:=[.ref a]) (z:=[.ref a]) F p r d w e (.cons rfl .nil) q)
structure Mk(K:FG)(C f:Addr):Prop where
 makes:xj K C=true
 init:bG K (.ref C) "__init__"=some (some (.ref f))
 fn:tD K (.ref f)=true
 kp:fw K (.ref C)=true
set_option tactic.hygienic true in
theorem DQ(M:Mk X.K C f)(F:FnOk X.p X.w X.K X.g X.b CX k f fd ps sp)(w:Room (k+1) X.A)(t:Binds X.K fd ps ds)(d:aU dvs ds)
  (g:lv CX X E) (I:Inv X pins J H s) (r:aU z j)
  (h:∀x dx,H x=none->H dx=none->dx≠x->sp (.ref x::(z++dvs)) (br (br H dx (.own x)) x (.ins C dx [])) (λv H2=>v=.non/\Q (.ref x) H2) E) :
  wpAny (model X.p X.w) X.A (call (.ref C) j) (EP X pins J Q) X.xe s:=by
 have n:=h (s.heap.objs.size+1) s.heap.objs.size (I.h.fresh (iV _)) (I.h.fresh (al _)) (aQ (d6 _));have a:=Inv.made (C:=C) I;have b:aU (V.ref (s.heap.objs.size+1)::(z++dvs)) (Value.ref (s.heap.objs.size+1)::(j++ds)):=.cons rfl (r.append d);have p:(Value.ref (s.heap.objs.size+1)::j++ds).length=ps.length:=by have e:=b.length;rw[F.len _ _ _ _ n]at e;exact e.symm
 refine mS (Ep (f:=f) I.kIn M.makes M.init (lE.mp M.fn) (jN (F.run _ X.k _ _ ⟨Value.ref (s.heap.objs.size+1)::j,[]⟩ (Value.ref (s.heap.objs.size+1)::(j++ds)) _ _ E (w.make C j [])
  (a.env0.make C j []) (t _ (Value.ref (s.heap.objs.size+1)::j) a.kIn p) b n) λr s' q=>?_))
 cases r with
 |error e=>exact g pins J _ _ e s' a q
 |ok l=>
  cases l with
  |ret u=>obtain⟨v,H',c,y,m,i⟩:=a.after q;subst m;exact⟨y,⟨V.ref (s.heap.objs.size+1),H',c,rfl,i⟩⟩
  |next=>exact False.elim q
  |brk=>exact False.elim q
  |cont=>exact False.elim q
theorem A6(M:Mk X.K C f)(F:FnOk X.p X.w X.K X.g X.b CX k f fd ps sp)(w:Room (k+1) X.A)(g:Gl X x)(v:X.g x=some (.ref C))(b:Binds X.K fd ps ds)(c:aU dvs ds)(u:lv CX X E)
  (n:PA X (e::es) t) (d:(x == ("__debug__":Str))=false:=by decide) (m:starEach (e::es) X.e=(false,eval e X.e)::starEach es X.e:=by rfl) (l:(backTo B (starEach es X.e)).any (·.1)=false:=by rfl) :
  PE X (.Call (.Name x p) (e::es) [] B) (Nu C sp dvs E t):=by
 intro pins s J H Q I h;refine ii (pA I g v ?_ d);refine mW (h₀:=X.b) I.o.mod.kin M.kp (b_ (n B pins s J H _ I h) λj i z=>?_) m l;obtain⟨y,G,a,r,q⟩:=z;refine⟨a.kIn,?_⟩;exact DQ M F w b c u a r q
end
section
variable{X:Cx}{CX:CY}{k:Nat}{f C:Addr}{fd:FuncData}{ps ks:LS}{sp:Sp}{E:XK}{x m:Str}{p B apos kpos:Pos}{e o:Expr}{es:Ab}{kws:List Keyword}{te ta:TE}{t tk:TA}{nm:Option Str}
structure KBinds(K:FG)(fd:FuncData)(ps ks:LS)(g:LV->LV->LV)(gV:List V->List V->List V):Prop where
 to:∀(s:Shared)(us ws:LV),K.In s.heap->(g us ws).length=ps.length->BindsTo s fd ⟨us,ks.zip ws⟩ (ps.zip (g us ws))
 rel:∀{vs:List V}{us:LV}{zs:List V}{ws:LV},aU vs us->aU zs ws->aU (gV vs zs) (g us ws)
variable{g:LV->LV->LV}{gV:List V->List V->List V}
end
structure FnScope(N P:LS)(sc:Scope):Prop where
 kind:sc.kind=.function
 co:sc.isCoroutine=false
 gen:sc.isGenerator=false
 nd:N.Nodup
 pre:N.take P.length=P
 par:∀x ∈ P,sc.names.lookup x=some .local\/sc.names.lookup x=some .cell
 nofree:∀y ∈ sc.names,y.2≠.free
theorem sM{kindOf:Str->Option NameKind}{x:Str}:∀{b:List (Str×Value)}{m:SV},(∀v,(x,v) ∉ b)->bindL kindOf b m x=m x
 | [],_,_=>rfl
 |(n,v)::r,m,h=>by
  unfold bindL;rw[sM λw a=>h w (aN _ a)];split
  .have:x≠n:=by rintro rfl;exact h v aJ
   simp[this]
  .rfl
theorem sO{kindOf:Str->Option NameKind}{x:Str}:∀{b:List (Str×Value)}{m:SV},(∀v,(x,v) ∉ b)->bindC kindOf b m x=m x
 | [],_,_=>rfl
 |(n,v)::r,m,h=>by
  unfold bindC;rw[sO λw a=>h w (aN _ a)];split
  .rfl
  .have:x≠n:=by rintro rfl;exact h v aJ
   simp[this]
theorem sN{kindOf:Str->Option NameKind}{x:Str}{v:Value}:∀{P:LS}{s:LV}{i:Nat}{m:SV},P.Nodup->P[i]? = some x->s[i]? = some v->kindOf x=some .local ->
  bindL kindOf (P.zip s) m x=some v
 | [],_,_,_,_,h,_,_=>by simp at h
 |_::_,[],_,_,_,_,h,_=>by simp at h
 |p::P,w::s,0,m,n,h1,h2,hk=>by simp at h1 h2;subst h1;subst h2;show bindL kindOf ((p,w)::P.zip s) m p=_;unfold bindL;rw[sM λv a=>(bL.mp n).1 (o7 a).1,ag hk];simp
 |p::P,w::s,i+1,m,n,h1,h2,hk=>by show bindL kindOf ((p,w)::P.zip s) m x=_;unfold bindL;exact sN (i:=i) (bL.mp n).2 (by simpa using h1) (by simpa using h2) hk
theorem sP{kindOf:Str->Option NameKind}{x:Str}{v:Value}:∀{P:LS}{s:LV}{i:Nat}{m:SV},P.Nodup->P[i]? = some x->s[i]? = some v->kindOf x≠some .local ->
  bindC kindOf (P.zip s) m x=some v
 | [],_,_,_,_,h,_,_=>by simp at h
 |_::_,[],_,_,_,_,h,_=>by simp at h
 |p::P,w::s,0,m,n,h1,h2,hk=>by simp at h1 h2;subst h1;subst h2;show bindC kindOf ((p,w)::P.zip s) m p=_;unfold bindC;rw[sO λv a=>(bL.mp n).1 (o7 a).1,aj hk];simp
 |p::P,w::s,i+1,m,n,h1,h2,hk=>by show bindC kindOf ((p,w)::P.zip s) m x=_;unfold bindC;exact sP (i:=i) (bL.mp n).2 (by simpa using h1) (by simpa using h2) hk
noncomputable def start(N:LS)(v:List V):St:=v.map some++List.replicate (N.length-v.length) none
noncomputable def wy(CX:CY)(P:Program)(w:World)(K:FG)(mg:SV)(base:Heap)(N:LS)(q:Str)(h:Scope)(f:Addr)(d:Value)(A:Around)(u:List Env)(s:Shared)(H:Hp)(E:XK):Cx where
 p:=P
 w:=w
 K:=K
 g:=mg
 b:=base
 A:=A.deeper (envOfC q h s.heap.objs.size f d)
 N:=N
 z:=s
 y:=H
 e:=envOfC q h s.heap.objs.size f d
 o:=u
 k:=envOfC q h s.heap.objs.size f d::u
 ex:=[]
 c:=true
 fn:=λ_=>true
 pn:=[]
 xe:=λe s'=>wpAny (model P w) (A.deeper (envOfC q h s.heap.objs.size f d)) (leaving (envOfC q h s.heap.objs.size f d) e) (λ_ x=>CX u H s E e x) (λa x=>CX u H s E a x) s'
variable{x:Str}
theorem wH{sc:Scope}(h:sc.names.lookup x=some .cell):∃c,(cellsFrom n sc.names []).lookup x=some c:=by have q:=Dd sc.names n [] (.inl h);exact lC.mp q
theorem Ch{CX:CY}{P:Program}{w:World}{K:FG}{mg:SV}{base:Heap}{N ps:LS}{l:Str}{o:Scope}{f:Addr}{C:Value}{A:Around}{t:List Env}{s G:Shared}{H:Hp}{E:XK}{j:LV}{F:List V}
  (S:FnScope N ps o) (L:A.handled=none) (m:Env0 P w K mg base A t s H) (T:F.length=ps.length) (r:aU F j)
  (x:InCallC s s.heap.objs.size (bindL (envOfC l o s.heap.objs.size f C).kindOf (ps.zip j) λ_=>none) (cellsFrom (s.heap.objs.size+1) o.names []) (bindC (envOfC l o s.heap.objs.size f C).kindOf (ps.zip j) λ_=>none) G) :
  Inv (wy CX P w K mg base N l o f C A t s H E) [] (start N F) H G:=by
 have M:ps.length≤N.length:=by have:=bX d9 S.pre;rw[cX]at this;lia
 obtain⟨h1,tk,rfl,hk⟩:=x.done;have g:∀b:Addr,b ∉ (wy CX P w K mg base N l o f C A t s H E).ex:=fun b z=>absurd (show b ∈ ([]:List Addr) from z) (by simp);refine⟨⟨m.mod,S.kind,rfl,rfl,al _,fun y z c h1 h2=>?_,fun y d=>?_,fun y c _ h=>?_,fun _=>L,zG m.frames,.inr ⟨rfl,rfl⟩,fun b z=>absurd z (g b),m.bs,m.bsz,fun b _ _=>g b,fun b z=>absurd z (g b),m.funs,m.frf,m.tab⟩,
  rfl,m.bare,Un.kept hk,⟨_,x.toInCall.ns,λi y v h1 h2 R=>?_⟩,λy c h=>⟨_,x.cell y c h⟩,m.h.fresh (al _),λy c h=>?_,λp B=>absurd (show p ∈ ([]:PN) from B) (by simp),m.h.kept hk,?_⟩
 .exact name_of_addr x.apart (pO h1) (pO h2)
 .have d:o.names.lookup y=some .cell\/o.names.lookup y=some .free:=d;rcases d with d|d
  .exact wH d
  .exact absurd rfl (S.nofree _ (pO d))
 .exact d0 (x.above y c (pO h))
 .have hi:i < F.length:=by
   unfold start at h2;by_cases hi:i < F.length
   .exact hi
   .rw [bF (by simpa using hi)]at h2;rw[tT]at h2;split at h2<;>cases h2
  have I:F[i]? = some v:=by
   unfold start at h2;rw[bE (by simpa using hi),fF]at h2;cases e:F[i]? with
   |none=>rw[e]at h2;cases h2
   |some a=>rw[e]at h2;cases h2;rfl
  obtain⟨u,D,Q⟩:=r.get I;have B:ps[i]? = some y:=by rw[<- S.pre,cY (by lia)];exact h1
  have Lr:ps.Nodup:=by rw[<- S.pre];exact S.nd.sublist (zo _ _)
  refine⟨u,Q,?_⟩;rcases S.par y (dg B) with k|k
  .exact .inl ⟨k,sN Lr B D k⟩
  .obtain⟨c,e⟩:=wH (n:=s.heap.objs.size+1) k;refine .inr ⟨.inl k,c,e,?_⟩;have q:=x.cell y c e;rw[sP Lr B D (by show o.names.lookup y≠_;rw[k];decide)]at q;exact q
 .exact m.h.fresh (d0 (x.above y c (pO h)))
 .unfold start;show _=N.length;rw[bc,bv,zw];lia
set_option tactic.hygienic true in
theorem OH{CX:CY}{P:Program}{w:World}{K:FG}{mg:SV}{base:Heap}{k:Nat}{f:Addr}{name a:Str}{p:Arguments}{m:List Stmt}{c:Scope}{dV kV B pm d ct oc:Value}{Z od:Option Addr}
  {T:Array (OV)}{N ps:LS}{sp:Sp} (lk:K.lookup f=some ⟨oc,od,.func (ij name a p m c dV kV B pm Z d ct),T⟩) (L:ik K d a=true) (S:FnScope N ps c)
  (len:∀g H Q E,sp g H Q E->g.length=ps.length)
  (l:∀(A:Around) (h:List Env) (s:Shared) (H:Hp) (g:List V) (Q:VK) (E:XK),Room k (A.deeper (envOfC a c s.heap.objs.size f d))->sp g H Q E ->
   ∃t,oy (wy CX P w K mg base N a c f d A h s H E) m t/\t { nx:=λ_ H'=>Q .non H',rt:=Q } (start N g) H) :
  FnOk P w K mg base CX (k+1) f (ij name a p m c dV kV B pm Z d ct) ps sp:=by
 refine⟨len,λA h s H args j g Q E M C hb r D=>?_⟩;have hl:=len _ _ _ _ D;have X:K.In s.heap:=C.mod.kin.keeps λb o e=>(C.bs b o e).1;have R:s.heap.NoLimit:=C.mod.nolimit.keeps λb o e=>(C.bs b o e).1;have z:∀y ∈ ps.zip j,c.names.lookup y.1=some .local\/(c.names.lookup y.1=some .cell/\((cellsFrom (s.heap.objs.size+1) c.names []).lookup y.1).isSome=true):=λ⟨n,v⟩ hy=>by
  rcases S.par n (o7 hy).1 with q|q
  .exact .inl q
  .exact .inr ⟨q,Dd _ _ _ (.inl q)⟩
 refine codeAny_call_function M.depth (X _ _ lk) rfl S.co S.gen rfl (PySem.W.codeRec_of X L) (hb _ _ _ _ ?_);refine wpAny_newFunctionEnv_cells S.kind z λenv he s1 x=>?_;subst he;refine⟨R.keeps x.toInCall.keep,codeAny_func ?_⟩;obtain⟨t,ht,hq⟩:=l A h s H g Q E (M.deeper _) D;have I:Inv (wy CX P w K mg base N a c f d A h s H E) [] (start N g) H s1:=Ch S M.hd C hl r x;refine bN (ht [] s1 (start N g) H _ I hq) (λfl s' F=>?_) λe s' F=>F;have dH:∀{G:St}{H':Hp}{v:V}{u:Value},Inv (wy CX P w K mg base N a c f d A h s H E) [] G H' s'->RelV v u->Q v H'->CE h P w H s Q u s':=
  λ{G H' v u} i W q=>⟨v,H',i.os,i.bare,i.base,i.h,W,q⟩
 cases fl with
 |ret u=>obtain⟨v,G,H',i,W,q⟩:=F;exact dH i W q
 |next=>obtain⟨G,H',i,q⟩:=F;exact dH (v:=V.non) (u:=Value.none) i rfl q
 |brk=>obtain⟨_,_,_,q⟩:=F;exact False.elim q
 |cont=>obtain⟨_,_,_,q⟩:=F;exact False.elim q
section
variable{X:Cx}{x:Str}{p B:Pos}{e:Expr}{es:Ab}{t:TA}{id T:String}{r:List V->Hp->VK->Prop}
noncomputable def RV(r:List V->Hp->VK->Prop)(t:TA):TE:=λJ H Q=>t J H λv G=>r v G Q
theorem iF(c:cN X (.builtin id) r)(g:Gl X x)(m:X.g x=none)(v:bootBuiltins x=some (.builtin id))(n:PA X (e::es) t)(f:x≠"__name__":=by decide)(d:(x == ("__debug__":Str))=false:=by decide)
  (k:starEach (e::es) X.e=(false,eval e X.e)::starEach es X.e:=by rfl) (l:(backTo B (starEach es X.e)).any (·.1)=false:=by rfl):PE X (.Call (.Name x p) (e::es) [] B) (RV r t):=by
 intro pins s J H Q I h;refine ii (ir I g m v ?_ f d);exact GR (b_ (n B pins s J H _ I h) λj w z=>by obtain⟨u,G,a,b,q⟩:=z;exact c pins w J G u j Q a b q) k l
theorem iD(c:cN X (.type T) r)(g:Gl X x)(m:X.g x=none)(v:bootBuiltins x=some (.type T))(n:PA X (e::es) t)(f:x≠"__name__":=by decide)(d:(x == ("__debug__":Str))=false:=by decide)
  (k:starEach (e::es) X.e=(false,eval e X.e)::starEach es X.e:=by rfl) (l:(backTo B (starEach es X.e)).any (·.1)=false:=by rfl):PE X (.Call (.Name x p) (e::es) [] B) (RV r t):=by
 intro pins s J H Q I h;refine ii (ir I g m v ?_ f d);exact g6 (b_ (n B pins s J H _ I h) λj w z=>by obtain⟨u,G,a,b,q⟩:=z;exact c pins w J G u j Q a b q) k l
end
end L2
set_option tactic.hygienic true
namespace HT
open PySem PyProof.Rows
section
variable{prog:Program}{w:World}{A:Around}{E:VP}{s:Shared}
theorem IL(i:IsTup s.heap t z.toArray)(g:IsTup s.heap b q.toArray)(v:z≠[])
  (h1:q=[]->Q (.ref t) s) (h2:q≠[]->Q (.ref s.heap.objs.size) { s with heap:=s.heap.push { cls:=.type "tuple",data:=.seq (z++q).toArray } })
  (k:z.length+q.length≤sizeLine):wpAny (model prog w) A (binaryOp .Add (.ref t) (.ref b)) Q E s:=by
 obtain⟨⟨N,dd,I,u⟩,o,m,n,r⟩:=id i;obtain⟨⟨f,d,data2,l⟩,h,c,p,x⟩:=id g;simp only at m r c x;subst m r c x;have e:z.toArray++q.toArray=(z++q).toArray:=by simp
 by_cases a:q=[]
 .exact ui ⟨_,o,rfl⟩ ⟨_,h,rfl⟩ w8 wY uc ud (uf _ _)
   (tuple_addW1 t b z.toArray q.toArray n p dd d u l (by simpa using v) (by simp[a])) ⟨o,h,h1 a⟩
 .refine ui ⟨_,o,rfl⟩ ⟨_,h,rfl⟩ w8 wY uc ud (uf _ _)
   (tuple_addW2 t b z.toArray q.toArray n p dd d u l (by simpa using v) (by simpa using a) (by rw[aY,aY];exact k)) ⟨o,h,?_⟩
  rw[e];exact h2 a
noncomputable def dP(n d:Nat):Option Int->Nat
 |none=>d
 |some v=>if v < 0 then (v+(n:Int)).toNat else min v.toNat n
theorem vM(n d:Nat):dP n d none=d:=rfl
theorem Hl(n d k:Nat):dP n d (some (k:Int))=min k n:=by show(if (k:Int) < 0 then ((k:Int)+(n:Int)).toNat else min (k:Int).toNat n)=min k n;rw[aj (by lia),ke]
theorem KD(n d:Nat)(x:d≤n)(o:Option Int):dP n d o≤n:=by
 cases o with
 |none=>exact x
 |some v=>
  show(if v < 0 then (v+(n:Int)).toNat else min v.toNat n)≤n;by_cases h:v < 0
  .rw [ag h];lia
  .rw [aj h];exact Nat.min_le_right _ _
theorem BI(v:Int)(n d:Nat):(if v < 0 then max (v+(n:Int)) 0 else min v (n:Int))=((dP n d (some v):Nat):Int):=by
 show(if v < 0 then max (v+(n:Int)) 0 else min v (n:Int))=(((if v < 0 then (v+(n:Int)).toNat else min v.toNat n):Nat):Int);by_cases h:v < 0
 .simp only[ag h];lia
 .simp only[aj h];lia
theorem yu(lo hi:Option Int)(n:Nat):s0 lo hi 1 (n:Int)=(((dP n 0 lo:Nat):Int),((dP n n hi:Nat):Int)):=by
 have h1:¬((1:Int) < 0):=by lia
 unfold s0;simp only[h1,gq];refine Prod.ext ?_ ?_
 .cases lo with
  |none=>rfl
  |some v=>exact BI v n 0
 .cases hi with
  |none=>rfl
  |some v=>exact BI v n n
theorem xL(i j:Nat):oV (i:Int) (j:Int) 1=j-i:=by
 unfold oV;have h1:(1:Int) > 0:=by lia
 simp only[h1,g8,Int.ediv_one];split<;>lia
theorem p'(p:IsPart v o)(h:Q o s):wpAny (model prog w) A (Gg v) Q E s:=by
 cases p with
 |none=>exact yM h
 |int i t=>exact slicePart_int h
theorem iC{l:Addr}{v u:Value}{lo hi:Option Int}{n:Nat}{Q:Int×Int×Nat->Shared->Prop}(a:s.heap.IsSliceOf l v u .none)(p:IsPart v lo)(e:IsPart u hi)
  (h:Q (((dP n 0 lo:Nat):Int),1,dP n n hi-dP n 0 lo) s):wpAny (model prog w) A (yE (.ref l) (pure (n:Int))) Q E s:=by
 obtain⟨os,o,c,d⟩:=id a;unfold yE Gf;refine ae (ae (cV o d (x:=v) rfl (ae (cV o d (x:=u) rfl (ae (cV o d (x:=.none) rfl (aq ?_)))))));refine ae (yM ?_);show wpAny _ _ (if ((1:Int) == 0)=true then _ else _) _ _ s;rw[aj (by decide)];refine ae (p' p (ae (p' e (ae (aq ?_)))));show wpAny _ _ (match s0 lo hi 1 (n:Int) with|(lo,hi)=>pure (lo,(1:Int),oV lo hi 1)) _ _ s;rw[yu lo hi n];show wpAny _ _ (pure (((dP n 0 lo:Nat):Int),(1:Int),oV ((dP n 0 lo:Nat):Int) ((dP n n hi:Nat):Int) 1)) _ _ s;rw[xL];exact aq h
theorem D4(xs:Array Value)(i k:Nat):((List.range k).filterMap λ(m:Nat)=>xs[((i:Int)+(m:Int) * 1).toNat]?).toArray=((xs.toList.drop i).take k).toArray:=by
 have e:(λ(m:Nat)=>xs[((i:Int)+(m:Int) * 1).toNat]?)=λm=>xs[i+m]?:=by
  funext m;have:((i:Int)+(m:Int) * 1).toNat=i+m:=by lia
  rw[this]
 rw[e];have:=pick_run xs i k
 rw[List.filterMap_map]at this;have h:((λx=>xs[x]?) ∘ λx=>i+x)=λm=>xs[i+m]?:=rfl;rw[h]at this;rw[this]
theorem l_{t l:Addr}{i:Array Value}{v u:Value}{lo hi:Option Int}{Q:VP}(x:IsTup s.heap t i)(e:s.heap.IsSliceOf l v u .none)(p:IsPart v lo)(f:IsPart u hi)
  (k:¬(dP i.size 0 lo=0/\dP i.size i.size hi=i.size))
  (h:Q (.ref s.heap.objs.size) { s with heap:=s.heap.push { cls:=.type "tuple",data:=.seq ((i.toList.drop (dP i.size 0 lo)).take (dP i.size i.size hi-dP i.size 0 lo)).toArray } })
  (z:i.size≤sizeLine):wpAny (model prog w) A (getItem (.ref t) (.ref l)) Q E s:=by
 have a:sizeOk (.seq ((i.toList.drop (dP i.size 0 lo)).take (dP i.size i.size hi-dP i.size 0 lo)).toArray):=by show((i.toList.drop (dP i.size 0 lo)).take (dP i.size i.size hi-dP i.size 0 lo)).toArray.size≤sizeLine;rw[aY,cX,zi,lN];lia
 have j:dP i.size i.size hi≤i.size:=KD _ _ (al _) hi;obtain⟨os,o,c,d⟩:=id e;have T:s.TypeIs (.ref l) "slice":=⟨os,o,c⟩;unfold getItem;try with_reducible refine cF ?_
 first|refine ae (aq ?_)|skip
 refine ae (AC x.typeIs (by decide) ?_);refine ae (pP (name:=Str.ofString "__getitem__") x.typeIs iT
  (mV iT x.typeIs yP ?_ (yO _ _)))
 show wpAny _ _ (C1 (.ref t) >>= _) _ _ s;refine ae (yK x ?_);refine ae (lh T ?_);rw[ag (by decide)];refine ae (iC e p f ?_);have n:¬((((dP i.size 0 lo:Nat):Int) == 0 && (1:Int) == 1 && (dP i.size i.size hi-dP i.size 0 lo) == i.size)=true):=by intro q;rw[az,az]at q;have b:((dP i.size 0 lo:Nat):Int)=0:=eq_of_beq q.1.1;have r:dP i.size i.size hi-dP i.size 0 lo=i.size:=eq_of_beq q.2;exact k ⟨by lia,by lia⟩
 show wpAny _ _ (if (((dP i.size 0 lo:Nat):Int) == 0 && (1:Int) == 1 && (dP i.size i.size hi-dP i.size 0 lo) == i.size)=true then _ else _) _ _ s;rw[aj n,D4];first
  |exact ae (m:=yv _) (pK (aq ⟨_,rfl,aq h⟩) a)
  |exact ae (m:=yv _) (pK (ae (aq (aq ⟨_,rfl,aq h⟩))) a)
  |exact ae (ae (m:=yv _) (pK (aq (aq ⟨_,rfl,aq h⟩)) a))
  |exact ae (ae (m:=yv _) (pK (aq ⟨_,rfl,aq h⟩) a))
end
end HT
set_option tactic.hygienic false
namespace L2
open PySem PySem.Spec PyProof.Rows
noncomputable abbrev TO:=St->Hp->(Option Int->Hp->Prop)->Prop
def PO(X:Cx)(e:Option Expr)(t:TO):Prop:=
 ∀(pins:PN)(s:Shared)(J:St)(H:Hp)(Q:Option Int->Hp->Prop),Inv X pins J H s->t J H Q ->
  wpAny (model X.p X.w) X.A (evalPart e X.e) (λu s'=>∃o H',Inv X pins J H' s'/\IsPart u o/\Q o H') X.xe s
noncomputable def Hb:TO:=λ_ H Q=>Q none H
noncomputable def Np(t:TE):TO:=λJ H Q=>t J H λx G=>∃i,x=.int i/\Q (some i) G
section
variable{X:Cx}{e:Expr}{te:TE}{lo hi:Option Expr}{tl th:TO}{B p2:Pos}
theorem Hy:PO X none Hb:=by intro pins s J H Q I h;rw[Aj];exact aq ⟨none,H,I,.none,h⟩
theorem Hx(h:PE X e te):PO X (some e) (Np te):=by
 intro pins s J H Q I w;rw[evalPart_some];refine b_ (h pins s J H _ I w) λu k z=>?_
 obtain⟨x,G,a,r,n⟩:=z;obtain⟨i,rfl,q⟩:=n;obtain⟨t,rfl⟩:=r;exact⟨some i,G,a,.int i t,q⟩
def JE(X:Cx)(r:V->Option Int->Option Int->Hp->VK->Prop):Prop:=
 ∀(pins:PN)(s:Shared)(J:St)(H:Hp)(x:V)(v h u:Value)(lo hi:Option Int)(l:Addr)(Q:VK),Inv X pins J H s->RelV x v->s.heap.IsSliceOf l h u .none->IsPart h lo->IsPart u hi->r x lo hi H Q ->
  ∃T id,typeLookup (.type T) "__getitem__"=pure (some (.builtin id))/\s.TypeIs v T/\wpAny (model X.p X.w) X.A (getItem v (.ref l)) (EP X pins J Q) X.xe s
theorem JE.or(h:JE X r)(h':JE X z):JE X (λx lo hi H Q=>r x lo hi H Q\/z x lo hi H Q):=by
 intro pins s J H x v n k lo hi l Q I e a p u q;rcases q with q|q
 .exact h pins s J H x v n k lo hi l Q I e a p u q
 .exact h' pins s J H x v n k lo hi l Q I e a p u q
noncomputable def Sv(r:V->Option Int->Option Int->Hp->VK->Prop)(te:TE)(tl th:TO):TE:=λJ H Q=>te J H λx G=>tl J G λl H2=>th J H2 λu h=>r x l u h Q
theorem vS(j:JE X r)(w:PE X e te)(i:PO X lo tl)(o:PO X hi th):PE X (.Subscript e (.Slice lo hi none p2) B) (Sv r te tl th):=by
 intro pins s J H Q I h;refine Subscript_ (b_ (w pins s J H _ I h) λv D z=>?_);obtain⟨x,G,c,C,K⟩:=z;refine wpAny_Slice (b_ (i pins D J G _ c K) λn E ⟨l,H2,m,S,P⟩=>b_ (o pins E J H2 _ m P) λk a z=>?_);obtain⟨u,f,t,F,A⟩:=z;rw[Aj];refine aq ?_;have p:Inv X pins J f { a with heap:=a.heap.push { cls:=.type "slice",data:=.fields #[n,k,.none] } }:=t.kept (t':=a.toks) λb L q=>aF _ q
 obtain⟨T,id,d,y,g⟩:=j pins { a with heap:=a.heap.push { cls:=.type "slice",data:=.fields #[n,k,.none] } } J f x v n k l u a.heap.objs.size Q p C (Heap.IsSliceOf.new ..) S F A;show wpAny (model X.p X.w) X.A (subscriptTail e (.Slice lo hi none p2) v (.ref a.heap.objs.size)) (EP X pins J Q) X.xe { a with heap:=a.heap.push { cls:=.type "slice",data:=.fields #[n,k,.none] } };exact lD (ops:=[.ref a.heap.objs.size,v]) y d g (by with_unfolding_all rfl)
def wA(xs:List V)(lo hi:Option Int):List V:=(xs.drop (HT.dP xs.length 0 lo)).take (HT.dP xs.length xs.length hi-HT.dP xs.length 0 lo)
theorem ou(xs:List V)(lo hi:Option Int):(wA xs lo hi).length≤xs.length:=by unfold wA;rw[cX,zi];lia
def QZ(K:FG):V->Option Int->Option Int->Hp->VK->Prop:=λx lo hi H Q=>∃a xs,x=.ref a/\kF K H a xs /\
 ¬(HT.dP xs.length 0 lo=0/\HT.dP xs.length xs.length hi=xs.length)/\∀p,H p=none->Q (.ref p) (br H p (.tup (wA xs lo hi)))
theorem Kt:JE X (QZ X.K):=by
 intro pins s J H x v m d lo hi c Q I k e p u h;obtain⟨a,xs,rfl,n,w,q⟩:=h;cases k;obtain⟨i,r,t,z⟩:=I.tuple n;have l:i.toArray.size=xs.length:=by rw[aY];exact r.length.symm
 refine⟨"tuple",_,iT.lookup,t.typeIs,?_⟩;refine HT.l_ t e p u (by rw[l];exact w) ?_ (by rw[l];exact z);rw[l];refine⟨.ref s.heap.objs.size,_,I.laid (t':=s.toks) (o:=.tup (wA xs lo hi)) (λb f q=>aF _ q) (al _) ?_,rfl,q _ (I.h.fresh (al _))⟩;exact⟨ba (ou xs lo hi) z,_,(r.drop (HT.dP xs.length 0 lo)).take (HT.dP xs.length xs.length hi-HT.dP xs.length 0 lo),nQ.new _ _⟩
def NK(K:FG):R2:=λx y H Q=>∃a b xs ys,x=.ref a/\y=.ref b/\kF K H a xs/\kF K H b ys/\xs≠[]/\xs.length+ys.length≤sizeLine /\
 (ys=[]->Q (.ref a) H)/\(ys≠[]->∀p,H p=none->Q (.ref p) (br H p (.tup (xs++ys))))
theorem aU.nil_iff(r:aU xs j):j=[]↔xs=[]:=by
 cases r with
 |nil=>simp
 |cons _ _=>simp
theorem HI:gX X (binaryOp .Add) (NK X.K):=by intro pins s J H x y v u Q I g j h;obtain⟨a,b,xs,ys,rfl,rfl,k,f,c,n,m,d⟩:=h;cases g;cases j;obtain⟨t,e,p,_⟩:=I.tuple k;obtain⟨i,r,p2,_⟩:=I.tuple f;refine HT.IL p p2 (λz=>c (e.nil_iff.mp z)) (λz=>⟨.ref a,H,I,rfl,m (r.nil_iff.mp z)⟩) (λz=>?_) (by rw[<- e.length,<- r.length];exact n);refine⟨.ref s.heap.objs.size,_,I.laid (t':=s.toks) (o:=.tup (xs++ys)) (λb l q=>aF _ q) (al _) ?_,rfl,d (λw=>z (r.nil_iff.mpr w)) _ (I.h.fresh (al _))⟩;exact⟨by rw[bc];exact n,_,e.append r,nQ.new _ _⟩
end
noncomputable def CS(n:Nat)(i:Int):Option Nat:=if 0≤i then (if i < n then some i.toNat else none) else if -(n:Int)≤i then some (i+n).toNat else none
variable{α:Type}
def atI(xs:List α)(i:Int):Option α:=(CS xs.length i).bind λj=>xs[j]?
variable{n:Nat}
theorem Bs{i:Int}(h:CS n i=some q):seqIndex? i n=some q/\q < n/\-(n:Int)≤i/\i < n:=by
 unfold CS at h;by_cases x:0≤i
 .rw [ag x]at h;by_cases h1:i < n
  .rw [ag h1]at h;have e:i.toNat=q:=d8 h;exact⟨by rw[ug x h1,e],by lia,by lia,h1⟩
  .rw [aj h1]at h;cases h
 .rw [aj x]at h;by_cases h1:-(n:Int)≤i
  .rw [ag h1]at h;have e:(i+n).toNat=q:=d8 h;exact⟨by rw[uj (by lia) h1,e],by lia,h1,by lia⟩
  .rw [aj h1]at h;cases h
theorem vi{i:Int}(h:atI xs i=some v):∃j,seqIndex? i xs.length=some j/\xs[j]? = some v/\j < xs.length/\-(xs.length:Int)≤i/\i < xs.length:=by
 unfold atI at h;cases e:CS xs.length i with
 |none=>rw[e]at h;cases h
 |some j=>rw[e]at h;obtain⟨h1,h2,x,a⟩:=Bs e;exact⟨j,h1,h,h2,x,a⟩
theorem qY(xs:List α)(v:α):atI (xs++[v]) (-1)=some v:=by
 have h:(xs++[v]).length=xs.length+1:=by simp
 have e:CS (xs++[v]).length (-1)=some xs.length:=by unfold CS;rw[h,aj (by decide),ag (by lia)];congr 1;lia
 unfold atI;rw[e];show(xs++[v])[xs.length]? = some v;simp
def kG(b:Expr):Prop:=∀o i,subscripted b false o i=operate [o,i] (getItem o i)
def CV(X:Cx)(r:R2):Prop:=
 ∀(value l:Expr)(pins:PN)(s:Shared)(J:St)(H:Hp)(x y:V)(v u:Value)(Q:VK),Inv X pins J H s->RelV x v->RelV y u->r x y H Q ->
  subscripted l false v u=operate [v,u] (getItem v u)->wpAny (model X.p X.w) X.A (subscriptTail value l v u) (EP X pins J Q) X.xe s
def Sc(X:Cx)(id:String)(r:V->List V->Hp->VK->Prop):Prop:=
 ∀(pins:PN)(s:Shared)(J:St)(H:Hp)(x:V)(xs:List V)(v:Value)(j:LV)(Q:VK),Inv X pins J H s->RelV x v->aU xs j->r x xs H Q ->
  wpAny (model X.p X.w) X.A (call (.builtin id) (v::j)) (EP X pins J Q) X.xe s
section
variable{X:Cx}{a b:Expr}{ta tb:TE}{B:Pos}
theorem CV.or(h:CV X r)(h':CV X z):CV X (λx y H Q=>r x y H Q\/z x y H Q):=by
 intro value l pins s J H x y v u Q I e n q a;rcases q with q|q
 .exact h value l pins s J H x y v u Q I e n q a
 .exact h' value l pins s J H x y v u Q I e n q a
theorem A7(f:CV X r)(n:PE X a ta)(k:PE X b tb)(c:kG b):PE X (.Subscript a b B) (Kk r ta tb):=by intro pins s J H Q I h;exact Subscript_ (Mf n k I h λv u p x y H2 e m t q=>f a b pins p J H2 x y v u Q e m t q (c _ _))
def Q6(K:FG):R2:=λx y H Q=>∃p xs i v,x=.ref p/\y=.int i/\fq K H p xs/\atI xs i=some v/\Q v H
def Q4(K:FG):R2:=λx y H Q=>∃p xs i v,x=.ref p/\y=.int i/\kF K H p xs/\atI xs i=some v/\Q v H
def Q5:R2:=λx y H Q=>∃z i c,x=.str z/\y=.int i/\z.length≤sizeLine/\atI z.cps.toList i=some c/\Q (.str ⟨#[c]⟩) H
theorem uM:CV X (Q6 X.K):=by
 intro value c pins s J H x y v u Q I F K h b;obtain⟨p,xs,i,z,rfl,rfl,S,g,q⟩:=h;cases F;obtain⟨t,rfl⟩:=K;obtain⟨e,r,l,B⟩:=I.list S;obtain⟨j,h1,h2,P,m,d⟩:=vi g;obtain⟨w,k,n⟩:=r.get h2;have o:=r.length;have A:=jV;have dH:EP X pins J Q w s:=⟨z,H,I,n,q⟩;by_cases f:0≤i
 .have a:i.toNat=j:=by
   rw[ug f d]at h1;exact d8 h1
  exact item_listR l.isList f (by lia) (by rw[a];simpa using k) dH b
 .have a:(i+(e.toArray.size:Int)).toNat=j:=by
   rw[uj (by lia) m]at h1;rw[aY,<- o];exact d8 h1
  exact yR (x:=w) l.isList.typeIs AB.lookup
   (wpAny_getItem_list_neg (Q:=λr s'=>r=w/\EP X pins J Q r s') l.isList (by lia) (by rw[aY]<;>lia) (by lia) (by rw[a];simpa using k) ⟨rfl,dH⟩) b
theorem ED:CV X (Q4 X.K):=by
 intro value l pins s J H x y v u Q I d g h c;obtain⟨p,xs,i,z,rfl,rfl,b,k,q⟩:=h;cases d;obtain⟨t,rfl⟩:=g;obtain⟨m,r,e,P⟩:=I.tuple b;obtain⟨j,h1,h2,o,S,F⟩:=vi k;obtain⟨w,n,a⟩:=r.get h2;have f:=r.length;have K:=jV;have dH:EP X pins J Q w s:=⟨z,H,I,a,q⟩;exact yR (x:=w) e.typeIs iT.lookup
  (getItem_tuple (j:=j) (Q:=λr s'=>r=w/\EP X pins J Q r s') e (by lia) (by lia) (by rw[aY,<- f];exact h1) (by simpa using n) ⟨rfl,dH⟩) c
theorem LJ:CV X Q5:=by
 intro value l pins s J H x y v u Q I r p h m;obtain⟨z,i,c,rfl,rfl,g,f,q⟩:=h;obtain⟨t,rfl⟩:=r;obtain⟨o,rfl⟩:=p;obtain⟨j,h1,h2,d,n,k⟩:=vi f;have b:z.cps.toList.length=z.length:=by simp[lz]
 rw[b]at h1 n k;have w:=jV;exact lD (typeIs_str s z t) slot_str_getitem.lookup (getItem_str (c:=c) (by have e:decide (i < -(2 ^ 63:Int))=false:=aX (by lia);have a:decide (i ≥ 2 ^ 63)=false:=aX (by lia);rw[e,a,zE]) (by rw[h1];simpa using h2) ⟨.str ⟨#[c]⟩,H,I.tok _,⟨_,rfl⟩,q⟩) m
theorem xO(i:LV)(n j:Nat)(u:Value):gY (·.setIfInBounds j u) { cls:=.type "list",data:=.seq i.toArray n }={ cls:=.type "list",data:=.seq (i.set j u).toArray n }:=by simp[gY]
theorem Inv.lst(I:Inv X pins J H s)(h:H p=some (.lst xs)) :
  ∃(i:LV)(n:Nat),aU xs i/\s.heap.get? p=some { cls:=.type "list",data:=.seq i.toArray n }/\xs.length≤sizeLine:=by
 obtain⟨z,i,n,r,e⟩:=I.h p _ h;exact⟨i,n,r,e,z⟩
theorem Inv.lstUpd{i:LV}(I:Inv X pins J H s)(h:H p=some (.lst xs))
  (o:s.heap.get? p=some { cls:=.type "list",data:=.seq i.toArray n }) (a:f { cls:=.type "list",data:=.seq i.toArray n }={ cls:=.type "list",data:=.seq z.toArray N }) (r:aU ys z) (c:ys.length≤sizeLine) (t:Nat) :
  Inv X pins J (br H p (.lst ys)) { s with heap:=s.heap.update p f,toks:=t }:=by
 have e:(s.heap.update p f).get? p=some { cls:=.type "list",data:=.seq z.toArray N }:=by rw[o3 f o (by rw[a]<;>rfl),a]
 refine I.write (x:=p) (e:=p) (by rw[h];trivial) (.inl rfl) (λb u k q=>(y8 _ _ (aH k)).trans q) ⟨_,e⟩ ?_;exact⟨c,z,N,r,e⟩
def NI:V->V->V->Hp->(Hp->Prop)->Prop:=λo i v H Q=>∃p xs k j,o=.ref p/\i=.int k/\H p=some (.lst xs)/\CS xs.length k=some j/\Q (br H p (.lst (xs.set j v)))
theorem DL:Pc X NI:=by
 intro pins s J H o i v K F u Q I g w y h;obtain⟨p,xs,k,j,rfl,rfl,m,d,q⟩:=h;cases g;obtain⟨t,rfl⟩:=w;obtain⟨x,n,r,a,z⟩:=I.lst m;obtain⟨h1,h2,b,c⟩:=Bs d;have l:=r.length;have S:=jV;have e:Inv X pins J (br H p (.lst (xs.set j v))) { s with heap:=s.heap.update p (gY (·.setIfInBounds j u)) }:=
  I.lstUpd m a (xO x n j u) (r.set y j) (by rw[bC];exact z) s.toks
 by_cases f:0≤k
 .have hk:k.toNat=j:=by
   rw[ug f c]at h1;exact d8 h1
  exact PySem.W.ki_setAt a f (by lia) (by rw[aY,<- l];exact c) (by rw[hk];exact⟨_,e,q⟩)
 .have hk:(k+(x.toArray.size:Int)).toNat=j:=by
   rw[uj (by lia) b]at h1;rw[aY,<- l];exact d8 h1
  exact PySem.W.ki_setBack a (by lia) (by rw[aY,<- l];exact b) (by lia) (by rw[hk];exact⟨_,e,q⟩)
theorem uC(lo hi:Option Int)(n:Nat):(sliceBounds lo hi none n).1=((HT.dP n 0 lo:Nat):Int)/\(sliceBounds lo hi none n).2.1=((HT.dP n n hi:Nat):Int)/\(sliceBounds lo hi none n).2.2=1:=by
 refine⟨?_,?_,rfl⟩
 .cases lo with
  |none=>simp[sliceBounds,HT.dP]
  |some i=>
   simp only[sliceBounds,HT.dP,yH,show(1:Int) > 0 by decide,g8];by_cases h:i < 0
   .simp only[h,g8]<;>lia
   .simp only[h,gq]<;>lia
 .cases hi with
  |none=>simp[sliceBounds,HT.dP]
  |some i=>
   simp only[sliceBounds,HT.dP,yH,show(1:Int) > 0 by decide,g8];by_cases h:i < 0
   .simp only[h,g8]<;>lia
   .simp only[h,gq]<;>lia
theorem rh(i:LV)(lo hi:Option Int):slicePick i.toArray lo hi none=((i.drop (HT.dP i.length 0 lo)).take (HT.dP i.length i.length hi-HT.dP i.length 0 lo)).toArray:=by obtain⟨h1,h2,h⟩:=uC lo hi i.toArray.size;unfold slicePick;rw[h1,h2,h];simp only[sliceRange_one,pick_run,aY]<;>rfl
def Q0(K:FG):V->Option Int->Option Int->Hp->VK->Prop:=λx lo hi H Q=>∃a xs,x=.ref a/\fq K H a xs/\∀p,H p=none->Q (.ref p) (br H p (.lst (wA xs lo hi)))
theorem AZ:JE X (Q0 X.K):=by intro pins s J H x v m d lo hi c Q I k e p u h;obtain⟨a,xs,rfl,n,q⟩:=h;cases k;obtain⟨i,r,t,z⟩:=I.list n;have l:=r.length;refine⟨"list",_,AB.lookup,t.isList.typeIs,?_⟩;refine wpAny_getItem_list_slice t.isList e p u .none (by simp) ?_ (by rw[aY]<;>lia);rw[rh,<- l];refine⟨.ref s.heap.objs.size,_,I.laid (t':=s.toks) (o:=.lst (wA xs lo hi)) (λb f q=>aF _ q) (al _) ?_,rfl,q _ (I.h.fresh (al _))⟩;exact⟨ba (ou xs lo hi) z,_,0,(r.drop (HT.dP xs.length 0 lo)).take (HT.dP xs.length xs.length hi-HT.dP xs.length 0 lo),aR _ rfl⟩
theorem vd:cN X (.builtin "len") (λxs H Q=>∃p ys,xs=[.ref p]/\(fq X.K H p ys\/kF X.K H p ys)/\Q (.int ys.length) H):=by
 intro pins s J H xs j Q I r h;obtain⟨p,ys,rfl,x,q⟩:=h;obtain⟨u,rfl,n⟩:=vals1 r;cases n;have k:=jV;rcases x with x|x
 .obtain⟨i,e,a,z⟩:=I.list x;have l:=e.length;exact Calls.call_len_list a.isList (by simp only[aY]<;>lia) ⟨.int ys.length,H,I.tok _,⟨s.toks+1,by rw[aY,l]⟩,q⟩
 .obtain⟨i,e,a,z⟩:=I.tuple x;have l:=e.length;exact len_tuple a (by simp only[aY]<;>lia) ⟨.int ys.length,H,I.tok _,⟨s.toks+1,by rw[aY,l]⟩,q⟩
theorem vc:cN X (.builtin "len") (λxs H Q=>∃z,xs=[.str z]/\z.length≤sizeLine/\Q (.int z.length) H):=by intro pins s J H xs j Q I r h;obtain⟨z,rfl,x,q⟩:=h;obtain⟨u,rfl,t,rfl⟩:=vals1 r;have n:=jV;exact len_str (by lia) ⟨.int z.length,H,I.tok _,⟨_,rfl⟩,q⟩
theorem cN.or(h:cN X f r)(h':cN X f z):cN X f (λxs H Q=>r xs H Q\/z xs H Q):=by
 intro pins s J H xs j Q I x q;rcases q with q|q
 .exact h pins s J H xs j Q I x q
 .exact h' pins s J H xs j Q I x q
theorem jf:cN X (.type "list") (λxs H Q=>∃p ys,xs=[.ref p]/\(fq X.K H p ys\/kF X.K H p ys)/\∀l,H l=none->Q (.ref l) (br H l (.lst ys))):=by
 intro pins s J H xs j Q I r h;obtain⟨p,ys,rfl,k,q⟩:=h;obtain⟨u,rfl,w⟩:=vals1 r;cases w;have dH:∀(i:LV),aU ys i->ys.length≤sizeLine->∀(h':Heap)(c:Nat),(∀b o',s.heap.get? b=some o'->h'.get? b=some o') ->
   h'.get? s.heap.objs.size=some { cls:=.type "list",dict:=none,data:=.seq i.toArray c,slots:=#[] }->EP X pins J Q (.ref s.heap.objs.size) { s with heap:=h' }:=λi x z h' c f e=>
  ⟨.ref s.heap.objs.size,_,I.laid (t':=s.toks) f (al _) (show cM X.p X.w _ h' _ (.lst ys) from ⟨z,i,c,x,e⟩),rfl,q _ (I.h.fresh (al _))⟩
 rcases k with k|k
 .obtain⟨i,x,v,z⟩:=I.list k;have a:=x.length;obtain⟨o,t,m,n,d⟩:=v.isList;exact Ai p (.inl rfl) t m d (λh' c f e=>dH i x z h' c f e) (by simp only[aY]<;>lia)
 .obtain⟨i,x,v,z⟩:=I.tuple k;have a:=x.length;obtain⟨o,t,m,n,d⟩:=v;exact Ai p (.inr rfl) t m d (λh' c f e=>dH i x z h' c f e) (by simp only[aY]<;>lia)
theorem lg:cN X (.type "tuple") (λxs H Q=>∃p ys,xs=[.ref p]/\((fq X.K H p ys/\∀l,H l=none->Q (.ref l) (br H l (.tup ys)))\/(kF X.K H p ys/\Q (.ref p) H))):=by
 intro pins s J H xs j Q I r h;obtain⟨p,ys,rfl,h⟩:=h;obtain⟨u,rfl,t⟩:=vals1 r;cases t;rcases h with ⟨x,q⟩|⟨x,q⟩
 .obtain⟨i,n,a,z⟩:=I.list x;have f:=n.length;refine call_tuple_list a.isList (λh' m=>?_) (by simp only[aY]<;>lia);have k:Inv X pins J H { s with heap:=h' }:=I.kept (t':=s.toks) m;have c:Inv X pins J (br H h'.objs.size (.tup ys)) { s with heap:=h'.push { cls:=.type "tuple",data:=.seq i.toArray } }:=
   k.laid (t':=s.toks) (λb o e=>aF _ e) (al _) (show cM X.p X.w _ _ _ (.tup ys) from ⟨z,i,n,nQ.new _ _⟩)
  exact⟨.ref h'.objs.size,_,c,rfl,q _ (k.h.fresh (al _))⟩
 .obtain⟨i,n,a,z⟩:=I.tuple x;exact call_tuple_same a ⟨.ref p,H,I,rfl,q⟩
def tyV(K:FG)(T:String)(x:V)(H:Hp):Prop:=match x with
 | .str _=>T="str"
 | .int _=>T="int"
 | .ref p=>(T="list"/\∃xs,fq K H p xs)\/(T="tuple"/\∃o,K.lookup p=some o/\o.cls=.type "tuple"/\o.dict=none) \/
   (T="dict"/\((∃kvs,H p=some (.dK kvs))\/∃kvs,H p=some (.dT kvs)))\/(T="set"/\∃S n,H p=some (.set S n))
 |_=>False
theorem Dv(I:Inv X pins J H s)(r:RelV x v)(ty:tyV X.K T x H) :
  s.TypeIs v T/\∀a,v=.ref a->∃b,s.heap.get? a=some b/\b.dict=none:=by
 cases x with
 |str z=>obtain⟨t,rfl⟩:=r;cases (show T="str" from ty);exact⟨typeIs_str s z t,λ_ e=>nomatch e⟩
 |int i=>obtain⟨t,rfl⟩:=r;cases (show T="int" from ty);exact⟨pF s i t,λ_ e=>nomatch e⟩
 |ref p=>
  cases r;rcases ty with ⟨rfl,xs,q⟩|⟨rfl,o,hk,k,d⟩|⟨rfl,hk⟩|⟨rfl,S,n,hk⟩
  .obtain⟨f,_,l,_⟩:=I.list q;refine⟨l.isList.typeIs,λa e=>?_⟩;cases e;obtain⟨o,n,e,c,d,_⟩:=l;exact⟨o,e,d⟩
  .refine⟨⟨o,I.kIn p o hk,k⟩,λa e=>?_⟩;cases e;exact⟨o,I.kIn _ o hk,d⟩
  .have z:∃o,s.heap.get? p=some o/\o.ExactDict:=by
    rcases hk with ⟨kvs,hk⟩|⟨kvs,hk⟩
    .obtain⟨_,_,_,_,o,_,_,e,ex,_⟩:=I.h p _ hk;exact⟨o,e,ex⟩
    .obtain⟨_,_,_,_,o,_,_,e,ex,_⟩:=I.h p _ hk;exact⟨o,e,ex⟩
   obtain⟨o,e,ex⟩:=z;refine⟨⟨o,e,ex.1⟩,λa h=>?_⟩;cases h;exact⟨o,e,ex.2.1⟩
  .obtain⟨o,_,_,_,e,ex,_⟩:=I.h p _ hk;refine⟨⟨o,e,ex.1⟩,λa h=>?_⟩;cases h;exact⟨o,e,ex.2.1⟩
 |_=>exact False.elim ty
noncomputable def QS(K:FG)(T:String)(r:V->List V->Hp->VK->Prop)(to:TE):TE:=λJ H Q=>to J H λx G=>tyV K T x G/\r x [] G Q
noncomputable def Sz(K:FG)(T:String)(r:V->List V->Hp->VK->Prop)(to:TE)(t:TA):TE:=λJ H Q=>to J H λx G=>tyV K T x G/\t J G λxs H2=>r x xs H2 Q
variable{o e:Expr}{es:Ab}{to:TE}{t:TA}{name:Str}{apos cpos:Pos}{T id:String}{r:V->List V->Hp->VK->Prop}
theorem K7(p:PlainAttrs T)(slot:Slot T name id)(t:typeOf (.builtin id)=pure (.type "method_descriptor"))(m:Sc X id r)(n:PE X o to)
  (b:attributeBase o name X.e (eval o X.e)=eval o X.e:=by rfl) (l:(apos.endLine == cpos.line)=true:=by rfl):PE X (.Call (.Attribute o name apos) [] [] cpos) (QS X.K T r to):=by
 intro pins s J H Q I h;refine wpAny_Call_method0_late b l (b_ (n pins s J H _ I h) λv k z=>?_);obtain⟨x,G,a,e,ty,q⟩:=z;obtain⟨h1,h2⟩:=Dv a e ty;exact⟨T,id,p,slot,t,h1,h2,iU rfl (PySem.evalArgs_none (m pins k J G x [] v [] Q a e .nil q))⟩
theorem Jk(w:PlainAttrs T)(slot:Slot T name id)(y:typeOf (.builtin id)=pure (.type "method_descriptor"))(m:Sc X id r)(q:PE X o to)(c:PA X (e::es) t)
  (b:attributeBase o name X.e (eval o X.e)=eval o X.e:=by rfl)
  (f:((backTo cpos (starEach (e::es) X.e)).all (fun x=>!x.1) && (backToKw cpos (keywordEach [] X.e)).all (fun x=>x.1.isSome)
   && decide ((e::es).length+([]:List Keyword).length+(if ([]:List Keyword).isEmpty then 0 else 1) < 30))=true:=by rfl)
  (l:(apos.endLine == cpos.line)=true:=by rfl) (d:starEach (e::es) X.e=(false,eval e X.e)::starEach es X.e:=by rfl) (p:(backTo cpos (starEach es X.e)).any (·.1)=false:=by rfl) :
  PE X (.Call (.Attribute o name apos) (e::es) [] cpos) (Sz X.K T r to t):=by
 intro pins s J H Q I h;refine xh b f l rfl (b_ (q pins s J H _ I h) λv S z=>?_);obtain⟨x,G,a,n,ty,u⟩:=z;obtain⟨h1,h2⟩:=Dv a n ty;refine⟨T,id,w,slot,y,h1,h2,?_⟩;have A:=c cpos pins S J G _ a u;rw[d]at A ⊢;refine iU (by show(false ||(backTo cpos (starEach es X.e)).any (·.1))=false;rw[p]<;>rfl) (kf ?_);exact b_ A λj F z=>by obtain⟨K,H2,k,i,g⟩:=z;exact m pins F J H2 x K v j Q k n i g
end
def P5(X:Cx)(id:String)(r:V->List V->Hp->VK->Prop):Prop:=
 ∀(pins:PN)(s:Shared)(J:St)(H:Hp)(x:V)(xs:List V)(v:Value)(j:LV)(Q:VK),Inv X pins J H s->RelV x v->aU xs j->r x xs H Q ->
  wpAny (model X.p X.w) X.A (call (.builtin id) (v::j)) (EP X pins J Q) X.xe s
theorem aU.one:∀{x:V}{j:LV},aU [x] j->∃u,j=[u]/\RelV x u
 |_,_,.cons r .nil=>⟨_,rfl,r⟩
theorem aU.zero:∀{j:LV},aU [] j->j=[]
 |_,.nil=>rfl
variable{j:LV}
theorem aU.dropLast(h:aU xs j):aU xs.dropLast j.dropLast:=by
 induction h with
 |nil=>exact .nil
 |cons r t i=>
  cases t with
  |nil=>exact .nil
  |cons q x=>exact .cons r i
theorem aU.rep(h:aU xs j):∀k:Nat,aU (List.replicate k xs).flatten (List.replicate k j).flatten
 |0=>.nil
 |k+1=>by rw[cn,cn,dD,dD];exact aU.append h (aU.rep h k)
theorem ya(l:List α):l.eraseIdx (l.length-1)=l.dropLast:=by
 induction l with
 |nil=>rfl
 |cons a r i=>
  cases r with
  |nil=>rfl
  |cons b r=>
   have e:(a::b::r).length-1=((b::r).length-1)+1:=by have h1:(a::b::r).length=r.length+2:=rfl;have h2:(b::r).length=r.length+1:=rfl;lia
   rw[e,List.eraseIdx_cons_succ,i];all_goals rfl
theorem foldl_rep(i:LV):∀(k:Nat)(a:LV),
  o4 (λx s=>x++s) a.toArray (List.replicate k i.toArray)=(a++(List.replicate k i).flatten).toArray
 |0,a=>by simp
 |k+1,a=>by
  have e:a.toArray++i.toArray=(a++i).toArray:=by simp
  have h:(a++i)++(List.replicate k i).flatten=a++(List.replicate (k+1) i).flatten:=by rw[cn,dD,lI]
  rw[<- h,<- foldl_rep i k (a++i),<- e,cn,gv]
section
variable{X:Cx}{pins:PN}{J:St}{H:Hp}{s:Shared}{l b:Addr}{xs ys zs:List V}
theorem Inv.lset{i:LV}{t:Nat}(I:Inv X pins J H s)(h:H l=some (.lst xs))
  (e:s.heap.get? l=some { cls:=.type "list",data:=.seq i.toArray n }) (a:f i.toArray=z.toArray) (v:aU ys z) (c:ys.length≤sizeLine) :
  Inv X pins J (br H l (.lst ys)) { s with heap:=s.heap.update l (gY f),toks:=t }:=by
 have q:=PySem.IsL.update e f;rw[a]at q;refine I.write (x:=l) (e:=l) (by rw[h];exact trivial) (.inl rfl) (λm u b k=>(y8 s.heap (gY f) (aH b)).trans k) ⟨_,q⟩ ?_;exact⟨c,z,_,v,q⟩
theorem Inv.lnew{t:Nat}(I:Inv X pins J H s)(h:aU ys z)(x:ys.length≤sizeLine) :
  Inv X pins J (br H s.heap.objs.size (.lst ys)) { s with heap:=s.heap.push { cls:=.type "list",data:=.seq z.toArray },toks:=t }:=
 I.laid (λ_ _ q=>aF _ q) (al _) ⟨x,z,0,h,aR _ rfl⟩
theorem Inv.fresh(I:Inv X pins J H s):H s.heap.objs.size=none:=I.h.fresh (al _)
theorem Inv.lstM(I:Inv X pins J H s)(h:H l=some (.lst xs)):xs.length≤sizeLine/\∃(i:LV)(n:Nat),aU xs i/\xs.length=i.length/\s.heap.get? l=some { cls:=.type "list",data:=.seq i.toArray n }:=by obtain⟨z,i,n,r,e⟩:=I.h l _ h;exact⟨z,i,n,r,r.length,e⟩
theorem qg(h:n≤sizeLine):kc n=false:=by unfold kc;exact aX (by lia)
end
section
variable{X:Cx}
def Hr:V->List V->Hp->VK->Prop:=λx v H Q=>∃l xs y,x=.ref l/\v=[y]/\H l=some (.lst xs)/\xs.length < sizeLine/\Q .non (br H l (.lst (xs++[y])))
theorem sk:P5 X "list.append" Hr:=by intro pins s J H x t v j Q I b f h;obtain⟨l,xs,y,rfl,rfl,a,m,q⟩:=h;cases b;obtain⟨u,rfl,k⟩:=f.one;obtain⟨z,i,n,r,c,e⟩:=I.lstM a;refine eF z4 ⟨_,e,rfl⟩ F.entry_list_append (F.args_list_append_2 _ _) (PySem.list_append l i.toArray n u (by rw[aY];lia)) ⟨e,?_⟩;refine⟨.non,_,I.lset (z:=i++[u]) a e (by simp) (r.append (.cons k .nil)) ?_,rfl,q⟩;rw[bc,tR];lia
def Hq:V->List V->Hp->VK->Prop:=λx v H Q=>∃l b xs zs,x=.ref l/\v=[.ref b]/\H l=some (.lst xs)/\H b=some (.lst zs)/\xs.length+zs.length≤sizeLine/\Q .non (br H l (.lst (xs++zs)))
theorem Cb:P5 X "list.extend" Hq:=by
 intro pins s J H x K v j Q I g w h;obtain⟨l,b,xs,zs,rfl,rfl,k,B,S,q⟩:=h;cases g;obtain⟨u,rfl,d⟩:=w.one;cases d;obtain⟨z,t,n,r,y,e⟩:=I.lstM k;obtain⟨P,i,m,p,c,f⟩:=I.lstM B;have a:t.toArray.size+i.toArray.size≤sizeLine:=by rw[aY,aY];lia
 have o:¬(!t.toArray.isEmpty && kc (t.toArray.size+i.toArray.size))=true:=by rw[qg a,zF];exact be
 refine eF t8 ⟨_,e,rfl⟩ zT (zU _ _)
  (AutoSeq1.list_extend_list_list_0 l t.toArray n b i.toArray m o (by rw[aY];lia) (by lia)) ⟨e,f,?_⟩
 refine⟨.non,_,I.lset (z:=t++i) k e (by simp) (r.append p) ?_,rfl,q⟩;rw[bc];lia
def Q3:V->List V->Hp->VK->Prop:=λx v H Q=>∃l xs y,x=.ref l/\v=[]/\H l=some (.lst xs)/\xs[xs.length-1]? = some y/\Q y (br H l (.lst xs.dropLast))
theorem Lu:P5 X "list.pop" Q3:=by
 intro pins s J H x w v j Q I d p h;obtain⟨l,xs,y,rfl,rfl,f,m,q⟩:=h;cases d;have a:=p.zero;subst a;obtain⟨z,i,n,r,b,e⟩:=I.lstM f;obtain⟨u,c,t⟩:=r.get m;have k:i.toArray[i.toArray.size-1]? = some u:=by show i.toArray[i.length-1]? = some u;rw[<- zI,<- b];exact c
 refine eF zY ⟨_,e,rfl⟩ F.entry_list_pop (F.args_list_pop_1 _) (MeetsSeq.list_pop_last l i.toArray n u k (by rw[aY];lia)) ⟨e,?_⟩;refine⟨y,_,I.lset (z:=i.dropLast) f e ?_ r.dropLast ?_,t,q⟩
 .show i.toArray.eraseIdxIfInBounds (i.toArray.size-1)=i.dropLast.toArray;rw[aY,List.eraseIdxIfInBounds_toArray,ya]
 .rw [zt];lia
def Q7:R2:=λx y H Q=>∃l b xs zs,x=.ref l/\y=.ref b/\H l=some (.lst xs)/\H b=some (.lst zs)/\xs.length+zs.length≤sizeLine/\∀p,H p=none->Q (.ref p) (br H p (.lst (xs++zs)))
theorem Ld:gX X (binaryOp .Add) Q7:=by
 intro pins s J H x y v u Q I p d h;obtain⟨l,b,xs,zs,rfl,rfl,f,B,g,q⟩:=h;cases p;cases d;obtain⟨z,t,n,r,w,e⟩:=I.lstM f;obtain⟨o,i,j,m,c,a⟩:=I.lstM B;refine PySem.P.add_list e a ?_ (by rw[aY,aY];lia);have k:t.toArray++i.toArray=(t++i).toArray:=by simp
 rw[k];exact⟨.ref _,_,I.lnew (t:=s.toks) (r.append m) (by rw[bc];lia),rfl,q _ I.fresh⟩
def Q2:R2:=λx y H Q=>∃l k xs,x=.ref l/\y=.int k/\H l=some (.lst xs)/\-(2 ^ 63)≤k/\k < 2 ^ 63/\xs.length * k.toNat≤sizeLine /\
 ∀p,H p=none->Q (.ref p) (br H p (.lst (List.replicate k.toNat xs).flatten))
theorem HX(xs:List α)(k:Nat):(List.replicate k xs).flatten.length=k * xs.length:=by
 induction k with
 |zero=>simp
 |succ k i=>rw[cn,dD,bc,i,tm,Nat.add_comm]
theorem Ec:gX X (binaryOp .Mult) Q2:=by
 intro pins s J H x y v u Q I P A h;obtain⟨l,k,xs,rfl,rfl,S,h1,h2,g,q⟩:=h;cases P;obtain⟨t,rfl⟩:=A;obtain⟨z,i,n,r,K,e⟩:=I.lstM S;have b:i.toArray.size * k.toNat≤sizeLine:=by rw[aY,<- K];exact g
 have c:¬i.toArray.size * k.toNat > (2 ^ 63-1) / 8:=by
  have:(sizeLine:Nat)≤(2 ^ 63-1) / 8:=by decide
  lia
 have f:¬(!Builtin.List.listFitsIndex k)=true:=by rw[fitsIndex_both h1 h2];exact be
 have o:¬kc (i.toArray.size * k.toNat)=true:=by rw[qg b];exact be
 have w:o4 (λp d=>p++d) #[] (List.replicate (if i.toArray.isEmpty=true then 0 else k.toNat) i.toArray)=(List.replicate k.toNat i).flatten.toArray:=by
  have j:∀m:Nat,o4 (λp d=>p++d) #[] (List.replicate m i.toArray)=(List.replicate m i).flatten.toArray:=λm=>by have:=foldl_rep i m [];rw[kl]at this;exact this
  rw[j];cases i with
  |nil=>simp
  |cons a B=>rw[aj (by simp)]
 refine CZ (T:="list") (U:="int") (by decide) ⟨_,e,rfl⟩ (λs'=>pF s' k t) noFill_list_mul zX pb repeat_list z0.lookup
  (eF pb (pF s k t) zZ (z3 _ _) (int___rmul___int_list k t l i.toArray n)
   ⟨e,rfl,⟨_,e,rfl⟩,eF F.slot_list_mul ⟨_,e,rfl⟩ F.entry_list_mul (F.args_list_mul_2 _ _) (AutoListH.list___mul___list_int_3 l i.toArray n k t f c o) ⟨e,?_⟩⟩)
 rw[w];exact⟨.ref _,_,I.lnew (t:=s.toks) (r.rep k.toNat) (by rw[HX,o0];exact g),rfl,q _ I.fresh⟩
end
section
variable{κ:Type}[DecidableEq κ]
noncomputable def fL(kvs:List (κ×V))(k:κ):Option V:=(kvs.find? λv=>decide (v.1=k)).map (·.2)
noncomputable def putK(kvs:List (κ×V))(k:κ)(v:V):List (κ×V):=
 if (kvs.any λh=>decide (h.1=k))=true then kvs.map (λh=>if h.1=k then (h.1,v) else h) else kvs++[(k,v)]
theorem gH{p:κ×V}{r:List (κ×V)}{k:κ}(e:p.1=k):fL (p::r) k=some p.2:=by simp[fL,fD,e]
theorem fK{p:κ×V}{r:List (κ×V)}{k:κ}(e:¬p.1=k):fL (p::r) k=fL r k:=by simp[fL,fD,e]
theorem vx(k:κ):∀kvs:List (κ×V),(kvs.any λv=>decide (v.1=k))=(fL kvs k).isSome
 | []=>rfl
 |p::r=>by
  rw[cG];by_cases e:p.1=k
  .simp only[gH e,df e,Bool.true_or,Option.isSome_some]
  .rw [fK e,aX e,kq];exact vx k r
theorem jW(kvs:List (κ×V))(k:κ)(v:V):(putK kvs k v).length≤kvs.length+1:=by
 unfold putK;split
 .rw [bv];lia
 .rw [bc,bz,zg];lia
theorem jK.isSome_eq(r:jK o u):o.isSome=u.isSome:=by
 cases o with
 |none=>cases u with
  |none=>rfl
  |some _=>exact(show False from r).elim
 |some _=>cases u with
  |none=>exact(show False from r).elim
  |some _=>rfl
theorem jK.getD(r:jK o u)(h:RelV d q):RelV (o.getD d) (u.getD q):=by
 cases o with
 |none=>cases u with
  |none=>exact h
  |some _=>exact(show False from r).elim
 |some _=>cases u with
  |none=>exact(show False from r).elim
  |some _=>exact r
theorem KV.val{kvs:List (κ×V)}{v:List (κ×Value)}(r:KV kvs v)(k:κ):jK (fL kvs k) (valueAt v k):=by
 unfold KV at r;induction r with
 |nil=>exact True.intro
 | @cons p q ps s h t i=>
  obtain⟨h1,h2⟩:=h;by_cases e:p.1=k
  .have x:q.1=k:=h1.symm.trans e;have b:valueAt (q::s) k=some q.2:=by simp[valueAt,fD,x]
   rw[gH e,b];exact h2
  .have x:¬q.1=k:=λz=>e (h1.trans z);have b:valueAt (q::s) k=valueAt s k:=by simp[valueAt,fD,x]
   rw[fK e,b];exact i
theorem KV.any(r:KV kvs q)(k:κ):(kvs.any λv=>decide (v.1=k))=q.any λv=>decide (v.1=k):=by
 unfold KV at r;induction r with
 |nil=>rfl
 |cons h t i=>rw[cG,cG,i,h.1]
theorem KV.repl(r:KV kvs I)(k:κ)(x:RelV y u) :
  KV (kvs.map λv=>if v.1=k then (v.1,y) else v) (I.map λv=>if v.1=k then (v.1,u) else v):=by
 unfold KV at r ⊢;induction r with
 |nil=>exact .nil
 | @cons p q ps s h t i=>
  rw[aD,aD];refine .cons ?_ i;obtain⟨h1,h2⟩:=h;by_cases e:p.1=k
  .rw [ag e,ag (h1.symm.trans e)];exact⟨h1,x⟩
  .rw [aj e,aj (λz=>e (h1.trans z))];exact⟨h1,h2⟩
theorem KV.put(r:KV kvs q)(k:κ)(h:RelV y u):KV (putK kvs k y) (stored q k u):=by
 unfold putK stored;rw[r.any k];by_cases e:(q.any λv=>decide (v.1=k))=true
 .rw [ag e,ag e];exact r.repl k h
 .rw [aj e,aj e];exact Paired.snoc r ⟨rfl,h⟩
theorem KV.length(r:KV kvs q):kvs.length=q.length:=Paired.length r
end
variable{w:World}{u:Value}
theorem nY(r:RelV (kV k) u):(bP P w).is k u=true:=by
 cases k with
 |inl i=>obtain⟨t,e⟩:=(show ∃t,u=Value.int i t from r);subst e;exact vZ P w i t
 |inr x=>obtain⟨t,e⟩:=(show ∃t,u=Value.str x t from r);subst e;exact vY P w x t
theorem ss:∀{ks:List dj}{j:LV},aU (ks.map kV) j->ItemsAre (bP P w) ks j
 | [],_,r=>by rw[ki]at r;cases r;exact .nil
 |k::ks,_,r=>by
  rw[aD]at r;cases r with
  |cons h t=>exact .cons (nY h) (ss t)
abbrev KT(H:Hp):List (List dj×V)->List (List dj×Addr×Value)->Prop:=Paired λp q=>p.1=q.1/\H q.2.1=some (.tup (p.1.map kV))/\RelV p.2 q.2.2
theorem KT.val{H:Hp}{kvs:List (List dj×V)}{xs:List (List dj×Addr×Value)}(r:KT H kvs xs)(k:List dj):jK (fL kvs k) ((atKey xs k).map (·.2)):=by
 induction r with
 |nil=>exact True.intro
 | @cons p q ps s h t i=>
  obtain⟨h1,_,h2⟩:=h;by_cases e:p.1=k
  .have x:q.1=k:=h1.symm.trans e;have b:atKey (q::s) k=some q.2:=by simp[atKey,fD,x]
   rw[gH e,b];exact h2
  .have x:¬q.1=k:=λz=>e (h1.trans z);have b:atKey (q::s) k=atKey s k:=by simp[atKey,fD,x]
   rw[fK e,b];exact i
variable{H:Hp}{kvs:List (List dj×V)}{xs:List (List dj×Addr×Value)}{y:V}
theorem KT.repl(r:KT H kvs xs)(k:List dj)(a:RelV y u) :
  KT H (kvs.map λv=>if v.1=k then (v.1,y) else v) (xs.map (putAt k u)):=by
 induction r with
 |nil=>exact .nil
 | @cons p q ps s h t i=>
  rw[aD,aD];refine .cons ?_ i;obtain⟨h1,h2,x⟩:=h;unfold putAt;by_cases e:p.1=k
  .rw [ag e,ag (h1.symm.trans e)];exact⟨h1,h2,a⟩
  .rw [aj e,aj (λz=>e (h1.trans z))];exact⟨h1,h2,x⟩
theorem KT.put(r:KT H kvs xs)(k:List dj)(x:H b=some (.tup (k.map kV)))(h:RelV y u) :
  KT H (putK kvs k y) (storedH xs k b u):=by
 have e:(kvs.any λv=>decide (v.1=k))=(atKey xs k).isSome:=by rw[vx,(r.val k).isSome_eq,yI]
 unfold putK storedH;rw[e];by_cases q:(atKey xs k).isSome=true
 .rw [ag q,ag q];exact r.repl k h
 .rw [aj q,aj q];exact Paired.snoc r ⟨rfl,x,h⟩
theorem KT.keeps(r:KT H kvs xs)(h:∀b ys,H b=some (.tup ys)->H' b=some (.tup ys)):KT H' kvs xs:=
 Paired.mapP r λ_ _ z=>⟨z.1,h _ _ z.2.1,z.2.2⟩
section
variable{P:Program}{w:World}{H:Hp}{h:Heap}{a:Addr}
theorem rd_of{u:HO}(ok:iB P w H h)(e:Rd H a u):cM P w H h a u:=e.ok ok
theorem sE{kvs:List (dj×V)}(ok:iB P w H h)(e:Rd H a (.dK kvs)):kvs.length≤sizeLine/\(a == sysModules)=false/\∃vs,KV kvs vs/\h.DictOf (bP P w) a vs:=
 show cM P w H h a (.dK kvs) from rd_of ok e
theorem Jx{kvs:List (dj×V)}(ok:iB P w H h)(e:H a=some (.dK kvs)):kvs.length≤sizeLine/\(a == sysModules)=false/\∃v,KV kvs v/\h.DictOf (bP P w) a v:=sE ok (.inl e)
theorem nr(ok:iB P w H h)(e:H a=some (.tup (ks.map kV))):(tupleKind (bP P w)).is h ks a:=by obtain⟨_,i,r,o,h1,⟨h2,n,x⟩,_⟩:=(show cM P w H h a (.tup (ks.map kV)) from ok a _ e);exact⟨o,i.toArray,n,h1,h2,x,by simpa using ss r⟩
theorem sC(ok:iB P w H h)(e:Rd H a (.dT kvs)):kvs.length≤sizeLine/\(a == sysModules)=false /\
  ∃xs,KT H kvs xs/\h.DictOfH (tupleKind (bP P w)) a xs:=by
 obtain⟨z,y,xs,r,o,es,k,h1,h2,f,b,c⟩:=(show cM P w H h a (.dT kvs) from rd_of ok e);refine⟨z,y,xs,r,o,es,k,h1,h2,f,b,λx s=>?_,c⟩;have all:∀{l:List (List dj×V)}{m:List (List dj×Addr×Value)},KT H l m->∀x ∈ m,(tupleKind (bP P w)).is h x.1 x.2.1:=by
  intro l m q;induction q with
  |nil=>intro x s;exact nomatch s
  | @cons p q ps v n t i=>
   intro x s;rcases aM.mp s with e|s
   .subst e;exact nr ok (by rw[<- n.1];exact n.2.1)
   .exact i x s
 exact all r x s
theorem ON(ok:iB P w H h)(e:H a=some (.dT kvs)):kvs.length≤sizeLine/\(a == sysModules)=false /\
  ∃xs,KT H kvs xs/\h.DictOfH (tupleKind (bP P w)) a xs:=sC ok (.inl e)
end
def jt(H:Hp)(a:Addr)(y:V)(r:Option V):Prop:=
 (∃kvs k,Rd H a (.dK kvs)/\y=kV k/\r=fL kvs k)\/∃kvs k b,Rd H a (.dT kvs)/\y=.ref b/\H b=some (.tup (k.map kV))/\r=fL kvs k
def wS(H:Hp)(a:Addr)(y v:V)(H':Hp):Prop:=
 (∃kvs k,H a=some (.dK kvs)/\y=kV k/\kvs.length < sizeLine/\H'=br H a (.dK (putK kvs k v))) \/
 ∃kvs k b,H a=some (.dT kvs)/\y=.ref b/\H b=some (.tup (k.map kV))/\kvs.length < sizeLine/\H'=br H a (.dT (putK kvs k v))
theorem jt.k{H:Hp}{a:Addr}{kvs:List (dj×V)}{k:dj}(e:H a=some (.dK kvs)):jt H a (kV k) (fL kvs k):=.inl ⟨kvs,k,.inl e,rfl,rfl⟩
theorem jt.t{H:Hp}{a b:Addr}{kvs:List (List dj×V)}{k:List dj}(e:H a=some (.dT kvs))(h:H b=some (.tup (k.map kV))):jt H a (.ref b) (fL kvs k):=.inr ⟨kvs,k,b,.inl e,rfl,h,rfl⟩
theorem wS.k{H:Hp}{a:Addr}{kvs:List (dj×V)}{k:dj}{v:V}(e:H a=some (.dK kvs))(h:kvs.length < sizeLine):wS H a (kV k) v (br H a (.dK (putK kvs k v))):=.inl ⟨kvs,k,e,rfl,h,rfl⟩
theorem wS.t{H:Hp}{a b:Addr}{kvs:List (List dj×V)}{k:List dj}{v:V}(e:H a=some (.dT kvs))(h:H b=some (.tup (k.map kV)))(l:kvs.length < sizeLine) :
  wS H a (.ref b) v (br H a (.dT (putK kvs k v))):=.inr ⟨kvs,k,b,e,rfl,h,l,rfl⟩
section
variable{X:Cx}{pins:PN}{J:St}{H:Hp}{s:Shared}{a:Addr}{y v:V}{u r:Value}{o:Option V}{A:Around}{E:VP}
theorem Inv.big(I:Inv X pins J H s):sysModules < s.heap.objs.size:=by have h:mainGlobals < s.heap.objs.size:=(I.mod.glob.keeps I.bk).lt;exact kg (by decide) h
theorem sI(i:A.units+1 < cLine)(I:Inv X pins J H s)(g:jt H a y (some v))(m:RelV y u)(h:∀x s',Inv X pins J H s'->RelV v x->Q x s') :
  wpAny (model X.p X.w) A (getItem (.ref a) u) Q E s:=by
 rcases g with ⟨kvs,k,e,n,l⟩|⟨kvs,k,b,e,n,t,l⟩
 .subst n;obtain⟨z,d,j,r,dd⟩:=sE I.h e;obtain⟨x,c,w⟩:=jK.some_of (v:=v) (o:=valueAt j k) (by rw[l];exact r.val k);exact wpAny_getItem_of (nY m) dd.mapOf c (h x _ (I.tok _) w)
 .subst n;cases (show u=Value.ref b from m);obtain⟨z,d,xs,r,dd⟩:=sC I.h e;obtain⟨x,c,w⟩:=jK.some_of (v:=v) (o:=(atKey xs k).map (·.2)) (by rw[l];exact r.val k);obtain⟨p,q,f⟩:=bJ.mp c;refine AE (pL i) (nr I.h t) dd q ?_;rw[f];exact h x _ (I.tok _) w
theorem Rz(c:A.units+1 < cLine)(I:Inv X pins J H s)(g:jt H a y o)(n:RelV y u)(h:∀s',Inv X pins J H s'->Q (.bool o.isSome) s') :
  wpAny (model X.p X.w) A (compareOp .In u (.ref a)) Q E s:=by
 rcases g with ⟨kvs,k,e,x,l⟩|⟨kvs,k,b,e,x,f,l⟩
 .subst x;obtain⟨z,d,v,r,dd⟩:=sE I.h e;refine wpAny_in_of (nY n) d dd.mapOf ?_;rw[<- (r.val k).isSome_eq,<- l];exact h _ (I.tok _)
 .subst x;cases (show u=Value.ref b from n);obtain⟨z,d,xs,r,dd⟩:=sC I.h e;refine Am (pL c) (nr I.h f) d dd ?_;have q:=(r.val k).isSome_eq;rw[yI]at q;rw[<- q,<- l];exact h _ (I.tok _)
theorem pC{t:Nat}(I:Inv X pins J H s)(m:Pe (H a))(f:cD a s.heap h')(k:∃q,h'.get? a=some q)(n:cM X.p X.w (br H a N) h' a N) :
  Inv X pins J (br H a N) { s with heap:=h',toks:=t }:=
 I.write (x:=a) (e:=a) m (.inl rfl) (λb q h z=>(f.2 b h).trans z) k n
theorem Fq{P:Program}{w:World}{H':Hp}{h':Heap}{kvs:List (dj×V)}{v:List (dj×Value)}(z:kvs.length≤sizeLine)(h:(a == sysModules)=false)(r:KV kvs v)(dd:h'.DictOf (bP P w) a v) :
  cM P w H' h' a (.dK kvs):=⟨z,h,v,r,dd⟩
theorem Cv{H':Hp}{Q:Unit->Shared->Prop}(hu:A.units+1 < cLine)(I:Inv X pins J H s)(g:wS H a y v H')(ry:RelV y u)(rv:RelV v r)(h:∀s',Inv X pins J H' s'->Q () s') :
  wpAny (model X.p X.w) A (setItem (.ref a) u r) Q E s:=by
 rcases g with ⟨kvs,k,e,ey,l,eH⟩|⟨kvs,k,b,e,ey,eb,l,eH⟩
 .subst ey eH;obtain⟨z,hd,vs,rel,dd⟩:=Jx I.h e;have hz:vs.length≤sizeLine:=by rw[<- rel.length];exact z
  have hl:(putK kvs k v).length≤sizeLine:=by have:=jW kvs k v;lia
  refine wpAny_setItem_pairs (hsz:=hz) (nY ry) dd λh' dd' hs=>h _ ?_;have he:∃q,h'.get? a=some q:=let ⟨q,_,_,hq,_⟩:=dd';⟨q,hq⟩
  exact pC I (by rw[e];exact True.intro) hs he (Fq hl hd (rel.put k rv) dd')
 .subst ey eH;cases (show u=Value.ref b from ry);obtain⟨z,hd,xs,rel,dd⟩:=ON I.h e;have hz:xs.length≤sizeLine:=by rw[<- Paired.length rel];exact z
  have hl:(putK kvs k v).length≤sizeLine:=by have:=jW kvs k v;lia
  refine AF (hsz:=hz) (pL hu) (nr I.h eb) dd λh' dd' hs=>h _ ?_;obtain⟨q,es,ep,hq,h2,h3,h4,_,h5⟩:=dd';refine pC I (by rw[e];exact True.intro) hs ⟨q,hq⟩ ⟨hl,hd,_,(rel.put k eb rv).keeps λc ys ec=>?_,q,es,ep,hq,h2,h3,h4,h5⟩;rw[ar (Og ec e (λz=>nomatch z))];exact ec
end
noncomputable def NH(td ty tv:TE):TS:=λD J H=>tv J H λv G=>td J G λx H2=>ty J H2 λy e=>∃a h,x=.ref a/\wS e a y v h/\D.nx J h
section
variable{X:Cx}{o i e value:Expr}{B pos' tpos:Pos}{td ty tv:TE}
theorem A5(t:X.A.units+1 < cLine)(c:PE X o td)(hi:PE X i ty)(p:PE X value tv)(m:swapsWith value (some (.Subscript o i pos')) B.line X.e=pure false) :
  PS X (.Assign [.Subscript o i pos'] value B) (NH td ty tv):=by
 intro pins s J H D I h;refine AN (b_ (p pins s J H _ I h) λr F ⟨v,G,n,j,q⟩=>b_ (c pins F J G _ n q) λu K ⟨x,H2,k,l,d⟩=>b_ (hi pins K J H2 _ k d) λA C z=>?_) m;obtain⟨y,P,f,S,a,e,ex,g,w⟩:=z;subst ex;obtain rfl:u=Value.ref a:=l;exact Cv t f g S j λE b=>⟨J,e,b,w⟩
end
theorem Fs(h:Heap)(b:sysModules < h.objs.size):cM P w H (h.push { cls:=.type "dict",data:=.dict #[] }) h.objs.size (.dK []):=
 ⟨bW _,gu.mpr (aH (aQ b)),[],.nil,Heap.DictOf.new h⟩
theorem Fo(h:Heap)(b:sysModules < h.objs.size):cM P w H (h.push { cls:=.type "dict",data:=.dict #[] }) h.objs.size (.dT []):=
 ⟨bW _,gu.mpr (aH (aQ b)),[],.nil,_,#[],0,aR _ rfl,⟨rfl,rfl,rfl⟩,rfl,rfl,lF⟩
def Ko:TE:=λ_ H Q=>∀p,H p=none->Q (.ref p) (br H p (.dK []))
def Km:TE:=λ_ H Q=>∀p,H p=none->Q (.ref p) (br H p (.dT []))
section
variable{X:Cx}{B:Pos}
theorem D_:PE X (.Dict [] [] B) Ko:=λpins s J H Q I h=>
 w9 ⟨.ref s.heap.objs.size,_,I.laid (a:=s.heap.objs.size) (o:=.dK []) (t':=s.toks) (λ_ _ q=>aF _ q) (al _) (Fs s.heap I.big),rfl,h _ (I.h.fresh (al _))⟩
theorem D8:PE X (.Dict [] [] B) Km:=λpins s J H Q I h=>
 w9 ⟨.ref s.heap.objs.size,_,I.laid (a:=s.heap.objs.size) (o:=.dT []) (t':=s.toks) (λ_ _ q=>aF _ q) (al _) (Fo s.heap I.big),rfl,h _ (I.h.fresh (al _))⟩
end
structure M1(X:Cx)(o:Expr)(m:Str)(apos:Pos)(e:Expr)(cpos:Pos):Prop where
 base:attributeBase o m X.e (eval o X.e)=eval o X.e
 few:((backTo cpos (starEach [e] X.e)).all (fun x=>!x.1) && (backToKw cpos (keywordEach [] X.e)).all (fun x=>x.1.isSome)
  && decide (([e]:Ab).length+([]:List Keyword).length+(if ([]:List Keyword).isEmpty then 0 else 1) < 30))=true
 line:(apos.endLine == cpos.line)=true
 trees:backTo cpos (starEach [e] X.e)=[(false,eval e X.e)]
structure M2(X:Cx)(o:Expr)(m:Str)(apos:Pos)(e f:Expr)(cpos:Pos):Prop where
 base:attributeBase o m X.e (eval o X.e)=eval o X.e
 few:((backTo cpos (starEach [e,f] X.e)).all (fun x=>!x.1) && (backToKw cpos (keywordEach [] X.e)).all (fun x=>x.1.isSome)
  && decide (([e,f]:Ab).length+([]:List Keyword).length+(if ([]:List Keyword).isEmpty then 0 else 1) < 30))=true
 line:(apos.endLine == cpos.line)=true
 trees:backTo cpos (starEach [e,f] X.e)=[(false,eval e X.e),(false,eval f X.e)]
def RM(H:Hp)(a:Addr):Prop:=(∃kvs,Rd H a (.dK kvs))\/∃kvs,Rd H a (.dT kvs)
variable{pins:PN}{J:St}{s:Shared}
theorem xZ(I:Inv X pins J H s)(d:RM H a) :
  s.TypeIs (.ref a) "dict"/\(∀b,Value.ref a=.ref b->∃o,s.heap.get? b=some o/\o.dict=none)/\(a == sysModules)=false:=by
 rcases d with ⟨kvs,e⟩|⟨kvs,e⟩
 .obtain⟨_,h,v,_,dd⟩:=sE I.h e;refine⟨dd.typeIs,λb q=>?_,h⟩;cases q;obtain⟨o,_,_,h1,h2,_⟩:=dd;exact⟨o,h1,h2.2.1⟩
 .obtain⟨_,h,xs,_,dd⟩:=sC I.h e;refine⟨dd.typeIs,λb q=>?_,h⟩;cases q;obtain⟨o,_,_,h1,h2,_⟩:=dd;exact⟨o,h1,h2.2.1⟩
section
variable{X:Cx}{pins:PN}{J:St}{H:Hp}{s:Shared}{a:Addr}{y d:V}{u r:Value}{o:Option V}{A:Around}{E:VP}
theorem L4(c:A.units+1 < cLine)(I:Inv X pins J H s)(g:jt H a y o)(n:RelV y u)(h:∀w s',Inv X pins J H s'->RelV (o.getD .non) w->Q w s') :
  wpAny (model X.p X.w) A (call (.builtin "dict.get") [.ref a,u]) Q E s:=by
 rcases g with ⟨kvs,k,e,x,l⟩|⟨kvs,k,b,e,x,f,l⟩
 .subst x;obtain⟨z,d,v,r,dd⟩:=sE I.h e;refine pH kt dd.typeIs pc (z8 _ _) (meets_dict_get (bP X.p X.w) a (nY n) d) ⟨_,dd.mapOf,h _ _ (I.tok _) ?_⟩;rw[l];exact(r.val k).getD rfl
 .subst x;cases (show u=Value.ref b from n);obtain⟨z,d,xs,r,dd⟩:=sC I.h e;refine pH kt dd.typeIs pc (z8 _ _) (meetsH_dict_get (tupleKind (bP X.p X.w)) a b d) ⟨pL c,k,xs,nr I.h f,dd,h _ _ (I.tok _) ?_⟩;rw[l];exact(r.val k).getD rfl
theorem L3(p:A.units+1 < cLine)(I:Inv X pins J H s)(g:jt H a y o)(m:RelV y u)(c:RelV d r)(h:∀w s',Inv X pins J H s'->RelV (o.getD d) w->Q w s') :
  wpAny (model X.p X.w) A (call (.builtin "dict.get") [.ref a,u,r]) Q E s:=by
 rcases g with ⟨kvs,k,e,n,l⟩|⟨kvs,k,b,e,n,t,l⟩
 .subst n;obtain⟨z,f,v,x,dd⟩:=sE I.h e;refine pH kt dd.typeIs pc (z9 _ _ _) (meets_dict_get_default (bP X.p X.w) a (nY m) f r) ⟨_,dd.mapOf,h _ _ (I.tok _) ?_⟩;rw[l];exact(x.val k).getD c
 .subst n;cases (show u=Value.ref b from m);obtain⟨z,f,xs,x,dd⟩:=sC I.h e;refine pH kt dd.typeIs pc (z9 _ _ _) (meetsH_dict_get_default (tupleKind (bP X.p X.w)) a b f r) ⟨pL p,k,xs,nr I.h t,dd,h _ _ (I.tok _) ?_⟩;rw[l];exact(x.val k).getD c
end
noncomputable def Kr(td ty:TE):TE:=λJ H Q=>td J H λx G=>∃a,x=.ref a/\RM G a/\ty J G λy H2=>∃o,jt H2 a y o/\Q (o.getD .non) H2
noncomputable def Kq(td ty tx:TE):TE:=λJ H Q=>td J H λx G=>∃a,x=.ref a/\RM G a/\ty J G λy H2=>tx J H2 λz h=>∃o,jt h a y o/\Q (o.getD z) h
section
variable{X:Cx}{o e f:Expr}{apos cpos:Pos}{td ty tx:TE}
theorem Ea(t:X.A.units+1 < cLine)(c:PE X o td)(b:PE X e ty)(m:M1 X o "get" apos e cpos):PE X (.Call (.Attribute o "get" apos) [e] [] cpos) (Kr td ty):=by intro pins s J H Q I h;refine xb m.base m.few m.line ue kt z6 (b_ (c pins s J H _ I h) λu i z=>?_);obtain⟨x,G,n,v,a,ex,d,q⟩:=z;subst ex;obtain rfl:u=Value.ref a:=v;obtain⟨j,l,_⟩:=xZ n d;refine⟨j,l,?_⟩;rw[m.trees];refine iU rfl (kf (cm (b_ (b pins i J G _ n q) λS K ⟨y,H2,k,w,F,g,p⟩=>dC ?_)));exact L4 t k g w λA P f r=>⟨_,H2,f,r,p⟩
theorem D'(w:X.A.units+1 < cLine)(v:PE X o td)(p:PE X e ty)(q:PE X f tx)(m:M2 X o "get" apos e f cpos):PE X (.Call (.Attribute o "get" apos) [e,f] [] cpos) (Kq td ty tx):=by
 intro pins s J H Q I h;refine xb m.base m.few m.line ue kt z6 (b_ (v pins s J H _ I h) fun u A i=>?_);obtain⟨x,G,n,F,a,ex,d,j⟩:=i;subst ex;obtain rfl:u=Value.ref a:=F;obtain⟨C,D,_⟩:=xZ n d;refine⟨C,D,?_⟩;rw [m.trees];refine iU rfl (kf (cm (b_ (p pins A J G _ n j) fun L B ⟨y,H2,b,K,l⟩=>
  cm (b_ (q pins B J H2 _ b l) λE N ⟨z,k,c,P,M,g,S⟩=>dC ?_))))
 exact L3 w c g K P λT R t r=>⟨_,k,t,r,S⟩
end
end L2
set_option tactic.hygienic true
namespace Att
open PySem PySem.W PySem.Calls PyProof.Rows
theorem oE:∀(s:List Int)(v:LV),WellAll P h v (s.map WData.int)->IntsAre v s:=by
 intro s;induction s with
 |nil=>intro v w;rw[ki]at w;cases w;exact .nil
 |cons n s i=>
  intro v w;rw[aD]at w;cases w with
  |cons a b=>cases a;exact .cons _ _ (i _ b)
theorem B4{l:OpenLaw}(t:l.most=some n)
  (p:l.row.toRowW.claim.pre z=true) (w:WellAll P h I z) :
  ∃a v s,I=[Value.ref a]/\z=[WData.list (s.map WData.int)]/\h.get? a=some { cls:=.type "list",data:=.seq v.toArray }/\IntsAre v s/\s.length≤n:=by
 have b:WShape.hasAll [] z [.list .int]=true:=(pre_splitW p).1;have c:l.pre.holds [] { args:=z }=true:=(pre_splitW p).2;obtain⟨d,r,rfl,h1,h2⟩:=hasAllW_cons b;obtain rfl:=hasAllW_nil h2;obtain⟨xs,rfl,m⟩:=hasW_list h1;obtain⟨s,rfl⟩:=items_int m;have e:s.length≤n:=by
  unfold OpenLaw.pre at c;have k:(WTm.not (.lt (.lit (.int (n:Int))) (.len (.arg 0)))).holds [] { args:=[.list (s.map .int)] }=true:=by have k:=(holds_andW c).1;rw[t]at k;exact k
  have f:=condW_of k (w_not (w_lt w_lit (w_len_list (w_arg rfl))));rw[bv]at f;refine Nat.le_of_not_lt λq=>?_;have u:(n:Int) < ((s.length:Nat):Int):=by lia
  first
   |(rw[df u]at f;exact absurd f (by decide))
   |(simp at f;lia)
 cases w with
 |cons g i=>
  cases i;cases g with
  |list o x=>exact⟨_,_,s,rfl,rfl,o,oE s _ x,e⟩
theorem B8(l:OpenLaw)(a:List WData):l.row.toRowW.claim.post a (.bool true) a=true:=
 postW_of (r:=l.row.toRowW) (X:=(true == true))
  (show WShape.has [] (.bool true) .bool=true by first|rfl|decide|simp[WShape.has,WShape.arms,WShape.armsAll])
  (show(WTm.eq .res (.lit (.bool true))).value [] { args:=a,res:=some (.bool true),after:=a }=some (.bool (true == true)) from w_eq_bool (w_res rfl) w_lit) rfl
theorem attach_call{l:OpenLaw}
  (Q:l.most=some n) (u:d.params.defaults=[])
  (call:∀(w:World) (h s:Shared) (mg y:SV) (x:Addr) (o:Obj) (H k c:Value) (a:Addr) (v:LV) (m:List Int),
   Ground q z [] I w h mg y s.heap->N w s.heap ->
   s.heap.get? x=some o->o.data=.func (docDef d.name d.params d.body d.scope H k c)->s.heap.CodeRec k d.name->mg d.name=some (.ref x) ->
   s.heap.get? a=some { cls:=.type "list",data:=.seq v.toArray }->IntsAre v m->m.length≤n->s.gens=#[] ->
   codeAny (model l.prog w) callerA (.call (.ref x) ⟨[.ref a],[]⟩) (λr s'=>r=.ok (.ret (.bool true))/\OldK s.heap s'.heap/\s'.os=s.os/\AllBare s'.gens) s) :
  WalkO q z I N l.row.toRowW d [] (λf v=>PySem.call f v):=by
 intro w h s mg y G P x o H k c V kV R C t D g E S K X p F W j L;obtain rfl:V=.none:=Dflts.none D u;obtain rfl:kV=.none:=Dflts.noKw D;obtain⟨a,v,m,rfl,rfl,b,i,e⟩:=B4 Q p j;refine enter_call (jN (call w h s mg y x o H k c a v m G P R (fd_plain C) t g b i e E) λr s' T=>?_);obtain⟨rfl,h2,A,B⟩:=T;exact⟨.inl ⟨.bool true,.bool true,[],rfl,λ_=>rfl,.bool true,B8 l _,λ_=>⟨List.Pairwise.nil,λ_ M=>(nomatch M)⟩⟩,h2,A,B⟩
end Att
set_option tactic.hygienic false
namespace L2
open PySem PySem.Spec PyProof.Rows
theorem rW:∀{v:LV}{s:List Int},IntsAre v s->aU (s.map V.int) v
 |_,_,.nil=>.nil
 |_,_,.cons n t h=>.cons ⟨t,rfl⟩ (rW h)
def CO(H:Hp):Prop:=∀b,H b=none\/H b=some .tbl\/∃o xs,H b=some (.frz o (.lst xs))
set_option tactic.hygienic true in
theorem Ex{P:Program}{w:World}{K:FG}{mg mb:SV}{CX:CY}{k:Nat}{fa a:Addr}{fd:FuncData}{x:Str}{sp:Sp}{f:Shared}{C:LV}{Z:List Int}
  (KX:K.In f.heap) (hNT:xi K=true) (T:∀P ∈ bR K,f.heap.get? P=some (pR #[])/\∃c,pQ f.heap c P) (R:f.heap.Ns mainGlobals mg) (t:f.heap.Ns builtinsNs mb) (hbb:∀x:Str,x≠"__name__"->mb x=bootBuiltins x) (Q:f.heap.NoLimit) (hbm:∃G A,mg "__builtins__"=some (.ref G)/\G≠builtinsNs/\f.heap.get? G=some A/\A.cls=.type "module"/\A.dict=some builtinsNs/\A.data=.plain) (hg:f.gens=#[])
  (D:f.heap.get? a=some { cls:=.type "list",data:=.seq C.toArray }) (hi:IntsAre C Z) (hl:Z.length≤sizeLine) (hr:Room k callerA)
  (F:∀base:Heap,K.In base->base.Ns mainGlobals mg->FnOk P w K mg base CX k fa fd [x] sp) (B:∀(s:Shared)(u:Value),BindsTo s fd ⟨[u],[]⟩ [(x,u)])
  (hsp:∀H:Hp,CO H->fq K H a (Z.map V.int)->sp [.ref a] H (λv _=>v=.bl true) λ_ _ _=>False)
  (hCX:∀H e s',CX [] H f (λ_ _ _=>False) e s'->False) :
  codeAny (model P w) callerA (.call (.ref fa) ⟨[.ref a],[]⟩) (λr s'=>r=.ok (.ret (.bool true))/\OldK f.heap s'.heap/\s'.os=f.os/\AllBare s'.gens) f:=by
 have rv:=rW hi;have X:=hi.length;have y:∀H:Hp,CO H->fq K H a (Z.map V.int)->iB P w H f.heap->(∀b,H b≠none->b=a\/b ∈ bR K)->(∀b,H b=some .tbl->b ∈ bR K)->(∀b ∈ bR K,H b=some .tbl)->(H a≠none->K.lookup a=none) ->
   codeAny (model P w) callerA (.call (.ref fa) ⟨[.ref a],[]⟩) (λr s'=>r=.ok (.ret (.bool true))/\OldK f.heap s'.heap/\s'.os=f.os/\AllBare s'.gens) f:=by
  intro H hO hS W hA hB hC hK;have hKT:∀b ∈ bR K,K.lookup b=none:=λb t=>by
   cases q:K.lookup b with
   |none=>rfl
   |some o=>have e:=KX b o q;rw[(T b t).1]at e;cases e;have h2:=bD.mp hNT (b,_) (De q);exact absurd (show false=true from h2) be
  have p:∀{b:Addr}{o:Obj},f.heap.get? b=some o->H b=none->(uP f.heap H).get? b=some o:=λe n=>EX e n;have noA:∀{b:Addr}{o:Obj}{es:Array DictEntry}{L:Nat},f.heap.get? b=some o->o.data=.dict es L->H b=none:=λ{b o es L} e d=>by
   cases q:H b with
   |none=>rfl
   |some u=>
    rcases hA b (by rw[q];simp) with j|j
    .subst j;rw[D]at e;cases e;have d':Data.seq C.toArray _=Data.dict es L:=d;cases d'
    .rw [(T b j).1]at e;cases e;cases d
  have noM:∀{b:Addr}{o:Obj},f.heap.get? b=some o->o.cls=.type "module"->H b=none:=λ{b o} e d=>by
   cases q:H b with
   |none=>rfl
   |some u=>
    rcases hA b (by rw[q];simp) with j|j
    .subst j;rw[D]at e;cases e;exact absurd (show Value.type "list"=Value.type "module" from d) (by decide)
    .rw [(T b j).1]at e;cases e;cases d
  have l:∀{b:Addr}{m:SV},f.heap.Ns b m->(uP f.heap H).Ns b m:=fun {b m} ⟨o,es,L,e,d,r⟩=>⟨o,es,L,p e (noA e d),d,r⟩;have M:K.In (uP f.heap H):=fun b o e=>p (KX b o e) (by
   cases q:H b with
   |none=>rfl
   |some u=>
    rcases hA b (by rw[q];simp) with j|j
    .subst j;rw[hK (by rw[q];simp)]at e;cases e
    .rw [hKT b j]at e;cases e)
  have hM:Mod K mg (uP f.heap H):=⟨M,l R,⟨mb,l t,hbb⟩,let ⟨mc,h1,h2⟩:=Q;⟨mc,l h1,h2⟩,let ⟨G,A,c1,c2,c3,c4,c5⟩:=hbm;⟨G,A,c1,c2,p c3 (noM c3 c4),c4,c5⟩⟩;have e0:Env0 P w K mg (uP f.heap H) callerA [] f H:=⟨rfl,hM,λb o e=>HM e,y0 (Cj _ _),trivial,λb t=>absurd (show b ∈ ([]:List Addr) from t) (by simp),hC,W,.of_eq hg⟩;refine jN ((F _ M (l R)).run callerA [] f H ⟨[.ref a],[]⟩ [.ref a] [.ref a] _ _ hr e0 (B f (.ref a)) (.cons rfl .nil) (hsp H hO hS)) λr s' h=>?_;cases r with
  |error e=>exact(hCX H e s' h).elim
  |ok fl=>
   cases fl with
   |next=>exact False.elim h
   |brk=>exact False.elim h
   |cont=>exact False.elim h
   |ret u=>
    obtain⟨v,H',os,E,un,S,r',q⟩:=h;have q':v=.bl true:=q;subst q';obtain rfl:u=Value.bool true:=r';have aw:∀b o,f.heap.get? b=some o->asItWas f.heap s'.heap b o:=λb o e=>by
     rcases hO b with q|z|⟨A,xs,z⟩
     .exact .inl (un.keep b o e q (by intro z;exact absurd (show b ∈ ([]:List Addr) from z) (by simp)) (by simp))
     .obtain⟨I,c,e2⟩:=T b (hB b z);obtain⟨ps,e3,_⟩:=(show qZ H' s'.heap b from S b _ (un.tbls b z));rw[I]at e;cases e;exact .inr (.inl ⟨(e2.tab I).isCodeTable,rfl,#[],(nX ps).toArray,rfl,by rw[Array.empty_append];exact e3⟩)
     .have z2:=un.frzs b A _ z;obtain⟨I,_⟩:=W b _ z;obtain⟨e2,_⟩:=S b _ z2;rw[e]at I;cases I;exact .inl e2
    refine⟨rfl,⟨aw,λb o e=>?_⟩,os,E⟩;rcases aw b o e with x|⟨_,_,_,_,_,x⟩|⟨_,_,⟨_,_,_,x,_⟩,_⟩<;>exact⟨_,x⟩
 have N:a ∉ bR K:=λz=>by have e:=(T a z).1;rw[D]at e;cases e
 have tk:∀b,b ∈ bR K->∀H:Hp,qZ H f.heap b:=λb t H=>⟨[],(T b t).1,λ_ z=>nomatch z⟩;cases hk:K.lookup a with
 |some o=>
  have e:=KX a o hk;rw[D]at e;cases e;refine y (λb=>if b ∈ bR K then some .tbl else none) (λb=>?_) (.inr ⟨_,C.toArray,_,hk,rfl,rfl,rfl,by rw[aY,X];exact hl,by simpa using rv⟩) (λb u z=>?_) (λb z=>?_) (λb z=>?_) (λb z=>ag z) λz=>absurd (aj N) z
  .by_cases t:b ∈ bR K
   .exact .inr (.inl (ag t))
   .exact .inl (aj t)
  .by_cases t:b ∈ bR K
   .have g:=(ag t).symm.trans z;cases g;exact tk b t _
   .have g:=(aj t).symm.trans z;cases g
  .by_cases t:b ∈ bR K
   .exact .inr t
   .exact absurd (aj t) z
  .by_cases t:b ∈ bR K
   .exact t
   .have g:=(aj t).symm.trans z;cases g
 |none=>
  refine y (λb=>if b=a then some (.frz { cls:=.type "list",data:=.seq C.toArray } (.lst (Z.map V.int))) else if b ∈ bR K then some .tbl else none) (λb=>?_) (.inl (.inr ⟨{ cls:=.type "list",data:=.seq C.toArray },ag rfl⟩)) (λb u z=>?_) (λb z=>?_) (λb z=>?_) (λb z=>?_) λ_=>hk
  .by_cases t:b=a
   .exact .inr (.inr ⟨_,_,ag t⟩)
   .by_cases i:b ∈ bR K
    .exact .inr (.inl ((aj t).trans (ag i)))
    .exact .inl ((aj t).trans (aj i))
  .by_cases t:b=a
   .have g:=(ag t).symm.trans z;cases g;subst t;exact⟨D,by rw[bv];exact hl,C,_,rv,D⟩
   .have z1:=(aj t).symm.trans z;by_cases i:b ∈ bR K
    .have g:=(ag i).symm.trans z1;cases g;exact tk b i _
    .have g:=(aj i).symm.trans z1;cases g
  .by_cases t:b=a
   .exact .inl t
   .by_cases i:b ∈ bR K
    .exact .inr i
    .exact absurd ((aj t).trans (aj i)) z
  .by_cases t:b=a
   .have g:=(ag t).symm.trans z;cases g
   .by_cases i:b ∈ bR K
    .exact i
    .have g:=(aj i).symm.trans ((aj t).symm.trans z);cases g
  .have t:b≠a:=λq=>N (q ▸ z);exact(aj t).trans (ag z)
noncomputable abbrev Sd{K:FG}(_:K.In h):FG:=K
theorem G3{l:C7}{n k:Nat}{q:Program}{m:LS}{I:(SV)->Heap->Prop}{g:World->Heap->Prop}{d:DefRec}{K:Params->FG}{CX:World->CY}{sp:World->Sp}{x:Str}
  (hn:l.most=some n) (S:n≤sizeLine) (y:d.params.defaults=[]) (hr:Room k callerA)
  (W:∀(w:World)(h:Heap),g w h->(K w.params).In h) (N:∀w:World,xi (K w.params)=true) (T:∀(w:World)(h:Heap),g w h->∀P ∈ bR (K w.params),h.get? P=some (pR #[])/\∃c,pQ h c P)
  (F:∀(w:World) (mg:SV) (t:Addr) (h:Heap),(K w.params).In h->h.Ns mainGlobals mg->mg d.name=some (.ref t) ->
   ∃fd:FuncData,(∀(s:Shared)(u:Value),BindsTo s fd ⟨[u],[]⟩ [(x,u)]) /\
    ∀base:Heap,(K w.params).In base->base.Ns mainGlobals mg->FnOk l.prog w (K w.params) mg base (CX w) k t fd [x] (sp w))
  (A:∀(w:World)(H:Hp)(a:Addr)(p:List Int),p.length≤n->CO H->fq (K w.params) H a (p.map V.int)->sp w [.ref a] H (λv _=>v=.bl true) λ_ _ _=>False)
  (C:∀(w:World)(H:Hp)(s:Shared)(e:Value)(s':Shared),CX w [] H s (λ_ _ _=>False) e s'->False) :
  C4 q m I g l.row.toRowW d [] (λf E=>PySem.call f E):=by
 refine Att.attach_call hn y λw D r mg mb t o pm cd L a E p G B ho hd hcd z j i b hg=>?_;have X:=W w _ B;obtain⟨fd,Z,M⟩:=F w mg t _ X G.T.g z;exact Ex X (N w) (T w _ B) G.T.g G.T.b G.T.builtins G.T.nolimit G.T.bmain hg j i (ba b S) hr M Z (λH Q R=>A w H a p b Q R) λH e s'=>C w H r e s'
theorem Dr{l:C7}{n k:Nat}{q:Program}{o:LS}{X:(SV)->Heap->Prop}{m:World->Heap->Prop}{d:DefRec}{K:Params->FG}{CX:CY}{sp:FG->Sp}{x:Str}
  (y:l.most=some n) (t:n≤sizeLine) (r:d.params.defaults=[]) (z:Room k callerA)
  (j:∀(w:World)(h:Heap),m w h->(K w.params).In h) (N:∀w:World,xi (K w.params)=true) (T:∀(w:World)(h:Heap),m w h->∀P ∈ bR (K w.params),h.get? P=some (pR #[])/\∃c,pQ h c P)
  (F:∀(w:World) (mg:SV) (g:Addr) (h:Heap),(K w.params).In h->h.Ns mainGlobals mg->mg d.name=some (.ref g) ->
   ∃fd:FuncData,(∀(s:Shared)(u:Value),BindsTo s fd ⟨[u],[]⟩ [(x,u)]) /\
    ∀base:Heap,(K w.params).In base->base.Ns mainGlobals mg->FnOk l.prog w (K w.params) mg base CX k g fd [x] (sp (K w.params)))
  (p:∀(K:FG)(H:Hp)(a:Addr)(b:List Int),b.length≤n->CO H->fq K H a (b.map V.int)->sp K [.ref a] H (λv _=>v=.bl true) λ_ _ _=>False)
  (C:∀(H:Hp)(s:Shared)(e:Value)(s':Shared),CX [] H s (λ_ _ _=>False) e s'->False) :
  C4 q o X m l.row.toRowW d [] (λf S=>PySem.call f S):=
 G3 (K:=K) (CX:=λ_=>CX) (sp:=λw=>sp (K w.params)) y t r z j N T F (λw H a b h1 h2 i=>p (K w.params) H a b h1 h2 i) λ_ H s e s'=>C H s e s'
noncomputable def ej(s:Stmt)(j:Nat):Stmt:=match s with
 | .ClassDef _ _ _ b _ _ _ _ _ _ _=>b.getD j (.Pass ⟨0,0,0,0⟩)
 |_=>.Pass ⟨0,0,0,0⟩
noncomputable def gB(s:Stmt):Arguments:=match s with
 | .FunctionDef _ a _ _ _ _ _ _ _ _=>a
 |_=>{ posonlyargs:=[],args:=[],vararg:=none,kwonlyargs:=[],kw_defaults:=[],kwarg:=none,defaults:=[] }
noncomputable def eU(s:Stmt):List Stmt:=match s with
 | .FunctionDef _ _ b _ _ _ _ _ _ _=>b
 |_=>[]
noncomputable def bf(s:Stmt):Scope:=match s with
 | .FunctionDef _ _ _ _ _ _ sc _ _ _=>sc
 |_=>{ kind:=.function,names:=[],isGenerator:=false,isCoroutine:=false }
noncomputable abbrev nR:CY:=λ_ _ _ _ _ _=>False
noncomputable abbrev E0:XK:=λ_ _ _=>False
theorem qe:lv nR X E0:=λ_ _ _ _ _ _ _ h=>h.elim
structure Fun(K:FG)(x qual:Str)(st:Stmt)(f:Addr)(fd:FuncData):Prop where
 ex:∃(oc:Value)(od:Option Addr)(dV kV doc pm:Value)(an:Option Addr)(cdv ct:Value)(osl:Array (OV)),
  fd=ij x qual (gB st) (eU st) (bf st) dV kV doc pm an cdv ct/\K.lookup f=some ⟨oc,od,.func fd,osl⟩/\ik K cdv qual=true
 kp:fw K (.ref f)=true
section
variable{P:Program}{w:World}{K:FG}{mg:SV}{base:Heap}
theorem E6{x q:Str}{st:Stmt}{f:Addr}{h:Value}{e a:Option Addr}{s:Array (OV)}{V kV o p d t:Value}(l:K.lookup f=some ⟨h,e,.func (ij x q (gB st) (eU st) (bf st) V kV o p a d t),s⟩)
  (c:ik K d q=true) (k:fw K (.ref f)=true):Fun K x q st f (ij x q (gB st) (eU st) (bf st) V kV o p a d t):=⟨⟨h,e,V,kV,o,p,a,d,t,s,rfl,l,c⟩,k⟩
end
section
variable{X:Cx}
end
abbrev KN:List (PyData×V×V)->List (PyData×Addr×Value)->Prop:=Paired λp q=>p.1=q.1/\p.2.1=V.ref q.2.1/\RelV p.2.2 q.2.2
def lx(h:Heap)(d:PyData)(v:V):Prop:=∃b,v=.ref b/\Nk.kd d=true/\d.depth≤8/\∃as,Reads h (.ref b) d as
noncomputable def hasN(kvs:List (PyData×V×V))(d:PyData):Bool:=kvs.any λp=>decide (p.1=d)
section
variable{P:Program}{w:World}{H:Hp}{h:Heap}{a:Addr}
theorem KN.has(r:KN kvs xs)(d:PyData):(atKey xs d).isSome=hasN kvs d:=by
 induction r with
 |nil=>rfl
 | @cons p q ps s h t i=>
  unfold hasN at i ⊢;rw[cG];by_cases e:p.1=d
  .have x:q.1=d:=h.1.symm.trans e;simp[atKey,fD,e,x]
  .have x:¬q.1=d:=λz=>e (h.1.trans z);rw[aX e,kq,<- i];simp[atKey,fD,x]
theorem BD(ok:iB P w H h)(e:H a=some (.dN kvs))(ks:∀p ∈ kvs,lx h p.1 p.2.1):kvs.length≤sizeLine/\(a == sysModules)=false/\∃xs,KN kvs xs/\h.DictOfH (Nk.nest P w) a xs:=by
 obtain⟨z,y,xs,r,o,es,ep,h1,h2,h3,h4,h5⟩:=(show cM P w H h a (.dN kvs) from ok a _ e);refine⟨z,y,xs,r,o,es,ep,h1,h2,h3,h4,?_,h5⟩;clear h4 h5 e z;induction r with
 |nil=>exact λx hx=>nomatch hx
 | @cons p q ps qs hq t ih=>
  intro x hx;rcases aM.mp hx with rfl|hx
  .obtain⟨b,e1,k,l,as,rd⟩:=ks p aJ;have e2:=hq.2.1;rw[e1]at e2;cases e2;rw[<- hq.1];exact⟨k,l,as,rd⟩
  .exact ih (λp hp=>ks p (aN _ hp)) x hx
end
section
variable{X:Cx}{pins:PN}{J:St}{H:Hp}{s:Shared}{a:Addr}{d:PyData}{y v:V}{u r:Value}{A:Around}{E:VP}{kvs:List (PyData×V×V)}
theorem Rh(hu:A.units+9 < cLine)(I:Inv X pins J H s)(e:H a=some (.dN kvs))(ks:∀p ∈ kvs,lx s.heap p.1 p.2.1)(ky:lx s.heap d y)(ry:RelV y u)(h:∀s',Inv X pins J H s'->Q (.bool (hasN kvs d)) s') :
  wpAny (model X.p X.w) A (compareOp .In u (.ref a)) Q E s:=by
 obtain⟨b,rfl,k⟩:=ky;cases (show u=Value.ref b from ry);obtain⟨z,hd,xs,rel,dd⟩:=BD I.h e ks;refine Am (knd:=Nk.nest X.p X.w) (show(A.in1).units+8 < cLine by rw[i4];lia) k hd dd ?_;rw[rel.has];exact h _ (I.tok _)
theorem HQ(hu:A.units+9 < cLine)(I:Inv X pins J H s)(e:H a=some (.dN kvs))(ks:∀p ∈ kvs,lx s.heap p.1 p.2.1)(ky:lx s.heap d y)(ry:RelV y u)(h:∀s',Inv X pins J H s'->Q (.bool (!hasN kvs d)) s') :
  wpAny (model X.p X.w) A (compareOp .NotIn u (.ref a)) Q E s:=by
 obtain⟨b,rfl,k⟩:=ky;cases (show u=Value.ref b from ry);obtain⟨z,hd,xs,rel,dd⟩:=BD I.h e ks;refine wpAny_notIn_heap (knd:=Nk.nest X.p X.w) (show(A.in1).units+8 < cLine by rw[i4];lia) k hd dd ?_;rw[rel.has];exact h _ (I.tok _)
theorem Oh(hu:A.units+9 < cLine)(I:Inv X pins J H s)(e:H a=some (.dN kvs))(ks:∀p ∈ kvs,lx s.heap p.1 p.2.1)(ky:lx s.heap d y)(ry:RelV y u)(rv:RelV v r)(new:hasN kvs d=false)(hl:kvs.length < sizeLine)
  (h:∀s',Inv X pins J (br H a (.dN (kvs++[(d,y,v)]))) s'->Q () s'):wpAny (model X.p X.w) A (setItem (.ref a) u r) Q E s:=by
 obtain⟨b,rfl,k⟩:=ky;cases (show u=Value.ref b from ry);obtain⟨z,hd,xs,rel,dd⟩:=BD I.h e ks;have hz:xs.length≤sizeLine:=by rw[<- Paired.length rel];exact z
 refine AF (knd:=Nk.nest X.p X.w) (hsz:=hz) (show(A.in1).units+8 < cLine by rw[i4];lia) k dd λh' dd' hs=>h _ ?_;have nn:atKey xs d=none:=by have:=rel.has d;rw[new]at this;simpa using this
 rw[storedH_new nn]at dd';obtain⟨q,es,ep,hq,h2,h3,h4,_,h5⟩:=dd';exact pC I (by rw[e];exact True.intro) hs ⟨q,hq⟩ ⟨by simp;lia,hd,_,Paired.snoc rel ⟨rfl,rfl,rv⟩,q,es,ep,hq,h2,h3,h4,h5⟩
end
theorem Fp(h:Heap)(b:sysModules < h.objs.size):cM P w H (h.push { cls:=.type "dict",data:=.dict #[] }) h.objs.size (.dN []):=
 ⟨bW _,gu.mpr (aH (aQ b)),[],.nil,_,#[],0,aR _ rfl,⟨rfl,rfl,rfl⟩,rfl,rfl,lF⟩
end L2
set_option tactic.hygienic true
namespace PySem
open PySem PyProof.Rows
namespace F
theorem entry_dict_update_loop:entryFor table "dict.update.loop"=some Builtin.«dict.update.loop»:=entryFor_of_tree (by kernel_rfl)
theorem plain_dict_update_loop:plainId "dict.update.loop"=true:=by decide +kernel
theorem list_no_keys:typeLookup (.type "list") "keys"=pure none:=by rw[w5,xg];kernel_rfl
end F
section
variable{prog:Program}{w:World}{A:Around}{E:VP}{s:Shared}
theorem xR 
  (hx:s.heap.get? a=some o) (hc:o.cls=.type "list") (hdat:o.data=.seq xs k0) (hd:o.dict=none) (hmiss:typeLookup (.type "list") name=pure none) (hname:(["__module__","__name__","__qualname__","__doc__","__annotations__"]:LS).contains name=false) (hA:A.handled=none)
  (h:∀h' tk,(∀b o,s.heap.get? b=some o->h'.get? b=some o)->Q none { s with heap:=h',toks:=tk }) (hsz:name.length+100≤sizeLine:=by size_fits) :
  wpAny (model prog w) A (getAttr? (.ref a) name) Q E s:=by
 obtain⟨c,dct,dat,sl⟩:=o;simp only at hc hdat hd;subst hc hdat hd;obtain⟨hp,g,d,tk,os⟩:=s;have hT:∀tk',(⟨hp,g,d,tk',os⟩:Shared).TypeIs (.ref a) "list":=λ_=>⟨_,hx,rfl⟩;have f1:=AD;have f3:=ua.lookup;have f4:=ua.bind (.ref a);have f5:=am_list_getattr_none;have step:∀(tk1:Nat)(u:Tok)(Q1:VP)(E1:VP),(∀h' tk2 e,y7 hp h' e (.ref a) name->E1 (.ref e) ⟨h',g,d,tk2,os⟩) ->
   wpAny (model prog w) A (call (Value.builtin "list.__getattribute__") ([Value.ref a]++[Value.str name u]) []) Q1 E1 ⟨hp,g,d,tk1,os⟩:=λtk1 u Q1 E1 k=>
  eF ua (hT _) am_entry_list_getattribute (F.args_list_getattribute_2 _ _) (meets_getattribute_miss_list a xs k0 sl name u hmiss hname hsz) ⟨hx,hA,k⟩
 unfold getAttr?;unfold getAttrBy?;unfold getAttrBy;repeat any_goals first|assumption|exact hT _|(with_reducible refine step _ _ _ _ λh' tk' e hx'=>?_)|wp_step
 have he:=hx'.there;obtain⟨t',u',he⟩:=he;repeat any_goals first|assumption|wp_step
 exact h _ _ hx'.keeps
inductive PairsAt{K:Type}[DecidableEq K](knd:KeyKind prog w K)(h:Heap):LV->List (K×Value)->Prop
 |nil:PairsAt knd h [] []
 |cons {t:Addr}{key v:Value}{k:K}{us:LV}{kvs:List (K×Value)}:IsTup h t #[key,v]->knd.is k key=true->PairsAt knd h us kvs->PairsAt knd h (.ref t::us) ((k,v)::kvs)
end
end PySem
namespace Ev
open PySem L2
noncomputable abbrev Ri:Bool->Str
 |false=>"standing"
 |true=>"fact"
noncomputable abbrev rB:Bool->Str
 |false=>"ends_of"
 |true=>"truths_at"
abbrev LD(k:Bool):Arguments:={ posonlyargs:=[],args:=[{ arg:=Ri k,annotation:=none,pos:=if k=true then ⟨577,46,577,50⟩ else ⟨551,50,551,58⟩ }],vararg:=none,kwonlyargs:=[],kw_defaults:=[],kwarg:=none,defaults:=[] }
noncomputable abbrev Ic:Bool->Expr
 |false=>.Call (.Attribute (.Name "court" ⟨551,60,551,65⟩) "ends_of" ⟨551,60,551,73⟩) [.Name "standing" ⟨551,74,551,82⟩] [] ⟨551,60,551,83⟩
 |true=>.Call (.Attribute (.Name "court" ⟨577,52,577,57⟩) "truths_at" ⟨577,52,577,67⟩) [.Name "fact" ⟨577,68,577,72⟩,.Name "standings" ⟨577,74,577,83⟩] [] ⟨577,52,577,84⟩
noncomputable abbrev qm:Bool->Scope
 |false=>{ kind:=.function,names:=[(Str.ofString "standing",.local),(Str.ofString "court",.free)],isGenerator:=false,isCoroutine:=false,more:=[] }
 |true=>{ kind:=.function,names:=[(Str.ofString "fact",.local),(Str.ofString "court",.free),(Str.ofString "standings",.free)],isGenerator:=false,isCoroutine:=false,more:=[] }
noncomputable abbrev qo:Bool->LS
 |false=>["court"]
 |true=>["court","standings"]
abbrev v7(k:Bool)(cs:List Addr)(p:Value)(h:Addr)(c:Value):Obj:=PySem.W.kla_obj "<lambda>" (rn k) (LD k) (Ic k) (qm k) ((qo k).zip cs).reverse p h c
inductive P where
 |non|bl (b:Bool)|int (i:Int)|str (x:Str)|tup (xs:List P)|lst (xs:List P)|ro (xs:List P)|dct (ks:List dj) (vs:List P)
inductive D where
 |p (v:P)|ref (i:Nat)
inductive SO where
 |lst (xs:List D)|dct (ks:List dj) (vs:List D)|fz (v:P)|ins (c:Str) (ks:LS) (vs:List D)|dtn (ks:List P) (vs:List D)|fn (d:Option (Bool×List D))|dtt (ks:List (List dj)) (vs:List D)
noncomputable abbrev aE:=List SO
noncomputable abbrev Lc:=List (Option D)
mutual
noncomputable def pd:P->PyData
 | .non=>.none
 | .bl b=>.bool b
 | .int i=>.int i
 | .str x=>.str x
 | .tup xs=>.tuple (gJ xs)
 | .lst xs=>.list (gJ xs)
 | .ro xs=>.list (gJ xs)
 | .dct _ _=>.none
noncomputable def gJ:List P->List PyData
 | []=>[]
 |x::r=>pd x::gJ r
end
def RJ(K:FG)(a:Addr)(xs:List V):Prop:=kF K (λ_=>none) a xs
def RK(K:FG)(a:Addr)(xs:List V):Prop:=fq K (λ_=>none) a xs
def TupAt(K:FG)(H:Hp)(a:Addr)(xs:List V):Prop:=H a=some (.tup xs)\/RJ K a xs
def LstAt(F:Aa)(H:Hp)(a:Addr)(xs:List V):Prop:=F a/\H a=some (.lst xs)
def CN(K:FG)(F:Aa)(H:Hp)(a:Addr)(xs:List V):Prop:=(F a/\∃o,H a=some (.frz o (.lst xs)))\/RK K a xs
variable{K:FG}{H:Hp}{a:Addr}{xs:List V}
theorem TupAt.sq(h:TupAt K H a xs):kF K H a xs:=by
 rcases h with h|(h|h)
 .exact .inl (.inl h)
 .rcases h with h|⟨o,h⟩<;>cases h
 .exact .inr h
variable{F:Aa}
theorem LstAt.sq(h:LstAt F H a xs):fq K H a xs:=.inl (.inl h.2)
theorem CN.sq(h:CN K F H a xs):fq K H a xs:=by
 rcases h with ⟨_,o,h⟩|(h|h)
 .exact .inl (.inr ⟨o,h⟩)
 .rcases h with h|⟨o,h⟩<;>cases h
 .exact .inr h
section
variable(K:FG)(F:Aa)(H:Hp)
mutual
noncomputable def RP:P->V->Prop
 | .non,v=>v=.non
 | .bl b,v=>v=.bl b
 | .int i,v=>v=.int i
 | .str x,v=>v=.str x
 | .tup ds,v=>∃a xs,v=.ref a/\TupAt K H a xs/\bB ds xs
 | .lst ds,v=>∃a xs,v=.ref a/\LstAt F H a xs/\bB ds xs
 | .ro ds,v=>∃a xs,v=.ref a/\CN K F H a xs/\bB ds xs
 | .dct ks ds,v=>∃a kvs,v=.ref a/\F a/\H a=some (.dK kvs)/\kvs.map (·.1)=ks/\bB ds (kvs.map (·.2))
noncomputable def bB:List P->List V->Prop
 | [],xs=>xs=[]
 |d::ds,xs=>∃x r,xs=x::r/\RP d x/\bB ds r
end
def RD(m:List Addr):D->V->Prop
 | .p d,v=>RP K F H d v
 | .ref i,v=>∃a,v=.ref a/\m[i]? = some a
def bI(m:List Addr):List D->List V->Prop
 | [],xs=>xs=[]
 |d::s,xs=>∃x r,xs=x::r/\RD K F H m d x/\bI m s r
def wT(H:Hp):List V->List Addr->Prop
 | [],cs=>cs=[]
 |v::N,cs=>∃c r o u,cs=c::r/\H c=some (.frz o (.own c))/\o.data=.cell (some u)/\RelV v u/\wT H N r
inductive FnI(H:Hp)(a:Addr)(k:Bool)(vs:List V):Prop
 |mk (cs:List Addr) (c' P:Addr) (oc:Obj) (pm ctv:Value) (f:H a=some (.frz (v7 k cs pm c' ctv) (.own a))) (c:wT H vs cs) (e:H c'=some (.frz oc (.own P))) (l:xX k oc):FnI H a k vs
def RO(m:List Addr)(a:Addr):SO->Prop
 | .lst d=>∃xs,H a=some (.lst xs)/\bI K F H m d xs
 | .dct h d=>∃s,H a=some (.dK s)/\s.map (·.1)=h/\bI K F H m d (s.map (·.2))
 | .fz v=>RP K F H v (.ref a)
 | .ins c h d=>∃C x s,i5 K mainGlobals c=some (some (.ref C))/\H a=some (.ins C x s)/\s.map (·.1)=h/\bI K F H m d (s.map (·.2))
 | .dtn h d=>∃s,H a=some (.dN s)/\s.map (·.1)=gJ h/\bB K F H h (s.map (·.2.1))/\bI K F H m d (s.map (·.2.2))
 | .fn o=>∀k d,o=some (k,d)->∃N,FnI H a k N/\bI K F H m d N
 | .dtt h d=>∃s,H a=some (.dT s)/\s.map (·.1)=h/\bI K F H m d (s.map (·.2))
def SO.own:SO->Prop
 | .fz _=>False
 | .fn _=>False
 |_=>True
structure Rel(m:List Addr)(S:aE):Prop where
 len:m.length=S.length
 nd:m.Nodup
 obj:∀(i:Nat) a o,m[i]? = some a->S[i]? = some o->RO K F H m a o
 sep:∀(i:Nat) a o,m[i]? = some a->S[i]? = some o->o.own->¬F a
 trk:∀a ∈ m,H a≠none
 ft:∀a,F a->H a≠none
end
structure Kp(F:Aa)(m:List Addr)(H:Hp)(F':Aa)(m':List Addr)(H':Hp):Prop where
 pre:∃n,m'=m++n
 frz:∀b,F b->F' b
 frk:∀b o,F b->H b=some o->H' b=some o
 tup:∀b xs,H b=some (.tup xs)->H' b=some (.tup xs)
 cod:∀b o u,H b=some (.frz o (.own u))->H' b=some (.frz o (.own u))
structure Stp(F:Aa)(m:List Addr)(H:Hp)(F':Aa)(m':List Addr)(H':Hp):Prop where
 pre:∃n,m'=m++n
 oth:∀b o,H b=some o->b ∉ m->H' b=some o
 frz:∀b,F b->F' b
 frk:∀b o,F b->H b=some o->H' b=some o
 tup:∀b xs,H b=some (.tup xs)->H' b=some (.tup xs)
 trk:∀b,H b≠none->H' b≠none
 nf:∀b,F' b->F b\/H b=none\/b ∈ m
 nm:∀b,b ∈ m'->b ∈ m\/H b=none
 cod:∀b o u,H b=some (.frz o (.own u))->H' b=some (.frz o (.own u))
variable{H':Hp}
theorem wT.cod(s:∀b o u,H b=some (.frz o (.own u))->H' b=some (.frz o (.own u))):∀{N:List V}{cs:List Addr},wT H N cs->wT H' N cs
 | [],_,h=>h
 |_::_,_,h=>by obtain⟨c,r,o,f,e,x,a,n,k⟩:=h;exact⟨c,r,o,f,e,s _ _ _ x,a,n,wT.cod s k⟩
variable{F':Aa}{m:List Addr}{m':List Addr}
theorem Stp.kp(s:Stp F m H F' m' H'):Kp F m H F' m' H':=⟨s.pre,s.frz,s.frk,s.tup,s.cod⟩
theorem Stp.refl:Stp F m H F m H:=
 ⟨⟨[],by simp⟩,λ_ _ h _=>h,λ_ h=>h,λ_ _ _ h=>h,λ_ _ h=>h,λ_ h=>h,λ_ h=>.inl h,λ_ h=>.inl h,λ_ _ _ h=>h⟩
theorem Stp.trans(a:Stp F m H C k y)(b:Stp C k y B r I):Stp F m H B r I where
 pre:=by obtain⟨f,s⟩:=a.pre;obtain⟨t,n⟩:=b.pre;exact⟨f++t,by rw[n,s,lI]⟩
 oth:=λc o h x=>b.oth c o (a.oth c o h x) λz=>by
  rcases a.nm c z with z|z
  .exact x z
  .rw [h]at z;cases z
 frz:=λc h=>b.frz c (a.frz c h)
 frk:=λc o h e=>b.frk c o (a.frz c h) (a.frk c o h e)
 tup:=λc xs h=>b.tup c xs (a.tup c xs h)
 cod:=λc o u h=>b.cod c o u (a.cod c o u h)
 trk:=λc h=>b.trk c (a.trk c h)
 nf:=λc h=>by
  rcases b.nf c h with h|h|h
  .exact a.nf c h
  .by_cases e:H c=none
   .exact .inr (.inl e)
   .exact absurd h (a.trk c e)
  .rcases a.nm c h with h|h
   .exact .inr (.inr h)
   .exact .inr (.inl h)
 nm:=λc h=>by
  rcases b.nm c h with h|h
  .exact a.nm c h
  .by_cases e:H c=none
   .exact .inr e
   .exact absurd h (a.trk c e)
section
variable{K:FG}{F F':Aa}{H H':Hp}{m m':List Addr}{S T:aE}
theorem TupAt.kp(s:Kp F m H F' m' H')(h:TupAt K H a xs):TupAt K H' a xs:=by
 rcases h with h|h
 .exact .inl (s.tup _ _ h)
 .exact .inr h
theorem LstAt.kp(s:Kp F m H F' m' H')(h:LstAt F H a xs):LstAt F' H' a xs:=⟨s.frz _ h.1,s.frk _ _ h.1 h.2⟩
theorem CN.kp(s:Kp F m H F' m' H')(h:CN K F H a xs):CN K F' H' a xs:=by
 rcases h with ⟨f,o,h⟩|h
 .exact .inl ⟨s.frz _ f,o,s.frk _ _ f h⟩
 .exact .inr h
mutual
theorem RP.kp(s:Kp F m H F' m' H'):∀{d:P}{v:V},RP K F H d v->RP K F' H' d v
 | .non,_,h=>h
 | .bl _,_,h=>h
 | .int _,_,h=>h
 | .str _,_,h=>h
 | .tup _,_,h=>by obtain⟨a,xs,e,t,r⟩:=h;exact⟨a,xs,e,t.kp s,bB.kp s r⟩
 | .lst _,_,h=>by obtain⟨a,xs,e,t,r⟩:=h;exact⟨a,xs,e,t.kp s,bB.kp s r⟩
 | .ro _,_,h=>by obtain⟨a,xs,e,t,r⟩:=h;exact⟨a,xs,e,t.kp s,bB.kp s r⟩
 | .dct _ _,_,h=>by obtain⟨a,kvs,e,f,t,k,r⟩:=h;exact⟨a,kvs,e,s.frz _ f,s.frk _ _ f t,k,bB.kp s r⟩
theorem bB.kp(s:Kp F m H F' m' H'):∀{ds:List P}{xs:List V},bB K F H ds xs->bB K F' H' ds xs
 | [],_,h=>h
 |_::_,_,h=>by obtain⟨x,r,e,h1,h2⟩:=h;exact⟨x,r,e,RP.kp s h1,bB.kp s h2⟩
end
theorem RD.kp(s:Kp F m H F' m' H'):∀{d:D}{v:V},RD K F H m d v->RD K F' H' m' d v
 | .p _,_,h=>RP.kp s h
 | .ref i,_,h=>by obtain⟨a,e,h⟩:=h;obtain⟨n,x⟩:=s.pre;refine⟨a,e,?_⟩;rw[x];have k:i < m.length:=(bg.mp h).1;rw[bE k];exact h
theorem bI.kp(s:Kp F m H F' m' H'):∀{d:List D}{xs:List V},bI K F H m d xs->bI K F' H' m' d xs
 | [],_,h=>h
 |_::_,_,h=>by obtain⟨x,r,e,a,n⟩:=h;exact⟨x,r,e,RD.kp s a,bI.kp s n⟩
variable{d:P}{v:V}
theorem RP.mono(s:Stp F m H F' m' H')(h:RP K F H d v):RP K F' H' d v:=RP.kp s.kp h
theorem bB.mono(s:Stp F m H F' m' H'){d:List P}{v:List V}(h:bB K F H d v):bB K F' H' d v:=bB.kp s.kp h
theorem RD.mono(s:Stp F m H F' m' H'){d:D}{v:V}(h:RD K F H m d v):RD K F' H' m' d v:=RD.kp s.kp h
theorem bI.mono(s:Stp F m H F' m' H'){d:List D}{v:List V}(h:bI K F H m d v):bI K F' H' m' d v:=bI.kp s.kp h
theorem bB.length:∀{d:List P}{xs:List V},bB K F H d xs->d.length=xs.length
 | [],_,h=>by rw[show _=([]:List V) from h]<;>rfl
 |_::_,_,h=>by obtain⟨x,r,e,_,a⟩:=h;rw[e,bz,bz,bB.length a]
theorem bI.length:∀{d:List D}{xs:List V},bI K F H m d xs->d.length=xs.length
 | [],_,h=>by rw[show _=([]:List V) from h]<;>rfl
 |_::_,_,h=>by obtain⟨x,r,e,_,a⟩:=h;rw[e,bz,bz,bI.length a]
theorem bB.get:∀{s:List P}{xs:List V}{i:Nat}{d:P},bB K F H s xs->s[i]? = some d->∃x,xs[i]? = some x/\RP K F H d x
 | [],_,_,_,_,e=>by simp at e
 |_::_,_,0,_,h,e=>by obtain⟨x,r,rfl,n,_⟩:=h;simp at e;subst e;exact⟨x,rfl,n⟩
 |_::_,_,i+1,d,h,e=>by obtain⟨x,r,rfl,_,k⟩:=h;obtain⟨y,a,f⟩:=bB.get (i:=i) k (by simpa using e);exact⟨y,by simpa using a,f⟩
theorem bB.append:∀{d z:List P}{xs y:List V},bB K F H d xs->bB K F H z y->bB K F H (d++z) (xs++y)
 | [],_,_,_,h,g=>by rw[show _=([]:List V) from h];exact g
 |_::_,_,_,_,h,g=>by obtain⟨x,r,rfl,a,e⟩:=h;exact⟨x,r++_,rfl,a,bB.append e g⟩
theorem bI.append:∀{d z:List D}{xs y:List V},bI K F H m d xs->bI K F H m z y->bI K F H m (d++z) (xs++y)
 | [],_,_,_,h,g=>by rw[show _=([]:List V) from h];exact g
 |_::_,_,_,_,h,g=>by obtain⟨x,r,rfl,a,e⟩:=h;exact⟨x,r++_,rfl,a,bI.append e g⟩
theorem bB.take:∀(n:Nat){d:List P}{xs:List V},bB K F H d xs->bB K F H (d.take n) (xs.take n)
 |0,_,_,_=>rfl
 |_+1,[],_,h=>by rw[show _=([]:List V) from h];rfl
 |n+1,_::_,_,h=>by obtain⟨x,r,rfl,a,e⟩:=h;exact⟨x,r.take n,rfl,a,bB.take n e⟩
theorem bB.drop:∀(n:Nat){d:List P}{xs:List V},bB K F H d xs->bB K F H (d.drop n) (xs.drop n)
 |0,_,_,h=>h
 |_+1,[],_,h=>by rw[show _=([]:List V) from h];rfl
 |n+1,_::_,_,h=>by obtain⟨x,r,rfl,_,a⟩:=h;exact bB.drop n a
theorem bI.take:∀(n:Nat){d:List D}{xs:List V},bI K F H m d xs->bI K F H m (d.take n) (xs.take n)
 |0,_,_,_=>rfl
 |_+1,[],_,h=>by rw[show _=([]:List V) from h];rfl
 |n+1,_::_,_,h=>by obtain⟨x,r,rfl,a,e⟩:=h;exact⟨x,r.take n,rfl,a,bI.take n e⟩
theorem bI.get:∀{s:List D}{xs:List V}{i:Nat}{d:D},bI K F H m s xs->s[i]? = some d->∃x,xs[i]? = some x/\RD K F H m d x
 | [],_,_,_,_,e=>by simp at e
 |_::_,_,0,_,h,e=>by obtain⟨x,r,rfl,n,_⟩:=h;simp at e;subst e;exact⟨x,rfl,n⟩
 |_::_,_,i+1,d,h,e=>by obtain⟨x,r,rfl,_,k⟩:=h;obtain⟨y,a,f⟩:=bI.get (i:=i) k (by simpa using e);exact⟨y,by simpa using a,f⟩
theorem bI.ofP:∀{d:List P}{xs:List V},bB K F H d xs->bI K F H m (d.map .p) xs
 | [],_,h=>h
 |_::_,_,h=>by obtain⟨x,r,e,a,s⟩:=h;exact⟨x,r,e,a,bI.ofP s⟩
variable{p:Addr}
theorem Rel.fresh_m(r:Rel K F H m S)(h:H p=none):p ∉ m:=λz=>r.trk p z h
theorem Rel.fresh_F(r:Rel K F H m S)(h:H p=none):¬F p:=λz=>r.ft p z h
variable{o:HO}
theorem eM(x:H p=none):Stp F m H F m (br H p o) where
 pre:=⟨[],by simp⟩
 oth:=λb u h _=>by rw[ar (by rintro rfl;rw[x]at h;cases h)];exact h
 frz:=λ_ h=>h
 frk:=λb u _ h=>by rw[ar (by rintro rfl;rw[x]at h;cases h)];exact h
 tup:=λb u h=>by rw[ar (by rintro rfl;rw[x]at h;cases h)];exact h
 cod:=λb u w h=>by rw[ar (by rintro rfl;rw[x]at h;cases h)];exact h
 trk:=λb h=>by
  by_cases e:b=p
  .subst e;rw[aC];exact λz=>nomatch z
  .rw [ar e];exact h
 nf:=λ_ h=>.inl h
 nm:=λ_ h=>.inl h
theorem RO.kp(s:Kp F m H F' m' H'){a:Addr}{o:SO}(k:∀u,H a=some u->H' a=some u)(h:RO K F H m a o):RO K F' H' m' a o:=by
 cases o with
 |lst b=>obtain⟨xs,e,r⟩:=h;exact⟨xs,k _ e,bI.kp s r⟩
 |dct p b=>obtain⟨x,e,f,r⟩:=h;exact⟨x,k _ e,f,bI.kp s r⟩
 |fz v=>exact RP.kp s (show RP K F H v (.ref a) from h)
 |ins c p b=>obtain⟨C,w,x,n,e,f,r⟩:=h;exact⟨C,w,x,n,k _ e,f,bI.kp s r⟩
 |dtt p b=>obtain⟨x,e,f,r⟩:=h;exact⟨x,k _ e,f,bI.kp s r⟩
 |fn D=>intro j d z;obtain⟨v,⟨cs,q,P,S,A,t,g,i,l,y⟩,r⟩:=h j d z;exact⟨v,⟨cs,q,P,S,A,t,s.cod _ _ _ g,i.cod s.cod,s.cod _ _ _ l,y⟩,bI.kp s r⟩
 |dtn p b=>obtain⟨x,e,f,B,r⟩:=h;exact⟨x,k _ e,f,bB.kp s B,bI.kp s r⟩
theorem RO.mono(s:Stp F m H F' m' H'){a:Addr}{o:SO}(k:∀u,H a=some u->H' a=some u)(h:RO K F H m a o):RO K F' H' m' a o:=RO.kp s.kp k h
theorem Rel.stayK(r:Rel K F H m S)(s:Kp F m H F' m H')(k:∀a u,a ∈ m->H a=some u->H' a=some u)(n:∀a,F' a->F a\/H a=none)(t:∀a,F' a->H' a≠none):Rel K F' H' m S where
 len:=r.len
 nd:=r.nd
 obj:=λi a o e x=>(r.obj i a o e x).kp s λu h=>k a u (dg e) h
 sep:=λi a o e x w f=>by
  rcases n a f with f|f
  .exact r.sep i a o e x w f
  .exact r.trk a (dg e) f
 trk:=λa h=>by
  cases q:H a with
  |none=>exact absurd q (r.trk a h)
  |some u=>rw[k a u h q];exact λz=>nomatch z
 ft:=t
theorem Rel.stay(r:Rel K F H m S)(s:Stp F m H F' m H')(k:∀a u,a ∈ m->H a=some u->H' a=some u)(n:∀a,F' a->F a\/H a=none)(t:∀a,F' a->H' a≠none):Rel K F' H' m S where
 len:=r.len
 nd:=r.nd
 obj:=λi a o e x=>(r.obj i a o e x).mono s λu h=>k a u (dg e) h
 sep:=λi a o e x w f=>by
  rcases n a f with f|f
  .exact r.sep i a o e x w f
  .exact r.trk a (dg e) f
 trk:=λa h=>s.trk a (r.trk a h)
 ft:=t
theorem Rel.new(r:Rel K F H m S)(x:H p=none):Rel K F (br H p o) m S:=
 r.stay (eM x) (λa u e h=>by rw[ar (by rintro rfl;exact r.fresh_m x e)];exact h) (λ_ f=>.inl f) λa f=>(eM (F:=F) (m:=m) x).trk a (r.ft a f)
theorem bY{p:Addr}{o:HO}(x:H p=none):Stp F m H F (m++[p]) (br H p o) where
 pre:=⟨[p],rfl⟩
 oth:=(eM (F:=F) (m:=m) (o:=o) x).oth
 frz:=λ_ h=>h
 frk:=(eM (F:=F) (m:=m) (o:=o) x).frk
 tup:=(eM (F:=F) (m:=m) (o:=o) x).tup
 cod:=(eM (F:=F) (m:=m) (o:=o) x).cod
 trk:=(eM (F:=F) (m:=m) (o:=o) x).trk
 nf:=λ_ h=>.inl h
 nm:=λb h=>by
  rcases fE.mp h with h|h
  .exact .inl h
  .have:b=p:=by simpa using h
   subst this;exact .inr x
theorem Rel.own(r:Rel K F H m S){p:Addr}{o:HO}{c:SO}(n:H p=none)(v:RO K F (br H p o) (m++[p]) p c):Rel K F (br H p o) (m++[p]) (S++[c]) where
 len:=by rw[bc,bc,r.len];rfl
 nd:=by
  rw[o_];refine⟨r.nd,by simp,λa t b q e=>?_⟩;have:b=p:=by simpa using q
  subst this;subst e;exact r.fresh_m n t
 obj:=λi a u x s=>by
  by_cases k:i < m.length
  .rw [bE k]at x;rw[bE (by rw[<- r.len];exact k)]at s;exact(r.obj i a u x s).mono (bY n) λw h=>by rw[ar (by rintro rfl;rw[n]at h;cases h)];exact h
  .have l:i=m.length:=by
    have:=(bg.mp x).1;rw[bc]at this;simp at this;lia
   subst l;rw[bF (al _)]at x;rw[r.len,bF (al _)]at s;simp at x s;subst x;subst s;exact v
 sep:=λi a u x s w f=>by
  by_cases k:i < m.length
  .rw [bE k]at x;rw[bE (by rw[<- r.len];exact k)]at s;exact r.sep i a u x s w f
  .have l:i=m.length:=by
    have:=(bg.mp x).1;rw[bc]at this;simp at this;lia
   subst l;rw[bF (al _)]at x;simp at x;subst x;exact r.fresh_F n f
 trk:=λa h=>by
  rcases fE.mp h with h|h
  .exact (bY (F:=F) (m:=m) n).trk a (r.trk a h)
  .have:a=p:=by simpa using h
   subst this;rw[aC];exact λz=>nomatch z
 ft:=λa f=>(bY (F:=F) (m:=m) n).trk a (r.ft a f)
theorem dE(r:Rel K F H m S){i:Nat}{p:Addr}{s:SO}{o:HO}(n:m[i]? = some p)(k:S[i]? = some s)(w:s.own)(t:∀xs,H p≠some (.tup xs)):Stp F m H F m (br H p o) where
 pre:=⟨[],by simp⟩
 oth:=λb u h c=>by rw[ar (by rintro rfl;exact c (dg n))];exact h
 frz:=λ_ h=>h
 frk:=λb u f h=>by rw[ar (by rintro rfl;exact r.sep i _ s n k w f)];exact h
 tup:=λb xs h=>by rw[ar (by rintro rfl;exact t xs h)];exact h
 cod:=λb x u h=>by
  rw[ar ?_];exact h;rintro rfl;have a:=r.obj i b s n k;cases s with
  |fz _=>exact w
  |fn _=>exact w
  |lst _=>obtain⟨_,e,_⟩:=a;rw[h]at e;cases e
  |dct _ _=>obtain⟨_,e,_⟩:=a;rw[h]at e;cases e
  |ins _ _ _=>obtain⟨_,_,_,_,e,_⟩:=a;rw[h]at e;cases e
  |dtn _ _=>obtain⟨_,e,_⟩:=a;rw[h]at e;cases e
  |dtt _ _=>obtain⟨_,e,_⟩:=a;rw[h]at e;cases e
 trk:=λb h=>by
  by_cases e:b=p
  .subst e;rw[aC];exact λz=>nomatch z
  .rw [ar e];exact h
 nf:=λ_ h=>.inl h
 nm:=λ_ h=>.inl h
variable{i:Nat}
theorem vX(h:m.Nodup)(e:m[i]? = some a)(x:m[k]? = some a):i=k:=by exact(List.getElem?_inj (bg.mp e).1 h).mp (e.trans x.symm)
theorem Rel.set(r:Rel K F H m S){i:Nat}{p:Addr}{q b:SO}{o:HO}(s:m[i]? = some p)(k:S[i]? = some q)(c:q.own)(t:∀xs,H p≠some (.tup xs))(v:RO K F (br H p o) m p b) :
  Rel K F (br H p o) m (S.set i b) where
 len:=by rw[bC];exact r.len
 nd:=r.nd
 obj:=λj a u e x=>by
  by_cases n:i=j
  .subst n;rw[s]at e;cases e;rw[ee (by exact(bg.mp k).1)]at x;cases x;exact v
  .rw [bb n]at x;exact(r.obj j a u e x).mono (dE r s k c t) λw h=>by rw[ar (by rintro rfl;exact n (vX r.nd s e))];exact h
 sep:=λj a u e x w f=>by
  by_cases n:i=j
  .subst n;rw[s]at e;cases e;exact r.sep i p q s k c f
  .rw [bb n]at x;exact r.sep j a u e x w f
 trk:=λa h=>(dE (o:=o) r s k c t).trk a (r.trk a h)
 ft:=λa f=>(dE (o:=o) r s k c t).trk a (r.ft a f)
theorem uB(x:p ∈ m):Stp F m H (λb=>F b\/b=p) m H:=
 ⟨⟨[],by simp⟩,fun _ _ h _=>h,fun _ h=>.inl h,fun _ _ _ h=>h,fun _ _ h=>h,fun _ h=>h,fun b h=>by
  rcases h with h|h
  .exact .inl h
  .subst h;exact .inr (.inr x),λ_ h=>.inl h,λ_ _ _ h=>h⟩
theorem Rel.frz(r:Rel K F H m S){i:Nat}{p:Addr}{c:SO}{v:P}(n:m[i]? = some p)(k:S[i]? = some c)(o:RP K (λb=>F b\/b=p) H v (.ref p)):Rel K (λb=>F b\/b=p) H m (S.set i (.fz v)) where
 len:=by rw[bC];exact r.len
 nd:=r.nd
 obj:=λj a u x e=>by
  by_cases s:i=j
  .subst s;rw[n]at x;cases x;rw[ee (by exact(bg.mp k).1)]at e;cases e;exact o
  .rw [bb s]at e;exact(r.obj j a u x e).mono (uB (dg n)) λw h=>h
 sep:=λj a u x e w f=>by
  by_cases s:i=j
  .subst s;rw[ee (by exact(bg.mp k).1)]at e;cases e;exact w
  .rw [bb s]at e;rcases f with f|f
   .exact r.sep j a u x e w f
   .subst f;exact s (vX r.nd n x)
 trk:=r.trk
 ft:=λa f=>by
  rcases f with f|f
  .exact r.ft a f
  .subst f;exact r.trk _ (dg n)
end
noncomputable abbrev EE:=Lc->aE->Option (D×aE)
noncomputable abbrev rg:=Option (D×aE)
noncomputable abbrev EV:=Lc->aE->Option (P×aE)
noncomputable abbrev tyV:=Option (P×aE)
noncomputable abbrev EB:=Lc->aE->Option (Bool×aE)
noncomputable abbrev Mq:=Option (Bool×aE)
noncomputable abbrev j':=Lc->aE->Option (List P×aE)
noncomputable abbrev BV:=Option (List P×aE)
inductive Fl where
 |nx|rt (d:D)|bk|ct
noncomputable abbrev ES:=Lc->aE->Option (Fl×Lc×aE)
noncomputable abbrev Dw:=Option (Fl×Lc×aE)
variable{α:Type}{β:Type}
noncomputable def bw(x:Option (α×aE))(f:α->aE->Option β):Option β:=match x with
 |some (a,S)=>f a S
 |none=>none
@[simp] theorem ac(a:α)(S:aE)(f:α->aE->Option β):bw (some (a,S)) f=f a S:=rfl
@[simp] theorem O7(f:α->aE->Option β):bw none f=none:=rfl
theorem ak{α β:Type}{x:Option (α×aE)}{f:α->aE->Option β}{r:β}(h:bw x f=some r):∃a S,x=some (a,S)/\f a S=some r:=by
 cases x with
 |none=>cases h
 |some p=>exact⟨p.1,p.2,rfl,h⟩
def uK(f:D->aE->Option (P×aE)):List D->aE->Option (List P×aE)
 | [],S=>some ([],S)
 |d::r,S=>bw (f d S) λv h=>bw (uK f r h) λN x=>some (v::N,x)
def toP:Nat->D->aE->Option (P×aE)
 |_,.p v,S=>some (v,S)
 |0,.ref _,_=>none
 |n+1,.ref i,S=>match S[i]? with
  |some (.lst d)=>bw (uK (toP n) d S) λN h=>some (.lst N,h.set i (.fz (.lst N)))
  |some (.dct k d)=>bw (uK (toP n) d S) λN h=>some (.dct k N,h.set i (.fz (.dct k N)))
  |some (.fz v)=>some (v,S)
  |some (.ins _ _ _)=>none
  |some (.dtn _ _)=>none
  |some (.dtt _ _)=>none
  |some (.fn _)=>none
  |none=>none
@[simp] theorem jv(n:Nat)(v:P)(S:aE):toP n (.p v) S=some (v,S):=by cases n<;>rfl
theorem Be(n:Nat):∀(N:List P)(S:aE),uK (toP n) (N.map .p) S=some (N,S)
 | [],_=>rfl
 |v::r,S=>by simp[uK,Be n r S]
variable{n:Nat}{S:aE}{N:List P}
theorem kx(h:S[i]? = some (.lst (N.map .p))):toP (n+1) (.ref i) S=some (.lst N,S.set i (.fz (.lst N))):=by simp[toP,h,Be]
section
variable{K:FG}{F:Aa}{H:Hp}{m:List Addr}{S T:aE}
theorem uJ 
  (n:∀{d:D}{x:V}{v:P}{F:Aa}{S T:aE},f d S=some (v,T)->Rel K F H m S->RD K F H m d x->∃F',Stp F m H F' m H/\Rel K F' H m T/\T.length=S.length/\RP K F' H v x) :
  ∀{s:List D}{xs:List V}{N:List P}{F:Aa}{S T:aE},uK f s S=some (N,T)->Rel K F H m S->bI K F H m s xs->∃F',Stp F m H F' m H/\Rel K F' H m T/\T.length=S.length/\bB K F' H N xs
 | [],xs,N,F,S,T,h,r,a=>by cases h;exact⟨F,.refl,r,rfl,a⟩
 |d::s,xs,N,F,S,T,h,r,a=>by obtain⟨x,y,e,p,q⟩:=a;obtain⟨v,z,c,h⟩:=ak h;obtain⟨A,o,t,h⟩:=ak h;cases h;obtain⟨C,k,i,l,u⟩:=n c r p;obtain⟨B,b,j,w,g⟩:=uJ n t i (bI.mono k q);exact⟨B,k.trans b,j,w.trans l,x,y,e,RP.mono b u,g⟩
theorem m9:∀(n:Nat){d:D}{x:V}{v:P}{F:Aa}{S T:aE},toP n d S=some (v,T)->Rel K F H m S->RD K F H m d x->∃F',Stp F m H F' m H/\Rel K F' H m T/\T.length=S.length/\RP K F' H v x
 |n,.p w,x,v,F,S,T,h,r,u=>by rw[jv]at h;cases h;exact⟨F,.refl,r,rfl,u⟩
 |0,.ref i,x,v,F,S,T,h,r,u=>by cases h
 |n+1,.ref i,x,v,F,S,T,h,r,u=>by
  obtain⟨a,e,f⟩:=u;subst e;have p:i < S.length:=by rw[<- r.len];exact(bg.mp f).1
  obtain⟨o,L⟩:∃o,S[i]? = some o:=⟨S[i],by simp[p]⟩;have z:=r.obj i a o f L;simp only[toP,L]at h;cases o with
  |fz w=>cases h;exact⟨F,.refl,r,rfl,z⟩
  |ins c M I=>cases h
  |dtn _ _=>cases h
  |dtt _ _=>cases h
  |fn _=>cases h
  |lst I=>obtain⟨N,t,g,h⟩:=ak h;cases h;obtain⟨xs,j,E⟩:=z;obtain⟨C,G,B,k,A⟩:=uJ (λh=>m9 n h) g r E;obtain⟨Q,s⟩:∃o,t[i]? = some o:=⟨t[i]'(by rw[k];exact p),by simp[k,p]⟩;have l:Stp C m H (λb=>C b\/b=a) m H:=uB (dg f);have q:RP K (λb=>C b\/b=a) H (.lst N) (.ref a):=⟨a,xs,rfl,⟨.inr rfl,j⟩,bB.mono l A⟩;exact⟨_,G.trans l,B.frz f s q,by rw[bC];exact k,q⟩
  |dct M I=>obtain⟨N,t,g,h⟩:=ak h;cases h;obtain⟨y,j,hk,E⟩:=z;obtain⟨C,G,B,k,A⟩:=uJ (λh=>m9 n h) g r E;obtain⟨Q,s⟩:∃o,t[i]? = some o:=⟨t[i]'(by rw[k];exact p),by simp[k,p]⟩;have l:Stp C m H (λb=>C b\/b=a) m H:=uB (dg f);have q:RP K (λb=>C b\/b=a) H (.dct M N) (.ref a):=⟨a,y,rfl,.inr rfl,j,hk,bB.mono l A⟩;exact⟨_,G.trans l,B.frz f s q,by rw[bC];exact k,q⟩
end
structure Grow(F:Aa)(H:Hp)(F':Aa)(H':Hp):Prop where
 keep:∀b o,H b=some o->H' b=some o
 frz:∀b,F b->F' b
 nf:∀b,F' b->F b\/(H b=none/\H' b≠none)
section
variable{K:FG}{F F' C B:Aa}{H H' y I:Hp}{m:List Addr}{S T:aE}
theorem Grow.refl:Grow F H F H:=⟨λ_ _ h=>h,λ_ h=>h,λ_ h=>.inl h⟩
theorem Grow.stp(g:Grow F H F' H'):Stp F m H F' m H' where
 pre:=⟨[],by simp⟩
 oth:=λb o h _=>g.keep b o h
 frz:=g.frz
 frk:=λb o _ h=>g.keep b o h
 tup:=λb xs h=>g.keep b _ h
 cod:=λb o u h=>g.keep b _ h
 trk:=λb h=>by
  cases q:H b with
  |none=>exact absurd q h
  |some o=>rw[g.keep b o q];exact λz=>nomatch z
 nf:=λb h=>by
  rcases g.nf b h with h|⟨h,_⟩
  .exact .inl h
  .exact .inr (.inl h)
 nm:=λ_ h=>.inl h
theorem Rel.grow(r:Rel K F H m S)(g:Grow F H F' H'):Rel K F' H' m S:=
 r.stay g.stp (fun a u _ h=>g.keep a u h) (fun a f=>by
  rcases g.nf a f with f|⟨f,_⟩
  .exact .inl f
  .exact .inr f) λa f=>by
  rcases g.nf a f with f|⟨_,f⟩
  .exact (g.stp (m:=m)).trk a (r.ft a f)
  .exact f
theorem bq{p:Addr}{o:HO}(x:H p=none):Grow F H F (br H p o):=
 ⟨λb u h=>by rw[ar (by rintro rfl;rw[x]at h;cases h)];exact h,λ_ h=>h,λ_ h=>.inl h⟩
theorem bS{p:Addr}{o:HO}(x:H p=none):Grow F H (λb=>F b\/b=p) (br H p o):=
 ⟨fun b u h=>by rw [ar (by rintro rfl;rw [x] at h;cases h)];exact h,fun _ h=>.inl h,fun b h=>by
  rcases h with h|h
  .exact .inl h
  .subst h;exact .inr ⟨x,by rw[aC];exact λz=>nomatch z⟩⟩
theorem RP.grow(g:Grow F H F' H')(h:RP K F H d v):RP K F' H' d v:=RP.mono (m:=[]) g.stp h
theorem bB.grow(g:Grow F H F' H')(h:bB K F H d v):bB K F' H' d v:=bB.mono (m:=[]) g.stp h
theorem RP.newTup(x:H p=none)(r:bB K F H h xs):RP K F (br H p (.tup xs)) (.tup h) (.ref p):=⟨p,xs,rfl,.inl aC,r.grow (bq x)⟩
theorem RP.newLst(x:H p=none)(r:bB K F H h xs):RP K (λb=>F b\/b=p) (br H p (.lst xs)) (.lst h) (.ref p):=⟨p,xs,rfl,⟨.inr rfl,aC⟩,r.grow (bS x)⟩
end
@[simp] def vC(v:P)(_L:Lc)(S:aE):tyV:=some (v,S)
def U(i:Nat)(L:Lc)(S:aE):rg:=match L[i]? with
 |some (some d)=>some (d,S)
 |_=>none
@[simp] def vE(f:EE)(L:Lc)(S:aE):tyV:=bw (f L S) (toP 9)
@[simp] def eV(f:EV)(L:Lc)(S:aE):rg:=bw (f L S) λv h=>some (.p v,h)
@[simp] def aW(g:P->P->Option P)(a b:EV)(L:Lc)(S:aE):tyV:=bw (a L S) λx h=>bw (b L h) λy e=>(g x y).map λv=>(v,e)
@[simp] def vA(g:P->Option P)(a:EV)(L:Lc)(S:aE):tyV:=bw (a L S) λx h=>(g x).map λv=>(v,h)
@[simp] def bV(a:EV)(L:Lc)(S:aE):Mq:=bw (a L S) λx h=>match x with
 | .bl b=>some (b,h)
 |_=>none
@[simp] def f8(a b:EB)(L:Lc)(S:aE):Mq:=bw (a L S) λc h=>if c=true then b L h else some (false,h)
@[simp] def FU(a b:EB)(L:Lc)(S:aE):Mq:=bw (a L S) λc h=>if c=true then some (true,h) else b L h
@[simp] def dB(a:EB)(L:Lc)(S:aE):Mq:=bw (a L S) λc h=>some (!c,h)
@[simp] def vB(a:EB)(L:Lc)(S:aE):tyV:=bw (a L S) λc h=>some (.bl c,h)
@[simp] def QD(c:EB)(a b:EV)(L:Lc)(S:aE):tyV:=bw (c L S) λk h=>if k=true then a L h else b L h
@[simp] def ah(_L:Lc)(S:aE):BV:=some ([],S)
@[simp] def O(a:EV)(r:j')(L:Lc)(S:aE):BV:=bw (a L S) λx h=>bw (r L h) λxs e=>some (x::xs,e)
@[simp] def aG(g:List P->Option P)(a:j')(L:Lc)(S:aE):tyV:=bw (a L S) λxs h=>(g xs).map λv=>(v,h)
@[simp] def eD(L:Lc)(S:aE):Dw:=some (.nx,L,S)
@[simp] def aA(f g:ES)(L:Lc)(S:aE):Dw:=match f L S with
 |some (.nx,h,x)=>g h x
 |r=>r
@[simp] def aZ(i:Nat)(f:EE)(L:Lc)(S:aE):Dw:=bw (f L S) λd h=>some (.nx,L.set i (some d),h)
@[simp] def aO(f:EE)(L:Lc)(S:aE):Dw:=bw (f L S) λd h=>some (.rt d,L,h)
@[simp] def c_(f:EE)(L:Lc)(S:aE):Dw:=bw (f L S) λ_ h=>some (.nx,L,h)
@[simp] def cZ(c:EB)(a b:ES)(L:Lc)(S:aE):Dw:=bw (c L S) λk h=>if k=true then a L h else b L h
noncomputable def da:ES:=λ_ _=>none
@[simp] def RY(L:Lc)(S:aE):Dw:=some (.bk,L,S)
noncomputable def RX:ES:=λL S=>some (.ct,L,S)
noncomputable abbrev kE:=P->Lc->Option Lc
noncomputable def aK(i:Nat):kE:=λv L=>some (L.set i (some (.p v)))
noncomputable def cP(g:kE)(b:ES):List P->Lc->aE->Option (Fl×Lc×aE)
 | [],L,S=>some (.nx,L,S)
 |v::r,L,S=>match g v L with
  |none=>none
  |some a=>match b a S with
   |some (.nx,L2,h)=>cP g b r L2 h
   |some (.ct,L2,h)=>cP g b r L2 h
   |some (.bk,L2,h)=>some (.nx,L2,h)
   |x=>x
@[simp] def cT(i:j')(g:kE)(b:ES)(L:Lc)(S:aE):Dw:=bw (i L S) λxs h=>cP g b xs L h
def hG(c:EB)(b:ES):Nat->Lc->aE->Option (Fl×Lc×aE)
 |0,_,_=>none
 |n+1,L,S=>bw (c L S) λk a=>if k=true then match b L a with
   |some (.nx,L2,h)=>hG c b n L2 h
   |some (.ct,L2,h)=>hG c b n L2 h
   |some (.bk,L2,h)=>some (.nx,L2,h)
   |x=>x
  else some (.nx,L,a)
def uD(n:Nat)(c:EB)(b:ES):ES:=hG c b n
open PySem PySem.Spec PyProof.Rows L2
section
variable(K:FG)
structure RL(F:Aa)(H:Hp)(m:List Addr)(J:L2.St)(L:Lc):Prop where
 len:J.length=L.length
 at':∀(i:Nat) d,L[i]? = some (some d)->∃v,J[i]? = some (some v)/\RD K F H m d v
inductive tEI(f:EE)(J:L2.St)(H:Hp)(Q:VK):Prop
 |mk (F:Aa) (m:List Addr) (L:Lc) (S:aE) (d:D) (S':aE) (h0_:Rel K F H m S) (h1_:RL K F H m J L) (h2_:f L S=some (d,S')) (h3_:∀v F' m' H',Stp F m H F' m' H'->Rel K F' H' m' S'->RD K F' H' m' d v->Q v H'):tEI f J H Q
noncomputable def tE(f:EE):TE:=λJ H Q=>tEI K f J H Q
inductive tVI(f:EV)(J:L2.St)(H:Hp)(Q:VK):Prop
 |mk (F:Aa) (m:List Addr) (L:Lc) (S:aE) (d:P) (S':aE) (h0_:Rel K F H m S) (h1_:RL K F H m J L) (h2_:f L S=some (d,S')) (h3_:∀v F' m' H',Stp F m H F' m' H'->Rel K F' H' m' S'->RP K F' H' d v->Q v H'):tVI f J H Q
noncomputable def tV(f:EV):TE:=λJ H Q=>tVI K f J H Q
inductive tQI(f:EB)(J:L2.St)(H:Hp)(Q:Bool->Hp->Prop):Prop
 |mk (F:Aa) (m:List Addr) (L:Lc) (S:aE) (b:Bool) (S':aE) (h0_:Rel K F H m S) (h1_:RL K F H m J L) (h2_:f L S=some (b,S')) (h3_:∀F' m' H',Stp F m H F' m' H'->Rel K F' H' m' S'->Q b H'):tQI f J H Q
noncomputable def tQ(f:EB):TT:=λJ H Q=>tQI K f J H Q
inductive tVsI(f:j')(J:L2.St)(H:Hp)(Q:List V->Hp->Prop):Prop
 |mk (F:Aa) (m:List Addr) (L:Lc) (S:aE) (ds:List P) (S':aE) (h0_:Rel K F H m S) (h1_:RL K F H m J L) (h2_:f L S=some (ds,S')) (h3_:∀xs F' m' H',Stp F m H F' m' H'->Rel K F' H' m' S'->bB K F' H' ds xs->Q xs H'):tVsI f J H Q
noncomputable def pi(f:j'):TA:=λJ H Q=>tVsI K f J H Q
def QR(D:Ends)(F:Aa)(m:List Addr)(J:L2.St)(H:Hp):Fl->Prop
 | .nx=>D.nx J H
 | .bk=>D.bk J H
 | .ct=>D.ct J H
 | .rt d=>∀v,RD K F H m d v->D.rt v H
inductive tStI(f:ES)(D:Ends)(J:L2.St)(H:Hp):Prop
 |mk (F:Aa) (m:List Addr) (L:Lc) (S:aE) (fl:Fl) (L':Lc) (S':aE) (h0_:Rel K F H m S) (h1_:RL K F H m J L) (h2_:f L S=some (fl,L',S')) (h3_:∀J' F' m' H',Stp F m H F' m' H'->Rel K F' H' m' S'->RL K F' H' m' J' L'->QR K D F' m' J' H' fl):tStI f D J H
noncomputable def i_(f:ES):TS:=λD J H=>tStI K f D J H
end
section
variable{K:FG}{F F':Aa}{H H':Hp}{m m':List Addr}{J:L2.St}{L:Lc}{S:aE}
theorem RL.mono(s:Stp F m H F' m' H')(h:RL K F H m J L):RL K F' H' m' J L:=⟨h.len,λi d e=>by obtain⟨v,x,r⟩:=h.at' i d e;exact⟨v,x,RD.mono s r⟩⟩
theorem RL.set (h:RL K F H m J L) (r:RD K F H m d v) (i:Nat):RL K F H m (J.set i (some v)) (L.set i (some d)):=⟨by rw [bC,bC];exact h.len,fun j e q=>by
 by_cases x:i=j
 .subst x;by_cases a:i < L.length
  .rw [ee a]at q;cases q;exact⟨v,ee (by rw[h.len];exact a),r⟩
  .rw [tP (by rw[bC];lia)]at q;cases q
 .rw [bb x]at q;rw[bb x];exact h.at' j e q⟩
end
section
variable{X:Cx}{e:Expr}{z:Ab}{l:Stmt}{cU:List Stmt}
theorem _root_.L2.PE.imp'(h:PE X e t)(i:∀J H Q,k J H Q->t J H Q):PE X e k:=λp s J H Q I q=>h p s J H Q I (i J H Q q)
theorem _root_.L2.PT.imp'(h:PT X e t)(i:∀J H Q,k J H Q->t J H Q):PT X e k:=λp s J H Q I q=>h p s J H Q I (i J H Q q)
theorem _root_.L2.PW.imp'(h:PW X e t)(i:∀J H Q,k J H Q->t J H Q):PW X e k:=λw p s J H Q I q=>h w p s J H Q I (i J H Q q)
theorem _root_.L2.PA.imp'(h:PA X z t)(i:∀J H Q,k J H Q->t J H Q):PA X z k:=λM p s J H Q I q=>h M p s J H Q I (i J H Q q)
theorem _root_.L2.PS.imp'(h:PS X l t)(i:∀D J H,k D J H->t D J H):PS X l k:=λp s J H D I q=>h p s J H D I (i D J H q)
theorem _root_.L2.oy.imp'(h:oy X cU t)(i:∀D J H,k D J H->t D J H):oy X cU k:=λp s J H D I q=>h p s J H D I (i D J H q)
end
section
variable{X:Cx}{a b c e:Expr}{z:Ab}{fa fb:EV}{fe:EE}{M:Pos}
theorem M6(h:PE X e (tE X.K fe)):PE X e (tV X.K (vE fe)):=h.imp' λJ H Q z=>by obtain⟨F,m,L,S,d,T,r,l,q,k⟩:=z;obtain⟨a,x,n,f⟩:=ak q;refine⟨F,m,L,S,a,x,r,l,n,λv F' m' H' s b t=>?_⟩;obtain⟨B,w,c,_,p⟩:=m9 9 f b t;exact k v B m' H' (s.trans w) c p
theorem JT(h:PE X e (tV X.K fa)):PE X e (tE X.K (eV fa)):=h.imp' λJ H Q z=>by obtain⟨F,m,L,S,d,T,r,l,q,k⟩:=z;obtain⟨x,c,a,n⟩:=ak q;cases n;exact⟨F,m,L,S,x,T,r,l,a,λv F' m' H' s f b=>k v F' m' H' s f b⟩
theorem M5(i:Nat)(N:X.N[i]? = some x:=by rfl)(n:IX X.e.scope x:=by first|exact Or.inl rfl|exact Or.inr (Or.inl rfl)|exact Or.inr (Or.inr rfl))(s:(x == ("__debug__":Str))=false:=by decide)
  (h:(x == ("__classdict__":Str))=false:=by decide):PE X (.Name x M) (tE X.K (U i)):=(K1 N n s h).imp' λJ H Q z=>by
 obtain⟨F,m,L,S,d,T,r,l,q,k⟩:=z;unfold U at q;split at q
 .rename_i b e;cases q;obtain⟨v,a,f⟩:=l.at' i _ e;exact⟨v,a,k v F m H .refl r f⟩
 .cases q
theorem xC(h:PE X e (tC v))(r:∀F H,RP X.K F H d v):PE X e (tV X.K (vC d)):=h.imp' λJ H Q z=>by obtain⟨F,m,L,S,a,T,x,l,q,k⟩:=z;cases q;exact k v F m H .refl x (r F H)
theorem Qy {i h M}:PE X (.Constant (.int i) h M) (tV X.K (vC (.int i))):=xC K5 λ_ _=>rfl
theorem Sq {i h M}:PE X (.Constant (.bool i) h M) (tV X.K (vC (.bl i))):=xC NS λ_ _=>rfl
theorem Qp {h M}:PE X (.Constant .none h M) (tV X.K (vC .non)):=xC K4 λ_ _=>rfl
theorem Qi {i h M}:PE X (.Constant (.str i) h M) (tV X.K (vC (.str i))):=xC K2 λ_ _=>rfl
inductive rPI(K:FG)(g:P->P->Option P)(x:V)(y:V)(H:Hp)(Q:VK):Prop
 |mk (F:Aa) (dx:P) (dy:P) (d:P) (h0_:(∀a,F a->H a≠none)) (h1_:RP K F H dx x) (h2_:RP K F H dy y) (h3_:g dx dy=some d) (h4_:∀v F' H',Grow F H F' H'->RP K F' H' d v->Q v H'):rPI K g x y H Q
noncomputable def rP(K:FG)(g:P->P->Option P):R2:=λx y H Q=>rPI K g x y H Q
def oQ(X:Cx)(f:Value->Value->Sem Value)(g:P->P->Option P):Prop:=gX X f (rP X.K g)
theorem uw(h:tV X.K (aW g fa fb) J H Q):Kk (rP X.K g) (tV X.K fa) (tV X.K fb) J H Q:=by
 obtain⟨F,m,L,S,d,T,r,l,q,k⟩:=h;obtain⟨x,s,j,q⟩:=ak q;obtain⟨a,i,o,q⟩:=ak q;refine⟨F,m,L,S,x,s,r,l,j,λv C K y b G A=>?_⟩;refine⟨C,K,L,s,a,i,G,l.mono b,o,λu B P I c f D=>?_⟩;cases e:g x a with
 |none=>rw[e]at q;cases q
 |some z=>rw[e]at q;cases q;refine⟨B,x,a,_,f.ft,RP.mono c A,D,e,λw t p n E=>?_⟩;exact k w t P p (b.trans (c.trans n.stp)) (f.grow n) E
theorem Sl(o:oQ X (binaryOp k) g)(x:PE X a (tV X.K fa))(e:PE X b (tV X.K fb)):PE X (.BinOp a k b M) (tV X.K (aW g fa fb)):=
 (Jj o x e).imp' λ_ _ _ h=>uw h
theorem QB(o:oQ X (compareOp k) g)(x:PE X a (tV X.K fa))(e:PE X b (tV X.K fb))(m:behindInMarks k b=false):PE X (.Compare a [k] [b] M) (tV X.K (aW g fa fb)):=
 (A8 o x e m).imp' λ_ _ _ h=>uw h
theorem DE(h:tQ X.K (bV (aW g fa fb)) J H Q):DF (Kk (rP X.K g) (tV X.K fa) (tV X.K fb)) J H Q:=by
 refine uw ?_;obtain⟨F,m,L,S,d,T,r,l,q,k⟩:=h;obtain⟨x,n,e,q⟩:=ak q;cases x with
 |bl b=>cases q;exact⟨F,m,L,S,_,_,r,l,e,λv F' m' H' s a p=>⟨_,p,k F' m' H' s a⟩⟩
 |_=>cases q
theorem Qf(o:oQ X (compareOp k) g)(x:PE X a (tV X.K fa))(e:PE X b (tV X.K fb))(m:behindInMarks k b=false):PT X (.Compare a [k] [b] M) (tQ X.K (bV (aW g fa fb))):=
 (A4 o x e m).imp' λ_ _ _ h=>DE h
variable{qa qb:EB}{j:Ab}
theorem MZ(h:PT X a (tQ X.K qa)):PW X (.BoolOp .And [a] M) (tQ X.K qa):=Hs h
theorem Qd(h:PT X a (tQ X.K qa)):PW X (.BoolOp .Or [a] M) (tQ X.K qa):=KJ h
theorem Qg(n:PT X a (tQ X.K qa))(f:PW X (.BoolOp .And (b::j) M) (tQ X.K qb)):PW X (.BoolOp .And (a::b::j) M) (tQ X.K (f8 qa qb)):=
 (KL n f).imp' λJ H Q z=>by
  obtain⟨F,m,L,S,d,T,r,l,q,k⟩:=z;obtain⟨c,h,e,q⟩:=ak q;refine⟨F,m,L,S,c,h,r,l,e,λF' m' H' s x=>?_⟩;cases c with
  |true=>rw[ag rfl]at q ⊢;exact⟨F',m',L,h,d,T,x,l.mono s,q,λB t I v p=>k B t I (s.trans v) p⟩
  |false=>rw[aj be]at q ⊢;cases q;exact k F' m' H' s x
theorem Sj(n:PT X a (tQ X.K qa))(f:PW X (.BoolOp .Or (b::j) M) (tQ X.K qb)):PW X (.BoolOp .Or (a::b::j) M) (tQ X.K (FU qa qb)):=
 (NL n f).imp' λJ H Q z=>by
  obtain⟨F,m,L,S,d,T,r,l,q,k⟩:=z;obtain⟨c,h,e,q⟩:=ak q;refine⟨F,m,L,S,c,h,r,l,e,λF' m' H' s x=>?_⟩;cases c with
  |false=>rw[aj be]at q ⊢;exact⟨F',m',L,h,d,T,x,l.mono s,q,λB t I v p=>k B t I (s.trans v) p⟩
  |true=>rw[ag rfl]at q ⊢;cases q;exact k F' m' H' s x
theorem Qe(h:PT X a (tQ X.K qa)):PT X (.UnaryOp .Not a M) (tQ X.K (dB qa)):=
 (KO h).imp' λJ H Q z=>by obtain⟨F,m,L,S,d,T,r,l,q,k⟩:=z;obtain⟨c,n,e,q⟩:=ak q;cases q;exact⟨F,m,L,S,c,T,r,l,e,λF' m' H' s x=>k F' m' H' s x⟩
theorem Nd {k} (h:PE X a (tV X.K (vB qa))):PE X (.BoolOp k [a] M) (tV X.K (vB qa)):=D6 h
theorem vD(h:tQ X.K qa J H k)(hk:∀b H',k b H'->Q (.bl b) H'):tV X.K (vB qa) J H Q:=by obtain⟨F,m,L,S,d,T,r,l,q,x⟩:=h;exact⟨F,m,L,S,.bl d,T,r,l,by unfold vB;rw[q];rfl,λv F' m' H' s a p=>by rw[show v=.bl d from p];exact hk _ _ (x F' m' H' s a)⟩
theorem Ba(h:tV X.K (vB qa) J H Q):tQ X.K qa J H λb H'=>Q (.bl b) H':=by obtain⟨F,m,L,S,d,T,r,l,q,k⟩:=h;obtain⟨c,a,e,q⟩:=ak q;cases q;exact⟨F,m,L,S,c,T,r,l,e,λF' m' H' s x=>k _ F' m' H' s x rfl⟩
theorem QC(f:PE X a (tV X.K (vB qa)))(t:PE X (.BoolOp .And (b::j) M) (tV X.K (vB qb))):PE X (.BoolOp .And (a::b::j) M) (tV X.K (vB (f8 qa qb))):=
 (K8 f t).imp' λJ H Q h=>by
  obtain⟨F,m,L,S,d,T,r,l,q,k⟩:=Ba h;obtain⟨c,x,n,q⟩:=ak q;refine vD (k:=λc y=>if c=true then tV X.K (vB qb) J y Q else Q (.bl false) y) ⟨F,m,L,S,c,x,r,l,n,λF' m' H' s e=>?_⟩ λb H' q=>⟨b,rfl,q⟩;cases c with
  |true=>rw[ag rfl]at q ⊢;exact vD (k:=λb I=>Q (.bl b) I) ⟨F',m',L,x,d,T,e,l.mono s,q,λB p I w v=>k B p I (s.trans w) v⟩ λ_ _ q=>q
  |false=>rw[aj be]at q ⊢;cases q;exact k F' m' H' s e
theorem Sk(f:PE X a (tV X.K (vB qa)))(t:PE X (.BoolOp .Or (b::j) M) (tV X.K (vB qb))):PE X (.BoolOp .Or (a::b::j) M) (tV X.K (vB (FU qa qb))):=
 (NR f t).imp' λJ H Q h=>by
  obtain⟨F,m,L,S,d,T,r,l,q,k⟩:=Ba h;obtain⟨c,x,n,q⟩:=ak q;refine vD (k:=λc y=>if c=true then Q (.bl true) y else tV X.K (vB qb) J y Q) ⟨F,m,L,S,c,x,r,l,n,λF' m' H' s e=>?_⟩ λb H' q=>⟨b,rfl,q⟩;cases c with
  |false=>rw[aj be]at q ⊢;exact vD (k:=λb I=>Q (.bl b) I) ⟨F',m',L,x,d,T,e,l.mono s,q,λB p I w v=>k B p I (s.trans w) v⟩ λ_ _ q=>q
  |true=>rw[ag rfl]at q ⊢;cases q;exact k F' m' H' s e
theorem Qn(x:PE X a (tV X.K (vB qa))):PE X (.UnaryOp .Not a M) (tV X.K (vB (dB qa))):=
 (K3 x).imp' λJ H Q h=>by obtain⟨F,m,L,S,d,T,r,l,q,k⟩:=Ba h;obtain⟨c,f,e,q⟩:=ak q;cases q;exact vD (k:=λb H'=>Q (.bl (!b)) H') ⟨F,m,L,S,c,T,r,l,e,λF' m' H' s n=>k F' m' H' s n⟩ λb H' q=>⟨b,rfl,q⟩
theorem rT(h:PE X e (tV X.K fa)):PE X e (tV X.K (vB (bV fa))):=h.imp' λJ H Q h=>by
 obtain⟨F,m,L,S,d,T,r,l,q,k⟩:=Ba h;obtain⟨x,f,a,q⟩:=ak q;cases x with
 |bl b=>cases q;exact⟨F,m,L,S,_,_,r,l,a,λv F' m' H' s n p=>by cases (show v=.bl d from p);exact k F' m' H' s n⟩
 |_=>cases q
theorem So(u:PT X c (tQ X.K qa))(p:PE X a (tV X.K fa))(w:PE X b (tV X.K fb)):PE X (.IfExp c a b M) (tV X.K (QD qa fa fb)):=
 (vT u p w).imp' λJ H Q z=>by
  obtain⟨F,m,L,S,d,T,r,l,q,k⟩:=z;obtain⟨c,h,t,q⟩:=ak q;refine⟨F,m,L,S,c,h,r,l,t,λF' m' H' s f=>?_⟩;cases c with
  |true=>rw[ag rfl]at q ⊢;exact⟨F',m',L,h,d,T,f,l.mono s,q,λv B x I n e=>k v B x I (s.trans n) e⟩
  |false=>rw[aj be]at q ⊢;exact⟨F',m',L,h,d,T,f,l.mono s,q,λv B x I n e=>k v B x I (s.trans n) e⟩
variable{fs:j'}
theorem IV:PA X [] (pi X.K ah):=dI.imp' λJ H Q h=>by obtain⟨F,m,L,S,d,T,r,l,q,k⟩:=h;cases q;exact k [] F m H .refl r rfl
theorem F6(b:PE X e (tV X.K fa))(c:PA X z (pi X.K fs))(t:starEach (e::z) X.e=(false,eval e X.e)::starEach z X.e:=by rfl):PA X (e::z) (pi X.K (O fa fs)):=
 (cq b c t).imp' λJ H Q p=>by obtain⟨F,m,L,S,d,T,r,l,q,k⟩:=p;obtain⟨x,h,n,q⟩:=ak q;obtain⟨xs,K,f,q⟩:=ak q;cases q;refine⟨F,m,L,S,x,h,r,l,n,λv C w y s j g=>?_⟩;refine⟨C,w,L,h,xs,T,j,l.mono s,f,λN B u I a o i=>?_⟩;exact k (v::N) B u I (s.trans a) o ⟨v,N,rfl,RP.mono a g,i⟩
noncomputable def few(xs:List α):Bool:=decide (xs.length≤1000000)
theorem jZ{α:Type}{xs:List α}(h:few xs=true):xs.length≤sizeLine:=ba (aL h) (by decide)
@[simp] def aS(a:j')(L:Lc)(S:aE):tyV:=bw (a L S) λxs h=>if few xs=true then some (.tup xs,h) else none
@[simp] def cB(a:j')(L:Lc)(S:aE):tyV:=bw (a L S) λxs h=>if few xs=true then some (.lst xs,h) else none
@[simp] def fj(a:j')(L:Lc)(S:aE):rg:=bw (a L S) λxs h=>if few xs=true then some (.ref h.length,h++[.lst (xs.map .p)]) else none
theorem Qh {t} (h:PA X z (pi X.K fs)):PE X (.Tuple z t M) (tV X.K (aS fs)):=(qd h).imp' λJ H Q s=>by
 obtain⟨F,m,L,S,d,T,r,l,q,k⟩:=s;obtain⟨xs,v,e,q⟩:=ak q;split at q
 .rename_i f;cases q;refine⟨F,m,L,S,xs,T,r,l,e,λN C n y c b a=>⟨by rw[<- a.length];exact jZ f,λp x=>?_⟩⟩;exact k (.ref p) C n _ (c.trans (bq x).stp) (b.grow (bq x)) (.newTup x a)
 .cases q
theorem Qr(h:PA X z (pi X.K fs)):PE X (.List z M) (tV X.K (cB fs)):=(xM h).imp' λJ H Q s=>by
 obtain⟨F,m,L,S,d,T,r,l,q,k⟩:=s;obtain⟨xs,t,e,q⟩:=ak q;split at q
 .rename_i f;cases q;refine⟨F,m,L,S,xs,T,r,l,e,λN C n y c b a=>⟨by rw[<- a.length];exact jZ f,λp x=>?_⟩⟩;exact k (.ref p) _ n _ (c.trans (bS x).stp) (b.grow (bS x)) (.newLst x a)
 .cases q
theorem I_(h:PA X z (pi X.K fs)):PE X (.List z M) (tE X.K (fj fs)):=(xM h).imp' λJ H Q t=>by
 obtain⟨F,m,L,S,d,T,r,l,q,k⟩:=t;obtain⟨xs,f,b,q⟩:=ak q;split at q
 .rename_i c;cases q;refine⟨F,m,L,S,xs,f,r,l,b,λN C x y v s e=>⟨by rw[<- e.length];exact jZ c,λp a=>?_⟩⟩;have n:Stp C x y C (x++[p]) (br y p (.lst N)):=bY a;refine k (.ref p) C (x++[p]) _ (v.trans n) (s.own a ⟨N,aC,bI.ofP (bB.mono n e)⟩) ⟨p,rfl,?_⟩;rw[<- s.len,bF (al _)];simp
 .cases q
def rC(K:FG)(g:List P->Option P):List V->Hp->VK->Prop:=λxs H Q=>∃F s d,(∀a,F a->H a≠none)/\bB K F H s xs/\g s=some d/\∀v F' H',Grow F H F' H'->RP K F' H' d v->Q v H'
theorem xA(h:tV X.K (aG g fs) J H Q):pi X.K fs J H λN y=>rC X.K g N y Q:=by
 obtain⟨F,m,L,S,d,T,r,l,q,k⟩:=h;obtain⟨xs,c,s,q⟩:=ak q;cases e:g xs with
 |none=>rw[e]at q;cases q
 |some z=>rw[e]at q;cases q;exact⟨F,m,L,S,xs,_,r,l,s,λN C n y b a f=>⟨C,xs,_,a.ft,f,e,λv B I x p=>k v B n I (b.trans x.stp) (a.grow x) p⟩⟩
theorem xt{x:Str}{p:Pos}{id:String}{g:List P->Option P}(c:cN X (.builtin id) (rC X.K g))(n:Gl X x)(m:X.g x=none)(v:bootBuiltins x=some (.builtin id))(a:PA X (e::z) (pi X.K fs))(k:x≠"__name__":=by decide)(d:(x == ("__debug__":Str))=false:=by decide)
  (s:starEach (e::z) X.e=(false,eval e X.e)::starEach z X.e:=by rfl) (l:(backTo M (starEach z X.e)).any (·.1)=false:=by rfl):PE X (.Call (.Name x p) (e::z) [] M) (tV X.K (aG g fs)):=
 (iF c n m v a k d s l).imp' λ_ _ _ h=>xA h
theorem xq(c:cN X (.type k) (rC X.K g))(n:Gl X x)(m:X.g x=none)(v:bootBuiltins x=some (.type k))(a:PA X (e::z) (pi X.K fs))(f:x≠"__name__":=by decide)(d:(x == ("__debug__":Str))=false:=by decide)
  (s:starEach (e::z) X.e=(false,eval e X.e)::starEach z X.e:=by rfl) (l:(backTo M (starEach z X.e)).any (·.1)=false:=by rfl):PE X (.Call (.Name x p) (e::z) [] M) (tV X.K (aG g fs)):=
 (iD c n m v a f d s l).imp' λ_ _ _ h=>xA h
noncomputable def Pp(K:FG)(g:List P->Option P):Sp:=λN H Q _=>rC K g N H Q
theorem Nc(G:FnOk X.p X.w X.K X.g X.b nR k f t ps (Pp X.K g))(i:Room k X.A)(w:Gl X x)(u:X.g x=some (.ref f))(hk:fw X.K (.ref f)=true)(c:Binds X.K t ps [])
  (b:PA X (e::z) (pi X.K fs)) (d:(x == ("__debug__":Str))=false:=by decide) (v:starEach (e::z) X.e=(false,eval e X.e)::starEach z X.e:=by rfl) (a:(backTo M (starEach z X.e)).any (·.1)=false:=by rfl) :
  PE X (.Call (.Name x p) (e::z) [] M) (tV X.K (aG g fs)):=
 (uF G i w u hk c .nil qe b d v a).imp' λJ H Q h=>by obtain⟨F,m,L,S,n,T,r,l,q,k⟩:=xA h;exact⟨F,m,L,S,n,T,r,l,q,λxs F' m' H' s j p=>by show Pp X.K g (xs++[]) H' Q E0;rw[cW];exact k xs F' m' H' s j p⟩
end
section
variable{X:Cx}{a b e:Expr}{l:Stmt}{j bs cs:List Stmt}{f g:ES}{fe:EE}{qa:EB}{M:Pos}
theorem Qa:oy X [] (i_ X.K eD):=Hu.imp' λD J H h=>by obtain⟨F,m,L,S,f,x,T,r,l,q,k⟩:=h;cases q;exact k J F m H .refl r l
theorem MW(o:PS X l (i_ X.K f))(K:oy X j (i_ X.K g)):oy X (l::j) (i_ X.K (aA f g)):=(D0 o K).imp' λD J H P=>by
 obtain⟨F,m,L,S,u,w,T,r,h,q,k⟩:=P;cases e:f L S with
 |none=>rw[show aA f g L S=none by unfold aA;rw[e]]at q;cases q
 |some x=>
  obtain⟨i,p,v⟩:=x;cases i with
  |nx=>
   have n:g p v=some (u,w,T):=by have:=q;unfold aA at this;rw[e]at this;exact this
   exact⟨F,m,L,S,.nx,p,v,r,h,e,λt C s y c b a=>⟨C,s,p,v,u,w,T,b,a,n,λz B E I M G A=>k z B E I (c.trans M) G A⟩⟩
  |rt d=>
   have n:some (Fl.rt d,p,v)=some (u,w,T):=by have:=q;unfold aA at this;rw[e]at this;exact this
   cases n;exact⟨F,m,L,S,_,_,_,r,h,e,λt C s y c b a=>k t C s y c b a⟩
  |bk=>
   have n:some (Fl.bk,p,v)=some (u,w,T):=by have:=q;unfold aA at this;rw[e]at this;exact this
   cases n;exact⟨F,m,L,S,_,_,_,r,h,e,λt C s y c b a=>k t C s y c b a⟩
  |ct=>
   have n:some (Fl.ct,p,v)=some (u,w,T):=by have:=q;unfold aA at this;rw[e]at this;exact this
   cases n;exact⟨F,m,L,S,_,_,_,r,h,e,λt C s y c b a=>k t C s y c b a⟩
theorem P'(h:PS X l (i_ X.K f)):oy X [l] (i_ X.K f):=Ht h
theorem Dl(h:PE X e (tE X.K fe)):PS X (.Return (some e) M) (i_ X.K (aO fe)):=(KQ h).imp' λD J H z=>by obtain⟨F,m,L,S,b,n,T,r,l,q,k⟩:=z;obtain⟨d,f,x,q⟩:=ak q;cases q;exact⟨F,m,L,S,d,T,r,l,x,λv F' m' H' s a p=>k J F' m' H' s a (l.mono s) v p⟩
theorem MV(h:PE X e (tE X.K fe))(a:swapsWith e none M.line X.e=pure false:=by rfl):PS X (.Expr e M) (i_ X.K (c_ fe)):=(Hw h a).imp' λD J H z=>by obtain⟨F,m,L,S,c,f,T,r,l,q,k⟩:=z;obtain⟨d,b,x,q⟩:=ak q;cases q;exact⟨F,m,L,S,d,T,r,l,x,λv F' m' H' s n p=>k J F' m' H' s n (l.mono s)⟩
theorem vt(i:Nat)(N:X.N.Nodup)(h:PE X e (tE X.K fe))(n:X.N[i]? = some x:=by rfl)(c:Loc X.e.scope x:=by first|exact Or.inl rfl|exact Or.inr rfl)(b:swapsWith e (some (.Name x t)) M.line X.e=pure false:=by rfl)
  (f:X.fn x=true\/X.e.scope.names.lookup x=some .local:=by first|exact .inl rfl|exact .inr rfl|assumption):PS X (.Assign [.Name x t] e M) (i_ X.K (aZ i fe)):=
 (KP N n c h b f).imp' λD J H z=>by obtain⟨F,m,L,S,j,u,T,r,l,q,k⟩:=z;obtain⟨d,g,a,q⟩:=ak q;cases q;exact⟨F,m,L,S,d,T,r,l,a,λv F' m' H' s w p=>k (J.set i (some v)) F' m' H' s w ((l.mono s).set p i)⟩
theorem Sg(i:PT X c (tQ X.K qa))(w:oy X bs (i_ X.K f))(u:oy X cs (i_ X.K g)):PS X (.If c bs cs M) (i_ X.K (cZ qa f g)):=(NN i w u).imp' λD J H z=>by
 obtain⟨F,m,L,S,p,t,T,r,l,q,k⟩:=z;obtain⟨c,x,d,q⟩:=ak q;refine⟨F,m,L,S,c,x,r,l,d,λF' m' H' s v=>?_⟩;cases c with
 |true=>rw[ag rfl]at q ⊢;exact⟨F',m',L,x,p,t,T,v,l.mono s,q,λh B e I b n a=>k h B e I (s.trans b) n a⟩
 |false=>rw[aj be]at q ⊢;exact⟨F',m',L,x,p,t,T,v,l.mono s,q,λh B e I b n a=>k h B e I (s.trans b) n a⟩
theorem JJ:PS X l (i_ X.K da):=vQ.imp' λD J H z=>by obtain⟨F,m,L,S,f,x,T,r,h,q,k⟩:=z;cases q
theorem Si:PS X (.Break M) (i_ X.K RY):=D2.imp' λD J H h=>by obtain⟨F,m,L,S,f,x,T,r,l,q,k⟩:=h;cases q;exact k J F m H .refl r l
theorem Sh:PS X (.Continue M) (i_ X.K RX):=vR.imp' λD J H h=>by obtain⟨F,m,L,S,f,x,T,r,l,q,k⟩:=h;cases q;exact k J F m H .refl r l
inductive gTI(K:FG)(g:kE)(x:V)(J:L2.St)(H:Hp)(Q:L2.St->Hp->Prop):Prop
 |mk (F:Aa) (m:List Addr) (L:Lc) (v:P) (L':Lc) (h0_:RL K F H m J L) (h1_:RP K F H v x) (h2_:g v L=some L') (h3_:∀J',RL K F H m J' L'->Q J' H):gTI K g x J H Q
noncomputable def gT(K:FG)(g:kE):TG:=λx J H Q=>gTI K g x J H Q
theorem _root_.L2.PG.imp'(h:PG X tg t)(i:∀v J H Q,k v J H Q->t v J H Q):PG X tg k:=λp s J H v u Q I r q=>h p s J H v u Q I r (i v J H Q q)
theorem LZ(i:Nat)(h:X.N.Nodup)(a:X.N[i]? = some x:=by rfl)(e:Loc X.e.scope x:=by first|exact Or.inl rfl|exact Or.inr rfl)(f:X.fn x=true\/X.e.scope.names.lookup x=some .local:=by first|exact .inl rfl|exact .inr rfl|assumption) :
  PG X (.Name x M) (gT X.K (aK i)):=(HB h a e f).imp' λv J H Q z=>by
 obtain⟨F,m,L,d,s,l,p,q,k⟩:=z;cases q;exact k _ (l.set (d:=.p d) p i)
def JG(K:FG)(a:It)(N:List P)(F:Aa)(m:List Addr)(H:Hp):Prop:=∀B s I,Stp F m H B s I ->
 (∀(i:Nat) v,N[i]? = some v->a.go i I/\∀x h,a.yld i I x h->∃e,Grow B I e h/\RP K e h v x)/\a.stop N.length I
inductive tII(K:FG)(f:j')(J:L2.St)(H:Hp)(R:It->Hp->Prop):Prop
 |mk (F:Aa) (m:List Addr) (L:Lc) (S:aE) (vs:List P) (S':aE) (h0_:Rel K F H m S) (h1_:RL K F H m J L) (h2_:f L S=some (vs,S')) (h3_:∀J9 F' m' H',Stp F m H F' m' H'->Rel K F' H' m' S'->JG K J9 vs F' m' H'->R J9 H'):tII K f J H R
noncomputable def tI(K:FG)(f:j'):TI:=λJ H R=>tII K f J H R
theorem Qb{tg iter:Expr}{fi:j'}{g:kE}{b:List Stmt}{fb:ES}(hp:PassesOwn (model X.p X.w) X.A X.e X.xe)(hc:X.c=true)(hi:PI X tg iter (tI X.K fi))(hg:PG X tg (gT X.K g))(hb:oy X b (i_ X.K fb))
  (hs:∀x,foldedSetIterable iter X.e x=pure x:=by intro _;rfl):PS X (.For tg iter b [] M) (i_ X.K (cT fi g fb)):=
 (KR hp hc hi hg hb hs).imp' λD J H hz=>by
  obtain⟨F,m,L,S,fl,L',T,r,l,q,k⟩:=hz;obtain⟨N,S1,e1,q⟩:=ak q;refine⟨F,m,L,S,N,S1,r,l,e1,fun J9 C u y P r1 it=>?_⟩;refine⟨fun i n Q I=>n=N.length-i/\i≤N.length/\∃B s L2 f,Stp C u y B s I/\Rel X.K B I s f/\RL X.K B I s Q L2/\cP g fb (N.drop i) L2 f=some (fl,L',T),
   ⟨N.length,rfl,bW _,C,u,L,S1,.refl,r1,l.mono P,by rw[kj];exact q⟩,?_⟩
  rintro i n Q I ⟨rfl,hi,B,s,L2,f,s2,r2,l2,a⟩;obtain⟨go,o⟩:=it B s I s2;by_cases t:i < N.length
  .right;have hv:N[i]? = some N[i]:=by simp[t]
   rw[tU t]at a;obtain⟨hgo,hy⟩:=go i _ hv;refine⟨hgo,λJ3 c=>∃n',n' < N.length-i/\(n'=N.length-(i+1)/\i+1≤N.length/\∃B s L2 f,Stp C u y B s c/\Rel X.K B c s f/\RL X.K B c s J3 L2/\cP g fb (N.drop (i+1)) L2 f=some (fl,L',T)),λ_ _ z=>z,λx c h=>?_⟩;obtain⟨G,gr,p3⟩:=hy x c h;unfold cP at a;cases eg:g N[i] L2 with
   |none=>rw[eg]at a;cases a
   |some R=>
    rw[eg]at a;dsimp only at a;refine⟨G,s,L2,N[i],R,l2.mono gr.stp,p3,eg,λJ3 l3=>?_⟩;have A:Stp C u y G s c:=s2.trans gr.stp;have r3:=r2.grow gr;cases Z:fb R f with
    |none=>rw[Z]at a;cases a
    |some z=>
     obtain⟨p,V,W⟩:=z;rw[Z]at a;refine⟨G,s,R,f,p,V,W,r3,l3,Z,λJ4 v j H4 E K w=>?_⟩;cases p with
     |nx=>exact⟨N.length-(i+1),by lia,rfl,t,v,j,V,W,A.trans E,K,w,a⟩
     |ct=>exact⟨N.length-(i+1),by lia,rfl,t,v,j,V,W,A.trans E,K,w,a⟩
     |bk=>cases a;exact k J4 v j H4 (P.trans (A.trans E)) K w
     |rt d=>cases a;exact k J4 v j H4 (P.trans (A.trans E)) K w
  .left;have e:i=N.length:=by lia
   subst e;rw[tG]at a;cases a;exact⟨o,k Q B s I (P.trans s2) r2 l2⟩
theorem JI(hp:PassesOwn (model X.p X.w) X.A X.e X.xe)(hc:PT X c (tQ X.K qa))(Z:oy X t (i_ X.K fb)):PS X (.While c t [] M) (i_ X.K (uD n qa fb)):=
 (D1 hp hc Z).imp' λD J H hz=>by
  obtain⟨F,m,L,S,G,E,T,r,l,q,k⟩:=hz;refine⟨λn j I=>∃B x L2 a,Stp F m H B x I/\Rel X.K B I x a/\RL X.K B I x j L2/\hG qa fb n L2 a=some (G,E,T),⟨n,F,m,L,S,.refl,r,l,q⟩,?_⟩;rintro n j I ⟨B,x,L2,a,b,r2,A,Q⟩;cases n with
  |zero=>cases Q
  |succ n=>
   obtain⟨c,o,W,h⟩:=ak (show bw (qa L2 a) _=_ from Q);refine⟨B,x,L2,a,c,o,r2,A,W,λC N V s R=>?_⟩;cases c with
   |false=>rw[aj be]at h ⊢;cases h;exact k j C N V (b.trans s) R (A.mono s)
   |true=>
    rw[ag rfl]at h ⊢;cases P:fb L2 o with
    |none=>rw[P]at h;cases h
    |some z=>
     obtain⟨f,y,K⟩:=z;rw[P]at h;refine⟨λv e=>∃m',m' < n+1/\∃B x L2 a,Stp F m H B x e/\Rel X.K B e x a/\RL X.K B e x v L2/\hG qa fb m' L2 a=some (G,E,T),λ_ _ z=>z,C,N,L2,o,f,y,K,R,A.mono s,P,λv p u e i g w=>?_⟩;cases f with
     |nx=>exact⟨n,d6 _,p,u,y,K,b.trans (s.trans i),g,w,h⟩
     |ct=>exact⟨n,d6 _,p,u,y,K,b.trans (s.trans i),g,w,h⟩
     |bk=>cases h;exact k v p u e (b.trans (s.trans i)) g w
     |rt d=>cases h;exact k v p u e (b.trans (s.trans i)) g w
end
theorem Stp.toGrow(s:Stp F [] H F' m' H')(f:∀a,F' a->H' a≠none):Grow F H F' H':=
 ⟨fun b o h=>s.oth b o h (by simp),s.frz,fun b h=>by
  rcases s.nf b h with q|q|q
  .exact .inl q
  .exact .inr ⟨q,f b h⟩
  .simp at q⟩
theorem kS{α:Prop}{β:Type}{d:β}(h:(none:Option β)=some d):α:=nomatch h
noncomputable def gO(n:Nat):Bool:=decide (n≤1000000)
theorem gC(h:gO n=true):n≤sizeLine:=ba (aL h) (by decide)
section
variable{X:Cx}
def u7:P->P->Option P
 | .int i,.int j=>some (.int (i+j))
 | .str x,.str y=>if gO (x.length+y.length)=true then some (.str (x++y)) else none
 | .tup xs,.tup s=>if (!xs.isEmpty && gO (xs.length+s.length))=true then some (.tup (xs++s)) else none
 | .lst xs,.lst s=>if gO (xs.length+s.length)=true then some (.lst (xs++s)) else none
 |_,_=>none
theorem Oc:oQ X (binaryOp .Add) u7:=by
 intro f s J H x y v u Q I o S h;obtain⟨F,E,w,d,L,g,l,q,k⟩:=h;cases E with
 |int i=>
  cases w with
  |int j=>cases q;cases (show x=.int i from g);cases (show y=.int j from l);exact Le f s J H _ _ v u Q I o S ⟨i,j,rfl,rfl,k _ F H .refl rfl⟩
  |_=>exact kS q
 |str i=>
  cases w with
  |str j=>
   simp only[u7]at q;split at q
   .rename_i c;cases q;cases (show x=.str i from g);cases (show y=.str j from l);exact xN f s J H _ _ v u Q I o S ⟨i,j,rfl,rfl,gC c,k _ F H .refl rfl⟩
   .cases q
  |_=>exact kS q
 |tup B=>
  cases w with
  |tup z=>
   simp only[u7]at q;split at q
   .rename_i c;rw[az]at c;cases q;obtain⟨a,xs,rfl,K,r⟩:=g;obtain⟨b,A,rfl,P,t⟩:=l;have C:=r.length;have D:=t.length;have G:xs≠[]:=λn=>by
     subst n;have:B=[]:=eh C;subst this;simp at c
    refine HI f s J H _ _ v u Q I o S ⟨a,b,xs,A,rfl,rfl,K.sq,P.sq,G,by rw[<- C,<- D];exact gC c.2,λn=>?_,λ_ p m=>?_⟩
    .subst n;have e:z=[]:=eh D;subst e;refine k _ F H .refl ?_;rw[cW];exact⟨a,xs,rfl,K,r⟩
    .exact k _ F _ (bq m) (.newTup m (r.append t))
   .cases q
  |_=>exact kS q
 |lst B=>
  cases w with
  |lst z=>
   simp only[u7]at q;split at q
   .rename_i c;cases q;obtain⟨a,xs,rfl,K,r⟩:=g;obtain⟨b,A,rfl,P,t⟩:=l;exact Ld f s J H _ _ v u Q I o S ⟨a,b,xs,A,rfl,rfl,K.2,P.2,by rw[<- r.length,<- t.length];exact gC c,λp m=>k _ _ _ (bS m) (.newLst m (r.append t))⟩
   .cases q
  |_=>exact kS q
 |_=>exact kS q
noncomputable def Ga(c:Int->Int->Bool)(g:Int->Int->P):P->P->Option P
 | .int i,.int j=>if c i j=true then some (g i j) else none
 |_,_=>none
@[simp] theorem IH(c:Int->Int->Bool)(g:Int->Int->P)(i j:Int):Ga c g (.int i) (.int j)=if c i j=true then some (g i j) else none:=rfl
theorem vV{f:Value->Value->Sem Value}{C:Int->Int->Prop}{a:Int->Int->V}{c:Int->Int->Bool}{g:Int->Int->P}(o:gX X f (rI C a))(b:∀i j,c i j=true->C i j)(m:∀K F H i j,RP K F H (g i j) (a i j)):oQ X f (Ga c g):=by
 intro p s J H x y v u Q I l z h;obtain⟨F,e,n,d,S,t,w,q,k⟩:=h;cases e with
 |int i=>
  cases n with
  |int j=>
   rw[IH]at q;split at q
   .rename_i r;cases q;cases (show x=.int i from t);cases (show y=.int j from w);exact o p s J H _ _ v u Q I l z ⟨i,j,rfl,rfl,b i j r,k _ F H .refl (m _ _ _ _ _)⟩
   .cases q
  |_=>exact kS q
 |_=>exact kS q
theorem qc(h:gX X f (Ho k)):gX X f (rI (λ_ _=>True) k):=λp s J H x y v u Q I r n ⟨i,j,e,a,_,q⟩=>h p s J H x y v u Q I r n ⟨i,j,e,a,q⟩
noncomputable abbrev Dm:Int->Int->Bool:=λ_ _=>true
abbrev wv:=Ga Dm λi j=>.int (i-j)
theorem N0:oQ X (binaryOp .Sub) wv:=vV (qc K_) (λ_ _ _=>trivial) λ_ _ _ _ _=>rfl
noncomputable abbrev KW:Int->Int->Bool:=λ_ j=>decide (0 < j) && decide (j < 1152921504606846976)
theorem Ee:gX X (binaryOp .FloorDiv) (rI (λ_ j=>0 < j/\j < 1152921504606846976) λi j=>.int (i / j)):=Ps λi j _ _ _ _ _ h q=>by have a:(0:Int) < j:=h.1;have e:j < 1152921504606846976:=h.2;have x:j.natAbs.log2 < 9000:=bu ((yZ (by lia)).mpr (show j.natAbs < 2 ^ 60 by lia)) (by decide);exact floordiv_int (by lia) (by rw[Int.fdiv_eq_ediv_of_nonneg i (by lia)];exact q) (.inl (PyProof.noPylong_of_log2 x))
abbrev u5:=Ga KW λi j=>.int (i / j)
theorem HJ:oQ X (binaryOp .FloorDiv) u5:=vV Ee (λi j h=>by rw[az]at h;exact⟨aL h.1,aL h.2⟩) λ_ _ _ _ _=>rfl
abbrev qP:=Ga (λ_ j=>decide (0 < j)) λi j=>.int (i % j)
theorem N5:oQ X (binaryOp .Mod) qP:=vV La (λi j h=>aL h) λ_ _ _ _ _=>rfl
abbrev IG:=Ga (λi j=>decide (0≤j) && decide (j≤1000000) && decide (i.natAbs < 2 ^ 64)) λi j=>.int (i ^ j.toNat)
theorem N1:oQ X (binaryOp .Pow) IG:=vV K' (λi j h=>by simp only[az]at h;exact⟨aL h.1.1,aL h.1.2,aL h.2⟩) λ_ _ _ _ _=>rfl
abbrev PU:=Ga Dm λi j=>.bl (decide (i < j))
theorem Q_:oQ X (compareOp .Lt) PU:=vV (qc NV) (λ_ _ _=>trivial) λ_ _ _ _ _=>rfl
abbrev OR:=Ga Dm λi j=>.bl (decide (i≤j))
theorem Q':oQ X (compareOp .LtE) OR:=vV (qc NX) (λ_ _ _=>trivial) λ_ _ _ _ _=>rfl
abbrev OS:=Ga Dm λi j=>.bl (decide (j < i))
theorem Ra:oQ X (compareOp .Gt) OS:=vV (qc NY) (λ_ _ _=>trivial) λ_ _ _ _ _=>rfl
abbrev PZ:=Ga Dm λi j=>.bl (decide (j≤i))
theorem Rb:oQ X (compareOp .GtE) PZ:=vV (qc NZ) (λ_ _ _=>trivial) λ_ _ _ _ _=>rfl
noncomputable def jU(i j:Int):Bool:=decide (i.natAbs.log2+j.natAbs.log2 < 100000000)
theorem En{i j:Int}(h:jU i j=true):IntMulOk i j:=by
 have a:i.natAbs.log2+j.natAbs.log2 < 100000000:=aL h;have b:∀x:Int,Builtin.Int.intBits x≤x.natAbs.log2+1:=λx=>by
  unfold Builtin.Int.intBits;split
  .exact bW _
  .exact al _
 exact IntMulOk.of_le (b i) (b j) (by lia)
theorem HH:gX X (binaryOp .Mult) (rI (λi j=>IntMulOk i j) λi j=>.int (i * j)):=Ps λ_ _ _ _ _ _ _ h q=>mul_int q h
noncomputable def dn(x:Str)(n:Nat):Str:=⟨(List.replicate n x.cps).foldl (·++·) #[]⟩
theorem xE(x:Str):dn x 1=x:=by unfold dn;cases x;simp
theorem Cp(n:Nat):(List.replicate n (#[]:Array Nat)).foldl (·++·) #[]=#[]:=by
 induction n with
 |zero=>rfl
 |succ n i=>rw[cn,gv];simpa using i
theorem uA(x:Str)(n:Nat)(h:x.length=0):dn x n=x:=by have e:x.cps=#[]:=Array.eq_empty_of_size_eq_zero (by simpa[lz] using h);unfold dn;cases x;simp only at e;subst e;rw[Cp]
theorem x9(a:Array Nat)(n:Nat):∀b:Array Nat,((List.replicate n a).foldl (·++·) b).size=b.size+n * a.size:=by
 induction n with
 |zero=>intro b;simp
 |succ n i=>intro b;rw[cn,gv,i,t6,tm];lia
theorem kR(x:Str)(n:Nat):(dn x n).length=n * x.length:=by unfold dn lz;simp only;rw[x9];simp
def u4:P->P->Option P
 | .int i,.int j=>if jU i j=true then some (.int (i * j)) else none
 | .str x,.int n=>if (gO (n.toNat * x.length) && decide (n.natAbs < 1000000))=true then some (.str (dn x n.toNat)) else none
 | .lst xs,.int n=>if (gO (xs.length * n.toNat) && decide (n.natAbs < 1000000))=true then some (.lst (List.replicate n.toNat xs).flatten) else none
 |_,_=>none
theorem bB.rep(h:bB K F H r xs):∀k:Nat,bB K F H (List.replicate k r).flatten (List.replicate k xs).flatten
 |0=>rfl
 |k+1=>by rw[cn,cn,dD,dD];exact h.append (bB.rep h k)
theorem N4:oQ X (binaryOp .Mult) u4:=by
 intro r s J H x y v u Q I o S h;obtain⟨F,B,w,d,M,g,l,q,k⟩:=h;cases B with
 |int i=>
  cases w with
  |int j=>
   simp only[u4]at q;split at q
   .rename_i c;cases q;cases (show x=.int i from g);cases (show y=.int j from l);exact HH r s J H _ _ v u Q I o S ⟨i,j,rfl,rfl,En c,k _ F H .refl rfl⟩
   .cases q
  |_=>exact kS q
 |str i=>
  cases w with
  |int n=>
   simp only[u4]at q;split at q
   .rename_i c;rw[az]at c;have E:=aL c.2;have N:n.toNat * i.length≤1000000:=aL c.1;have T:=jV;have V:(1000000:Nat)≤sizeLine:=by decide
    cases q;cases (show x=.str i from g);cases (show y=.int n from l);obtain⟨t,rfl⟩:=o;obtain⟨W,rfl⟩:=S;refine PySem.P.mul_str (by have C:decide (n < -(2 ^ 63:Int))=false:=aX (by lia);have D:decide (n ≥ 2 ^ 63)=false:=aX (by lia);rw[C,D];rfl) (λa b=>?_) (λa b=>?_) ?_
    .intro z;have R:((i.length:Nat):Int)≤(2 ^ 63-1) / n:=by
      refine(Int.le_ediv_iff_mul_le (by lia)).mpr ?_;have e:((i.length:Nat):Int) * n=((n.toNat * i.length:Nat):Int):=by rw[yF,yG (by lia),Int.mul_comm]
      rw[e];lia
     lia
    .unfold Builtin.Str.tooLong;first
      |exact aX (by rw[o0];lia)
      |(rw[o0];exact aX (by lia))
    .have f:Q (.str (dn i n.toNat)) H:=k _ F H .refl rfl;by_cases K:n < 1
     .rw [ag K];have e:n.toNat=0:=by lia
      rw[e]at f;exact⟨by decide,⟨.str Str.empty,H,I.tok _,⟨_,rfl⟩,f⟩⟩
     .rw [aj K];by_cases m:(n == 1 ||i.length == 0)=true
      .rw [ag m];rw[tY]at m;have e:dn i n.toNat=i:=by
        rcases m with m|m
        .have:n=1:=by simpa using m
         subst this;exact xE i
        .exact uA i _ (by simpa using m)
       rw[e]at f;exact⟨.str i,H,I,⟨_,rfl⟩,f⟩
      .rw [aj m];refine⟨?_,⟨.str (dn i n.toNat),H,I.tok _,⟨_,rfl⟩,f⟩⟩;have:=kR i n.toNat
       unfold dn at this;rw[this];lia
   .cases q
  |_=>exact kS q
 |lst L=>
  cases w with
  |int n=>
   simp only[u4]at q;split at q
   .rename_i c;rw[az]at c;have E:=aL c.2;cases q;obtain⟨a,xs,rfl,G,A⟩:=g;cases (show y=.int n from l);exact Ec r s J H _ _ v u Q I o S ⟨a,n,xs,rfl,rfl,G.2,by lia,by lia,by rw[<- A.length];exact gC c.1,λp P=>k _ _ _ (bS P) (.newLst P (A.rep _))⟩
   .cases q
  |_=>exact kS q
 |_=>exact kS q
noncomputable def R7:P->P->Option P
 | .int i,.int j=>some (.bl (decide (i=j)))
 | .str x,.str y=>some (.bl (decide (x=y)))
 | .bl a,.bl b=>some (.bl (decide (a=b)))
 |_,_=>none
noncomputable def MD:P->P->Option P
 | .int i,.int j=>some (.bl (!decide (i=j)))
 | .str x,.str y=>some (.bl (!decide (x=y)))
 | .bl a,.bl b=>some (.bl (!decide (a=b)))
 |_,_=>none
theorem oj{i j:Int}:decide (V.int i=V.int j)=decide (i=j):=by
 by_cases h:i=j
 .subst h;simp
 .rw [aX h,aX λz=>h (V.int.inj z)]
theorem oh:decide (V.str i=V.str k)=decide (i=k):=by
 by_cases h:i=k
 .subst h;simp
 .rw [aX h,aX λz=>h (V.str.inj z)]
theorem qK:decide (V.bl i=V.bl k)=decide (i=k):=by
 by_cases h:i=k
 .subst h;simp
 .rw [aX h,aX λz=>h (V.bl.inj z)]
theorem Rc:oQ X (compareOp .Eq) R7:=by
 intro p s J H x y v u Q I r f h;obtain⟨F,b,a,d,t,e,n,q,k⟩:=h;cases b with
 |int i=>
  cases a with
  |int j=>cases q;cases (show x=.int i from e);cases (show y=.int j from n);exact Ef p s J H _ _ v u Q I r f ⟨rfl,by rw[oj];exact k _ F H .refl rfl⟩
  |_=>exact kS q
 |str i=>
  cases a with
  |str j=>cases q;cases (show x=.str i from e);cases (show y=.str j from n);exact Ef p s J H _ _ v u Q I r f ⟨rfl,by rw[oh];exact k _ F H .refl rfl⟩
  |_=>exact kS q
 |bl i=>
  cases a with
  |bl j=>cases q;cases (show x=.bl i from e);cases (show y=.bl j from n);exact Ef p s J H _ _ v u Q I r f ⟨rfl,by rw[qK];exact k _ F H .refl rfl⟩
  |_=>exact kS q
 |_=>exact kS q
theorem Q9:oQ X (compareOp .NotEq) MD:=by
 intro p s J H x y v u Q I r f h;obtain⟨F,b,a,d,t,e,n,q,k⟩:=h;cases b with
 |int i=>
  cases a with
  |int j=>cases q;cases (show x=.int i from e);cases (show y=.int j from n);exact Ed p s J H _ _ v u Q I r f ⟨rfl,by rw[oj];exact k _ F H .refl rfl⟩
  |_=>exact kS q
 |str i=>
  cases a with
  |str j=>cases q;cases (show x=.str i from e);cases (show y=.str j from n);exact Ed p s J H _ _ v u Q I r f ⟨rfl,by rw[oh];exact k _ F H .refl rfl⟩
  |_=>exact kS q
 |bl i=>
  cases a with
  |bl j=>cases q;cases (show x=.bl i from e);cases (show y=.bl j from n);exact Ed p s J H _ _ v u Q I r f ⟨rfl,by rw[qK];exact k _ F H .refl rfl⟩
  |_=>exact kS q
 |_=>exact kS q
theorem BN{α β:Type}{xs:List α}{s:List β}{i:Int}{d:α}(l:xs.length=s.length)(h:L2.atI xs i=some d):∃j:Nat,xs[j]? = some d/\∀y,s[j]? = some y->L2.atI s i=some y:=by
 unfold L2.atI at h ⊢;rw[l]at h;cases e:CS s.length i with
 |none=>rw[e]at h;cases h
 |some j=>rw[e]at h;exact⟨j,h,λy x=>x⟩
theorem bB.atI{K:FG}{F:Aa}{H:Hp}{s:List P}{xs:List V}{i:Int}{d:P}(r:bB K F H s xs)(h:L2.atI s i=some d):∃x,L2.atI xs i=some x/\RP K F H d x:=by obtain⟨j,a,n⟩:=BN r.length h;obtain⟨x,e,p⟩:=r.get a;exact⟨x,n x e,p⟩
theorem bI.atI{K:FG}{F:Aa}{H:Hp}{m:List Addr}{s:List D}{xs:List V}{i:Int}{d:D}(r:bI K F H m s xs)(h:L2.atI s i=some d):∃x,L2.atI xs i=some x/\RD K F H m d x:=by obtain⟨j,a,n⟩:=BN r.length h;obtain⟨x,e,p⟩:=r.get a;exact⟨x,n x e,p⟩
noncomputable def gi(k:dj):List dj->List α->Option α
 |h::s,v::N=>if h=k then some v else gi k s N
 |_,_=>none
noncomputable def eA:P->Option dj
 | .int i=>some (.inl i)
 | .str x=>some (.inr x)
 |_=>none
def bj:P->P->Option P
 | .tup xs,.int i=>L2.atI xs i
 | .lst xs,.int i=>L2.atI xs i
 | .ro xs,.int i=>L2.atI xs i
 | .str x,.int i=>if gO x.length=true then (L2.atI x.cps.toList i).map λc=>.str ⟨#[c]⟩ else none
 | .dct s N,y=>match eA y with
  |some k=>gi k s N
  |none=>none
 |_,_=>none
theorem mZ:∀{s:List (dj×V)}{a:List P}{d:P},bB K F H a (s.map (·.2))->gi k (s.map (·.1)) a=some d->∃v,fL s k=some v/\RP K F H d v
 | [],a,d,r,h=>by cases a<;>exact kS h
 |(n,v)::s,[],d,r,h=>kS h
 |(n,v)::s,q::a,d,r,h=>by
  obtain⟨x,u,e,p,f⟩:=r;rw[aD]at e;injection e with b c;simp only[aD,gi]at h;by_cases hk:n=k
  .rw [ag hk]at h;cases h;exact⟨v,gH (p:=(n,v)) hk,by rw[show v=x from b];exact p⟩
  .rw [aj hk]at h;rw[<- c]at f;obtain⟨w,m,t⟩:=mZ f h;exact⟨w,by rw[fK (p:=(n,v)) hk];exact m,t⟩
theorem gN(h:eA t=some k)(r:RP K F H t v):v=kV k:=by
 cases t with
 |int i=>cases h;exact r
 |str x=>cases h;exact r
 |_=>exact kS h
theorem EF(m:X.A.units+1 < cLine):CV X (λx y H Q=>∃a v,x=.ref a/\jt H a y (some v)/\(∃k,H a=some (.dK k))/\Q v H):=by
 intro f l p s J H x y v u Q I t d h c;obtain⟨a,w,rfl,g,⟨k,hk⟩,q⟩:=h;cases t;have n:∃o,s.heap.get? a=some o/\o.ExactDict:=by obtain⟨_,_,_,_,o,_,_,e,n,_⟩:=I.h a _ hk;exact⟨o,e,n⟩
 obtain⟨o,e,n⟩:=n;exact lD ⟨o,e,n.1⟩ xa.lookup (sI m I g d λj i b r=>⟨w,H,b,r,q⟩) c
theorem R3(L:X.A.units+1 < cLine):CV X (rP X.K bj):=by
 intro n l f s J H x y v u Q I o S h t;obtain⟨F,C,m,d,N,g,j,q,k⟩:=h;cases C with
 |tup b=>
  cases m with
  |int i=>obtain⟨a,xs,rfl,K,r⟩:=g;cases (show y=.int i from j);obtain⟨z,e,p⟩:=r.atI (show L2.atI b i=some d from q);exact ED n l f s J H _ _ v u Q I o S ⟨a,xs,i,z,rfl,rfl,K.sq,e,k z F H .refl p⟩ t
  |_=>exact kS q
 |lst b=>
  cases m with
  |int i=>obtain⟨a,xs,rfl,K,r⟩:=g;cases (show y=.int i from j);obtain⟨z,e,p⟩:=r.atI (show L2.atI b i=some d from q);exact uM n l f s J H _ _ v u Q I o S ⟨a,xs,i,z,rfl,rfl,K.sq,e,k z F H .refl p⟩ t
  |_=>exact kS q
 |ro b=>
  cases m with
  |int i=>obtain⟨a,xs,rfl,K,r⟩:=g;cases (show y=.int i from j);obtain⟨z,e,p⟩:=r.atI (show L2.atI b i=some d from q);exact uM n l f s J H _ _ v u Q I o S ⟨a,xs,i,z,rfl,rfl,K.sq,e,k z F H .refl p⟩ t
  |_=>exact kS q
 |str z=>
  cases m with
  |int i=>
   cases (show x=.str z from g);cases (show y=.int i from j);simp only[bj]at q;split at q
   .rename_i G;cases e:L2.atI z.cps.toList i with
    |none=>rw[e]at q;exact kS q
    |some c=>rw[e]at q;cases q;exact LJ n l f s J H _ _ v u Q I o S ⟨z,i,c,rfl,rfl,gC G,e,k _ F H .refl rfl⟩ t
   .cases q
  |_=>exact kS q
 |dct R b=>
  obtain⟨a,B,rfl,fa,hk,E,r⟩:=g;simp only[bj]at q;cases P:eA m with
  |none=>rw[P]at q;exact kS q
  |some M=>rw[P]at q;dsimp only at q;subst E;obtain⟨w,D,p⟩:=mZ r q;have A:=gN P j;subst A;exact EF L n l f s J H _ _ v u Q I o S ⟨a,w,rfl,by rw[<- D];exact jt.k hk,⟨B,hk⟩,k w F H .refl p⟩ t
 |_=>exact kS q
theorem Sm{a b:Expr}{fa fb:EV}{M:Pos}(u:X.A.units+1 < cLine)(x:PE X a (tV X.K fa))(e:PE X b (tV X.K fb))(s:kG b):PE X (.Subscript a b M) (tV X.K (aW bj fa fb)):=
 (A7 (R3 u) x e s).imp' λ_ _ _ h=>uw h
end
section
variable{X:Cx}
theorem pW:∀{s:List (dj×V)}{a:List D}{d:D},bI K F H m a (s.map (·.2))->gi k (s.map (·.1)) a=some d->∃v,fL s k=some v/\RD K F H m d v
 | [],a,d,r,h=>by cases a<;>exact kS h
 |(n,v)::s,[],d,r,h=>kS h
 |(n,v)::s,u::a,d,r,h=>by
  obtain⟨x,g,e,p,f⟩:=r;rw[aD]at e;injection e with b c;simp only[aD,gi]at h;by_cases hk:n=k
  .rw [ag hk]at h;cases h;exact⟨v,gH (p:=(n,v)) hk,by rw[show v=x from b];exact p⟩
  .rw [aj hk]at h;rw[<- c]at f;obtain⟨w,t,q⟩:=pW f h;exact⟨w,by rw[fK (p:=(n,v)) hk];exact t,q⟩
@[simp] def kZ(r:EE)(k:EV)(L:Lc)(S:aE):rg:=bw (r L S) λd x=>bw (k L x) λy h=>match d with
 | .p v=>(bj v y).map λz=>(.p z,h)
 | .ref i=>match h[i]? with
  | some (.lst s)=>(match y with
   | .int j=>(L2.atI s j).map λz=>(z,h)
   |_=>none)
  |some (.fz v)=>(bj v y).map λz=>(.p z,h)
  | some (.dct a N)=>(match eA y with
   |some k=>(gi k a N).map λz=>(z,h)
   |none=>none)
  |_=>none
theorem Qv{a b:Expr}{fa:EE}{fb:EV}{M:Pos}(hu:X.A.units+1 < cLine)(ha:PE X a (tE X.K fa))(hb:PE X b (tV X.K fb))(hs:kG b):PE X (.Subscript a b M) (tE X.K (kZ fa fb)):=
 (A7 ((((R3 hu).or uM).or (EF hu)).or ED) ha hb hs).imp' λJ H Q hz=>by
  obtain⟨F,m,L,S,d,T,r,l,q,k⟩:=hz;obtain⟨x,S1,A,q⟩:=ak q;obtain⟨h,K,e2,q⟩:=ak q;refine⟨F,m,L,S,x,S1,r,l,A,λv C m1 y c r1 p1=>?_⟩;refine⟨C,m1,L,S1,h,K,r1,l.mono c,e2,λu B V I o f Z=>?_⟩;have px:=RD.mono o p1;have s:∀w:P,RP X.K B I w v->(bj w h).map (λe=>(D.p e,K))=some (d,T)->rP X.K bj v u I Q:=λw pw q=>by
   cases g:bj w h with
   |none=>rw[g]at q;cases q
   |some e=>rw[g]at q;cases q;exact⟨B,w,h,e,f.ft,pw,Z,g,λt F3 H3 gr p3=>k t F3 V H3 (c.trans (o.trans gr.stp)) (f.grow gr) p3⟩
  cases x with
  |p w=>exact .inl (.inl (.inl (s w px q)))
  |ref i=>
   obtain⟨a,rfl,hm⟩:=px;dsimp only at q;cases z:K[i]? with
   |none=>rw[z]at q;cases q
   |some so=>
    rw[z]at q;have W:=f.obj i a so hm z;cases so with
    |fz w=>exact .inl (.inl (.inl (s w W q)))
    |dct ks N=>
     dsimp only at q;obtain⟨n,hk,ek,ra⟩:=W;cases E:eA h with
     |none=>rw[E]at q;cases q
     |some R=>
      rw[E]at q;dsimp only at q;subst ek;cases g:gi R (n.map (·.1)) N with
      |none=>rw[g]at q;cases q
      |some e=>rw[g]at q;cases q;obtain⟨w,A,p⟩:=pW ra g;have G:=gN E Z;subst G;exact .inl (.inr ⟨a,w,rfl,by rw[<- A];exact jt.k hk,⟨n,hk⟩,k w B V I (c.trans o) f p⟩)
    |ins _ _ _=>cases q
    |dtn _ _=>cases q
    |dtt _ _=>cases q
    |fn _=>cases q
    |lst ds=>
     dsimp only at q;cases h with
     |int j=>
      dsimp only at q;obtain⟨xs,hH,rs⟩:=W;cases g:L2.atI ds j with
      |none=>rw[g]at q;cases q
      |some e=>rw[g]at q;cases q;obtain⟨t,e3,p3⟩:=rs.atI g;cases (show u=.int j from Z);exact .inl (.inl (.inr ⟨a,xs,j,t,rfl,rfl,fq.of hH,e3,k t B V I (c.trans o) f p3⟩))
     |_=>cases q
def ql:P->Option Nat
 | .tup xs=>some xs.length
 | .lst xs=>some xs.length
 | .ro xs=>some xs.length
 | .str x=>if gO x.length=true then some x.length else none
 |_=>none
def kI:D->aE->Option Nat
 | .p v,_=>ql v
 | .ref i,S=>match S[i]? with
  |some (.lst d)=>some d.length
  |some (.fz v)=>ql v
  |_=>none
def cH(r:EE):EV:=λL S=>bw (r L S) λd h=>(kI d h).map λn=>(.int n,h)
theorem Bo{F:Aa}{H:Hp}{w:P}{v:V}{n:Nat}{Q:VK}(p:RP X.K F H w v)(h:ql w=some n)(q:Q (.int n) H) :
  (∃p y,[v]=[V.ref p]/\(fq X.K H p y\/kF X.K H p y)/\Q (.int y.length) H)\/(∃z,[v]=[V.str z]/\z.length≤sizeLine/\Q (.int z.length) H):=by
 cases w with
 |tup d=>obtain⟨a,xs,rfl,t,r⟩:=p;cases h;exact .inl ⟨a,xs,rfl,.inr t.sq,by rw[<- r.length];exact q⟩
 |lst d=>obtain⟨a,xs,rfl,t,r⟩:=p;cases h;exact .inl ⟨a,xs,rfl,.inl t.sq,by rw[<- r.length];exact q⟩
 |ro d=>obtain⟨a,xs,rfl,t,r⟩:=p;cases h;exact .inl ⟨a,xs,rfl,.inl t.sq,by rw[<- r.length];exact q⟩
 |str x=>
  cases (show v=.str x from p);simp only[ql]at h;split at h
  .rename_i c;cases h;exact .inr ⟨x,rfl,gC c,q⟩
  .cases h
 |_=>exact kS h
theorem Qs(A:Gl X "len")(f:X.g "len"=none)(P:PE X e (tE X.K fe))(c:starEach [e] X.e=[(false,eval e X.e)]:=by rfl):PE X (.Call (.Name "len" p) [e] [] M) (tV X.K (cH fe)):=
 (iF (vd.or vc) A f AH (cq P dI (by rw[c];rfl)) (by decide) (by decide) (by rw[c];rfl) rfl).imp' λJ H Q B=>by
  obtain⟨F,m,L,S,d,T,r,l,q,k⟩:=B;obtain⟨x,b,j,q⟩:=ak q;refine⟨F,m,L,S,x,b,r,l,j,λv C D y G u t=>?_⟩;cases h:kI x b with
  |none=>rw[h]at q;cases q
  |some n=>
   rw[h]at q;cases q;have s:Q (.int n) y:=k _ C D y G u rfl;cases x with
   |p w=>exact Bo t h s
   |ref i=>
    obtain⟨a,rfl,f⟩:=t;simp only[kI]at h;cases z:T[i]? with
    |none=>rw[z]at h;cases h
    |some g=>
     rw[z]at h;have o:=u.obj i a g f z;cases g with
     |fz w=>exact Bo o h s
     |dct R N=>cases h
     |ins _ _ _=>cases h
     |dtn _ _=>cases h
     |dtt _ _=>cases h
     |fn _=>cases h
     |lst I=>cases h;obtain⟨xs,K,E⟩:=o;exact .inl ⟨a,xs,rfl,.inl (fq.of K),by rw[<- E.length];exact s⟩
noncomputable def eQ(d:D)(S:aE):Option (Nat×List D):=match d with
 | .ref i=>match S[i]? with
  |some (.lst s)=>some (i,s)
  |_=>none
 |_=>none
theorem hV{d:D}{S:aE}{i:Nat}{s:List D}(h:eQ d S=some (i,s)):d=.ref i/\S[i]? = some (.lst s):=by
 unfold eQ at h;split at h
 .split at h
  .rename_i e;cases h;exact⟨rfl,e⟩
  .cases h
 .cases h
@[simp] def eT(r:EE)(a:EE)(L:Lc)(S:aE):rg:=bw (r L S) λd h=>match eQ d h with
 |none=>none
 |some _=>bw (a L h) λx e=>match eQ d e with
  |some (i,s)=>if few s=true then some (.p .non,e.set i (.lst (s++[x]))) else none
  |none=>none
theorem G2{o e:Expr}{W fe:EE}{p c:Pos}(ho:PE X o (tE X.K W))(he:PE X e (tE X.K fe))(M:starEach [e] X.e=[(false,eval e X.e)]:=by rfl)
  (t:attributeBase o "append" X.e (eval o X.e)=eval o X.e:=by rfl) (w:(p.endLine == c.line)=true:=by rfl):PE X (.Call (.Attribute o "append" p) [e] [] c) (tE X.K (eT W fe)):=
 (Jk lO z4 PySem.F.type_list_append sk ho (cq he dI (by rw[M];rfl)) t (by rw[M];rfl) w (by rw[M];rfl) rfl).imp' λJ H Q hz=>by
  obtain⟨F,m,L,S,d,T,r,h,q,k⟩:=hz;obtain⟨x,A,e1,q⟩:=ak q;refine⟨F,m,L,S,x,A,r,h,e1,λv C m1 y s1 r1 p1=>?_⟩;cases E:eQ x A with
  |none=>rw[E]at q;cases q
  |some s=>
   obtain⟨i,ds⟩:=s;rw[E]at q;dsimp only at q;obtain⟨rfl,z⟩:=hV E;obtain⟨a,rfl,hm⟩:=id p1;obtain⟨xs,hH,rs⟩:=r1.obj i a _ hm z;refine⟨.inl ⟨rfl,xs,fq.of hH⟩,?_⟩;obtain⟨n,V,e2,q⟩:=ak q;refine⟨C,m1,L,A,n,V,r1,h.mono s1,e2,λu B N I s2 R p2=>?_⟩;cases f:eQ (.ref i) V with
   |none=>rw[f]at q;cases q
   |some s=>
    obtain⟨i2,D⟩:=s;rw[f]at q;dsimp only at q;obtain⟨e3,b⟩:=hV f;cases e3;split at q
    .rename_i Z;cases q;obtain⟨a2,e4,g⟩:=RD.mono s2 p1;cases e4;obtain⟨j,K,P⟩:=R.obj i a _ g b;have hl:=jZ Z;have G:j.length < sizeLine:=by
      have:D.length≤1000000:=aL Z;rw[<- P.length];exact iW this (by decide)
     have nt:∀zs,I a≠some (.tup zs):=λzs s=>by rw[K]at s;cases s
     have l:Stp B N I B N (br I a (.lst (j++[u]))):=dE R g b trivial nt;refine⟨a,j,u,rfl,rfl,K,G,?_⟩;exact k .non B N _ (s1.trans (s2.trans l)) (R.set g b trivial nt ⟨_,aC,bI.mono l (P.append ⟨u,[],rfl,p2,rfl⟩)⟩) rfl
    .cases q
def Fj(r:EE):EE:=λL S=>bw (r L S) λd h=>match eQ d h with
 |some (i,s)=>match s[s.length-1]? with
  |some x=>some (x,h.set i (.lst s.dropLast))
  |none=>none
 |none=>none
theorem bI.dropLast{K:FG}{F:Aa}{H:Hp}{m:List Addr}{d:List D}{xs:List V}(r:bI K F H m d xs):bI K F H m d.dropLast xs.dropLast:=by rw[tN,tN,r.length];exact r.take _
theorem Qm{o:Expr}{D:EE}{p c:Pos}(N:PE X o (tE X.K D))
  (b:attributeBase o "pop" X.e (eval o X.e)=eval o X.e:=by rfl) (n:(p.endLine == c.line)=true:=by rfl):PE X (.Call (.Attribute o "pop" p) [] [] c) (tE X.K (Fj D)):=
 (K7 lO zY PySem.F.type_list_pop Lu N b n).imp' λJ H Q R=>by
  obtain⟨F,m,L,S,d,T,r,h,q,k⟩:=R;obtain⟨x,A,I,q⟩:=ak q;refine⟨F,m,L,S,x,A,r,h,I,λv C j y Z K V=>?_⟩;cases f:eQ x A with
  |none=>rw[f]at q;cases q
  |some e=>
   obtain⟨i,B⟩:=e;rw[f]at q;dsimp only at q;obtain⟨rfl,z⟩:=hV f;obtain⟨a,rfl,g⟩:=id V;obtain⟨xs,w,P⟩:=K.obj i a _ g z;refine⟨.inl ⟨rfl,xs,fq.of w⟩,?_⟩;cases t:B[B.length-1]? with
   |none=>rw[t]at q;cases q
   |some s=>
    rw[t]at q;cases q;obtain⟨u,M,W⟩:=P.get t;have E:∀G,y a≠some (.tup G):=λG e=>by rw[w]at e;cases e
    have l:Stp C j y C j (br y a (.lst xs.dropLast)):=dE K g z trivial E;refine⟨a,xs,u,rfl,rfl,w,by rw[<- P.length];exact M,?_⟩;exact k u C j _ (Z.trans l) (K.set g z trivial E ⟨_,aC,bI.mono l P.dropLast⟩) (RD.mono l W)
noncomputable abbrev EO:=Lc->aE->Option (Option Int×aE)
noncomputable def eR:EO:=λ_ S=>some (none,S)
def ew(a:EV):EO:=λL S=>bw (a L S) λv h=>match v with
 | .int i=>some (some i,h)
 |_=>none
inductive tOI(K:FG)(f:EO)(J:L2.St)(H:Hp)(Q:Option Int->Hp->Prop):Prop
 |mk (F:Aa) (m:List Addr) (L:Lc) (S:aE) (b:Option Int) (S':aE) (h0_:Rel K F H m S) (h1_:RL K F H m J L) (h2_:f L S=some (b,S')) (h3_:∀F' m' H',Stp F m H F' m' H'->Rel K F' H' m' S'->Q b H'):tOI K f J H Q
noncomputable def tO(K:FG)(f:EO):TO:=λJ H Q=>tOI K f J H Q
theorem _root_.L2.PO.imp'(h:PO X e t)(i:∀J H Q,k J H Q->t J H Q):PO X e k:=λp s J H Q I q=>h p s J H Q I (i J H Q q)
theorem Lm:PO X none (tO X.K eR):=Hy.imp' λJ H Q h=>by obtain⟨F,m,L,S,d,T,r,l,q,k⟩:=h;cases q;exact k F m H .refl r
theorem Ll(h:PE X e (tV X.K fa)):PO X (some e) (tO X.K (ew fa)):=(Hx h).imp' λJ H Q z=>by
 obtain⟨F,m,L,S,d,T,r,l,q,k⟩:=z;obtain⟨x,b,a,q⟩:=ak q;cases x with
 |int i=>cases q;exact⟨F,m,L,S,_,_,r,l,a,λv C s y f n p=>⟨i,p,k C s y f n⟩⟩
 |_=>cases q
def cut(xs:List α)(lo h:Option Int):List α:=(xs.drop (HT.dP xs.length 0 lo)).take (HT.dP xs.length xs.length h-HT.dP xs.length 0 lo)
theorem bB.cut(r:bB K F H k xs)(lo h:Option Int):bB K F H (Ev.cut k lo h) (wA xs lo h):=by unfold Ev.cut wA;rw[r.length];exact(r.drop _).take _
def Tf:P->Option Int->Option Int->Option P
 | .lst xs,lo,h=>some (.lst (cut xs lo h))
 | .ro xs,lo,h=>some (.lst (cut xs lo h))
 | .tup xs,lo,h=>if HT.dP xs.length 0 lo=0/\HT.dP xs.length xs.length h=xs.length then none else some (.tup (cut xs lo h))
 |_,_,_=>none
theorem _root_.L2.PI.imp'(h:PI X r iter t)(i:∀J H R,k J H R->t J H R):PI X r iter k:=λp s J H R I q=>h p s J H R I (i J H R q)
theorem EG(f:∀B h I,Stp F m H B h I->fq K I a xs)(r:bB K F H N xs):JG K (Pj K a) N F m H:=by
 intro B h I s;have q:=f B h I s;have k:=bB.mono s r;refine⟨λi v e=>?_,⟨xs,q,by rw[k.length];exact al _⟩⟩;obtain⟨x,n,p⟩:=k.get e;refine⟨⟨xs,x,q,n⟩,λy b z=>?_⟩;obtain⟨rfl,z⟩:=z;have:=z xs q
 rw[n]at this;cases this;exact⟨B,.refl,p⟩
theorem LK(k:TupAt K H a xs)(r:bB K F H N xs):JG K (Se K a) N F m H:=by
 intro B b I s;have q:=(k.kp s.kp).sq;have n:=bB.mono s r;refine⟨λi v e=>?_,⟨xs,q,by rw[n.length];exact al _⟩⟩;obtain⟨x,h,p⟩:=n.get e;refine⟨⟨xs,x,q,h⟩,λy f z=>?_⟩;obtain⟨rfl,z⟩:=z;have:=z xs q
 rw[h]at this;cases this;exact⟨B,.refl,p⟩
noncomputable def intsFrom(lo:Int)(n:Nat):List P:=(List.range n).map λ(i:Nat)=>.int (lo+(i:Int))
def iH(a:EV):j':=λL S=>bw (a L S) λv h=>match v with
 | .int j=>if decide (j.natAbs < 1000000)=true then some (intsFrom 0 j.toNat,h) else none
 |_=>none
theorem LL{lo:Int}:JG K (P7 lo n) (intsFrom lo n) F m H:=by
 intro B k I s;have l:(intsFrom lo n).length=n:=by unfold intsFrom;simp
 refine⟨λi v e=>?_,by show n≤(intsFrom lo n).length;rw[l];exact al _⟩;have h:i < n:=by rw[<- l];exact(bg.mp e).1
 refine⟨h,λx a z=>?_⟩;obtain⟨rfl,rfl⟩:=z;refine⟨B,.refl,?_⟩;unfold intsFrom at e;simp[h]at e;subst e;exact rfl
theorem SR{w a:Expr}{fa:EV}{p M:Pos}(g:Gl X "range")(n:X.g "range"=none)(s:PE X a (tV X.K fa))(h:starEach [a] X.e=[(false,eval a X.e)]:=by rfl):PI X w (.Call (.Name "range" p) [a] [] M) (tI X.K (iH fa)):=
 (B9 g n (cq s dI (by rw[h];rfl)) h).imp' λJ H R z=>by
  obtain⟨F,m,L,S,N,T,r,l,q,k⟩:=z;obtain⟨v,u,e,q⟩:=ak q;cases v with
  |int j=>
   dsimp only at q;split at q
   .rename_i c;have i:j.natAbs < 1000000:=aL c;cases q;refine⟨F,m,L,S,_,_,r,l,e,λx C f y d t b=>?_⟩;cases (show x=.int j from b);exact⟨j,rfl,by lia,by lia,k _ C f y d t LL⟩
   .cases q
  |_=>cases q
end
def cR(g:kE)(c:EB)(e:EV):List P->Lc->aE->Option (List P×aE)
 | [],_,S=>some ([],S)
 |v::r,L,S=>match g v L with
  |none=>none
  |some h=>bw (c h S) λk x=>if k=true then bw (e h x) λy a=>bw (cR g c e r h a) λn s=>some (y::n,s) else cR g c e r h x
open Classical in
def eW(ok:aE->Prop)(g:kE)(c:EB)(e:EV):List P->Lc->aE->Option (List P×aE)
 | [],_,S=>if ok S then some ([],S) else none
 | v::r,L,S=>if ok S then (match g v L with
  |none=>none
  |some h=>bw (c h S) λk x=>if k=true then bw (e h x) λy a=>bw (eW ok g c e r h a) λn s=>some (y::n,s) else eW ok g c e r h x) else none
theorem qS:∀{N:List P}{L:Lc}{S:aE},eW (λ_=>True) g c e N L S=cR g c e N L S
 | [],_,_=>ag trivial
 |v::r,L,S=>by
  unfold eW cR;rw[ag trivial];cases g v L with
  |none=>rfl
  |some h=>simp only[qS (N:=r)]
noncomputable def ph(q:List Nat)(n:Nat)(L:List (Option α)):List (Option α):=(q.foldl (λL i=>L.set i none) L)++List.replicate n none
def bH(i:j')(q:List Nat)(n:Nat)(g:kE)(c:EB)(e:EV):EV:=λL S=>bw (i L S) λxs h=>if few xs=true then bw (cR g c e xs (ph q n L) h) λy x=>some (.lst y,x) else none
@[simp] def dG(_L:Lc)(S:aE):Mq:=some (true,S)
theorem fJ(q:List Nat):∀L:List (Option α),(q.foldl (λL i=>L.set i none) L).length=L.length:=by
 induction q with
 |nil=>intro L;rfl
 |cons t q h=>intro L;rw[gv,h,bC]
theorem rF(q:List Nat):∀(L:List (Option α))(i:Nat)(d:α),(q.foldl (λL i=>L.set i none) L)[i]? = some (some d)->L[i]? = some (some d)/\i ∉ q:=by
 induction q with
 |nil=>intro L i d h;exact⟨h,by simp⟩
 |cons t q s=>
  intro L i d h;rw[gv]at h;obtain⟨x,a⟩:=s _ _ _ h;by_cases e:t=i
  .subst e;by_cases l:t < L.length
   .rw [ee l]at x;cases x
   .rw [tP (by rw[bC];lia)]at x;cases x
  .rw [bb e]at x;exact⟨x,by simp[a];exact λz=>e z.symm⟩
theorem um(q:List Nat)(n:Nat)(L:List (Option α)):(ph q n L).length=L.length+n:=by unfold ph;rw[bc,fJ,zw]
theorem AU(h:(ph q n L)[i]? = some (some d)):L[i]? = some (some d)/\i ∉ q/\i < L.length:=by
 unfold ph at h;by_cases x:i < L.length
 .rw [bE (by rw[fJ];exact x)]at h;obtain⟨a,e⟩:=rF q L i d h;exact⟨a,e,x⟩
 .rw [bF (by rw[fJ];lia),tT]at h;split at h<;>cases h
variable{J:L2.St}
theorem RL.up(l:RL K F H m J L)(q:List Nat)(n:Nat):RL K F H m (ph q n J) (ph q n L):=by
 refine⟨by rw[um,um,l.len],λi d h=>?_⟩;obtain⟨a,s,f⟩:=AU h;obtain⟨v,e,r⟩:=l.at' i d a;refine⟨v,?_,r⟩;unfold ph;rw[bE (by rw[fJ,l.len];exact f)];have k:∀(q:List Nat)(J:L2.St),i ∉ q->J[i]? = some (some v)->(q.foldl (λL i=>L.set i none) J)[i]? = some (some v):=by
  intro q;induction q with
  |nil=>intro J _ e;exact e
  |cons t q b=>intro J x e;rw[gv];refine b _ (λz=>x (aN _ z)) ?_;rw[bb (λz=>x (by rw[z];exact aJ))];exact e
 exact k q J s e
noncomputable def lu(G:Scope)(e:Env):List (Str×Addr):=((G.names.filter λx=>x.2 == .free).map λx=>(x.1,(e.cells.lookup x.1).getD 0)).reverse
def inn(X:Cx)(G:Scope)(N':LS)(s:Shared)(H:Hp)(C:Addr)(f:List Addr):Cx:=
 { X with N:=N',z:=s,y:=H,e:=compEnvC G (lu G X.e) C X.e,o:=X.k,ex:=f,fn:=λ_=>false,pn:=[],xe:=λ_ _=>False }
structure BlockOk(X:Cx)(scope:Scope)(N':LS)(ts:List Nat)(n:Nat):Prop where
 kind:scope.kind=.function
 cell:∀x ∈ scope.names,x.2≠.cell
 loc:∀x ∈ scope.names,x.2=.local->scope.names.lookup x.1=some .local
 fr:∀x ∈ scope.names,x.2=.free->scope.names.lookup x.1=some .free/\(X.e.kindOf x.1=some .cell\/X.e.kindOf x.1=some .free)
 names:X.N=N'.take X.N.length
 more:N'.length=X.N.length+n
 ts:∀x ∈ scope.names,x.2=.local->∀i:Nat,X.N[i]? = some x.1->i ∈ ts
theorem gM:∀{l:List (Str×α)}{x:Str}{v:α},l.lookup x=some v->(x,v) ∈ l
 | [],_,_,h=>by simp at h
 |(y,w)::r,x,v,h=>by
  rw[o9]at h;cases e:x == y with
  |true=>rw[e]at h;cases h;rw[show x=y from by simpa using e];exact aJ
  |false=>rw[e]at h;exact aN _ (gM h)
theorem kT:∀{l:List (Str×α)}{x:Str}{v:α},(x,v) ∈ l->∃w,l.lookup x=some w
 | [],_,_,h=>by simp at h
 |(y,w)::r,x,v,h=>by
  rw[o9];cases e:x == y with
  |true=>exact⟨w,rfl⟩
  |false=>
   rcases aM.mp h with h|h
   .injection h with a _;subst a;simp at e
   .exact kT h
variable{x:Str}
theorem eO(h:(relabel G r).names.lookup x=some k):∃a,(x,a) ∈ G.names/\(k=a\/(k=.cell/\a=.free)):=by
 have m:=gM h;unfold relabel at m;obtain⟨⟨n,a⟩,t,e⟩:=eJ.mp m;by_cases c:(a == NameKind.free && r.scope.kind == .function && r.kindOf n == some .cell)=true
 .have s:(n,NameKind.cell)=(x,k):=by simpa[c] using e
  injection s with f b;subst f;rw[az,az]at c;exact⟨a,t,.inr ⟨b.symm,by simpa using c.1.1⟩⟩
 .have s:(n,a)=(x,k):=by simpa[c] using e
  injection s with f b;subst f;exact⟨a,t,.inl b.symm⟩
section
variable{X:Cx}{G:Scope}{N':LS}{q:List Nat}{n:Nat}
theorem BlockOk.cl(B:BlockOk X G N' q n)(I:Inv X u J H s)(h:(lu G X.e).lookup x=some c):X.e.cells.lookup x=some c/\(x,NameKind.free) ∈ G.names:=by
 have t:=gM h;unfold lu at t;obtain⟨⟨y,k⟩,m,e⟩:=eJ.mp (zj.mp t);obtain⟨m,hk⟩:=o6.mp m;have r:k=.free:=by simpa using hk
 subst r;injection e with v f;subst v;obtain⟨_,d⟩:=B.fr _ m rfl;obtain⟨p,a⟩:=I.o.has y d;dsimp only at f;rw[a]at f;have b:p=c:=f;subst b;exact⟨a,m⟩
theorem BlockOk.has(B:BlockOk X G N' q n)(h:(x,NameKind.free) ∈ G.names):∃c,(lu G X.e).lookup x=some c:=by unfold lu;exact kT (v:=(X.e.cells.lookup x).getD 0) (zj.mpr (eJ.mpr ⟨(x,.free),o6.mpr ⟨h,by simp⟩,rfl⟩))
theorem EQ(B:BlockOk X G N' q n)(I:Inv X r J H s)(C:s.heap.objs.size≤k)(f:∀b ∈ t,re X r H b)(w:∀b ∈ t,b < s.heap.objs.size) :
  (inn X G N' s H k t).Ok where
 mod:=I.o.mod
 kind:=B.kind
 glob:=I.o.glob
 blt:=I.o.blt
 above:=C
 inj:=λx y c v d=>I.o.inj x y c (B.cl I v).1 (B.cl I d).1
 has:=λx h=>by
  have p:(relabel G X.e).names.lookup x=some .cell\/(relabel G X.e).names.lookup x=some .free:=h;rcases p with h|h
  .obtain⟨u,m,e|⟨_,e⟩⟩:=eO h
   .subst e;exact absurd rfl (B.cell _ m)
   .subst e;exact B.has m
  .obtain⟨u,m,e|⟨e,_⟩⟩:=eO h
   .subst e;exact B.has m
   .cases e
 cab:=λx c h=>nomatch h
 hd:=I.o.hd
 frames:=I.o.frames
 stk:=.inl rfl
 exf:=λb a=>⟨aQ (bu (w b a) C),λx c h=>(f b a).2.2.2.2.1 x c (B.cl I h).1⟩
 bs:=I.bs
 bsz:=ba I.o.bsz I.sz
 noex:=λb o e a=>by
  rcases(f b a).2.2.2.1 with z|z
  .exact I.o.noex b o e z
  .exact absurd (bu (av (I.o.bs b o e).1) z) (d5 _)
 exfs:=λb a z=>by
  rcases aM.mp (I.stkSub b z) with z|z
  .exact (f b a).2.1 z
  .exact (f b a).2.2.1 z
 funs:=I.stack
 frf:=I.stkFree
 tab:=λP hP=>I.base.tbls P (I.o.tab P hP)
theorem _root_.L2.Un.sameBut(u:Un fs r H H' h t)(s:cD k t Q)(C:∀b o,h.get? b=some o->b≠k):Un fs r H H' h Q where
 keep:=λb o e n a x=>s.extBut b o (C b o e) (u.keep b o e n a x)
 slot:=λb o e n a x=>by obtain⟨l,q⟩:=u.slot b o e n a x;exact⟨l,s.extBut b _ (C b o e) q⟩
 free:=u.free
 there:=λb o e x=>by obtain⟨f,q⟩:=u.there b o e x;exact⟨f,s.extBut b _ (C b o e) q⟩
 tups:=u.tups
 frzs:=u.frzs
 tbls:=u.tbls
theorem _root_.L2.iB.sameBut{P:Program}{w:World}{H:Hp}{h x:Heap}{C:Addr}(ok:iB P w H h)(n:cD C h x)(a:H C=none):iB P w H x:=λb u e=>
 (ok b u e).stay (fun c v s q=>n.extBut c v (by
  rintro rfl;rcases s with z|z
  .subst z;rw[a]at e;cases e
  .rw [a]at z;cases z) q) (λ_ q=>q) λ_ _ q=>q
inductive PIfs(X:Cx):Ab->EB->Prop where
 |none:PIfs X [] dG
 |one {c:Expr}{q:EB}:PT X c (tQ X.K q)->PIfs X [c] q
theorem Kp.bump(a:¬F p)(t:∀xs,H p≠some (.tup xs))(c:∀x u,H p≠some (.frz x (.own u))):Kp F m H F m (br H p o):=
 ⟨⟨[],by simp⟩,λ_ h=>h,λb u f h=>by rw[ar (by rintro rfl;exact a f)];exact h,λb xs h=>by rw[ar (by rintro rfl;exact t xs h)];exact h,λb x u h=>by rw[ar (by rintro rfl;exact c x u h)];exact h⟩
theorem Stp.bump(s:Stp F m H F' m' H')(a:H p=none):Stp F m H F' m' (br H' p o) where
 pre:=s.pre
 oth:=λb u h n=>by rw[ar (by rintro rfl;rw[a]at h;cases h)];exact s.oth b u h n
 frz:=s.frz
 frk:=λb u f h=>by rw[ar (by rintro rfl;rw[a]at h;cases h)];exact s.frk b u f h
 tup:=λb xs h=>by rw[ar (by rintro rfl;rw[a]at h;cases h)];exact s.tup b xs h
 cod:=λb x u h=>by rw[ar (by rintro rfl;rw[a]at h;cases h)];exact s.cod b x u h
 trk:=λb h=>by
  by_cases e:b=p
  .subst e;rw[aC];exact λz=>nomatch z
  .rw [ar e];exact s.trk b h
 nf:=s.nf
 nm:=s.nm
theorem Rel.bump(r:Rel K F H m S)(e:¬F p)(n:p ∉ m)(t:∀xs,H p≠some (.tup xs))(c:∀x u,H p≠some (.frz x (.own u))):Rel K F (br H p o) m S:=
 r.stayK (Kp.bump e t c) (λa u s h=>by rw[ar (by rintro rfl;exact n s)];exact h) (λ_ f=>.inl f) λa f=>by rw[ar (by rintro rfl;exact e f)];exact r.ft a f
theorem R1:Kp F m H (λb=>F b\/b=p) m H:=⟨⟨[],by simp⟩,λ_ h=>.inl h,λ_ _ _ h=>h,λ_ _ h=>h,λ_ _ _ h=>h⟩
theorem Stp.addF(s:Stp F m H F' m' H')(x:H p=none):Stp F m H (λb=>F' b\/b=p) m' H':=
 ⟨s.pre,s.oth,fun b h=>.inl (s.frz b h),s.frk,s.tup,s.trk,fun b h=>by
  rcases h with h|h
  .exact s.nf b h
  .subst h;exact .inr (.inl x),s.nm,s.cod⟩
theorem Rel.addF(r:Rel K F H m S)(s:p ∉ m)(n:H p≠none):Rel K (λb=>F b\/b=p) H m S where
 len:=r.len
 nd:=r.nd
 obj:=λi a o e x=>(r.obj i a o e x).kp R1 λu h=>h
 sep:=λi a o e x w f=>by
  rcases f with f|f
  .exact r.sep i a o e x w f
  .subst f;exact s (dg e)
 trk:=r.trk
 ft:=λa f=>by
  rcases f with f|f
  .exact r.ft a f
  .subst f;exact n
theorem _root_.L2.Inv.letGo(I:Inv X k J H s)(f:cD h s.heap t)(C:H h=none)(v:X.z.heap.objs.size≤h)(d:h≠X.e.locals)
  (w:∀x c,X.e.cells.lookup x=some c->c≠h) (u:∀p ∈ X.pn++k,p.1≠h):Inv X k J H { s with heap:=t }:=by
 have r:∀b:Addr,b ∉ [h]->b≠h:=λb m z=>m (by simp[z]);refine I.call' (s':={ s with heap:=t }) (q:=[h]) rfl ⟨λb o e _ _ a=>f.extBut b o (r b a) e,λb o e _ _ a=>⟨o.slots,f.extBut b o (r b a) e⟩,λ_ _ _ n _=>n,λb o e a=>⟨o,f.extBut b o (r b a) e⟩,λ_ _ q=>q,λ_ _ _ q=>q,λ_ q=>q⟩ (I.h.sameBut f C) I.bare λb m=>?_;have e:b=h:=by simpa using m
 subst e;exact⟨.inr v,d,w,u⟩
theorem CC(I:Nat->Shared->Prop)
  (f:∀n s,I n s->wpAny (model t w) A (pyNext it) (fun r b=>match r with
   |none=>R (.ok .next) b
   | some v=>wpAny (model t w) A (letOwnedTupleGo tg it v) (fun _ g=>wpAny (model t w) A (assign tg k v) (fun _ i=>
     wpAny (model t w) A (forIn ifs true fun c r=>if r=true then do let ok <- isTrue c k (eval c k);pure (ForInStep.yield ok) else pure (ForInStep.yield r)) (fun ok p=>
      if ok=true then wpAny (model t w) A (eval Q k) (fun x j=>
       wpAny (model t w) A (call (.builtin "list.append") [u,x]) (λ_ l=>∃m,m < n/\I m l) (notedBy (model t w) A k λe a=>R (.error e) a) j) (notedBy (model t w) A k λe a=>R (.error e) a) p
      else ∃m,m < n/\I m p) (notedBy (model t w) A k λe a=>R (.error e) a) i) (notedBy (model t w) A k λe a=>R (.error e) a) g) (notedBy (model t w) A k λe a=>R (.error e) a) b) (notedBy (model t w) A k λe a=>R (.error e) a) s)
  (n:Nat) (h:I n s):codeAny (model t w) A (.compLoop (.ListComp Q [⟨tg,iter,ifs,0⟩] G M) 0 it u k) R s:=by
 refine codeAny_loop rfl I (λn s F=>?_) n h;show wpAny _ A ((compTurn (.ListComp Q [⟨tg,iter,ifs,0⟩] G M) 0 it u k).onRaise (λx=>do noteFrame x k;theTreesLotGoes x)) _ _ s;refine wpAny_noted ?_;rw[compTurn_list];refine ae (pJ (ae (bN (f n s F) (λr b q=>?_) λ_ _ z=>z)));cases r with
 |none=>exact aq q
 |some v=>
  refine ae (bN q (λ_ g y=>ae (bN y (λ_ i o=>ae (bN o (λok p d=>?_) λ_ _ z=>z)) λ_ _ z=>z)) λ_ _ z=>z);cases ok with
  |false=>exact aq ⟨rfl,d⟩
  |true=>exact ae (ae (bN d (λx j H=>ae (bN H (λ_ l S=>aq (aq ⟨rfl,S⟩)) λ_ _ z=>z)) λ_ _ z=>z))
theorem IK{j:Heap}{tk:Nat}(B:BlockOk X G N' q n)(a:Inv X Q J I k)(C:k.heap.objs.size≤h)(f2:∀b ∈ fp,re X Q I b)(A:∀b ∈ fp,b < k.heap.objs.size)(l:∀b o,k.heap.get? b=some o->j.get? b=some o)
  (hD:I k.heap.objs.size=none) (D:k.heap.objs.size≠h) (P:I h=none) (d:j.Ns h mC) (s:j.get? k.heap.objs.size=some { cls:=.type "list",dict:=none,data:=.seq ([]:LV).toArray }) :
  Inv (inn X G N' k I h fp) [] (ph q n J) (br I k.heap.objs.size (.lst [])) { k with heap:=j,toks:=tk }:=by
 refine⟨EQ B a C f2 A,rfl,a.bare,Un.laid l (al _) hD,?_,λx c e=>?_,?_,λx c e=>?_,λp hp=>absurd (show p ∈ ([]:PN) from hp) (by simp),?_,?_⟩
 .obtain⟨m0,hn0,E⟩:=a.loc;refine⟨_,d,λi x v V W hv=>?_⟩;obtain⟨S,F,K⟩:=AU W;have t:J.length=X.N.length:=a.len;have N:X.N[i]? = some x:=by
   rw[B.names,cY (by rw[<- t];exact K)];exact V
  have g:(relabel G X.e).names.lookup x=some .local\/(relabel G X.e).names.lookup x=some .cell\/(relabel G X.e).names.lookup x=some .free:=hv;have T:¬(relabel G X.e).names.lookup x=some .local:=λz=>by
   obtain⟨R,m,e|⟨e,_⟩⟩:=eO z
   .subst e;exact absurd (B.ts _ m rfl i N) F
   .cases e
  have M:(x,NameKind.free) ∈ G.names:=by
   rcases g with z|z|z
   .exact absurd z T
   .obtain⟨R,m,e|⟨_,e⟩⟩:=eO z
    .subst e;exact absurd rfl (B.cell _ m)
    .subst e;exact m
   .obtain⟨R,m,e|⟨e,_⟩⟩:=eO z
    .subst e;exact m
    .cases e
  obtain⟨_,r⟩:=B.fr _ M rfl;have L:IX X.e.scope x:=by
   rcases r with z|z
   .exact .inr (.inl z)
   .exact .inr (.inr z)
  obtain⟨u,ru,lk⟩:=E i x v N S L;refine⟨u,ru,.inr ⟨?_,?_⟩⟩
  .rcases g with z|z|z
   .exact absurd z T
   .exact .inl z
   .exact .inr z
  .rcases lk with ⟨z,_⟩|⟨_,c,Z,ic⟩
   .rcases r with y|y
    .rw [z]at y;cases y
    .rw [z]at y;cases y
   .obtain⟨c',f⟩:=B.has M;have:=(B.cl a f).1
    rw[Z]at this;cases this;obtain⟨o,w,H⟩:=ic;exact⟨c,f,o,l c o w,H⟩
 .obtain⟨v,o,w,H⟩:=a.cell x c (B.cl a e).1;exact⟨v,o,l c o w,H⟩
 .show br I k.heap.objs.size (.lst []) h=none;rw[ar (aH D)];exact P
 .obtain⟨v,o,w,H⟩:=a.cell x c (B.cl a e).1;rw[ar (aQ (av w))];exact a.freeC x c (B.cl a e).1
 .exact a.h.laid l (al _) ⟨bW _,[],0,.nil,s⟩
 .show (ph q n J).length=N'.length;rw[um,a.len,B.more]
inductive cIv(K:FG)(Y9:Cx)(F1:Aa)(m1:List Addr)(H2:Hp)(A:Addr)(tn:Nat->Heap->Prop)(fp:List Addr)(R:Nat->Nat->Lc->aE->List P->Prop)(ys:List P)(nn:Nat)(sx:Shared):Prop
 |mk (i:Nat) (J':L2.St) (F':Aa) (m':List Addr) (H':Hp) (L':Lc) (S':aE) (acc rest:List P) (xs:List V) (h0_:Inv Y9 [] J' H' sx) (h1_:tn i sx.heap) (h2_:∀b ∈ fp,H' b=none) (h3_:Stp F1 m1 H2 F' m' H') (h4_:Rel K F' H' m' S') (h5_:RL K F' H' m' J' L') (h6_:H' A=some (.lst xs)) (h7_:bB K F' H' acc xs) (h8_:acc.length≤i) (h9_:¬F' A) (ha_:A ∉ m') (hb_:R nn i L' S' rest) (hc_:acc++rest=ys):cIv K Y9 F1 m1 H2 A tn fp R ys nn sx
def Sf(K:FG)(ok:aE->Prop)(a:It)(N:List P)(F:Aa)(m:List Addr)(H:Hp):Prop:=∀B s I S,Stp F m H B s I->Rel K B I s S->ok S ->
 (∀(i:Nat) v,N[i]? = some v->a.go i I/\∀x h,a.yld i I x h->∃e,Grow B I e h/\RP K e h v x)/\a.stop N.length I
def oz(X:Cx)(t iter:Expr)(f:EV)(q:List Nat)(n:Nat)(g:kE)(c:EB)(fe:EV):Prop:=∃w,PI X t iter w/\∀J H F m L S d a,Rel X.K F H m S->RL X.K F H m J L->f L S=some (d,a) ->
 ∃ok N x s,d=.lst s/\few N=true/\w J H (λe y=>∃C h,Stp F m H C h y/\Rel X.K C y h x/\Sf X.K ok e N C h y)/\eW ok g c fe N (ph q n L) x=some (s,a)
theorem O1(i:PI X Q iter (tI X.K u)):oz X Q iter (bH u q n g t fe) q n g t fe:=by
 refine⟨_,i,λJ H F m L S d e r h x=>?_⟩;obtain⟨N,a,k,x⟩:=ak x;split at x;case isFalse=>cases x
 rename_i f;obtain⟨z,s,b,x⟩:=ak x;cases x;exact⟨λ_=>True,N,a,z,rfl,f,⟨F,m,L,S,N,a,r,h,k,λo C p y j w c=>⟨C,p,j,w,λB v I e l _ _=>c B v I l⟩⟩,by rw[qS];exact b⟩
theorem kC 
  (B:BlockOk X G N' q n) (hcalm:X.c=true)
  (hi:PI X tg iter wi) (hg:∀s H h D,PG (inn X G N' s H h D) tg (gT X.K g)) (hc:∀s H h D,PIfs (inn X G N' s H h D) ifs fc) (he:∀s H h D,PE (inn X G N' s H h D) elt (tV X.K fe))
  (hclos:closureFor G X.e=pure (lu G X.e)) (hs:∀x,foldedSetIterable iter X.e x=pure x)
  (a:Inv X pins J H s) (r:Rel X.K F H m S) (l:RL X.K F H m J L) (hw:wi J H λJ9 y=>∃C m1,Stp F m H C m1 y/\Rel X.K C y m1 S1/\Sf X.K ok J9 N C m1 y) (hfew:few N=true) (e2:eW ok g fc fe N (ph q n L) S1=some (ds,S2))
  (dH:∀p F' m' H' sx h xs,Inv X pins J H' sx->Stp F m H F' m' H'->Rel X.K F' H' m' S2->H p=none/\¬F' p/\p ∉ m'/\H' p=some (.lst xs)/\bB X.K F' H' ds xs->H' h=none->X.z.heap.objs.size≤h->h≠X.e.locals->(∀x c,X.e.cells.lookup x=some c->c≠h)->(∀p ∈ X.pn++pins,p.1≠h) ->
   (∃mC,sx.heap.Ns h mC)->compPost (model X.p X.w) X.A X.xe use Q (.ref p) h (.ok .next) sx) :
  wpAny (model X.p X.w) X.A (comprehension (.ListComp elt [⟨tg,iter,ifs,0⟩] G M) G X.e p2 (newList []) false (eval iter X.e) use) Q X.xe s:=by
 refine wpAny_comprehension_free (use:=use) rfl hs hclos B.kind B.loc (b_ (hi pins s J H _ a hw) λxv sA hA=>b_ hA λitv P h2=>?_);obtain⟨it,D,tn,J9,I,rfl,I2,k,st2,f2,C,m1,s1,r1,itp⟩:=h2;have hfp:∀b ∈ D,b < P.heap.objs.size:=λb E=>by obtain⟨o,e,_⟩:=k.obj _ _ st2 b E;exact av e
 refine pK ?_ (by show 0≤sizeLine;exact bW _);refine xf B.cell (by intro t hy;simp at hy) (λh1 hns1 Z=>?_) B.kind;dsimp only at hns1 Z ⊢;have hD:I P.heap.objs.size=none:=I2.h.fresh (al _);generalize hH2:P.heap.push { cls:=.type "list",dict:=none,data:=.seq ([]:LV).toArray }=K at hns1 Z ⊢;have hC:K.objs.size=P.heap.objs.size+1:=by rw[<- hH2,kh]
 have A:P.heap.objs.size≤K.objs.size:=by rw[hC];exact iV _
 have old:∀b o,P.heap.get? b=some o->h1.get? b=some o:=λb o e=>Z.extBut b o (aQ (bu (av e) A)) (aF _ (hH2 ▸ aF _ e));have hDC:P.heap.objs.size≠K.objs.size:=by rw[hC];exact aQ (d6 _)
 have accO:h1.get? P.heap.objs.size=some { cls:=.type "list",dict:=none,data:=.seq ([]:LV).toArray }:=Z.extBut _ _ hDC (aF _ (hH2 ▸ aR _ rfl));have hCn:I K.objs.size=none:=I2.h.fresh A;have hCcell:∀x c,X.e.cells.lookup x=some c->c≠K.objs.size:=λx c e z=>by obtain⟨v,o,ho,_⟩:=I2.cell x c e;exact absurd (av ho) (oZ.mpr (by rw[z];exact A))
 have hCloc:K.objs.size≠X.e.locals:=bA (bu I2.lt A);have hCpin:∀p ∈ X.pn++pins,p.1≠K.objs.size:=λp hp z=>absurd (av (I2.pin p hp).1) (oZ.mpr (by rw[z];exact A));have I3:=IK (tk:=P.toks+([]:List (Str×Value)).length) B I2 A f2 hfp old hD hDC hCn hns1 accO;have okX:=EQ (k:=K.objs.size) B I2 A f2 hfp;have fpH:∀{H':Hp},(∀b ∈ D,H' b=none)->∀b ∈ D,re (inn X G N' P I K.objs.size D) [] H' b:=λhn b E=>
  ⟨hn b E,aQ (bu (hfp b E) A),okX.exfs b E,.inl E,(okX.exf b E).2,λp hp=>absurd (show p ∈ ([]:PN) from hp) (by simp)⟩
 have tn1:tn 0 h1:=k.keep _ _ _ st2 λb E o e=>old b o e;have loop:∀s3:Shared,s3={ P with heap:=h1,toks:=P.toks+([]:List (Str×Value)).length } ->
   codeAny (model X.p X.w) X.A (.compLoop (.ListComp elt [⟨tg,iter,ifs,0⟩] G M) 0 (.ref it) (.ref P.heap.objs.size) (compEnvC G (lu G X.e) K.objs.size X.e))
    (compPost (model X.p X.w) X.A X.xe use Q (.ref P.heap.objs.size) K.objs.size) s3:=by
  rintro s3 rfl;refine CC (cIv X.K (inn X G N' P I K.objs.size D) C m1 I P.heap.objs.size tn D (λnn i L' T j=>nn=N.length-i/\i≤N.length/\eW ok g fc fe (N.drop i) L' T=some (j,S2)) ds) ?_ N.length ?_
  .rintro nn sx ⟨i,J',F',m',H',L',T,acc,j,xs,I',tn',fr',st',r',l',hacc,ra,hal,nF,nm,⟨rfl,hi',go⟩,rfl⟩;by_cases hlt:i < N.length
   .have hv:N[i]? = some N[i]:=by simp[hlt]
    rw[tU hlt]at go;unfold eW at go;split at go;case isFalse=>cases go
    rename_i hok;obtain⟨hgo,_⟩:=itp F' m' H' T st' r' hok;obtain⟨hgo1,hy⟩:=hgo i _ hv;refine bN (k.item (inn X G N' P I K.objs.size D) rfl rfl rfl hcalm i [] sx J' H' (λ_ _=>False) I' (fpH fr') tn' hgo1) (λrr sy hr=>?_) (λ_ _ f=>f.elim);obtain⟨u,rfl,hr⟩:=hr;refine bN hr (λ_ sz hz=>?_) (λ_ _ f=>f.elim);obtain⟨x,H3,I4,rx,yl,tn4,fr4⟩:=hz;obtain⟨F3,gr,p3⟩:=hy x H3 yl;have st4:Stp C m1 I F3 m' H3:=st'.trans gr.stp;have r4:=r'.grow gr;have l4:=l'.mono (gr.stp (m:=m'));have acc4:=gr.keep _ _ hacc;have nF4:¬F3 P.heap.objs.size:=λz=>by
     rcases gr.nf _ z with z|⟨z,_⟩
     .exact nF z
     .rw [hacc]at z;cases z
    have I4':=I4.pinned (fpH fr4) (k.obj _ _ tn4);have back:∀{J7:L2.St}{H7:Hp}{s7:Shared},Inv (inn X G N' P I K.objs.size D) ([]++nl D sz.heap) J7 H7 s7->tn (i+1) s7.heap/\∀b ∈ D,H7 b=none:=λ{J7 H7 s7} I7=>
     ⟨k.keep _ _ _ tn4 λb E o e=>(I7.pin (b,o) (fG _ (fG _ (jc E e)))).1,λb E=>by obtain⟨o,e,dd⟩:=k.obj _ _ tn4 b E;exact(I7.pin (b,o) (fG _ (fG _ (jc E e)))).2.1⟩
    cases eg:g N[i] L' with
    |none=>rw[eg]at go;cases go
    |some L1=>
     rw[eg]at go;dsimp only at go;obtain⟨kk,S5,e5,go⟩:=ak go;refine bN (hg P I K.objs.size D _ sz J' H3 x u (λJ5 H5=>H5=H3/\RL X.K F3 H3 m' J5 L1) I4' rx ⟨F3,m',L',N[i],L1,l4,p3,eg,λJ5 l5=>⟨rfl,l5⟩⟩) (λ_ s5 h5=>?_) (λ_ _ f=>f.elim);obtain⟨J5,H5,I5,rfl,l5⟩:=h5;have test:wpAny (model X.p X.w) X.A (forIn ifs true λc r=>if r=true then do let ok <- isTrue c (compEnvC G (lu G X.e) K.objs.size X.e) (eval c (compEnvC G (lu G X.e) K.objs.size X.e));pure (ForInStep.yield ok) else pure (ForInStep.yield r))
       (λok s6=>ok=kk/\∃V m6 H6,Inv (inn X G N' P I K.objs.size D) ([]++nl D sz.heap) J5 H6 s6/\Stp F3 m' H5 V m6 H6/\Rel X.K V H6 m6 S5) (λ_ _=>False) s5:=by
      have hcc:=hc P I K.objs.size D;cases hcc with
      |none=>cases e5;exact wpAny_tests_nil ⟨rfl,F3,m',H5,I5,.refl,r4⟩
      |one hq=>refine wpAny_tests_one (bN (hq _ s5 J5 H5 (λb H6=>b=kk/\∃V m6,Stp F3 m' H5 V m6 H6/\Rel X.K V H6 m6 S5) I5 ⟨F3,m',L1,T,kk,S5,r4,l5,e5,λV m6 H6 s6 r6=>⟨rfl,V,m6,s6,r6⟩⟩) (λb s6 h6=>?_) λ_ _ f=>f);obtain⟨H6,I6,rfl,V,m6,R,r6⟩:=h6;exact⟨rfl,V,m6,H6,I6,R,r6⟩
     refine bN test (λok s6 h6=>?_) (λ_ _ f=>f.elim);obtain⟨rfl,V,m6,H6,I6,R,r6⟩:=h6;have W:=R.oth _ _ acc4 nm;have nm6:P.heap.objs.size ∉ m6:=λz=>by
      rcases R.nm _ z with z|z
      .exact nm z
      .rw [acc4]at z;cases z
     have nF6:¬V P.heap.objs.size:=λz=>by
      rcases R.nf _ z with z|z|z
      .exact nF4 z
      .rw [acc4]at z;cases z
      .exact nm z
     have ra6:=bB.mono R (ra.grow gr);have l6:=l5.mono R;cases ok with
     |false=>rw[aj be]at go ⊢;obtain⟨t7,f7⟩:=back I6;exact⟨N.length-(i+1),by lia,i+1,J5,V,m6,H6,L1,S5,acc,j,xs,I6.pins_of λp hp=>absurd hp (by simp),t7,f7,st4.trans R,r6,l6,W,ra6,y4 hal,nF6,nm6,⟨rfl,hlt,go⟩,rfl⟩
     |true=>
      rw[ag rfl]at go ⊢;obtain⟨t,S8,e8,go⟩:=ak go;obtain⟨zs,S9,e9,go⟩:=ak go;cases go;refine bN (he P I K.objs.size D _ s6 J5 H6 (λv8 H8=>∃F8 m8,Stp V m6 H6 F8 m8 H8/\Rel X.K F8 H8 m8 S8/\RP X.K F8 H8 t v8) I6 ⟨V,m6,L1,S5,t,S8,r6,l6,e8,λv8 F8 m8 H8 s8 r8 p8=>⟨F8,m8,s8,r8,p8⟩⟩) (λu8 s8 h8=>?_) (λ_ _ f=>f.elim);obtain⟨v8,H8,I8,rv8,F8,m8,st8,r8,p8⟩:=h8;have acc8:=st8.oth _ _ W nm6;have nm8:P.heap.objs.size ∉ m8:=λz=>by
       rcases st8.nm _ z with z|z
       .exact nm6 z
       .rw [W]at z;cases z
      have nF8:¬F8 P.heap.objs.size:=λz=>by
       rcases st8.nf _ z with z|z|z
       .exact nF6 z
       .rw [W]at z;cases z
       .exact nm6 z
      have ra8:=bB.mono st8 ra6;have nt8:∀zs,H8 P.heap.objs.size≠some (.tup zs):=λzs z=>by rw[acc8]at z;cases z
      have nc8:∀x u,H8 P.heap.objs.size≠some (.frz x (.own u)):=λx u z=>by rw[acc8]at z;cases z
      have hl8:xs.length < sizeLine:=by have h9:N.length≤1000000:=aL hfew;rw[<- ra8.length];exact bu (iW hal hlt) (ba h9 (by decide))
      refine bN (sk (X:=inn X G N' P I K.objs.size D) _ s8 J5 H8 (.ref P.heap.objs.size) [v8] (.ref P.heap.objs.size) [u8] (λ_ H9=>H9=br H8 P.heap.objs.size (.lst (xs++[v8]))) I8 rfl (.cons rv8 .nil) ⟨_,xs,v8,rfl,rfl,acc8,hl8,rfl⟩) (λ_ s9 h9=>?_) (λ_ _ f=>f.elim);obtain⟨_,H9,I9,_,rfl⟩:=h9;obtain⟨t9,f9⟩:=back I9;have kb:Kp F8 m8 H8 F8 m8 (br H8 P.heap.objs.size (.lst (xs++[v8]))):=Kp.bump nF8 nt8 nc8;have st9:Stp C m1 I F8 m8 (br H8 P.heap.objs.size (.lst (xs++[v8]))):=(st4.trans (R.trans st8)).bump hD;have l9:RL X.K F8 (br H8 P.heap.objs.size (.lst (xs++[v8]))) m8 J5 L1:=⟨l6.len,λd dd e=>by obtain⟨v,e1,rr⟩:=(l6.mono st8).at' d dd e;exact⟨v,e1,RD.kp kb rr⟩⟩
      exact⟨N.length-(i+1),by lia,i+1,J5,F8,m8,_,L1,S8,acc++[t],zs,xs++[v8],I9.pins_of fun p hp=>absurd hp (by simp),t9,f9,st9,r8.bump nF8 nm8 nt8 nc8,l9,aC,
       bB.kp kb (ra8.append ⟨v8,[],rfl,p8,rfl⟩),by rw[bc];exact Nat.succ_le_succ hal,nF8,nm8,⟨rfl,hlt,e9⟩,by simp⟩
   .have e:i=N.length:=by lia
    subst e;rw[tG]at go;unfold eW at go;split at go;case isFalse=>cases go
    rename_i hok;cases go;obtain⟨_,hstop⟩:=itp F' m' H' _ st' r' hok;refine bN (k.done (inn X G N' P I K.objs.size D) rfl rfl rfl hcalm N.length [] sx J' H' (λ_ _=>False) I' (fpH fr') tn' hstop) (λrr sy hr=>?_) (λ_ _ f=>f.elim);obtain⟨rfl,I5⟩:=hr;rw[cW] at *
    have Iout:Inv X pins J H' sy:=I2.call' (q:=D) I5.os I5.base I5.h I5.bare λb E=>⟨(f2 b E).2.2.2.1,(f2 b E).2.1,(f2 b E).2.2.2.2.1,(f2 b E).2.2.2.2.2⟩;have hD0:H P.heap.objs.size=none:=by
     cases w:H P.heap.objs.size with
     |none=>rfl
     |some o=>exact absurd hD (s1.trk _ (by rw[w];exact λz=>nomatch z))
    have hCH:H' K.objs.size=none:=I5.free;obtain⟨mC,hmC,_⟩:=I5.loc;exact dH P.heap.objs.size F' m' H' sy K.objs.size xs Iout (s1.trans st') r' ⟨hD0,nF,nm,hacc,ra⟩ hCH (ba I2.sz A) hCloc hCcell hCpin ⟨mC,hmC⟩
  .exact⟨0,_,C,m1,_,ph q n L,S1,[],ds,[],I3,tn1,λb E=>by rw[ar (aQ (hfp b E))];exact(f2 b E).1,(bq hD).stp,r1.grow (bq hD),((l.mono s1).mono (bq hD).stp).up q n,aC,rfl,bW _,r1.fresh_F hD,r1.fresh_m hD,⟨rfl,bW _,by rw[kj];exact e2⟩,rfl⟩
 exact codeAny_compStart_list (loop _ rfl) (k.self X.A 0 _ _ _ tn1 (loop _ rfl))
theorem wE(l:Stp F m H F' m' H')(r:Rel K F' H' m' S)(f:H p=none/\¬F' p/\p ∉ m'/\H' p=some (.lst xs)/\bB K F' H' k xs) :
  Stp F m H (λb=>F' b\/b=p) m' H'/\Rel K (λb=>F' b\/b=p) H' m' S/\RP K (λb=>F' b\/b=p) H' (.lst k) (.ref p):=by
 obtain⟨x,e,n,h,a⟩:=f;exact⟨l.addF x,r.addF n (by rw[h];exact λz=>nomatch z),_,xs,rfl,⟨.inr rfl,h⟩,bB.kp (m:=m') R1 a⟩
theorem Na(B:BlockOk X G N' q n)(c:X.c=true)
  (W:oz X tg iter f q n g fc fe) (hg:∀s H C e,PG (inn X G N' s H C e) tg (gT X.K g)) (V:∀s H C e,PIfs (inn X G N' s H C e) u fc) (Z:∀s H C e,PE (inn X G N' s H C e) t (tV X.K fe))
  (o:closureFor G X.e=pure (lu G X.e)) (hs:∀x,foldedSetIterable iter X.e x=pure x:=by intro _;rfl) :
  PE X (.ListComp t [⟨tg,iter,u,0⟩] G M) (tV X.K f):=by
 intro i s J H Q I ⟨F,m,L,S,d,T,r,h,a,k⟩;rw[Ak];obtain⟨wi,hi,W⟩:=W;obtain⟨ok,N,S1,ds,rfl,w,hw,K⟩:=W J H F m L S d T r h a;refine kC B c hi hg V Z o hs I r h hw w K λp F' m' H' sx C xs v l r' f R P A D E hz=>?_
 obtain⟨mC,b⟩:=hz;obtain⟨j,y,z⟩:=wE l r' f;exact⟨mC,b,λh' sb=>⟨.ref p,H',v.letGo sb R P A D E,rfl,k _ _ m' H' j y z⟩⟩
@[simp] def sB(f:EV)(L:Lc)(S:aE):rg:=bw (f L S) λv h=>match v with
 | .lst d=>some (.ref h.length,h++[.lst (d.map .p)])
 |_=>none
theorem wD(l:Stp F m H F' m' H')(r:Rel K F' H' m' S)(f:H p=none/\¬F' p/\p ∉ m'/\H' p=some (.lst xs)/\bB K F' H' Q xs) :
  Stp F m H F' (m'++[p]) H'/\Rel K F' H' (m'++[p]) (S++[.lst (Q.map .p)]):=by
 obtain⟨q,g,j,c,y⟩:=f;have d:Kp F' m' H' F' (m'++[p]) H':=⟨⟨[p],rfl⟩,λ_ h=>h,λ_ _ _ h=>h,λ_ _ h=>h,λ_ _ _ h=>h⟩;have lt:∀{i:Nat}{a:Addr},(m'++[p])[i]? = some a->i < m'.length\/(i=m'.length/\a=p):=λ{i a} e=>by
  rcases Nat.lt_or_ge i m'.length with h|h
  .exact .inl h
  .rw [bF h]at e;have v:i-m'.length=0:=by
    rcases Nat.eq_zero_or_pos (i-m'.length) with z|z
    .exact z
    .rw [tP (by simp;lia)]at e;cases e
   rw[v]at e;exact .inr ⟨by lia,by simpa using e.symm⟩
 refine⟨⟨?_,l.oth,l.frz,l.frk,l.tup,l.trk,l.nf,λb t=>?_,l.cod⟩,⟨by rw[bc,bc,r.len];rfl,?_,λi a o s x=>?_,λi a o s x w=>?_,λa k=>?_,r.ft⟩⟩
 .obtain⟨n,e⟩:=l.pre;exact⟨n++[p],by rw[e,lI]⟩
 .rcases fE.mp t with t|t
  .exact l.nm b t
  .have:b=p:=by simpa using t
   subst this;exact .inr q
 .rw [o_];refine⟨r.nd,by simp,λa k b t e=>?_⟩;have:b=p:=by simpa using t
  subst this;subst e;exact j k
 .rcases lt s with h|⟨h,rfl⟩
  .rw [bE h]at s;rw[bE (by rw[<- r.len];exact h)]at x;exact(r.obj i a o s x).kp d λu z=>z
  .subst h;rw[r.len,bF (al _)]at x;simp at x;subst x;exact⟨xs,c,bI.ofP y⟩
 .rcases lt s with h|⟨h,rfl⟩
  .rw [bE h]at s;rw[bE (by rw[<- r.len];exact h)]at x;exact r.sep i a o s x w
  .exact g
 .rcases fE.mp k with k|k
  .exact r.trk a k
  .have:a=p:=by simpa using k
   subst this;rw[c];exact λz=>nomatch z
theorem JY(B:BlockOk X G N' q n)(c:X.c=true)
  (W:oz X tg iter f q n g fc fe) (hg:∀s H C e,PG (inn X G N' s H C e) tg (gT X.K g)) (hc:∀s H C e,PIfs (inn X G N' s H C e) u fc) (he:∀s H C e,PE (inn X G N' s H C e) t (tV X.K fe))
  (o:closureFor G X.e=pure (lu G X.e)) (hs:∀x,foldedSetIterable iter X.e x=pure x:=by intro _;rfl) :
  PE X (.ListComp t [⟨tg,iter,u,0⟩] G M) (tE X.K (sB f)):=by
 intro i s J H Q I ⟨F,m,L,S,d,T,r,h,a,k⟩;rw[Ak];obtain⟨v,z,A,a⟩:=ak a;obtain⟨wi,hi,W⟩:=W;obtain⟨ok,N,S3,ds,rfl,w,hw,D⟩:=W J H F m L S v z r h A;cases a;refine kC B c hi hg hc he o hs I r h hw w D λp F' m' H' sx C xs y l j f hC E R V Z hz=>?_
 obtain⟨mC,b⟩:=hz;obtain⟨K,P⟩:=wD l j f;refine⟨mC,b,λh' sb=>⟨.ref p,H',y.letGo sb hC E R V Z,rfl,k _ F' _ H' K P ⟨p,rfl,?_⟩⟩⟩;rw[<- j.len,bF (al _)];simp
theorem MX(i:Nat)(hN:X.N.Nodup)(B:BlockOk X G N' q n)(c:X.c=true)
  (W:oz X tg iter f q n g fc fe) (hg:∀s H C w,PG (inn X G N' s H C w) tg (gT X.K g)) (hc:∀s H C w,PIfs (inn X G N' s H C w) u fc) (he:∀s H C w,PE (inn X G N' s H C w) t (tV X.K fe))
  (o:closureFor G X.e=pure (lu G X.e)) (R:swapsWith (.ListComp t [⟨tg,iter,u,0⟩] G M) (some (.Name x px)) spos.line X.e=pure true:=by rfl)
  (hs:∀x,foldedSetIterable iter X.e x=pure x:=by intro _;rfl) (A:X.N[i]? = some x:=by rfl) (hx:Loc X.e.scope x:=by first|exact Or.inl rfl|exact Or.inr rfl)
  (hf:X.fn x=true\/X.e.scope.names.lookup x=some .local:=by first|exact .inl rfl|exact .inr rfl|assumption) :
  PS X (.Assign [.Name x px] (.ListComp t [⟨tg,iter,u,0⟩] G M) spos) (i_ X.K (aZ i (eV f))):=by
 intro K s J H D I ⟨F,m,L,S,fl,L',T,r,h,b,k⟩;obtain⟨d,S1,e1,b⟩:=ak b;cases b;obtain⟨v,S2,e2,e3⟩:=ak e1;cases e3;rw[AJ _ _ _ _ R];refine ae (pJ (ae ?_));show wpAny _ _ (do let _ <- comprehension (.ListComp t [⟨tg,iter,u,0⟩] G M) G X.e _ (newList []) false (eval iter X.e) (some (assign (.Name x px) X.e))) _ _ s;obtain⟨wi,hi,W⟩:=W;obtain⟨ok,N,S3,ds,rfl,y,hw,e4⟩:=W J H F m L S v _ r h e2;refine ae (bN (kC (use:=some (assign (.Name x px) X.e)) (Q:=λ_ V=>SP X K D .next V) B c hi hg hc he o hs I r h hw y e4 λp F' m' H' sx C xs I' st0 r0 f hC h0 h1 h2 h3 hz=>?_) (λ_ V hq=>aq (aq hq)) λ_ _ e=>e);obtain⟨mC,E⟩:=hz;obtain⟨l,r',rp⟩:=wE st0 r0 f;refine xc (m_ I' hN A hx (v:=.ref p) rfl (λV P z=>?_) hf);refine⟨mC,?_,λh' sb=>⟨_,H',P.letGo sb hC h0 h1 h2 h3,k _ _ m' H' l r' ((h.mono l).set (d:=.p (.lst ds)) rp i)⟩⟩;obtain⟨a,Z,j⟩:=z;refine E.sameBut Z ?_;rcases j with j|j
 .rw [j];exact h1
 .exact aH (h2 x a j)
end
end Ev
namespace Ev
open PySem PySem.Spec PyProof.Rows L2
section
variable{X:Cx}{a b e:Expr}{es:Ab}{C t:EV}{fs:j'}{N p:Pos}
noncomputable def jJ:P->Option P
 | .int i=>some (.int (-i))
 |_=>none
theorem Qq(f:PE X a (tV X.K C)):PE X (.UnaryOp .USub a N) (tV X.K (vA jJ C)):=(NQ Ka f).imp' λJ H Q z=>by
 obtain⟨F,m,L,S,d,t,r,l,q,k⟩:=z;obtain⟨x,w,n,q⟩:=ak q;cases x with
 |int i=>cases q;exact⟨F,m,L,S,_,_,r,l,n,λv h b e s c p=>⟨i,p,k _ h b e s c rfl⟩⟩
 |_=>cases q
noncomputable def FN:List P->Option P
 | [.int i]=>some (.int i)
 | [.bl b]=>some (.int (if b then 1 else 0))
 |_=>none
theorem QX{K:FG}{F:Aa}{H:Hp}{d h:P}{xs:List V}(r:bB K F H [d,h] xs):∃x y,xs=[x,y]/\RP K F H d x/\RP K F H h y:=by obtain⟨x,k,rfl,p,e⟩:=r;obtain⟨y,s,rfl,a,n⟩:=e;cases (show s=[] from n);exact⟨x,y,rfl,p,a⟩
theorem ri{K:FG}{F:Aa}{H:Hp}{d:P}{xs:List V}(r:bB K F H [d] xs):∃x,xs=[x]/\RP K F H d x:=by obtain⟨x,h,rfl,p,a⟩:=r;cases (show h=[] from a);exact⟨x,rfl,p⟩
theorem IP:cN X (.type "int") (rC X.K FN):=by
 intro B s J H xs u Q I r h;obtain⟨F,e,d,f,a,q,k⟩:=h;unfold FN at q;split at q
 .cases q;obtain⟨x,rfl,p⟩:=ri a;exact sL B s J H _ u Q I r (.inl ⟨_,by rw[show x=_ from p],k _ F H .refl rfl⟩)
 .cases q;obtain⟨x,rfl,p⟩:=ri a;exact sL B s J H _ u Q I r (.inr ⟨_,by rw[show x=_ from p],k _ F H .refl rfl⟩)
 .cases q
noncomputable def qI:EE:=λ_ S=>some (.ref S.length,S++[.dct [] []])
theorem Dq:PE X (.Dict [] [] N) (tE X.K qI):=D_.imp' λJ H Q z=>by obtain⟨F,m,L,S,d,x,r,l,q,k⟩:=z;cases q;intro p h;refine k (.ref p) F (m++[p]) _ (bY h) (r.own h ⟨[],aC,rfl,rfl⟩) ⟨p,rfl,?_⟩;rw[<- r.len,bF (al _)];simp
noncomputable def ww(k:dj)(v:D):List dj->List D->List dj×List D
 |h::s,w::x=>if h=k then (h::s,v::x) else (h::(ww k v s x).1,w::(ww k v s x).2)
 |_,_=>([k],[v])
noncomputable def np(d:D)(S:aE):Option (Nat×List dj×List D):=match d with
 | .ref i=>match S[i]? with
  |some (.dct k T)=>some (i,k,T)
  |_=>none
 |_=>none
theorem uH(h:np v S=some (i,u,T)):v=.ref i/\S[i]? = some (.dct u T):=by
 unfold np at h;split at h
 .split at h
  .rename_i e;cases h;exact⟨rfl,e⟩
  .cases h
 .cases h
def Hk(o:EE)(k v:EV):ES:=λL S=>bw (v L S) λy x=>bw (o L x) λd a=>bw (k L a) λz h=>match np d h,eA z with
 |some (i,s,T),some e=>if (s.Nodup/\few s=true) then some (.nx,L,h.set i (.dct (ww e (.p y) s T).1 (ww e (.p y) s T).2)) else none
 |_,_=>none
theorem se{K:FG}{F:Aa}{H:Hp}{m:List Addr}{k:dj}{y:D}{u:V}(b:RD K F H m y u):∀{v:List (dj×V)}{s:List D},(v.map (·.1)).Nodup->bI K F H m s (v.map (·.2)) ->
  (putK v k u).map (·.1)=(ww k y (v.map (·.1)) s).1/\bI K F H m (ww k y (v.map (·.1)) s).2 ((putK v k u).map (·.2))
 | [],s,_,r=>by have:s=[]:=eh r.length;subst this;exact⟨rfl,u,[],rfl,b,rfl⟩
 |(h,w)::v,[],_,r=>by have:=r.length;simp at this
 |(h,w)::v,d::s,g,r=>by
  obtain⟨x,E,e,C,i⟩:=r;rw[aD]at e g;injection e with j o;subst j;subst o;obtain⟨t,p⟩:=bL.mp g;simp only[aD,ww];by_cases hk:h=k
  .subst hk;rw[ag rfl];have n:putK ((h,w)::v) h u=(h,u)::v:=by
    unfold putK;rw[ag (by simp)];rw[aD,ag rfl];congr 1;have:∀l:List (dj×V),h ∉ l.map (·.1)->l.map (λa=>if a.1=h then (a.1,u) else a)=l:=by
     intro l;induction l with
     |nil=>intro _;rfl
     |cons q l B=>
      intro f;rw[aD]at f;have S:¬q.1=h:=λz=>f (by rw[<- z];exact aJ)
      rw[aD,aj S,B λz=>f (aN _ z)]
    exact this v t
   rw[n];exact⟨rfl,u,_,rfl,b,i⟩
  .rw [aj hk];obtain⟨P,A⟩:=se b p i;have n:putK ((h,w)::v) k u=(h,w)::putK v k u:=by
    unfold putK;rw[cG,aX (show ¬(h,w).1=k from hk),kq];by_cases c:(v.any λa=>decide (a.1=k))=true
    .rw [ag c,ag c,aD,aj (show ¬(h,w).1=k from hk)]
    .rw [aj c,aj c];rfl
   rw[n,aD,aD,P];exact⟨rfl,w,_,rfl,C,A⟩
theorem P_{o i g:Expr}{I:EE}{l z:EV}{G:Pos}(hu:X.A.units+1 < cLine)(ho:PE X o (tE X.K I))(hi:PE X i (tV X.K l))(hv:PE X g (tV X.K z))(hs:swapsWith g (some (.Subscript o i G)) N.line X.e=pure false:=by rfl) :
  PS X (.Assign [.Subscript o i G] g N) (i_ X.K (Hk I l z)):=(A5 hu ho hi hv hs).imp' λD J H hz=>by
 obtain⟨F,m,L,S,fl,L',S',r,h,q,k⟩:=hz;obtain⟨y,M,e1,q⟩:=ak q;obtain⟨d,Q,e2,q⟩:=ak q;obtain⟨e,R,e3,q⟩:=ak q;refine⟨F,m,L,S,y,M,r,h,e1,λv E m1 H1 p r1 p1=>?_⟩;refine⟨E,m1,L,M,d,Q,r1,h.mono p,e2,λx F2 m2 H2 u r2 p2=>?_⟩;refine⟨F2,m2,L,Q,e,R,r2,(h.mono p).mono u,e3,λw f c b K C p3=>?_⟩;cases A:np d R with
 |none=>rw[A]at q;cases q
 |some t=>
  obtain⟨j,ks,T⟩:=t;rw[A]at q;cases P:eA e with
  |none=>rw[P]at q;cases q
  |some n=>
   rw[P]at q;dsimp only at q;split at q
   .rename_i Z;cases q;obtain⟨rfl,es⟩:=uH A;obtain⟨a,rfl,B⟩:=RD.mono K p2;obtain⟨s,W,hk,rs⟩:=C.obj j a _ B es;subst hk;have pv:RD X.K f b c (.p y) v:=RD.mono K (RD.mono u (show RD X.K E H1 m1 (.p y) v from p1));obtain⟨h1,h2⟩:=se (k:=n) pv Z.1 rs;cases (gN P p3);have nt:∀zs,b a≠some (.tup zs):=λzs e=>by rw[W]at e;cases e
    have st:Stp f c b f c (br b a (.dK (putK s n v))):=dE C B es trivial nt;have hl:s.length < sizeLine:=by have V:(s.map (·.1)).length≤1000000:=aL Z.2;rw[bv]at V;exact iW V (by decide)
    refine⟨a,_,rfl,wS.k W hl,?_⟩;exact k J f c _ (p.trans (u.trans (K.trans st))) (C.set B es trivial nt ⟨_,aC,h1,bI.mono st h2⟩) (((h.mono p).mono u).mono (K.trans st))
   .cases q
end
section
variable{X:Cx}{a b c e:Expr}{es:Ab}{C t L:EV}{fs:j'}{N p:Pos}
abbrev u6:P->P->Option P:=R7
theorem Ob(_:X.A.units+1 < cLine):oQ X (compareOp .Eq) u6:=Rc
@[simp] def gF(a:EV)(L:Lc)(S:aE):BV:=bw (a L S) λv h=>match v with
 | .lst xs=>some (xs,h)
 | .ro xs=>some (xs,h)
 | .tup xs=>some (xs,h)
 |_=>none
theorem iS{M iter:Expr}(h:PE X iter (tV X.K C)):PI X M iter (tI X.K (gF C)):=by
 intro B s J H R I ⟨F,m,L,S,T,W,r,l,q,k⟩;obtain⟨v,z,Z,q⟩:=ak q;refine b_ (h B s J H (λx n=>∃c w,Stp F m H c w n/\Rel X.K c n w z/\RP X.K c n v x) I ⟨F,m,L,S,v,z,r,l,Z,λx c w n f A j=>⟨c,w,f,A,j⟩⟩) λu f P=>?_
 obtain⟨x,n,t,G,c,w,st,A,j⟩:=P;have mk:∀{D:It},JG X.K D T c w n->z=W->R D n:=λit e=>by subst e;exact k _ c w n st A it
 have i:∀{a:Addr}{xs:List V},x=.ref a->fq X.K n a xs->R (Pj X.K a) n->wpAny (model X.p X.w) X.A (pyIter u) (Pd X B J M R) X.xe f:=λ{a xs} e hq q=>by
  subst e;cases G;obtain⟨g,rv,p,P⟩:=t.list hq;refine lj p.isList ?_;refine⟨f.heap.objs.size,[f.heap.objs.size],_,_,n,rfl,t.kept (t':=f.toks) λb o e=>aF _ e,rY a _,⟨_,aR _ rfl,rfl,rfl⟩,λb K=>?_,q⟩;have e:b=f.heap.objs.size:=by simpa using K
  subst e;exact t.fpOk (al _) (t.h.fresh (al _))
 cases v with
 |lst E=>cases q;obtain⟨a,xs,rfl,d,y⟩:=j;exact i rfl d.sq (mk (EG (λN m2 Q s=>(d.kp s.kp).sq) y) rfl)
 |ro E=>cases q;obtain⟨a,xs,rfl,d,y⟩:=j;exact i rfl d.sq (mk (EG (λN m2 Q s=>(d.kp s.kp).sq) y) rfl)
 |tup E=>
  cases q;obtain⟨a,xs,rfl,d,y⟩:=j;cases G;obtain⟨g,rv,pp,P⟩:=t.tuple d.sq;refine pM (show f.heap.IsTuple a g.toArray from pp) ?_;refine⟨f.heap.objs.size,[f.heap.objs.size],_,_,n,rfl,t.kept (t':=f.toks) λb o e=>aF _ e,xu a _,⟨_,aR _ rfl,rfl,rfl⟩,λb K=>?_,mk (LK d y) rfl⟩;have e:b=f.heap.objs.size:=by simpa using K
  subst e;exact t.fpOk (al _) (t.h.fresh (al _))
 |_=>cases q
end
section
variable{X:Cx}{N p:Pos}
end
noncomputable def gE:Nat->P->Bool
 |_,.non=>true
 |_,.bl _=>true
 |_,.int _=>true
 |_,.str x=>rR x
 |n+1,.tup xs=>xs.all (gE n)
 |n+1,.lst xs=>xs.all (gE n)
 |n+1,.ro xs=>xs.all (gE n)
 |_,_=>false
variable{n:Nat}
theorem pB:∀{s:List P},(∀d ∈ s,(pd d).canLay0=true/\(pd d).depth≤n)->vm (gJ s)=true/\pT (gJ s)≤n
 | [],_=>⟨rfl,bW _⟩
 |d::r,h=>by obtain⟨⟨p,a⟩,q⟩:=List.forall_mem_cons.mp h;obtain⟨x,e⟩:=pB q;exact⟨by simp only[gJ,vm,p,x,Bool.and_self],by simp only[gJ,pT];lia⟩
theorem fI:∀(n:Nat)(p:P),gE n p=true->(pd p).canLay0=true/\(pd p).depth≤n
 |_,.non,_=>⟨rfl,bW _⟩
 |_,.bl _,_=>⟨rfl,bW _⟩
 |_,.int _,_=>⟨rfl,bW _⟩
 |n,.str x,h=>⟨by cases n<;>exact h,bW _⟩
 |n,.dct _ _,h=>by cases n<;>cases h
 |0,.tup _,h=>by cases h
 |0,.lst _,h=>by cases h
 |0,.ro _,h=>by cases h
 |n+1,.tup s,h=>by obtain⟨a,b⟩:=pB λd e=>fI n d (bD.mp h d e);exact⟨a,by simp only[pd,rQ];lia⟩
 |n+1,.lst s,h=>by obtain⟨a,b⟩:=pB λd e=>fI n d (bD.mp h d e);exact⟨a,by simp only[pd,rQ];lia⟩
 |n+1,.ro s,h=>by obtain⟨a,b⟩:=pB λd e=>fI n d (bD.mp h d e);exact⟨a,by simp only[pd,rQ];lia⟩
theorem ja(h:gE 20 p=true):y9 (pd p)=true:=by obtain⟨x,a⟩:=fI 20 p h;unfold y9;rw[x,Bool.true_and];exact df (by lia)
section
variable{X:Cx}{B:PN}{J:L2.St}{H:Hp}{s:Shared}{F:Aa}
theorem hJ(o:∀{p:P}{v:V}{u:Value},RP X.K F H p v->RelV v u->gE n p=true->∃a,Reads s.heap u (pd p) a) :
  ∀{k:List P}{xs:List V}{f:LV},bB X.K F H k xs->aU xs f->(∀d ∈ k,gE n d=true)->∃a,ReadsAll s.heap f (gJ k) a
 | [],xs,f,r,v,_=>by cases (show xs=[] from r);cases v;exact⟨_,.nil⟩
 |d::k,xs,f,r,v,h=>by
  obtain⟨x,g,rfl,p,r⟩:=r;cases v with
  |cons t m=>obtain⟨a,q⟩:=o p t (h d (.head _));obtain⟨w,c⟩:=hJ o r m λe b=>h e (.tail _ b);exact⟨_,.cons q c⟩
theorem eP(I:Inv X B J H s):∀(n:Nat){p:P}{v:V}{u:Value},RP X.K F H p v->RelV v u->gE n p=true->∃w,Reads s.heap u (pd p) w:=by
 intro n;induction n with
 |zero=>
  intro p v u r k h;cases p with
  |non=>cases (show v=.non from r);cases k;exact⟨_,.none⟩
  |bl b=>cases (show v=.bl b from r);cases k;exact⟨_,.bool b⟩
  |int i=>cases (show v=.int i from r);obtain⟨t,rfl⟩:=k;exact⟨_,.int i t⟩
  |str x=>cases (show v=.str x from r);obtain⟨t,rfl⟩:=k;exact⟨_,.str x t⟩
  |_=>simp[gE]at h
 |succ n y=>
  intro p v u r k h;cases p with
  |non=>cases (show v=.non from r);cases k;exact⟨_,.none⟩
  |bl b=>cases (show v=.bl b from r);cases k;exact⟨_,.bool b⟩
  |int i=>cases (show v=.int i from r);obtain⟨t,rfl⟩:=k;exact⟨_,.int i t⟩
  |str x=>cases (show v=.str x from r);obtain⟨t,rfl⟩:=k;exact⟨_,.str x t⟩
  |dct K T=>simp[gE]at h
  |tup z=>obtain⟨a,xs,rfl,l,j⟩:=r;cases k;obtain⟨g,f,⟨o,e,c,m,d⟩,S⟩:=I.tuple l.sq;obtain⟨w,q⟩:=hJ y j f (by simpa[gE] using h);rw[pd];exact⟨w,reads_tuple_at e c d (by simpa using q)⟩
  |lst z=>obtain⟨a,xs,rfl,l,j⟩:=r;cases k;obtain⟨g,f,⟨o,m,e,c,_,d⟩,S⟩:=I.list l.sq;obtain⟨w,q⟩:=hJ y j f (by simpa[gE] using h);rw[pd];exact⟨_,tf e c d (by simpa using q)⟩
  |ro z=>obtain⟨a,xs,rfl,l,j⟩:=r;cases k;obtain⟨g,f,⟨o,m,e,c,_,d⟩,S⟩:=I.list l.sq;obtain⟨w,q⟩:=hJ y j f (by simpa[gE] using h);rw[pd];exact⟨_,tf e c d (by simpa using q)⟩
end
noncomputable def rl(f:D->Option P):List D->Option (List P)
 | []=>some []
 |d::r=>(f d).bind λv=>(rl f r).map λT=>v::T
def eN(S:aE):Nat->D->Option P
 |_,.p v=>some v
 |0,.ref _=>none
 |n+1,.ref i=>match S[i]? with
  |some (.lst d)=>(rl (eN S n) d).map .lst
  |some (.fz v)=>some v
  |_=>none
@[simp] theorem p_(S:aE)(n:Nat)(v:P):eN S n (.p v)=some v:=by cases n<;>rfl
section
variable{X:Cx}{B:PN}{J:L2.St}{H:Hp}{s:Shared}{F:Aa}{m:List Addr}{S:aE}
theorem qj(o:∀{d:D}{v:V}{u:Value}{p:P},RD X.K F H m d v->RelV v u->eN S n d=some p->gE k p=true->∃c,Reads s.heap u (pd p) c) :
  ∀{b:List D}{xs:List V}{t:LV}{f:List P},bI X.K F H m b xs->aU xs t->rl (eN S n) b=some f->(∀d ∈ f,gE k d=true)->∃c,ReadsAll s.heap t (gJ f) c
 | [],xs,t,f,r,v,q,_=>by cases (show xs=[] from r);cases v;cases q;exact⟨_,.nil⟩
 |d::b,xs,t,f,r,v,q,h=>by
  obtain⟨x,B,rfl,p,r⟩:=r;obtain⟨y,j,q⟩:∃a,eN S n d=some a/\(rl (eN S n) b).map (λT=>a::T)=some f:=by
   cases e:eN S n d with
   |none=>simp[rl,e]at q
   |some a=>exact⟨a,rfl,by simpa[rl,e] using q⟩
  obtain⟨C,l,rfl⟩:∃a,rl (eN S n) b=some a/\f=y::a:=by
   cases e:rl (eN S n) b with
   |none=>rw[e]at q;cases q
   |some a=>rw[e]at q;cases q;exact⟨a,rfl,rfl⟩
  cases v with
  |cons K z=>obtain⟨c,g⟩:=o p K j (h y (.head _));obtain⟨A,w⟩:=qj o r z l λe i=>h e (.tail _ i);exact⟨_,.cons g w⟩
theorem dq(I:Inv X B J H s)(y:Rel X.K F H m S):∀(n k:Nat){d:D}{v:V}{u:Value}{p:P},RD X.K F H m d v->RelV v u->eN S n d=some p->gE k p=true->∃b,Reads s.heap u (pd p) b:=by
 intro n;induction n with
 |zero=>
  intro k d v u p r x q h;cases d with
  |p w=>rw[p_]at q;cases q;exact eP I k r x h
  |ref i=>cases q
 |succ n C=>
  intro k d v u p r x q h;cases d with
  |p w=>rw[p_]at q;cases q;exact eP I k r x h
  |ref i=>
   obtain⟨a,rfl,g⟩:=r;have A:i < S.length:=by rw[<- y.len];exact(bg.mp g).1
   obtain⟨o,j⟩:∃o,S[i]? = some o:=⟨S[i],by simp[A]⟩;have l:=y.obj i a o g j;simp only[eN,j]at q;cases o with
   |fz w=>cases q;exact eP I k l x h
   |dct M t=>cases q
   |ins _ _ _=>cases q
   |dtn _ _=>cases q
   |dtt _ _=>cases q
   |fn _=>cases q
   |lst t=>
    dsimp only at q;cases e:rl (eN S n) t with
    |none=>rw[e]at q;cases q
    |some Q=>
     rw[e]at q;cases q;cases k with
     |zero=>simp[gE]at h
     |succ k=>obtain⟨xs,K,G⟩:=l;cases x;obtain⟨E,f,⟨o,N,z,c,_,d⟩,L⟩:=I.list (fq.of K);obtain⟨b,q⟩:=qj (k:=k) (λr x q h=>C k r x q h) G f e (by simpa[gE] using h);rw[pd];exact⟨_,tf z c d (by simpa using q)⟩
theorem lV(l:Rel X.K F H m S)(r:RD X.K F H m u v)(q:eN S n u=some p)(k:∀xs,p≠.lst xs/\p≠.tup xs):RP X.K F H p v:=by
 cases u with
 |p w=>rw[p_]at q;cases q;exact r
 |ref i=>
  cases n with
  |zero=>cases q
  |succ n=>
   obtain⟨a,rfl,h⟩:=r;have s:i < S.length:=by rw[<- l.len];exact(bg.mp h).1
   obtain⟨o,x⟩:∃o,S[i]? = some o:=⟨S[i],by simp[s]⟩;have b:=l.obj i a o h x;simp only[eN,x]at q;cases o with
   |fz w=>cases q;exact b
   |dct c d=>cases q
   |ins _ _ _=>cases q
   |dtn _ _=>cases q
   |dtt _ _=>cases q
   |fn _=>cases q
   |lst d=>
    dsimp only at q;cases e:rl (eN S n) d with
    |none=>rw[e]at q;cases q
    |some f=>rw[e]at q;cases q;exact absurd rfl (k f).1
end
inductive rEI(K:FG)(g:D->D->aE->Option P)(x:V)(y:V)(H:Hp)(Q:VK):Prop
 |mk (F:Aa) (m:List Addr) (S:aE) (d:D) (e:D) (v:P) (h0_:Rel K F H m S) (h1_:RD K F H m d x) (h2_:RD K F H m e y) (h3_:g d e S=some v) (h4_:∀u F' H',Grow F H F' H'->RP K F' H' v u->Q u H'):rEI K g x y H Q
noncomputable def rE(K:FG)(g:D->D->aE->Option P):R2:=λx y H Q=>rEI K g x y H Q
@[simp] def a7(g:D->D->aE->Option P)(a b:EE)(L:Lc)(S:aE):tyV:=bw (a L S) λx e=>bw (b L e) λy h=>(g x y h).map λv=>(v,h)
section
variable{X:Cx}{a b:Expr}{C t:EE}{N:Pos}
theorem AY(h:tV X.K (a7 a0 C t) J H Q):Kk (rE X.K a0) (tE X.K C) (tE X.K t) J H Q:=by
 obtain⟨F,m,L,S,d,K,r,l,q,k⟩:=h;obtain⟨x,a,P,q⟩:=ak q;obtain⟨y,s,A,q⟩:=ak q;refine⟨F,m,L,S,x,a,r,l,P,λv p B M b I D=>?_⟩;refine⟨p,B,L,a,y,s,I,l.mono b,A,λu i n N c f E=>?_⟩;cases e:a0 x y s with
 |none=>rw[e]at q;cases q
 |some z=>rw[e]at q;cases q;exact⟨i,n,K,x,y,_,f,RD.mono c D,E,e,λw j o g G=>k w j n o (b.trans (c.trans g.stp)) (f.grow g) G⟩
theorem Nb(o:gX X (compareOp u) (rE X.K v))(x:PE X a (tE X.K C))(e:PE X b (tE X.K t))(m:behindInMarks u b=false):PE X (.Compare a [u] [b] N) (tV X.K (a7 v C t)):=
 (A8 o x e m).imp' λ_ _ _ h=>AY h
theorem MY(o:gX X (compareOp op) (rE X.K u))(c:PE X a (tE X.K C))(w:PE X b (tE X.K t))(g:behindInMarks op b=false):PT X (.Compare a [op] [b] N) (tQ X.K (bV (a7 u C t))):=
 (A4 o c w g).imp' λJ H Q h=>by
  refine AY ?_;obtain⟨F,m,L,S,d,y,r,l,q,k⟩:=h;obtain⟨x,z,f,q⟩:=ak q;cases x with
  |bl b=>cases q;exact⟨F,m,L,S,_,_,r,l,f,λv e i n s j p=>⟨_,p,k e i n s j⟩⟩
  |_=>cases q
end
def Cr(x y:P):Option Bool:=match u6 x y with
 |some (.bl b)=>some b
 |_=>if (gE 20 x && gE 20 y)=true then some (bQ (pd x) (pd y)) else none
def fS(d e:D)(S:aE):Option P:=(eN S 9 d).bind λx=>(eN S 9 e).bind λy=>(Cr x y).map .bl
def Lq(x y:P):Option Bool:=match MD x y with
 |some (.bl b)=>some b
 |_=>if (gE 20 x && gE 20 y)=true then some (!PyData.eqv (pd x) (pd y)) else none
def Iu(d e:D)(S:aE):Option P:=(eN S 9 d).bind λx=>(eN S 9 e).bind λy=>(Lq x y).map .bl
noncomputable def qQ(c:D)(S:aE):Option (List dj):=match c with
 | .p (.dct k _)=>some k
 | .ref i=>match S[i]? with
  |some (.dct k _)=>some k
  |some (.fz (.dct k _))=>some k
  |_=>none
 |_=>none
noncomputable def LX(k:dj)(s:List dj):Bool:=s.any λh=>decide (h=k)
def Rs(d c:D)(S:aE):Option Bool:=match qQ c S with
 |some s=>(eN S 9 d).bind λx=>(eA x).map λk=>LX k s
 |none=>none
def PH(d c:D)(S:aE):Option P:=(Rs d c S).map .bl
noncomputable def kU:D->Bool
 | .p .non=>true
 |_=>false
def x6(d e:D)(_:aE):Option P:=match e with
 | .p .non=>some (.bl (kU d))
 |_=>none
def lr(d e:D)(_:aE):Option P:=match e with
 | .p .non=>some (.bl (!kU d))
 |_=>none
theorem yg(h:u6 x v=some b):(∀xs,x≠.lst xs/\x≠.tup xs)/\∀xs,v≠.lst xs/\v≠.tup xs:=by
 refine⟨λxs=>⟨λe=>?_,λe=>?_⟩,λxs=>⟨λe=>?_,λe=>?_⟩⟩
 .subst e;cases v<;>cases h
 .subst e;cases v<;>cases h
 .subst e;cases x<;>cases h
 .subst e;cases x<;>cases h
section
variable{X:Cx}
theorem Oa(o:X.A.units+64 < cLine):gX X (compareOp .Eq) (rE X.K fS):=by
 intro B s J H x y v u Q I j z h;obtain⟨F,m,S,d,e,r,l,g,i,q,k⟩:=h;unfold fS at q;cases t:eN S 9 d with
 |none=>rw[t]at q;cases q
 |some a=>
  rw[t]at q;cases p:eN S 9 e with
  |none=>rw[p]at q;cases q
  |some b=>
   rw[p]at q;simp only[eG]at q;cases n:Cr a b with
   |none=>rw[n]at q;cases q
   |some c=>
    rw[n]at q;cases q;unfold Cr at n;split at n
    .rename_i G w;cases n;obtain⟨K,P⟩:=yg w;exact Ob (by lia) B s J H x y v u Q I j z ⟨F,a,b,.bl c,l.ft,lV l g t K,lV l i p P,w,k⟩
    .split at n
     .rename_i f;rw[az]at f;cases n;obtain⟨D,A⟩:=dq I l 9 20 g j t f.1;obtain⟨E,C⟩:=dq I l 9 20 i z p f.2;exact eq_dataH A C (ja f.1) (ja f.2) o ⟨.bl _,H,I,rfl,k _ F H .refl rfl⟩
     .cases n
theorem Cw(h:MD x v=some b):(∀xs,x≠.lst xs/\x≠.tup xs)/\∀xs,v≠.lst xs/\v≠.tup xs:=by
 refine⟨λxs=>⟨λe=>?_,λe=>?_⟩,λxs=>⟨λe=>?_,λe=>?_⟩⟩
 .subst e;cases v<;>cases h
 .subst e;cases v<;>cases h
 .subst e;cases x<;>cases h
 .subst e;cases x<;>cases h
theorem N3(o:X.A.units+64 < cLine):gX X (compareOp .NotEq) (rE X.K Iu):=by
 intro B s J H x y v u Q I j z h;obtain⟨F,m,S,d,e,r,l,g,i,q,k⟩:=h;unfold Iu at q;cases t:eN S 9 d with
 |none=>rw[t]at q;cases q
 |some a=>
  rw[t]at q;cases p:eN S 9 e with
  |none=>rw[p]at q;cases q
  |some b=>
   rw[p]at q;simp only[eG]at q;cases n:Lq a b with
   |none=>rw[n]at q;cases q
   |some c=>
    rw[n]at q;cases q;unfold Lq at n;split at n
    .rename_i G w;cases n;obtain⟨K,P⟩:=Cw w;exact Q9 B s J H x y v u Q I j z ⟨F,a,b,.bl c,l.ft,lV l g t K,lV l i p P,w,k⟩
    .split at n
     .rename_i f;rw[az]at f;cases n;obtain⟨D,A⟩:=dq I l 9 20 g j t f.1;obtain⟨E,C⟩:=dq I l 9 20 i z p f.2;exact ne_dataH A C (ja f.1) (ja f.2) o ⟨.bl _,H,I,rfl,k _ F H .refl rfl⟩
     .cases n
theorem lW(x:P):∀xs:List P,(gJ xs).any (λy=>bQ y (pd x))=xs.any λy=>bQ (pd y) (pd x)
 | []=>rfl
 |y::r=>by rw[gJ,cG,cG,lW x r]
theorem A'(h:xs.all (gE 19)=true):vm (gJ xs)=true/\pT (gJ xs)≤20:=by have l:=fI 20 (.lst xs) h;simp only[pd,C2,rQ]at l;have x:=l.2;exact⟨l.1,by lia⟩
theorem BU:(fL v k).isSome=LX k (v.map (·.1)):=by
 induction v with
 |nil=>rfl
 |cons p r i=>
  unfold LX at i ⊢;by_cases h:p.1=k
  .rw [gH h,aD,cG,df h];rfl
  .rw [fK h,i,aD,cG,aX h];rfl
theorem Fx{K:FG}{F:Aa}{H:Hp}{m:List Addr}{S:aE}{c:D}{y:V}{s:List dj}(r:Rel K F H m S)(p:RD K F H m c y)(q:qQ c S=some s):∃a k,y=.ref a/\H a=some (.dK k)/\k.map (·.1)=s:=by
 unfold qQ at q;split at q
 .cases q;obtain⟨a,k,e,_,hk,h,_⟩:=p;exact⟨a,k,e,hk,h⟩
 .rename_i i;obtain⟨a,rfl,x⟩:=p;split at q
  .rename_i o;cases q;obtain⟨k,hk,h,_⟩:=r.obj i a _ x o;exact⟨a,k,rfl,hk,h⟩
  .rename_i o;cases q;obtain⟨b,k,e,_,hk,h,_⟩:=r.obj i a _ x o;cases e;exact⟨a,k,rfl,hk,h⟩
  .cases q
 .cases q
theorem N8(A:X.A.units+64 < cLine):gX X (compareOp .In) (rE X.K PH):=by
 intro B s J H x y v u Q I K P h;obtain⟨F,m,S,d,e,r,l,j,o,q,k⟩:=h;unfold PH Rs at q;cases c:qQ e S with
 |some C=>
  rw[c]at q;dsimp only at q;cases f:eN S 9 d with
  |none=>rw[f]at q;cases q
  |some a=>
   rw[f]at q;simp only[eG]at q;cases n:eA a with
   |none=>rw[n]at q;cases q
   |some w=>rw[n]at q;cases q;obtain⟨b,g,rfl,hk,p⟩:=Fx l o c;have i:RP X.K F H a x:=lV l j f λxs=>⟨λz=>(by subst z;cases n),λz=>(by subst z;cases n)⟩;cases P;cases gN n i;exact Rz (by lia) I (jt.k hk) K λD t=>⟨.bl _,H,t,rfl,by rw[BU,p];exact k _ F H .refl rfl⟩
 |none=>rw[c]at q;cases q
theorem N6:gX X (compareOp .Is) (rE X.K x6):=by
 intro B s J H x y v u Q I c t h;obtain⟨F,m,S,d,e,r,l,n,f,q,k⟩:=h;unfold x6 at q;split at q
 .cases q;cases (show y=.non from f);refine Lb B s J H x _ v u Q I c t ⟨rfl,?_⟩;have:decide (x=.non)=kU d:=by
   cases d with
   |ref i=>obtain⟨a,rfl,_⟩:=n;rfl
   |p w=>
    cases w with
    |non=>cases (show x=.non from n);rfl
    |bl b=>cases (show x=.bl b from n);rfl
    |int b=>cases (show x=.int b from n);rfl
    |str b=>cases (show x=.str b from n);rfl
    |_=>(obtain⟨a,xs,rfl,_⟩:=n;rfl)
  rw[this];exact k _ F H .refl rfl
 .cases q
theorem Ei:gX X (compareOp .IsNot) (rE X.K lr):=by
 intro B s J H x y v u Q I c t h;obtain⟨F,m,S,d,e,r,l,n,f,q,k⟩:=h;unfold lr at q;split at q
 .cases q;cases (show y=.non from f);refine HG B s J H x _ v u Q I c t ⟨rfl,?_⟩;have:decide (x=.non)=kU d:=by
   cases d with
   |ref i=>obtain⟨a,rfl,_⟩:=n;rfl
   |p w=>
    cases w with
    |non=>cases (show x=.non from n);rfl
    |bl b=>cases (show x=.bl b from n);rfl
    |int b=>cases (show x=.int b from n);rfl
    |str b=>cases (show x=.str b from n);rfl
    |_=>(obtain⟨a,xs,rfl,_⟩:=n;rfl)
  rw[this];exact k _ F H .refl rfl
 .cases q
end
section
variable{prog:Program}{w:World}{A:Around}{E:VP}{s:Shared}
theorem sD(f:v≠it):∀(n i:Nat)(s:Shared)(Q:LV->Shared->Prop),s.heap.IsListIter it v i->s.heap.IsList v u->i+n≤u.size ->
  (∀c,c.IsListIter it v (i+n)->cD it s.heap c->Q ((u.toList.drop i).take n) { s with heap:=c })->wpAny (model prog w) A (draw (.ref it) n) Q E s
 |0,i,s,Q,e,_,_,m=>by show wpAny _ _ (pure []) Q E s;exact aq (by simpa using m s.heap e (Ge ..))
 |n+1,i,s,Q,e,r,q,m=>by
  have l:i < u.size:=by lia
  show wpAny _ _ (pyNext (.ref it) >>= _) Q E s;refine ae (sY e r (x:=u[i]) (by simp[l]) λp t h=>?_);refine ae (cF (sD f n (i+1) _ _ t (r.extBut h.extBut f) (by lia) λb a k=>aq ?_));have d:u.toList.drop i=u[i]::u.toList.drop (i+1):=by simp[tU,l]
  have:=m b (by rw[show i+(n+1)=i+1+n by lia];exact a) (h.trans k);rw[d,tM]at this;exact this
theorem m7(p:A.handled=none)(n:s.heap.IsList v u)
  (r:∀c,g7 s.heap.objs.size s.heap c->Q u.toList { s with heap:=c }):wpAny (model prog w) A (unpackItems (.ref v) u.size none) Q E s:=by
 have l:v≠s.heap.objs.size:=by obtain⟨o,q,_⟩:=n;exact aQ (av q)
 unfold unpackItems;refine ae ?_
 .unfold notIterableAtAll;refine ae (w6 n.typeIs slot_list_iter.lookup ?_);refine aq ?_;simp only[lK,gq];refine ae (cF (lj n ?_));refine ae (cF (sD l u.size 0 _ _ ⟨_,aR _ rfl,rfl,rfl⟩ (n.push _) (by lia) λk i h=>?_));have a:List.take u.size (List.drop 0 u.toList)=u.toList:=by
   rw[kj];exact zz (by simp)
  rw[a];rw[aj (by simp)];have t:k.IsList v u:=(n.push _).extBut h.extBut l;refine ae (cF (sX p i t (by simp) λf x=>?_));simp only[Option.isSome_none,lK,gq];refine aq (r f λb o m e=>x b o m (h.extBut b o m (aF _ e)))
theorem mO {x1} (a:A.handled=none) (e:s.heap.IsList v items)
  (n:(assignEach u r).length=items.size) (t:(assignEach u r).findIdx? (·.1)=none)
  (h:∀x,g7 s.heap.objs.size s.heap x->wpAny (model prog w) A (assignInOrder ((assignEach u r).map (·.2)) items.toList) Q E { s with heap:=x }) :
  wpAny (model prog w) A (assign (.Tuple u x1 N) r (.ref v)) Q E s:=by
 rw[assign_Tuple];refine ae (pJ ?_);unfold unpack;rw[n,t];exact ae (cF (m7 a e h))
end
noncomputable def Rw(K:FG)(n:Nat)(t:JD):TG:=λv J H Q=>∃a xs,v=.ref a/\(kF K H a xs\/fq K H a xs)/\xs.length=n/\t xs J H Q
variable{N:Pos}{es:Ab}{k:Nat}
theorem K0(c:X.c=true)(h:MP X es a0)
  (f:(assignEach es X.e).length=n:=by rfl) (t:(assignEach es X.e).findIdx? (·.1)=none:=by rfl):PG X (.Tuple es k N) (Rw X.K n a0):=by
 intro B s J H v u Q I r w;obtain⟨a,xs,x,q,l,w⟩:=w;rcases q with q|q
 .exact KY c h f t B s J H v u Q I r ⟨a,xs,x,q,l,w⟩
 subst x;cases r;obtain⟨j,m,g,z⟩:=I.list q;refine mO (I.o.hd c) g.isList (by simp[f,<- l,m.length]) t λd i=>?_
 have p:Inv X B J H { s with heap:=d }:=I.kept (t':=s.toks) λb o e=>i b o (aQ (av e)) e;exact h B _ J H xs _ Q p (by simpa using m) w
noncomputable def l7:List kE->List P->Lc->Option Lc
 | [],[],L=>some L
 |g::s,v::T,L=>match g v L with
  |some h=>l7 s T h
  |none=>none
 |_,_,_=>none
def ci(g:List kE):kE:=λv L=>match v with
 | .tup T=>l7 g T L
 | .lst T=>l7 g T L
 |_=>none
theorem qz:∀{s:List kE}{T:List P}{L x:Lc},l7 s T L=some x->T.length=s.length
 | [],[],_,_,_=>rfl
 | [],_::_,_,_,h=>by cases h
 |_::_,[],_,_,h=>by cases h
 |g::s,v::T,L,x,h=>by
  unfold l7 at h;split at h
  .rw [bz,bz,qz h]
  .cases h
inductive gTsI(K:FG)(gs:List kE)(xs:List V)(J:L2.St)(H:Hp)(Q:L2.St->Hp->Prop):Prop
 |mk (F:Aa) (m:List Addr) (L:Lc) (vs:List P) (L':Lc) (h0_:RL K F H m J L) (h1_:bB K F H vs xs) (h2_:l7 gs vs L=some L') (h3_:∀J',RL K F H m J' L'->Q J' H):gTsI K gs xs J H Q
noncomputable def SU(K:FG)(g:List kE):JD:=λxs J H Q=>gTsI K g xs J H Q
inductive GsOk(X:Cx):Ab->List kE->Prop where
 |nil:GsOk X [] []
 |cons {x:Str}{p:Pos}{es:Ab}{g:kE}{gs:List kE}:PG X (.Name x p) (gT X.K g)->GsOk X es gs->GsOk X (.Name x p::es) (g::gs)
section
variable{X:Cx}{N:Pos}
theorem rO:assignEach (.Name x p::es) r=(false,assign (.Name x p) r)::assignEach es r:=rfl
theorem GsOk.len(h:GsOk X es v)(r:Env):(assignEach es r).length=v.length/\(assignEach es r).findIdx? (·.1)=none:=by
 induction h with
 |nil=>exact⟨rfl,rfl⟩
 |cons _ _ i=>rw[rO];refine⟨by rw[bz,bz,i.1],?_⟩;simp only[List.findIdx?_cons,i.2];rfl
theorem GsOk.pgs(h:GsOk X es gs):MP X es (SU X.K gs):=by
 induction h with
 |nil=>
  intro B s J H xs u Q I a ⟨F,m,L,T,e,l,r,q,k⟩;cases T with
  |nil=>cases q;cases (show xs=[] from r);exact HA B s J H [] u Q I a ⟨rfl,k J l⟩
  |cons _ _=>cases q
 |cons g _ i=>
  intro B s J H xs u Q I a ⟨F,m,L,T,e,l,r,q,k⟩;cases T with
  |nil=>cases q
  |cons v T=>
   unfold l7 at q;split at q
   .rename_i n f;obtain⟨x,c,rfl,p,r⟩:=r;refine D5 g i rfl B s J H _ u Q I a ⟨x,c,rfl,F,m,L,v,n,l,p,f,λt b=>?_⟩;exact⟨F,m,n,T,e,b,r,q,k⟩
   .cases q
theorem LY(c:X.c=true)(h:GsOk X es u):PG X (.Tuple es n N) (gT X.K (ci u)):=
 PG.imp' (K0 c h.pgs (h.len _).1 (h.len _).2) λv J H Q z=>by
  obtain⟨F,m,L,d,x,l,p,q,k⟩:=z;cases d with
  |tup T=>obtain⟨a,xs,rfl,t,r⟩:=p;have e:=qz (show l7 u T L=some x from q);exact⟨a,xs,rfl,.inl t.sq,by rw[<- r.length];exact e,F,m,L,T,x,l,r,q,k⟩
  |lst T=>obtain⟨a,xs,rfl,t,r⟩:=p;have e:=qz (show l7 u T L=some x from q);exact⟨a,xs,rfl,.inr t.sq,by rw[<- r.length];exact e,F,m,L,T,x,l,r,q,k⟩
  |_=>cases q
def IZ(K:FG)(a:Addr):It:=
 ⟨λi H=>∃xs x,fq K H a xs/\xs[i]? = some x,λi H x h=>∃p y,x=.ref p/\H p=none/\h=br H p (.tup [.int i,y])/\∀xs,fq K H a xs->xs[i]? = some y,λi H=>∃xs,fq K H a xs/\xs.length≤i⟩
theorem BW{P:Program}{w:World}{K:FG}{es:Ab}{n:Nat}(a e t:Addr)(C:e≠t):Turn P w K (.Tuple es n N) (IZ K a) [e,t] e (λi h=>(∃l,IsEnum h e t i l)/\h.IsListIter t a i) where
 mem:=by simp
 obj:=λi h st b p=>by
  obtain⟨⟨l,A⟩,⟨o,ho,c,d⟩⟩:=st;have:b=e\/b=t:=by simpa using p
  rcases this with rfl|rfl
  .exact⟨_,A,λv z=>by have z':Data.fields _=Data.cell v:=z;cases z'⟩
  .exact⟨o,ho,λv z=>by rw[d]at z;cases z⟩
 keep:=λi h h' st k=>by obtain⟨⟨l,A⟩,y⟩:=st;exact⟨⟨l,k e (by simp) _ A⟩,y.at λo q=>k t (by simp) o q⟩
 item:=by
  intro X hP hw hK f i B s J H E I T st hg;subst hP hw hK;obtain⟨xs,x,V,hx⟩:=hg;obtain⟨its,rv,pl,hz⟩:=I.list V;obtain⟨u,hu,ru⟩:=rv.get hx;obtain⟨⟨l,A⟩,y⟩:=st;obtain⟨f0,f1,f2,f3,f4,f5⟩:=T e (by simp);obtain⟨M,Q,g2,Z,g4,g5⟩:=T t (by simp);refine wpAny_pyNext_enum_item A y pl.isList (x:=u) (by simpa using hu) C λh1 ho1 G ht1 hz1 hk1=>?_
  refine⟨_,rfl,C0 (s:={ s with heap:=h1,toks:=s.toks+1 }) ho1 λR he2 F=>?_⟩;replace F:cD e h1 R:=F;have D:e < s.heap.objs.size:=av A;have S:∀b o,b≠e->b≠t->s.heap.get? b=some o->R.get? b=some o:=λb o b1 b2 q=>(F.2 b b1).trans (hk1 b o b1 b2 q);have L:R.get? s.heap.objs.size=some { cls:=.type "tuple",data:=.seq #[.int i s.toks,u] }:=(F.2 _ (bA D)).trans ht1;have j:H s.heap.objs.size=none:=I.h.fresh (al _);have W:∀{b:Addr}{o:HO},H b=some o->b≠e/\b≠t:=λ{b o} q=>⟨λz=>(by rw[z,f0]at q;cases q),λz=>(by rw[z,M]at q;cases q)⟩;have g:∀b,b ∉ [e,t]->b≠e/\b≠t:=λb p=>⟨λz=>p (by simp[z]),λz=>p (by simp[z])⟩;have I':Inv X B J (br H s.heap.objs.size (.tup [.int i,x])) { s with heap:=R,gens:=s.gens,drawn:=s.drawn,toks:=s.toks+1 }:=by
   refine I.step (ch:=[e,t]) (λb p=>?_) (λb o _ _ f q _=>S b o (g b f).1 (g b f).2 q) (λb o _ _ f q _=>⟨o.slots,S b o (g b f).1 (g b f).2 q⟩) (λb o _ q n=>?_) (λb o f q=>⟨o,S b o (g b f).1 (g b f).2 q⟩)
    (λb ys q=>?_) (λb o ys q=>?_) (λb q=>?_) (λm hm=>?_) (λb u' q=>?_) I.bare
   .have:b=e\/b=t:=by simpa using p
    rcases this with rfl|rfl
    .exact⟨f3,f1,f4,f5⟩
    .exact⟨Z,Q,g4,g5⟩
   .rw [ar (aQ (av q))];exact n
   .rw [ar (a9 q j)];exact q
   .rw [ar (a9 q j)];exact q
   .rw [ar (a9 q j)];exact q
   .obtain⟨o,es,ep,ho,r⟩:=hm;exact⟨o,es,ep,S _ o (aH f1) (aH Q) ho,r⟩
   .by_cases p:b=s.heap.objs.size
    .subst p;rw[aC]at q;cases q;exact⟨by show 2≤sizeLine;decide,[.int i s.toks,u],.cons ⟨_,rfl⟩ (.cons ru .nil),⟨_,L,⟨rfl,_,rfl⟩,rfl⟩⟩
    .rw [ar p]at q;refine(I.h b u' q).stay (λc v f z=>S c v ?_ ?_ z) (λc z=>by rw[ar (a9 z j)];exact z) λc ys z=>by rw[ar (a9 z j)];exact z
     .rcases f with rfl|f
      .exact (W q).1
      .exact (W f).1
     .rcases f with rfl|f
      .exact (W q).2
      .exact (W f).2
  refine⟨.ref s.heap.objs.size,_,I',rfl,⟨s.heap.objs.size,x,rfl,j,rfl,λys hy=>by rw[I.list_inj hy V];exact hx⟩,⟨⟨u,by simpa using he2⟩,G.at λo q=>(F.2 t (aH C)).trans q⟩,λb p=>?_⟩;have hb':b=e\/b=t:=by simpa using p
  obtain⟨oi,hoi,_⟩:=id y;rcases hb' with rfl|rfl
  .rw [ar (aQ D)];exact f0
  .rw [ar (aQ (av hoi))];exact M
 done:=by intro X hP hw hK f i B s J H E I T st hg;subst hP hw hK;obtain⟨xs,V,hx⟩:=hg;obtain⟨its,rv,pl,hz⟩:=I.list V;obtain⟨⟨l,A⟩,y⟩:=st;obtain⟨M,Q,g2,Z,g4,g5⟩:=T t (by simp);have hl:=rv.length;exact wpAny_pyNext_enum_end (I.o.hd f) A y pl.isList (by simp;lia) λh' eb=>⟨rfl,I.turned (t':=s.toks) (λb o p e=>eb b o p e) M Q Z g4 g5⟩
 self:=λ_ _ _ _ _ st h=>by obtain⟨⟨l,A⟩,_⟩:=st;exact sU A h
noncomputable def dS(k:Int):List P->List P
 | []=>[]
 |x::r=>.tup [.int k,x]::dS (k+1) r
theorem nB:∀{T:List P}{k:Int}{i:Nat}{v:P},(dS k T)[i]? = some v->∃x,T[i]? = some x/\v=.tup [.int (k+i),x]
 | [],_,_,_,h=>by simp[dS]at h
 |x::r,k,0,v,h=>⟨x,rfl,by simpa[dS] using h.symm⟩
 |x::r,k,i+1,v,h=>by obtain⟨y,a,e⟩:=nB (T:=r) (k:=k+1) (i:=i) (by simpa[dS] using h);refine⟨y,by simpa using a,?_⟩;rw[e];congr 3;lia
theorem nA:∀(T:List P)(k:Int),(dS k T).length=T.length
 | [],_=>rfl
 |_::r,k=>by rw[dS,bz,bz,nA r]
@[simp] def Ro(a:EV)(L:Lc)(S:aE):BV:=bw (a L S) λv h=>match v with
 | .lst xs=>some (dS 0 xs,h)
 | .ro xs=>some (dS 0 xs,h)
 |_=>none
theorem EH{K:FG}{F:Aa}{m:List Addr}{H:Hp}{a:Addr}{T:List P}{xs:List V}(c:∀h n s,Stp F m H h n s->fq K s a xs)(r:bB K F H T xs):JG K (IZ K a) (dS 0 T) F m H:=by
 intro h n s st;have q:=c h n s st;have l:=r.length;refine⟨λi v e=>?_,⟨xs,q,by rw[nA,l];exact al _⟩⟩;obtain⟨d,b,rfl⟩:=nB e;obtain⟨x,k,p⟩:=r.get b;refine⟨⟨xs,x,q,k⟩,λz w y=>?_⟩;obtain⟨u,y,rfl,f,rfl,t⟩:=y;have:y=x:=by have:=t xs q;rw[k]at this;cases this;rfl
 subst this;refine⟨h,bq f,RP.newTup f ⟨_,_,rfl,?_,_,_,rfl,RP.mono st p,rfl⟩⟩;show V.int (i:Int)=V.int (0+(i:Int));rw[lA]
theorem iE{es:Ab}{n:Nat}{a:Expr}{C:EV}{p h:Pos}(hg:Gl X "enumerate")(hm:X.g "enumerate"=none)(ha:PE X a (tV X.K C))(D:starEach [a] X.e=[(false,eval a X.e)]):PI X (.Tuple es n N) (.Call (.Name "enumerate" p) [a] [] h) (tI X.K (Ro C)):=by
 intro B s J H R I ⟨F,m,L,S,T,S',r,l,q,k⟩;obtain⟨v,P,Z,q⟩:=ak q;have hA:PA X [a] (pi X.K (O C ah)):=F6 ha IV (by rw[D];rfl);refine Call_ (ir I hg hm yL (g6 (b_ (hA h B s J H (λxs f=>∃c t,Stp F m H c t f/\Rel X.K c f t P/\bB X.K c f [v] xs) I ⟨F,m,L,S,[v],P,r,l,?_,λxs c t f x i o=>⟨c,t,x,i,o⟩⟩) λus x ⟨xs,f,d,G,c,t,st,i,o⟩=>?_) (by rw[D];rfl) rfl))
 .simp only[O,ah,Z,ac]
 obtain⟨x1,rfl,E⟩:=ri o;obtain⟨u,rfl,ru⟩:=vals1 G;have go:∀{a:Addr}{xs:List V},x1=.ref a->fq X.K f a xs->R (IZ X.K a) f->wpAny (model X.p X.w) X.A (call (.type "enumerate") [u]) (λv x=>wpAny (model X.p X.w) X.A (pyIter v) (Pd X B J (.Tuple es n N) R) X.xe x) X.xe x:=λ{a xs} e hq q=>by
  subst e;cases ru;obtain⟨its,G,pl,hz⟩:=d.list hq;refine call_enumerate_list pl.isList λh' A z hsz hk=>?_
  refine sU A ?_;have w:∀b,x.heap.objs.size≤b->f b=none:=λb j=>d.h.fresh j;refine⟨x.heap.objs.size+1,[x.heap.objs.size+1,x.heap.objs.size],_,_,f,rfl,d.kept (t':=x.toks) hk,BW a _ _ (bA (d6 _)),⟨⟨_,A⟩,z⟩,λb j=>?_,q⟩;have y:b=x.heap.objs.size+1\/b=x.heap.objs.size:=by simpa using j
  rcases y with rfl|rfl
  .exact d.fpOk (iV _) (w _ (iV _))
  .exact d.fpOk (al _) (w _ (al _))
 cases v with
 |lst W=>cases q;obtain⟨a,xs,rfl,g,K⟩:=E;exact go rfl g.sq (k _ c t f st i (EH (λM m2 Q s=>(g.kp s.kp).sq) K))
 |ro W=>cases q;obtain⟨a,xs,rfl,g,K⟩:=E;exact go rfl g.sq (k _ c t f st i (EH (λM m2 Q s=>(g.kp s.kp).sq) K))
 |_=>cases q
end
open PySem.AutoSeq1 (wpAny_loadPart')
theorem FE(n:Nat):(gO n=true)=(n≤1000000):=by unfold gO;simp
variable{d:Type}{Q:d->Shared->Prop}
theorem PD(h:c=false)(k:wpAny M A b Q E s):wpAny M A (if c=true then a else b) Q E s:=by rw[h,aj be];exact k
theorem SQ(h:c=true)(k:wpAny M A a Q E s):wpAny M A (if c=true then a else b) Q E s:=by rw[h,ag rfl];exact k
theorem wk(a:Array Value)(n:Nat):∀b:Array Value,((List.replicate n a).foldl (·++·) b).size=b.size+n * a.size:=by
 induction n with
 |zero=>intro b;simp
 |succ n i=>intro b;rw[cn,gv,i,t6,tm];lia
theorem G6(l:Addr)(i:Array Value)(n:Nat)(dd:Option Addr)(e:Array (OV))(x:Int)(u:Tok)(b:-1000000 < x/\x < 1000000)(c:(i.isEmpty ||x == 1)=true) :
  Meets (Builtin.«tuple.__mul__» ⟨[.ref l,.int x u],[]⟩) (λ_ R s=>s.heap.get? l=some { cls:=.type "tuple",dict:=dd,data:=.seq i n,slots:=e }/\R (.ok (.ret (Value.ref l))) s):=
 .of_wp λprog w A R s h=>by
  obtain⟨p,g,d,t,os⟩:=s;obtain⟨a,h⟩:=h;have f:=yA;have k:=yB
  wp_walk using iR a
  refine PD (by rw[aX (by lia),aX (by lia)];rfl) ?_
  wp_walk using iR a
  exact⟨_,rfl,h⟩
theorem G5(l:Addr)(i:Array Value)(n:Nat)(dd:Option Addr)(p:Array (OV))(x:Int)(u:Tok)(o:-1000000 < x/\x < 1000000)(f:¬(i.isEmpty ||x == 1)=true)(z:i.size * x.toNat≤1000000) :
  Meets (Builtin.«tuple.__mul__» ⟨[.ref l,.int x u],[]⟩) (fun _ R s=>s.heap.get? l=some { cls:=.type "tuple",dict:=dd,data:=.seq i n,slots:=p } /\
   R (.ok (.ret (Value.ref s.heap.objs.size))) { s with heap:=s.heap.push { cls:=Value.type "tuple",data:=Data.seq ((List.replicate x.toNat i).foldl (·++·) #[]) } }):=
 .of_wp λprog w A R s h=>by
  obtain⟨H,g,d,F,os⟩:=s;obtain⟨a,h⟩:=h;have j:=yA;have y:=yB
  wp_walk using iR a
  refine PD (by rw[aX (by lia),aX (by lia)];rfl) ?_
  wp_walk using iR a
  have k:i.isEmpty=false:=by
   cases e:i.isEmpty with
   |false=>rfl
   |true=>rw[e]at f;simp at f
  by_cases b:x≤0
  .refine SQ (by rw[df b];rfl) ?_;have c:x.toNat=0:=by lia
   rw[c]at h
   wp_walk using iR a
   exact⟨_,rfl,h⟩
  .refine PD (by rw[aX b,k];rfl) ?_;have t:(i.size:Int) * x≤1000000:=by
    have:((i.size * x.toNat:Nat):Int)≤1000000:=by lia
    rw[yF,yG (by lia)]at this;exact this
   have m:¬(i.size:Int) * x > (2 ^ 63-1) / 8:=by lia
   dsimp only;rw[aj m];have S:(1000000:Int)≤(sizeLine:Int):=by decide
   refine PD (show JH _=false from aX (by lia)) ?_;have r:¬(o4 (λq v=>q++v) #[] (List.replicate x.toNat i)).size > sizeLine:=by
    have e:=wk i x.toNat #[];rw[e];have:x.toNat * i.size≤1000000:=by rw[o0];exact z
    have:(1000000:Nat)≤sizeLine:=by decide
    simp only[aY,zg];lia
   wp_walk using iR a
   exact⟨_,rfl,h⟩
theorem Hm(a:Int)(t:Tok)(l:Addr)(i:Array Value)(n:Nat)(dd:Option Addr)(x:Array (OV)) :
  Meets (Builtin.«int.__rmul__» ⟨[.int a t,.ref l],[]⟩) (λ_ R s=>s.heap.get? l=some { cls:=.type "tuple",dict:=dd,data:=.seq i n,slots:=x }/\R (.ok (.ret Value.notImplemented)) s):=
 .of_wp λprog w A R s h=>by
  obtain⟨p,g,d,k,os⟩:=s;obtain⟨e,h⟩:=h
  wp_walk
  exact⟨_,rfl,h⟩
theorem B':fillsNumberSlot (.type "tuple") "mul"=pure false:=
 PySem.fillsNumberSlot_seq (id:="tuple.__mul__") (r:=some (.builtin "tuple.__rmul__")) pe.lookup (by decide +kernel) Ae.lookup (by decide +kernel)
theorem KI:seqRepeat? (.type "tuple")=pure (some (.builtin "tuple.__mul__")):=by unfold seqRepeat?;rw[AM (T:="tuple") (name:="__mul__") (id:="tuple.__mul__") pe.lookup (by decide +kernel)];first|rfl|(rw[AM (T:="tuple") (name:="__rmul__") (id:="tuple.__rmul__") Ae.lookup (by decide +kernel)];rfl)
section
variable{X:Cx}
theorem x_(i:LV)(k:Nat):(List.replicate k i.toArray).foldl (·++·) #[]=(List.replicate k i).flatten.toArray:=by
 have:∀(m:Nat)(b:LV),(List.replicate m i.toArray).foldl (·++·) b.toArray=(b++(List.replicate m i).flatten).toArray:=by
  intro m;induction m with
  |zero=>intro b;simp
  |succ m x=>intro b;rw[cn,gv,List.append_toArray,x,cn,dD,lI]
 have h:=this k [];rw[kl]at h;exact h
theorem AR(r:aU xs v):∀k:Nat,aU (List.replicate k xs).flatten (List.replicate k v).flatten
 |0=>.nil
 |k+1=>by rw[cn,cn,dD,dD];exact r.append (AR r k)
theorem Lx(xs:List d)(k:Nat):(List.replicate k xs).flatten.length=xs.length * k:=by
 induction k with
 |zero=>rfl
 |succ k i=>rw[cn,dD,bc,i,Nat.mul_succ];lia
def dU:P->P->Option P
 | .tup xs,.int n=>if (gO (xs.length * n.toNat) && decide (n.natAbs < 1000000))=true then some (.tup (List.replicate n.toNat xs).flatten) else none
 |x,y=>u4 x y
theorem Lf:oQ X (binaryOp .Mult) dU:=by
 intro B s J H x y v u Q I G L h;obtain⟨F,z,S,d,R,D,E,q,k⟩:=h;have f:u4 z S=some d->wpAny (model X.p X.w) X.A (binaryOp .Mult v u) (EP X B J Q) X.xe s:=λq=>N4 B s J H x y v u Q I G L ⟨F,z,S,d,R,D,E,q,k⟩
 cases z with
 |tup j=>
  cases S with
  |int n=>
   simp only[dU]at q;split at q
   .rename_i g;rw[az,FE]at g;have W:=aL g.2;cases q;obtain⟨a,xs,rfl,M,C⟩:=D;cases (show y=.int n from E);cases G;obtain⟨t,rfl⟩:=L;have K:=C.length;obtain⟨i,r,⟨o,e,c,m,dd⟩,Z⟩:=I.tuple M.sq;have l:=r.length;obtain⟨oc,A,ot,os⟩:=o;dsimp only at c dd;subst c dd;refine CZ (T:="tuple") (U:="int") (by decide) ⟨_,e,rfl⟩ (λV=>pF V n t) B' zX pb KI z0.lookup
     (eF pb (pF s n t) zZ (z3 _ _) (Hm n t a i.toArray m A os) ⟨e,rfl,⟨_,e,rfl⟩,?_⟩)
    by_cases p:(i.toArray.isEmpty ||n == 1)=true
    .refine eF pe ⟨_,e,rfl⟩ z_ (Af _ _) (G6 a i.toArray m A os n t (by lia) p) ⟨e,⟨.ref a,H,I,rfl,k _ F H .refl ?_⟩⟩;have N:(List.replicate n.toNat j).flatten=j:=by
      rw[tY]at p;rcases p with p|p
      .have:i=[]:=by simpa using p
       have:j=[]:=eh (by rw[K,l,this];rfl);subst this;simp
      .have:n=1:=by simpa using p
       subst this;simp
     rw[N];exact⟨a,xs,rfl,M,C⟩
    .refine eF pe ⟨_,e,rfl⟩ z_ (Af _ _) (G5 a i.toArray m A os n t (by lia) p (by rw[aY,<- l,<- K];exact g.1)) ⟨e,?_⟩;rw[x_];have w:H s.heap.objs.size=none:=I.h.fresh (al _);have P:(List.replicate n.toNat xs).flatten.length≤sizeLine:=by
      rw[Lx,<- K];exact ba g.1 (by decide)
     refine⟨.ref s.heap.objs.size,_,I.laid (t':=s.toks) (o:=.tup (List.replicate n.toNat xs).flatten) (λb ob q=>aF _ q) (al _) ⟨P,_,AR r n.toNat,nQ.new _ _⟩,rfl,k _ F _ (bq w) (.newTup w (C.rep n.toNat))⟩
   .cases q
  |_=>exact f q
 |_=>exact f q
noncomputable def ve:List P->Option P
 | [.lst xs]=>some (.lst xs)
 | [.ro xs]=>some (.lst xs)
 | [.tup xs]=>some (.lst xs)
 |_=>none
noncomputable def kD:List P->Option P
 | [.lst xs]=>some (.tup xs)
 | [.ro xs]=>some (.tup xs)
 | [.tup xs]=>some (.tup xs)
 |_=>none
theorem FK:cN X (.type "list") (rC X.K ve):=by
  intro B s J H xs u Q I r h;obtain⟨F,b,d,c,f,q,k⟩:=h;unfold ve at q;split at q;all_goals first
    |(cases q;done)
    | (cases q
       obtain⟨x,rfl,p⟩:=ri f;obtain⟨a,y,rfl,t,n⟩:=p;first
         |exact jf B s J H _ u Q I r ⟨a,y,rfl,.inl t.sq,λl e=>k _ _ _ (bS e) (.newLst e n)⟩
         |exact jf B s J H _ u Q I r ⟨a,y,rfl,.inr t.sq,λl e=>k _ _ _ (bS e) (.newLst e n)⟩)
theorem CI:cN X (.type "tuple") (rC X.K kD):=by
  intro B s J H xs u Q I r h;obtain⟨F,b,d,c,f,q,k⟩:=h;unfold kD at q;split at q;all_goals first
    |(cases q;done)
    | (cases q
       obtain⟨x,rfl,p⟩:=ri f;obtain⟨a,y,rfl,t,n⟩:=p;first
         |exact lg B s J H _ u Q I r ⟨a,y,rfl,.inl ⟨t.sq,λl e=>k _ F _ (bq e) (.newTup e n)⟩⟩
         |exact lg B s J H _ u Q I r ⟨a,y,rfl,.inr ⟨t.sq,k _ F H .refl ⟨a,y,rfl,t,n⟩⟩⟩)
noncomputable def BL:List P->Option P
 | [.int i]=>some (.int (if i < 0 then -i else i))
 |_=>none
theorem IR:cN X (.builtin "abs") (rC X.K BL):=by
 intro B s J H xs u Q I r h;obtain⟨F,e,d,f,a,q,k⟩:=h;unfold BL at q;split at q
 .cases q;obtain⟨x,rfl,p⟩:=ri a;exact FI B s J H _ u Q I r ⟨_,by rw[show x=_ from p],k _ F H .refl rfl⟩
 .cases q
variable{e:Expr}{es:Ab}{fs:j'}{p N:Pos}
theorem JN(g:Gl X "list")(m:X.g "list"=none)(a:PA X (e::es) (pi X.K fs))(x:starEach (e::es) X.e=(false,eval e X.e)::starEach es X.e)(h:(backTo N (starEach es X.e)).any (·.1)=false) :
  PE X (.Call (.Name "list" p) (e::es) [] N) (tV X.K (aG ve fs)):=xq FK g m oY a (by decide) (by decide) x h
theorem GW(g:Gl X "tuple")(m:X.g "tuple"=none)(a:PA X (e::es) (pi X.K fs))(x:starEach (e::es) X.e=(false,eval e X.e)::starEach es X.e)(h:(backTo N (starEach es X.e)).any (·.1)=false) :
  PE X (.Call (.Name "tuple" p) (e::es) [] N) (tV X.K (aG kD fs)):=xq CI g m yW a (by decide) (by decide) x h
theorem M4(g:Gl X "abs")(m:X.g "abs"=none)(a:PA X (e::es) (pi X.K fs))(x:starEach (e::es) X.e=(false,eval e X.e)::starEach es X.e)(h:(backTo N (starEach es X.e)).any (·.1)=false) :
  PE X (.Call (.Name "abs" p) (e::es) [] N) (tV X.K (aG BL fs)):=xt IR g m GJ a (by decide) (by decide) x h
@[simp] def c0(r:EE)(a:EV)(L:Lc)(S:aE):rg:=bw (r L S) λd e=>match eQ d e with
 |none=>none
 |some _=>bw (a L e) λx h=>match eQ d h,x with
  |some (i,s),.lst y=>if gO (s.length+y.length)=true then some (.p .non,h.set i (.lst (s++y.map .p))) else none
  |some (i,s),.tup y=>if gO (s.length+y.length)=true then some (.p .non,h.set i (.lst (s++y.map .p))) else none
  |_,_=>none
end
section
variable{X:Cx}
theorem IB{u h:Array Value}{i j:Nat}{d:Option Addr}{k:Array (OV)}(few:u.size+h.size≤sizeLine)(n:¬(!u.isEmpty && kc (u.size+h.size))=true) :
  Meets (Builtin.«list.extend» ⟨[.ref p,.ref v],[]⟩) λ_ R s=>s.heap.get? p=some { cls:=.type "list",data:=.seq u i }/\s.heap.get? v=some ⟨.type "tuple",d,.seq h j,k⟩/\R (.ok (.ret .none)) { s with heap:=s.heap.update p (gY (·++h)) }:=
 .of_wp λprog w A R s z=>by
  obtain⟨o,t,go⟩:=z;obtain⟨e,a,dr,f,os⟩:=s;have m:u.size≤sizeLine:=ba (Nat.le_add_right ..) few;have r:(u++h).size≤sizeLine+1:=by rw[t6];lia
  have g:=@Gc;have x:=@Gd
  wp_walk using wpAny_updateSeq o rfl (hz:=m) (_hz':=r),iR o,iR t
  exact⟨_,rfl,go⟩
def NJ(X:Cx):V->List V->Hp->VK->Prop:=λx T H Q=>∃l b xs z,x=.ref l/\T=[.ref b]/\H l=some (.lst xs)/\(H b=some (.lst z)\/kF X.K H b z)/\xs.length+z.length≤sizeLine/\Q .non (br H l (.lst (xs++z)))
theorem HS:P5 X "list.extend" (NJ X):=by
 intro B s J H x T v K Q I d p h;obtain⟨l,b,xs,P,rfl,rfl,f,a,c,q⟩:=h;rcases a with a|a
 .exact Cb B s J H _ _ v K Q I d p ⟨l,b,xs,P,rfl,rfl,f,a,c,q⟩
 cases d;obtain⟨u,rfl,S⟩:=p.one;cases S;obtain⟨z,t,n,r,D,e⟩:=I.lstM f;obtain⟨i,m,⟨A,G,C,L⟩,j,⟨w,E,g⟩,o⟩:=I.tupleN a;cases w;cases g;cases o;have k:t.toArray.size+i.toArray.size≤sizeLine:=by rw[aY,aY,<- r.length,<- m.length];exact c
 have y:¬(!t.toArray.isEmpty && kc (t.toArray.size+i.toArray.size))=true:=by rw[qg k,zF];exact be
 refine eF t8 ⟨_,e,rfl⟩ zT (zU _ _) (IB k y) ⟨e,j,?_⟩;refine⟨.non,_,I.lset (z:=t++i) f e (by simp) (r.append m) ?_,rfl,q⟩;rw[bc];lia
end
section
variable{X:Cx}{o e:Expr}{I q:EE}{C:EV}{j h N:Pos}
theorem G1(ho:PE X o (tE X.K I))(he:PE X e (tV X.K C))(W:starEach [e] X.e=[(false,eval e X.e)])
  (g:attributeBase o "extend" X.e (eval o X.e)=eval o X.e) (K:(j.endLine == h.line)=true):PE X (.Call (.Attribute o "extend" j) [e] [] h) (tE X.K (c0 I C)):=
 (Jk lO t8 PySem.F.type_list_extend HS ho (cq he dI (by rw[W];rfl)) g (by rw[W];rfl) K (by rw[W];rfl) rfl).imp' λJ H Q hz=>by
  obtain⟨F,m,L,S,d,S',r,l,q,k⟩:=hz;obtain⟨x,N,e1,q⟩:=ak q;refine⟨F,m,L,S,x,N,r,l,e1,λv F1 m1 H1 s1 r1 Z=>?_⟩;cases T:eQ x N with
  |none=>rw[T]at q;cases q
  |some z=>
   obtain⟨i,ds⟩:=z;rw[T]at q;dsimp only at q;obtain⟨rfl,es⟩:=hV T;obtain⟨a,rfl,hm⟩:=id Z;obtain⟨xs,hH,rs⟩:=r1.obj i a _ hm es;refine⟨.inl ⟨rfl,xs,fq.of hH⟩,?_⟩;obtain⟨y,S2,e2,q⟩:=ak q;refine⟨F1,m1,L,N,y,S2,r1,l.mono s1,e2,λu P B A M D p2=>?_⟩;cases w:eQ (.ref i) S2 with
   |none=>rw[w]at q;cases q
   |some z=>
    obtain⟨i2,ds2⟩:=z;rw[w]at q;obtain⟨e3,n⟩:=hV w;cases e3;cases y with
    |lst ys=>
     dsimp only at q;split at q
     .rename_i V;cases q;obtain⟨a2,R,s⟩:=RD.mono M Z;cases R;obtain⟨t,f,c⟩:=D.obj i a _ s n;obtain⟨b,p,rfl,tb,G⟩:=p2;have E:∀p,A a≠some (.tup p):=λp z=>by rw[f]at z;cases z
      have st:Stp P B A P B (br A a (.lst (t++p))):=dE D s n trivial E;refine⟨a,b,t,p,rfl,rfl,f,.inl tb.2,by rw[<- c.length,<- G.length];exact gC V,?_⟩;exact k .non P B _ (s1.trans (M.trans st)) (D.set s n trivial E ⟨_,aC,bI.mono st (c.append (bI.ofP G))⟩) rfl
     .cases q
    |tup ys=>
     dsimp only at q;split at q
     .rename_i V;cases q;obtain⟨a2,R,s⟩:=RD.mono M Z;cases R;obtain⟨t,f,c⟩:=D.obj i a _ s n;obtain⟨b,p,rfl,tb,G⟩:=p2;have E:∀p,A a≠some (.tup p):=λp z=>by rw[f]at z;cases z
      have st:Stp P B A P B (br A a (.lst (t++p))):=dE D s n trivial E;refine⟨a,b,t,p,rfl,rfl,f,.inr tb.sq,by rw[<- c.length,<- G.length];exact gC V,?_⟩;exact k .non P B _ (s1.trans (M.trans st)) (D.set s n trivial E ⟨_,aC,bI.mono st (c.append (bI.ofP G))⟩) rfl
     .cases q
    |_=>cases q
noncomputable abbrev sS:=Lc->aE->Option (List D×aE)
noncomputable abbrev Nj:=Option (List D×aE)
inductive tDsI(K:FG)(f:sS)(J:L2.St)(H:Hp)(Q:List V->Hp->Prop):Prop
 |mk (F:Aa) (m:List Addr) (L:Lc) (S:aE) (ds:List D) (S':aE) (h0_:Rel K F H m S) (h1_:RL K F H m J L) (h2_:f L S=some (ds,S')) (h3_:∀xs F' m' H',Stp F m H F' m' H'->Rel K F' H' m' S'->bI K F' H' m' ds xs->Q xs H'):tDsI K f J H Q
noncomputable def wU(K:FG)(f:sS):TA:=λJ H Q=>tDsI K f J H Q
@[simp] def aI(_L:Lc)(S:aE):Nj:=some ([],S)
@[simp] def af(a:EE)(r:sS)(L:Lc)(S:aE):Nj:=bw (a L S) λx h=>bw (r L h) λxs e=>some (x::xs,e)
variable{es:Ab}{fs:sS}
theorem Jz:PA X [] (wU X.K aI):=dI.imp' λJ H Q h=>by obtain⟨F,m,L,S,d,x,r,l,q,k⟩:=h;cases q;exact k [] F m H .refl r rfl
theorem Fv(u:PE X e (tE X.K q))(g:PA X es (wU X.K fs))(i:starEach (e::es) X.e=(false,eval e X.e)::starEach es X.e):PA X (e::es) (wU X.K (af q fs)):=
 (cq u g i).imp' λJ H Q z=>by obtain⟨F,m,L,S,d,t,r,l,h,k⟩:=z;obtain⟨x,a,p,h⟩:=ak h;obtain⟨xs,C,w,h⟩:=ak h;cases h;refine⟨F,m,L,S,x,a,r,l,p,λv f j B s P o=>?_⟩;refine⟨f,j,L,a,xs,t,P,l.mono s,w,λT b y c n A K=>?_⟩;exact k (v::T) b y c (s.trans n) A ⟨v,T,rfl,RD.mono n o,K⟩
def Jv(a:sS):EE:=λL S=>bw (a L S) λxs h=>if few xs=true then some (.ref h.length,h++[.lst xs]) else none
theorem M9(h:PA X es (wU X.K fs)):PE X (.List es N) (tE X.K (Jv fs)):=(xM h).imp' λJ H Q z=>by
 obtain⟨F,m,L,S,d,u,r,l,q,k⟩:=z;obtain⟨xs,c,t,q⟩:=ak q;split at q
 .rename_i v;cases q;refine⟨F,m,L,S,xs,c,r,l,t,λT x a e w f n=>⟨by rw[<- n.length];exact jZ v,λp s=>?_⟩⟩;have b:Stp x a e x (a++[p]) (br e p (.lst T)):=bY s;refine k (.ref p) x (a++[p]) _ (w.trans b) (f.own s ⟨T,aC,bI.mono b n⟩) ⟨p,rfl,?_⟩;rw[<- f.len,bF (al _)];simp
 .cases q
noncomputable abbrev GF:=List D->aE->Option (D×aE)
inductive spRI(K:FG)(g:GF)(vs:List V)(H:Hp)(Q:VK):Prop
 |mk (F:Aa) (m:List Addr) (ds:List D) (S:aE) (d:D) (S':aE) (h0_:Rel K F H m S) (h1_:bI K F H m ds vs) (h2_:g ds S=some (d,S')) (h3_:∀v F' m' H',Stp F m H F' m' H'->Rel K F' H' m' S'->RD K F' H' m' d v->Q v H'):spRI K g vs H Q
noncomputable def nc(K:FG)(g:GF):Sp:=λT H Q _=>spRI K g T H Q
@[simp] def nG(g:GF)(a:sS)(L:Lc)(S:aE):rg:=bw (a L S) λd h=>g d h
theorem J0(G:FnOk X.p X.w X.K X.g X.b nR k f fd ps (nc X.K u))(A:Room k X.A)(K:Gl X x)(P:X.g x=some (.ref f))(hk:fw X.K (.ref f)=true)(z:Binds X.K fd ps [])
  (y:PA X (e::es) (wU X.K fs)) (h:(x == ("__debug__":Str))=false) (o:starEach (e::es) X.e=(false,eval e X.e)::starEach es X.e) (a:(backTo N (starEach es X.e)).any (·.1)=false) :
  PE X (.Call (.Name x p) (e::es) [] N) (tE X.K (nG u fs)):=
 (uF G A K P hk z .nil qe y h o a).imp' λJ H Q B=>by obtain⟨F,m,L,S,d,i,r,l,q,k⟩:=B;obtain⟨b,n,j,q⟩:=ak q;refine⟨F,m,L,S,b,n,r,l,j,λxs c C w s I p=>?_⟩;show nc X.K u (xs++[]) w Q E0;rw[cW];exact⟨c,C,b,n,d,i,I,p,q,λv t D g R M E=>k v t D g (s.trans R) M E⟩
noncomputable def v5(n:Nat):D->Bool
 | .p _=>true
 | .ref i=>decide (i < n)
def HW(n:Nat):SO->Bool
 | .lst d=>d.all (v5 n)
 | .dct _ d=>d.all (v5 n)
 | .fz _=>true
 | .ins _ _ d=>d.all (v5 n)
 | .dtn _ d=>d.all (v5 n)
 | .dtt _ d=>d.all (v5 n)
 | .fn o=>o.all λz=>z.2.all (v5 n)
def trunc(n:Nat)(S:aE):aE:=if (S.take n).all (HW n)=true then S.take n else S
@[simp] def aP(g:GF)(a:sS)(L:Lc)(S:aE):tyV:=bw (a L S) λs h=>bw (g s h) λd x=>bw (toP 9 d x) λv e=>some (v,trunc h.length e)
end
section
variable{K:FG}{F:Aa}{H:Hp}{m:List Addr}{S:aE}
theorem RD.low(h:RD K F H m u v)(l:v5 n u=true):RD K F H (m.take n) u v:=by
 cases u with
 |p w=>exact h
 |ref i=>obtain⟨a,e,x⟩:=h;exact⟨a,e,by rw[cY (aL l)];exact x⟩
theorem bI.low:∀{s:List D}{xs:List V},bI K F H m s xs->s.all (v5 n)=true->bI K F H (m.take n) s xs
 | [],_,h,_=>h
 |d::s,_,h,l=>by obtain⟨x,r,e,a,k⟩:=h;rw[iY,az]at l;exact⟨x,r,e,a.low l.1,bI.low k l.2⟩
theorem Rel.trunc(r:Rel K F H m S)(D:n≤m.length)(h:(S.take n).all (HW n)=true):Rel K F H (m.take n) (S.take n) where
 len:=by rw[cX,cX,r.len]
 nd:=r.nd.sublist (zo _ _)
 obj:=λi a o b p=>by
  have u:i < n:=by have:=(bg.mp b).1;rw[cX]at this;lia
  rw[cY u]at b;have lo:=bD.mp h o (dg p);rw[cY u]at p;have t:=r.obj i a o b p;cases o with
  |lst q=>obtain⟨xs,x,s⟩:=t;exact⟨xs,x,s.low lo⟩
  |dct g q=>obtain⟨k,x,e,s⟩:=t;exact⟨k,x,e,s.low lo⟩
  |fz v=>exact t
  |ins c g q=>obtain⟨C,y,k,z,x,e,s⟩:=t;exact⟨C,y,k,z,x,e,s.low lo⟩
  |dtn g q=>obtain⟨k,x,e,B,s⟩:=t;exact⟨k,x,e,B,s.low lo⟩
  |dtt g q=>obtain⟨k,x,e,s⟩:=t;exact⟨k,x,e,s.low lo⟩
  |fn E=>intro j d l;obtain⟨v,P,A⟩:=t j d l;subst l;exact⟨v,P,A.low lo⟩
 sep:=λi a o b p w f=>by
  have u:i < n:=by have:=(bg.mp b).1;rw[cX]at this;lia
  rw[cY u]at b p;exact r.sep i a o b p w f
 trk:=λa h=>r.trk a (List.mem_of_mem_take h)
 ft:=r.ft
theorem Stp.trunc(s:Stp F m H u v H'):Stp F m H u (v.take m.length) H':=by
 obtain⟨n,e⟩:=s.pre;have x:v.take m.length=m:=by rw[e];simp
 rw[x];exact⟨⟨[],by simp⟩,s.oth,s.frz,s.frk,s.tup,s.trk,s.nf,λ_ h=>.inl h,s.cod⟩
end
section
variable{X:Cx}{e:Expr}{es:Ab}{fs:sS}{N:Pos}
theorem GY(G:FnOk X.p X.w X.K X.g X.b nR k f fd ps (nc X.K u))(hr:Room k X.A)(hg:Gl X x)(hm:X.g x=some (.ref f))(hk:fw X.K (.ref f)=true)(W:Binds X.K fd ps [])
  (V:PA X (e::es) (wU X.K fs)) (b:(x == ("__debug__":Str))=false) (Z:starEach (e::es) X.e=(false,eval e X.e)::starEach es X.e) (g:(backTo N (starEach es X.e)).any (·.1)=false) :
  PE X (.Call (.Name x p) (e::es) [] N) (tV X.K (aP u fs)):=
 (uF G hr hg hm hk W .nil qe V b Z g).imp' λJ H Q hz=>by
  obtain⟨F,m,L,S,d,S',r,l,q,k⟩:=hz;obtain⟨o,h,M,q⟩:=ak q;obtain⟨I,E,R,q⟩:=ak q;obtain⟨v1,a,T,q⟩:=ak q;cases q;refine⟨F,m,L,S,o,h,r,l,M,λxs C i D B P p1=>?_⟩;show nc X.K u (xs++[]) D Q E0;rw[cW];refine⟨C,i,o,h,I,E,P,p1,R,λv F2 j z s2 r2 p2=>?_⟩;obtain⟨y,s3,A,l3,K⟩:=m9 9 T r2 p2;have st:=s2.trans s3;have s:=P.len;by_cases c:(a.take h.length).all (HW h.length)=true
  .have t:Ev.trunc h.length a=a.take h.length:=ag c;rw[t]at k;have w:i.length≤j.length:=by
    obtain⟨nn,e⟩:=st.pre;rw[e,bc];lia
   have rt:=A.trunc (n:=h.length) (by rw[<- s];exact w) c;refine k v y (j.take i.length) z (B.trans st.trunc) ?_ K;rw[s];exact rt
  .have t:Ev.trunc h.length a=a:=aj c;rw[t]at k;exact k v y j z (B.trans st) A K
end
section
variable{X:Cx}{a b c e o i g:Expr}{C t L l z:EV}{I q:EE}{N G:Pos}
def q_ (i:Expr):Prop:=∀(o:Expr) (N:Pos) (r:Env) (v:Value),assign (.Subscript o i N) r v=(do
 let h <- holding [v] (eval o r)
 let x <- holding [v,h] (eval i r)
 standAt N
 holding [v,h,x] (setItem h x v)
 release [v,h,x] [])
def DO(o:EE)(k v:EV):ES:=λL S=>bw (v L S) λy x=>bw (o L x) λd a=>bw (k L a) λz h=>match eQ d h,z with
 |some (i,s),.int n=>match CS s.length n with
  |some j=>some (.nx,L,h.set i (.lst (s.set j (.p y))))
  |none=>none
 |_,_=>none
theorem bI.setAt{K:FG}{F:Aa}{H:Hp}{m:List Addr}{d:D}{v:V}(h:RD K F H m d v):∀{s:List D}{xs:List V}(j:Nat),bI K F H m s xs->bI K F H m (s.set j d) (xs.set j v)
 | [],_,_,r=>by cases (show _=([]:List V) from r);exact rfl
 |_::_,_,0,r=>by obtain⟨x,a,rfl,p,r⟩:=r;exact⟨v,a,rfl,h,r⟩
 |_::_,_,j+1,r=>by obtain⟨x,a,rfl,p,r⟩:=r;exact⟨x,_,rfl,p,bI.setAt h j r⟩
theorem MT(ho:PE X o (tE X.K I))(hi:PE X i (tV X.K l))(hv:PE X g (tV X.K z))(hs:swapsWith g (some (.Subscript o i G)) N.line X.e=pure false)(hw:swappedStores [.Subscript o i G] g X.e=pure none)(A:q_ i) :
  PS X (.Assign [.Subscript o i G] g N) (i_ X.K (DO I l z)):=(D3 hv (KZ ho hi DL (A o G X.e)) hs hw).imp' λD J H hz=>by
 obtain⟨F,m,L,S,fl,L',S',r,h,q,k⟩:=hz;obtain⟨y,Q,e1,q⟩:=ak q;obtain⟨d,R,e2,q⟩:=ak q;obtain⟨e,T,e3,q⟩:=ak q;refine⟨F,m,L,S,y,Q,r,h,e1,λv M W H1 c r1 p1=>?_⟩;refine⟨M,W,L,Q,d,R,r1,h.mono c,e2,λx F2 m2 H2 p r2 p2=>?_⟩;refine⟨F2,m2,L,R,e,T,r2,(h.mono c).mono p,e3,λw s b f u E p3=>?_⟩;cases P:eQ d T with
 |none=>rw[P]at q;cases q
 |some t=>
  obtain⟨j,ds⟩:=t;rw[P]at q;cases e with
  |int n=>
   dsimp only at q;cases K:CS ds.length n with
   |none=>rw[K]at q;cases q
   |some C=>
    rw[K]at q;cases q;obtain⟨rfl,es⟩:=hV P;obtain⟨a,rfl,B⟩:=RD.mono u p2;obtain⟨xs,V,rs⟩:=E.obj j a _ B es;have pv:RD X.K s f b (.p y) v:=RD.mono u (RD.mono p (show RD X.K M H1 W (.p y) v from p1));cases (show w=.int n from p3);have Z:∀zs,f a≠some (.tup zs):=λzs e=>by rw[V]at e;cases e
    have st:Stp s b f s b (br f a (.lst (xs.set C v))):=dE E B es trivial Z;refine⟨a,xs,n,C,rfl,rfl,V,by rw[<- rs.length];exact K,?_⟩;exact k J s b _ (c.trans (p.trans (u.trans st))) (E.set B es trivial Z ⟨_,aC,bI.mono st (bI.setAt pv C rs)⟩) (((h.mono c).mono p).mono (u.trans st))
  |_=>cases q
def nU(o:EE)(k v:EV):ES:=λL S=>match Hk o k v L S with
 |some r=>some r
 |none=>DO o k v L S
theorem MU(j:X.A.units+1 < cLine)(d:PE X o (tE X.K I))(v:PE X i (tV X.K l))(u:PE X g (tV X.K z))(w:swapsWith g (some (.Subscript o i G)) N.line X.e=pure false)(y:swappedStores [.Subscript o i G] g X.e=pure none)(t:q_ i) :
  PS X (.Assign [.Subscript o i G] g N) (i_ X.K (nU I l z)):=λB s J H D x h=>by
 obtain⟨F,m,L,S,b,n,f,r,a,q,k⟩:=h;cases c:Hk I l z L S with
 |some e=>
  have p:some e=some (b,n,f):=by have:=q;unfold nU at this;rw[c]at this;exact this
  cases p;exact P_ j d v u w B s J H D x ⟨F,m,L,S,b,n,f,r,a,c,k⟩
 |none=>
  have p:DO I l z L S=some (b,n,f):=by have:=q;unfold nU at this;rw[c]at this;exact this
  exact MT d v u w y t B s J H D x ⟨F,m,L,S,b,n,f,r,a,p,k⟩
@[simp] def m5(g n:P->P->Option P)(a b c:EV)(L:Lc)(S:aE):tyV:=bw (a L S) λx e=>bw (b L e) λy h=>match g x y with
 |some (.bl true)=>bw (c L h) λz s=>(n y z).map λv=>(v,s)
 |some (.bl false)=>some (.bl false,h)
 |_=>none
theorem wF{g p:P->P->Option P}{J:L2.St}{H:Hp}{Q:VK}(h:tV X.K (m5 g p C t L) J H Q):xz (rP X.K g) (rP X.K p) (tV X.K C) (tV X.K t) (tV X.K L) J H Q:=by
 obtain⟨F,m,a,S,d,S',r,l,q,k⟩:=h;obtain⟨x,K,e1,q⟩:=ak q;obtain⟨y,A,e2,q⟩:=ak q;refine⟨F,m,a,S,x,K,r,l,e1,λv R m1 H1 I r1 p1=>?_⟩;refine⟨R,m1,a,K,y,A,r1,l.mono I,e2,λu T j H2 M D B=>?_⟩;cases c:g x y with
 |none=>rw[c]at q;cases q
 |some z=>
  rw[c]at q;cases z with
  |bl e=>
   refine⟨T,x,y,_,D.ft,RP.mono M p1,B,c,λw b o i p3=>⟨e,p3,?_⟩⟩;have n:Stp F m H b j o:=I.trans (M.trans i.stp);have E:=D.grow i;cases e with
   |false=>rw[aj be];cases q;exact k _ b j o n E rfl
   |true=>
    rw[ag rfl];dsimp only at q;obtain⟨z,S3,e3,q⟩:=ak q;refine⟨b,j,a,A,z,S3,E,l.mono n,e3,λw' V m4 H4 N G p4=>?_⟩;cases s:p y z with
    |none=>rw[s]at q;cases q
    |some z2=>rw[s]at q;cases q;exact⟨V,y,z,_,G.ft,RP.mono N (RP.grow i B),p4,s,λw2 W Z f p5=>k w2 W m4 Z (n.trans (N.trans f.stp)) (G.grow f) p5⟩
  |_=>cases q
theorem JZ(n:oQ X (compareOp op) v)(o:oQ X (compareOp u) g')(x:PE X a (tV X.K C))(e:PE X b (tV X.K t))(s:PE X c (tV X.K L))(m:lastMarks [op,u] [b,c]=false) :
  PE X (.Compare a [op,u] [b,c] N) (tV X.K (m5 v g' C t L)):=(Eb n o x e s m).imp' λ_ _ _ h=>wF h
theorem JM(z:oQ X (compareOp op) u)(o:oQ X (compareOp op') g')(g:PE X a (tV X.K C))(i:PE X b (tV X.K t))(j:PE X c (tV X.K L))(y:lastMarks [op,op'] [b,c]=false) :
  PT X (.Compare a [op,op'] [b,c] N) (tQ X.K (bV (m5 u g' C t L))):=(DZ z o g i j y).imp' λJ H Q h=>by
 refine wF ?_;obtain⟨F,m,e,S,d,A,r,l,q,k⟩:=h;obtain⟨x,B,w,q⟩:=ak q;cases x with
 |bl b=>cases q;exact⟨F,m,e,S,_,_,r,l,w,λv n K f s P p=>⟨_,p,k n K f s P⟩⟩
 |_=>cases q
def kH:P->Option Bool
 | .non=>some false
 | .bl b=>some b
 | .int i=>some (i != 0)
 | .str x=>if gO x.length=true then some ((x.length:Int) != 0) else none
 | .tup xs=>some (!xs.isEmpty)
 | .lst xs=>some (!xs.isEmpty)
 | .ro xs=>some (!xs.isEmpty)
 | .dct k _=>some (!k.isEmpty)
def oA:D->aE->Option Bool
 | .p v,_=>kH v
 | .ref i,S=>match S[i]? with
  |some (.lst d)=>some (!d.isEmpty)
  |some (.dct k _)=>some (!k.isEmpty)
  |some (.fz v)=>kH v
  |_=>none
@[simp] def bT(f:EE)(L:Lc)(S:aE):Mq:=bw (f L S) λd h=>(oA d h).map λb=>(b,h)
theorem hX{xs:List d}{y:List β}(h:xs.length=y.length):xs.isEmpty=y.isEmpty:=by cases xs<;>cases y<;>first|rfl|simp at h
theorem lR(p:RP X.K F H w v)(h:kH w=some u):Mj X.K v H u:=by
 cases w with
 |non=>cases (show v=.non from p);cases h;rfl
 |bl b=>cases (show v=.bl b from p);cases h;rfl
 |int b=>cases (show v=.int b from p);cases h;rfl
 |str x=>
  cases (show v=.str x from p);simp only[kH]at h;split at h
  .rename_i c;cases h;exact⟨gC c,rfl⟩
  .cases h
 |tup d=>obtain⟨a,xs,rfl,t,r⟩:=p;cases h;exact .inr (.inl ⟨xs,t.sq,by rw[hX r.length]⟩)
 |lst d=>obtain⟨a,xs,rfl,t,r⟩:=p;cases h;exact .inl ⟨xs,t.sq,by rw[hX r.length]⟩
 |ro d=>obtain⟨a,xs,rfl,t,r⟩:=p;cases h;exact .inl ⟨xs,t.sq,by rw[hX r.length]⟩
 |dct s d=>obtain⟨a,k,rfl,_,hk,e,r⟩:=p;cases h;exact .inr (.inr ⟨k,hk,by rw[<- e];cases k<;>rfl⟩)
theorem yT(h:PE X e (tE X.K q))(D:∀o,isTrue e X.e o=(do let v <- o;standAt e.pos;holding [v] (truthy v))):PT X e (tQ X.K (bT q)):=
 (DY h D).imp' λJ H Q E=>by
  obtain⟨F,m,L,S,d,M,r,l,s,k⟩:=E;obtain⟨x,P,B,s⟩:=ak s;cases n:oA x P with
  |none=>rw[n]at s;cases s
  |some t=>
   rw[n]at s;cases s;refine⟨F,m,L,S,x,_,r,l,B,λv z G K I c i=>⟨_,?_,k z G K I c⟩⟩;cases x with
   |p w=>exact lR i n
   |ref j=>
    obtain⟨a,rfl,g⟩:=i;simp only[oA]at n;split at n
    .rename_i A f;cases n;obtain⟨xs,u,y⟩:=c.obj j a _ g f;exact .inl ⟨xs,fq.of u,by rw[hX y.length]⟩
    .rename_i N A f;cases n;obtain⟨b,u,C,y⟩:=c.obj j a _ g f;exact .inr (.inr ⟨b,u,by rw[<- C];cases b<;>rfl⟩)
    .rename_i w f;exact lR (c.obj j a _ g f) n
    .cases n
@[simp] def nh(g:kE)(f:EV)(L:Lc)(S:aE):Dw:=bw (f L S) λv x=>match g v L with
 |some h=>some (.nx,h,x)
 |none=>none
theorem P9(p:PE X e (tV X.K C))(d:PG X tg (gT X.K u))(w:swapsWithSole [tg] e N.line X.e=pure false)(i:swappedStores [tg] e X.e=pure none)(t:(assignEach [tg] X.e).map (·.2)=[assign tg X.e]) :
  PS X (.Assign [tg] e N) (i_ X.K (nh u C)):=(D3 p d w i t).imp' λD J H z=>by
 obtain⟨F,m,L,S,A,K,P,r,l,q,k⟩:=z;obtain⟨v,b,c,q⟩:=ak q;refine⟨F,m,L,S,v,b,r,l,c,λx h a n s o y=>?_⟩;cases g:u v L with
 |none=>rw[g]at q;cases q
 |some L2=>rw[g]at q;cases q;exact⟨h,a,L,v,_,l.mono s,y,g,λf j=>k f h a n s o j⟩
def gj:P->P->Option P
 | .tup [],.tup s=>some (.tup s)
 |x,y=>u7 x y
theorem Ma{M:Program}{w:World}{A:Around}{E:VP}{s:Shared}{t b:Addr}{a:LV}{Q:VP}(n:IsTup s.heap t #[])(e:IsTup s.heap b a.toArray)(h:Q (.ref b) s):wpAny (model M w) A (binaryOp .Add (.ref t) (.ref b)) Q E s:=by obtain⟨o,g,k,m,l⟩:=id n;obtain⟨p,x,f,r,c⟩:=id e;cases o;cases p;cases k;cases l;cases f;cases c;exact ui ⟨_,g,rfl⟩ ⟨_,x,rfl⟩ w8 wY uc ud (uf _ _) (tuple_addW0 t b #[] a.toArray m r _ _ _ _ rfl) ⟨g,x,h⟩
theorem Lg:oQ X (binaryOp .Add) gj:=by
 intro B s J H x y v u Q I r m h;obtain⟨F,e,n,d,t,c,p,q,k⟩:=h;have o:u7 e n=some d->wpAny (model X.p X.w) X.A (binaryOp .Add v u) (EP X B J Q) X.xe s:=λq=>Oc B s J H x y v u Q I r m ⟨F,e,n,d,t,c,p,q,k⟩
 cases e with
 |tup f=>
  cases n with
  |tup es=>
   cases f with
   |nil=>cases q;obtain⟨a,xs,rfl,S,z⟩:=c;obtain⟨b,C,rfl,K,A⟩:=id p;cases (show xs=[] from z);cases r;cases m;obtain⟨w,l,g,_⟩:=I.tuple S.sq;obtain⟨i,P,j,_⟩:=I.tuple K.sq;cases l;exact Ma g j ⟨.ref b,H,I,rfl,k _ F H .refl p⟩
   |cons _ _=>exact o q
  |_=>cases f<;>exact o q
 |_=>exact o q
def vj(K:FG)(m:SV)(x:Str)(v:P):Prop:=∃u w,m x=some u/\RelV w u/\∀F H,RP K F H v w
theorem M_(g:Gl X x)(h:vj X.K X.g x v)(d:(x == ("__debug__":Str))=false):PE X (.Name x N) (tV X.K (vC v)):=by obtain⟨u,w,m,r,p⟩:=h;exact xC (HD g m r d) p
end
section
variable{X:Cx}{a:Expr}{C:EE}{p N:Pos}
end
noncomputable def cO(f:Str):LS->List D->Option D
 |k::h,d::s=>if k=f then some d else cO f h s
 |_,_=>none
noncomputable def putK(f:Str):LS->LS
 | []=>[f]
 |k::s=>if k=f then k::s else k::putK f s
noncomputable def ip(f:Str)(y:D):LS->List D->List D
 | [],_=>[y]
 |k::h,d::s=>if k=f then y::s else d::ip f y h s
 |_::_,[]=>[]
def gn(K:FG)(c:Str)(C:Addr):Prop:=i5 K mainGlobals c=some (some (.ref C))
variable{K:FG}
theorem gn.inj(h:gn K c v)(x:gn K c u):v=u:=by have:=h.symm.trans x;cases this;rfl
def P8(K:FG)(A:Str->Str->Bool):Prop:=∀c f,A c f=true->∃C,gn K c C/\Cls K C/\lw K C f
section
variable{K:FG}{F:Aa}{H:Hp}{m:List Addr}
theorem Bi:∀{a:List (Str×V)}{s:List D}{d:D},bI K F H m s (a.map (·.2))->cO f (a.map (·.1)) s=some d->∃v,a.lookup f=some v/\RD K F H m d v
 | [],s,d,_,h=>by cases s<;>cases h
 |(k,x)::r,s,d,p,h=>by
  cases s with
  |nil=>cases h
  |cons q s=>
   obtain⟨y,w,e,c,t⟩:=p;simp only[aD,List.cons.injEq]at e;obtain⟨rfl,rfl⟩:=e;simp only[aD,cO]at h;split at h
   .rename_i hk;cases h;subst hk;exact⟨x,by simp[eI],c⟩
   .rename_i hk;obtain⟨v,n,b⟩:=Bi t h;exact⟨v,by rw[o9,show(f == k)=false by simpa using λz=>hk z.symm];exact n,b⟩
theorem uL:∀{v:List (Str×V)},(v.map (·.1)).contains f=false->v.lookup f=none
 | [],_=>rfl
 |(k,x)::r,h=>by simp only[aD,List.contains_cons,Bool.or_eq_false_iff]at h;rw[o9,h.1];exact uL h.2
theorem DW(h:RD K F H m u v):∀{s:List (Str×V)}{d:List D},bI K F H m d (s.map (·.2))->(io f v s).map (·.1)=putK f (s.map (·.1))/\bI K F H m (ip f u (s.map (·.1)) d) ((io f v s).map (·.2))
 | [],d,n=>⟨rfl,v,[],rfl,h,rfl⟩
 |(k,x)::r,d,n=>by
  cases d with
  |nil=>cases (show _=([]:List V) from n)
  |cons t d=>
   obtain⟨z,p,e,b,a⟩:=n;simp only[aD,List.cons.injEq]at e;obtain⟨rfl,rfl⟩:=e;by_cases hk:k=f
   .simp only[io,hk,g8,aD,putK,ip];first|exact⟨rfl,v,_,rfl,h,a⟩|exact⟨trivial,v,_,rfl,h,a⟩
   .obtain⟨i,c⟩:=DW h a;simp only[io,hk,gq,aD,putK,ip];exact⟨by rw[i],x,_,rfl,b,c⟩
end
section
variable{X:Cx}{o e g:Expr}{f:Str}{N G j:Pos}{I z:EE}{A:Str->Str->Bool}{es:Ab}{fs:sS}
@[simp] def a8(A:Str->Str->Bool)(o:EE)(f:Str)(L:Lc)(S:aE):rg:=bw (o L S) λd h=>match d with
 | .ref i=>match h[i]? with
  |some (.ins c k s)=>if A c f=true then (cO f k s).map λz=>(z,h) else none
  |_=>none
 |_=>none
theorem QA(B:P8 X.K A)(V:PE X o (tE X.K I))(G:attributeBase o f X.e (eval o X.e)=eval o X.e):PE X (.Attribute o f N) (tE X.K (a8 A I f)):=(K6 V G).imp' λJ H Q Z=>by
 obtain⟨F,m,L,S,d,S',r,l,q,k⟩:=Z;obtain⟨x,u,y,q⟩:=ak q;refine⟨F,m,L,S,x,u,r,l,y,λv b m1 t s1 n p1=>?_⟩;cases x with
 |p w=>cases q
 |ref i=>
  obtain⟨a,rfl,R⟩:=p1;dsimp only at q;split at q
  .rename_i c ks g W;split at q
   .rename_i E;cases h:cO f ks g with
    |none=>rw[h]at q;cases q
    |some z=>rw[h]at q;cases q;obtain⟨C,j,s,P,D,rfl,rs⟩:=n.obj i a _ R W;obtain⟨C',e,M,T⟩:=B c f E;cases gn.inj P e;obtain⟨v,K,p3⟩:=Bi rs h;exact⟨a,C,j,s,v,rfl,D,M,T,K,k v b m1 t s1 n p3⟩
   .cases q
  .cases q
@[simp] def dt(A:Str->Str->Bool)(o:EE)(f:Str)(v:EE)(L:Lc)(S:aE):Dw:=bw (v L S) λy x=>bw (o L x) λd h=>match d with
 | .ref i=>match h[i]? with
  |some (.ins c k s)=>if (A c f && decide (k.length < 900))=true then some (.nx,L,h.set i (.ins c (putK f k) (ip f y k s))) else none
  |_=>none
 |_=>none
theorem JK(hA:P8 X.K A)(ho:PE X o (tE X.K I))(hv:PE X g (tE X.K z))(e:swapsWith g (some (.Attribute o f G)) N.line X.e=pure false):PS X (.Assign [.Attribute o f G] g N) (i_ X.K (dt A I f z)):=(KS ho hv e).imp' λD J H hz=>by
 obtain⟨F,m,L,S,fl,L',S',r,l,q,k⟩:=hz;obtain⟨y,Q,e1,q⟩:=ak q;obtain⟨d,S2,e2,q⟩:=ak q;refine⟨F,m,L,S,y,Q,r,l,e1,λv Z m1 H1 E r1 p1=>?_⟩;refine⟨Z,m1,L,Q,d,S2,r1,l.mono E,e2,λx n P b M B p2=>?_⟩;cases d with
 |p w=>cases q
 |ref i=>
  obtain⟨a,rfl,K⟩:=p2;dsimp only at q;split at q
  .rename_i c ks ds e;split at q
   .rename_i j;rw[az]at j;cases q;obtain⟨C,t,s,R,T,rfl,rs⟩:=B.obj i a _ K e;obtain⟨C',u,hc,hn⟩:=hA c f j.1;cases gn.inj R u;have hl:s.length < 1000:=by have:=aL j.2;rw[bv]at this;lia
    have V:∀W,b a≠some (.tup W):=λW h=>by rw[T]at h;cases h
    have st:Stp n P b n P (br b a (.ins C t (io f v s))):=dE B K e trivial V;obtain⟨i1,i2⟩:=DW (f:=f) (RD.mono st (RD.mono M p1)) (bI.mono st rs);exact⟨a,C,t,s,rfl,T,hc,hn,hl,k J n P _ (E.trans (M.trans st)) (B.set K e trivial V ⟨C,t,_,R,aC,i1,i2⟩) ((l.mono E).mono (M.trans st))⟩
   .cases q
  .cases q
@[simp] def cz(M:Str->Str->Option GF)(o:EE)(y:Str)(a:sS)(L:Lc)(S:aE):rg:=bw (o L S) λd h=>match d with
 | .ref i=>match h[i]? with
  |some (.ins c k _)=>match M c y with
   |some g=>if k.contains y=true then none else bw (a L h) λT x=>g (.ref i::T) x
   |none=>none
  |_=>none
 |_=>none
def P6(X:Cx)(M:Str->Str->Option GF):Prop:=∀c y g,M c y=some g->∃C k f d p,gn X.K c C/\Cls X.K C/\Meth X.K C y f/\FnOk X.p X.w X.K X.g X.b nR k f d p (nc X.K g)/\Room k X.A/\Binds X.K d p []
variable{M:Str->Str->Option GF}{y:Str}
theorem sm(hM:P6 X M){t:TE}{ta:TA}(b:∀C k f u j g,Cls X.K C->Meth X.K C y f->FnOk X.p X.w X.K X.g X.b nR k f u j (nc X.K g)->Room k X.A->Binds X.K u j []->PE X e (DG C y (nc X.K g) [] E0 (tE X.K I) (wU X.K fs))):PE X e (tE X.K (cz M I y fs)):=by
 intro B s J H Q n h;obtain⟨F,m,L,S,d,S',r,l,q,k⟩:=h;obtain⟨x,P,e1,q⟩:=ak q;cases x with
 |p w=>cases q
 |ref i=>
  dsimp only at q;split at q
  .rename_i c ks ds hs;split at q
   .rename_i g hg;split at q
    .cases q
    .rename_i hk;obtain⟨T,A,e2,q⟩:=ak q;obtain⟨C,kk,f,u,j,ec,hc,hm,hF,hr,hb⟩:=hM c y g hg;refine b C kk f u j g hc hm hF hr hb B s J H Q n ⟨F,m,L,S,.ref i,P,r,l,e1,λv R m1 H1 G E D=>?_⟩;obtain⟨a,rfl,o⟩:=id D;obtain⟨C',dx,K,z,hH,rfl,rs⟩:=E.obj i a _ o hs;cases gn.inj ec z;refine⟨a,dx,K,rfl,hH,uL (by simpa using hk),R,m1,L,P,T,A,E,l.mono G,e2,λxs W m2 H2 N r2 p2=>?_⟩;show nc X.K g (V.ref a::(xs++[])) H2 Q E0;rw[cW];exact⟨W,m2,.ref i::T,A,d,S',r2,⟨_,_,rfl,RD.mono N D,p2⟩,q,λv Z m3 H3 s3 r3 p3=>k v Z m3 H3 (G.trans (N.trans s3)) r3 p3⟩
   .cases q
  .cases q
theorem M7(x:P6 X M)(n:PE X o (tE X.K I))(a:PA X (e::es) (wU X.K fs))(s:starEach (e::es) X.e=(false,eval e X.e)::starEach es X.e)(h:(backTo N (starEach es X.e)).any (·.1)=false)
  (p:eval (.Call (.Attribute o y j) (e::es) [] N) X.e=(do
   let v <- eval o X.e
   standAt j.atName
   let (f,first) <- holding [v] (getMethod v y u)
   callWith N f first (backTo N (starEach (e::es) X.e)) (backToKw N (keywordEach [] X.e)))) :
  PE X (.Call (.Attribute o y j) (e::es) [] N) (tE X.K (cz M I y fs)):=
 sm (t:=tE X.K I) (ta:=wU X.K fs) x λC k f d q g c m F r b=>HC n c m F r b .nil qe a s h p
theorem JQ(i:P6 X M)(B:PE X o (tE X.K I))
  (E:eval (.Call (.Attribute o y j) [] [] N) X.e=(do
   let u <- eval o X.e
   standAt j.atName
   let (f,first) <- holding [u] (getMethod u y pl)
   callWith N f first (backTo N (starEach [] X.e)) (backToKw N (keywordEach [] X.e)))) :
  PE X (.Call (.Attribute o y j) [] [] N) (tE X.K (cz M I y aI)):=
 sm (t:=tE X.K I) (ta:=wU X.K aI) i λC k f fd ps g K A p D z=>(D7 B K A p D z .nil qe E).imp' λJ H Q h=>by obtain⟨F,m,L,S,d,n,r,l,q,k⟩:=h;refine⟨F,m,L,S,d,n,r,l,q,λv e R x s' Z V=>?_⟩;obtain⟨a,c,fs,rfl,w,P,s,T,L2,S2,ds,b,r2,l2,W,G⟩:=k v e R x s' Z V;cases W;exact⟨a,c,fs,rfl,w,P,G [] s T x .refl r2 rfl⟩
@[simp] def gb(g:GF)(c:Str)(a:sS)(L:Lc)(S:aE):rg:=bw (a L S) λT h=>match g (.ref h.length::T) (h++[.ins c [] []]) with
 |some (.p .non,x)=>some (.ref h.length,x)
 |_=>none
theorem M8{C f:Addr}{o:FuncData}{K:LS}{k:Nat}{x:Str}{p:Pos}{g:GF}(M:Mk X.K C f)(G:FnOk X.p X.w X.K X.g X.b nR k f o K (nc X.K g))(hr:Room (k+1) X.A)(hg:Gl X x)(hm:X.g x=some (.ref C))(Z:gn X.K x C)(hb:Binds X.K o K [])
  (ha:PA X (e::es) (wU X.K fs)) (i:(x == ("__debug__":Str))=false) (he:starEach (e::es) X.e=(false,eval e X.e)::starEach es X.e) (z:(backTo N (starEach es X.e)).any (·.1)=false) :
  PE X (.Call (.Name x p) (e::es) [] N) (tE X.K (gb g x fs)):=
 (A6 M G hr hg hm hb .nil qe ha i he z).imp' λJ H Q hz=>by
  obtain⟨F,m,L,S,d,S',r,l,q,k⟩:=hz;obtain⟨T,t,R,q⟩:=ak q;refine⟨F,m,L,S,T,t,r,l,R,λxs s a b s1 P p1=>λy h hy w j=>?_⟩;split at q
  .rename_i _ S2 V;cases q;have A:Stp s a b s a (br b h (.own y)):=eM w;have r2:Rel X.K s (br b h (.own y)) a t:=P.new w;have u:br b h (.own y) y=none:=by rw[ar (aH j)];exact hy
   have B:Stp s a (br b h (.own y)) s (a++[y]) (br (br b h (.own y)) y (.ins C h [])):=bY u;have r3:Rel X.K s (br (br b h (.own y)) y (.ins C h [])) (a++[y]) (t++[.ins x [] []]):=r2.own u ⟨C,h,[],Z,aC,rfl,rfl⟩;rw[cW];have c:(a++[y])[t.length]? = some y:=by rw[<- P.len,bF (al _)];simp
   refine⟨s,a++[y],.ref t.length::T,_,.p .non,_,r3,⟨_,_,rfl,⟨y,rfl,c⟩,bI.mono B (bI.mono A p1)⟩,V,λv E m4 I D r4 p4=>⟨p4,?_⟩⟩;refine k (.ref y) E m4 I (s1.trans (A.trans (B.trans D))) r4 ⟨y,rfl,?_⟩;obtain⟨n,W⟩:=D.pre;rw[W,bE (bg.mp c).1];exact c
  .cases q
end
variable{r:Env}
theorem Lv(h:attributeBase o y r (eval o r)=eval o r)(e:methodCallForm (v.length+([]:List Keyword).length) (backTo N (starEach v r)) (backToKw N (keywordEach [] r))=true)(l:(j.endLine == N.line)=true) :
  eval (.Call (.Attribute o y j) v [] N) r=(do
   let u <- eval o r
   standAt j.atName
   let (f,first) <- holding [u] (getMethod u y (do return (<- importBound o r).getD true))
   callWith N f first (backTo N (starEach v r)) (backToKw N (keywordEach [] r))):=by
 have x:methodCallPos true o r j N=pure N:=by unfold methodCallPos;rw[l];rfl
 have a:∀u,methodCall o y j N r u (v.length+([]:List Keyword).length) (backTo N (starEach v r)) (backToKw N (keywordEach [] r))=(do
   let (f,first) <- holding [u] (getMethod u y (do return (<- importBound o r).getD true))
   callWith N f first (backTo N (starEach v r)) (backToKw N (keywordEach [] r))):=λu=>by
  unfold methodCall;rw[e,x];rfl
 have s:eval (.Call (.Attribute o y j) v [] N) r=(do
  let u <- attributeBase o y r (eval o r)
  standAt j.atName
  methodCall o y j N r u (v.length+([]:List Keyword).length) (backTo N (starEach v r)) (backToKw N (keywordEach [] r))):=by rfl
 rw[s,h];simp only[a]
section
variable{X:Cx}{o e g:Expr}{f:Str}{N G tpos:Pos}{I:EE}{z:EV}{A:Str->Str->Bool}
def DP(i:Nat)(v:EV):ES:=λL S=>match L[i]? with
 |some (some (.p (.int a)))=>bw (v L S) λy h=>match y with
  | .int b=>some (.nx,L.set i (some (.p (.int (a+b)))),h)
  |_=>none
 |_=>none
theorem Qc(i:Nat)(d:X.N.Nodup)(h:PE X e (tV X.K z))(g:X.N[i]? = some x)(j:L2.Loc X.e.scope x)(u:X.fn x=true\/X.e.scope.names.lookup x=some .local):PS X (.AugAssign (.Name x G) .Add e N) (i_ X.K (DP i z)):=
 (KU d g j h LP u).imp' λD J H o=>by
  obtain⟨F,m,L,S,M,C,E,r,l,q,k⟩:=o;unfold DP at q;split at q
  .rename_i a w;obtain⟨y,I,t,q⟩:=ak q;cases y with
   |int b=>cases q;obtain⟨B,p,P⟩:=l.at' i _ w;cases (show B=.int a from P);refine⟨_,p,F,m,L,S,_,_,r,l,t,λv s f n c A K=>?_⟩;cases (show v=.int b from K);exact⟨a,b,rfl,rfl,k _ s f n c A ((l.mono c).set (show RD X.K s n f (.p (.int (a+b))) (.int (a+b)) from rfl) i)⟩
   |_=>cases q
  .cases q
end
variable{F:Aa}{H:Hp}
theorem vK:∀h:LS,bB K F H (h.map .str) (h.map V.str)
 | []=>rfl
 |s::r=>⟨_,_,rfl,rfl,vK r⟩
variable{x:Str}
theorem kB(s:LS)(h:u x=some (.ref a))(hk:K.lookup a=some ⟨.type "tuple",none,.seq v n,sl⟩)(z:v.size≤sizeLine)(e:aU (s.map V.str) v.toList):vj K u x (.tup (s.map .str)):=
 ⟨.ref a,.ref a,h,rfl,λF H=>⟨a,s.map V.str,rfl,.inr (.inr ⟨_,v,n,hk,rfl,rfl,rfl,z,e⟩),vK s⟩⟩
open PySem.W (KasT kas_sort kas_ask kas_item kat_run kat_snds kat_lt kat_kind KatTups KatLex kat_nil kat_cons kat_yes kat_no kat_one)
noncomputable def OJ{d:Type}(lt:Nat->Nat->Option Bool):KasT d->Option d
 | .ret a=>some a
 | .ask i j k=>match lt i j with
  |some b=>OJ lt (k b)
  |none=>none
theorem Fb{d:Type}{lt:Nat->Nat->Option Bool}{c:Nat->Nat->(Bool->Shared->Prop)->Shared->Prop}{Q:d->Shared->Prop}{s:Shared}(x:∀i j b C,lt i j=some b->C b s->c i j C s){a:d}(q:Q a s) :
  ∀(t:KasT d),OJ lt t=some a->t.kasWp c Q s
 | .ret _,h=>by cases h;exact q
 | .ask i j k,h=>by
  simp only[OJ]at h;split at h
  .rename_i b e;exact x i j b _ e (Fb x q (k b) h)
  .cases h
section
variable{prog:Program}{w:World}{A:Around}{E:VP}{s:Shared}{D:Addr}{T:LV}
theorem wm(few:T.length < 2):((arrOf (SortSt.mk' general' (T.toArray.zip T.toArray) #[] 7 none)).map (·.2))=T.toArray:=by
 have same:(T.toArray.zip T.toArray).map (·.2)=T.toArray:=by
  rcases T with _|⟨v,_|⟨u,r⟩⟩
  .simp
  .simp
  .exact absurd few (by simp)
 exact same
theorem E_(few:T.length < 2)(a:s.heap.get? D=some (seqObj "list" T.toArray k))
  (go:∀n c,(∀b o,b≠D->s.heap.get? b=some o->n.get? b=some o)->n.get? D=some (seqObj "list" T.toArray c)->v (.done (.ret .none)) { s with heap:=n }) :
  wpAny (model prog w) A (Builtin.«list.sort» ⟨[.ref D],[]⟩) v E s:=by
 have m:T.length+1≤sizeLine:=by rw[jM];lia
 have cond:T.toArray.size < 2:=by simpa using few
 have h:=yN a λ_=>(#[]:Array Value);rw[list_sort_plain];refine ae <|listItems_at a rfl <|ae <|yJ a rfl (ae <|seqEpoch_at h rfl <|ae <|w1 (ae <|An (cF ?_) (bW _)) (by simpa using tt m)) (by simpa using tt m) (bW _);simp only[cond,g8];have p:∀b o,(s.heap.update D (gY λ_=>(#[]:Array Value))).get? b=some o->((((s.heap.update D (gY λ_=>(#[]:Array Value))).push { cls:=.type "tuple",data:=.seq T.toArray }).push { cls:=.type "list",data:=.seq ([]:LV).toArray })).get? b=some o:=
  λ_ _ q=>aF _ (aF _ q)
 have t:=p D _ h;refine ae <|aq <|ae <|aq ?_;refine ae <|seqEpoch_at t rfl <|ae <|yJ t rfl ?_ (bW _) (by rw[wm few];simpa using y4 (tt m));rw[wm few];have x:=yN t λ_=>T.toArray;simp only[bne_self_eq_false,lK,gq,failedOf];refine aq (go _ _ (λb o f e=>?_) x);exact((ka _ D _).2 b f).trans (p b o (((ka s.heap D _).2 b f).trans e))
theorem wO(q:∀a u,Q a u->v a u):∀(t:KasT d)(u:Shared),t.kasWp (kas_ask prog w A κ T) Q u->t.kasWp (kas_ask prog w A κ T) v u
 | .ret a,u,h=>q a u h
 | .ask _ _ k,_,h=>bN h (λb u e=>wO q (k b) u e) λ_ _ x=>x
theorem Hf{f:Heap}{L l:Addr}{m:SV}{d:PN}{a:String}{o:Obj}{n:Nat}{G:VP}(F:Fr f L s.heap m)(N:News f L s.heap d)(hT:a="list"\/a="tuple")(ho:s.heap.get? l=some o)(hc:o.cls=.type a)(hd:o.data=.seq T.toArray n)(C:T.length < 64)
  (h1:T.length < 2->∀D g c,s.heap.get? D=none->Fr f L g m->News f L g ((D,seqObj "list" T.toArray c)::d)->G (.ref D) { s with heap:=g })
  (h2:2≤T.length->∀D e g,s.heap.get? D=none->(∀q ∈ d,q.1≠D)->Fr f L g m->News f L g ((D,seqObj "list" #[] e)::d) ->
   wpAny (model prog w) A.in1.in1 (keyKind' T.toArray) (λR u=>(kas_sort T.length).kasWp (kas_ask prog w A.in1.in1 R T) (λp u=>C5 f L m D e (p.toList.map λi=>T.getD i Value.none) (λu=>G (.ref D) u) u) u) (λ_ _=>False) { s with heap:=g }) :
  wpAny (model prog w) A (call (.builtin "sorted") [.ref l]) G E s:=by
 have y:T.length≤sizeLine:=by rw[jM];lia
 refine Calls.call_function_entry (b:=Builtin.«sorted») kind_sorted plain_sorted entry_sorted (args_sorted1 (.ref l)) (ae (m:=checkCount "sorted" 1 1 1) <|aq <|ae <|wpAny_collect_seq l hT ho hc hd (λh k=>ae <|An ?_ y) y);have t:∀b,b=h.objs.size->s.heap.get? b=none:=λb hb=>by
  cases q:s.heap.get? b with
  |none=>rfl
  |some u=>exact absurd (av (k b u q)) (by rw[hb];exact d5 _)
 have Q:∀b u,s.heap.get? b=some u->(h.push { cls:=.type "list",data:=.seq T.toArray }).get? b=some u:=λb u e=>aF _ (k b u e);have H:(h.push { cls:=.type "list",data:=.seq T.toArray }).get? h.objs.size=some (seqObj "list" T.toArray 0):=aR _ rfl;have S:h.objs.size≠L:=λz=>by obtain⟨u,_,_,e,_⟩:=F.ns;rw[t L z.symm]at e;cases e
 have K:f.get? h.objs.size=none:=by
  rcases q:f.get? h.objs.size with _|u
  .rfl
  .have:=F.keep _ _ q;rw[t _ rfl]at this;cases this
 have neN:∀q ∈ d,q.1≠h.objs.size:=λq hq z=>by have:=(N q hq).1;rw[t _ z]at this;cases this
 have P:=F.keeps Q;have B:=N.keeps Q;refine ae (cF (mV (b:=Builtin.«list.sort») slot_list_sort ⟨_,H,rfl⟩ entry_list_sort ?_ (args_list_sort _)));by_cases few:T.length < 2
 .refine E_ (s:={ s with heap:=h.push { cls:=.type "list",data:=.seq T.toArray } }) few H λg c M e=>⟨_,rfl,aq ⟨_,rfl,h1 few _ g c (t _ rfl) ⟨?_,λb u q=>?_,F.above⟩ λq j=>?_⟩⟩
  .obtain⟨u,es,Z,X,r⟩:=P.ns;exact⟨u,es,Z,M L u S.symm X,r⟩
  .exact M b u (λz=>by rw[z,K]at q;cases q) (P.keep b u q)
  .rcases aM.mp j with rfl|j
   .exact⟨e,S,K⟩
   .exact⟨M _ _ (neN q j) (B q j).1,(B q j).2⟩
 .refine PySem.W.kat_list_sort (s:={ s with heap:=h.push { cls:=.type "list",data:=.seq T.toArray } }) P B H S K neN (by lia) C λe g V W=>?_;refine bN (h2 (by lia) _ e g (t _ rfl) neN V W) (λR u hu=>?_) λ_ _ x=>x;exact wO (λp v I=>I.mono λv I=>⟨_,rfl,aq ⟨_,rfl,I⟩⟩) _ _ hu
end
noncomputable def SF:P->P->Option Bool
 | .tup [.str a,.int i],.tup [.str b,.int j]=>some (if a=b then decide (i < j) else decide (a.cps.toList < b.cps.toList))
 |_,_=>none
noncomputable def Io:P->Bool
 | .tup [.str _,.int _]=>true
 |_=>false
theorem Im(h:Io v=true):∃a i,v=.tup [.str a,.int i]:=by
 unfold Io at h;split at h
 .exact⟨_,_,rfl⟩
 .cases h
def v4(d:List P)(i j:Nat):Option Bool:=match d[i]?,d[j]? with
 |some x,some y=>SF x y
 |_,_=>none
def rZ(d:List P):Option (List P):=if d.length < 2 then some d else if d.length < 64 then (OJ (v4 d) (kas_sort d.length)).bind λp=>if p.size < 64 then some (p.toList.map λi=>d.getD i .non) else none else none
def sortable(d:List P):Bool:=d.all Io
def wM(d:List P):Option P:=if sortable d=true then (rZ d).map .lst else none
def KV(h:Heap)(d:P)(v:Value):Prop:=∃x i a o n t u,d=.tup [.str x,.int i]/\v=.ref a/\h.get? a=some o/\o.cls=.type "tuple"/\o.data=.seq #[.str x t,.int i u] n
variable{β:Type}
theorem i':∀{xs:List d}{s:List β}{i:Nat}{x:d},Paired R xs s->xs[i]? = some x->∃y,s[i]? = some y/\R x y
 |_,_,_,_,.nil,h=>by simp at h
 |_,_,0,x,.cons (b:=b) r _,h=>⟨b,rfl,by simp at h;subst h;exact r⟩
 |_,_,i+1,x,.cons _ a,h=>by obtain⟨y,e,r⟩:=i' (i:=i) a (by simpa using h);exact⟨y,by simpa using e,r⟩
theorem gK{d β:Type}{R:d->β->Prop}:∀{xs:List d}{y:List β},Paired R xs y->xs.length=y.length
 |_,_,.nil=>rfl
 |_,_,.cons _ r=>by rw[bz,bz,gK r]
section
variable{prog:Program}{w:World}{A:Around}{E:VP}{s:Shared}
theorem IU{d:List P}{T:LV}{i j:Nat}{b:Bool}{C:Bool->Shared->Prop}(r:Paired (KV s.heap) d T)(h:v4 d i j=some b)(c:C b s):kas_ask prog w A (tuples' true) T i j C s:=by
 unfold v4 at h;split at h
 .rename_i x y m t;obtain⟨_,u,l,p,o,D,K,G,L,rfl,rfl,g,S,n⟩:=i' r m;obtain⟨_,v,z,q,H,E,B,I,M,rfl,rfl,f,F,k⟩:=i' r t;cases h;unfold kas_ask;rw[i0,i0,u,v];refine kat_lt g n f k (kat_cons (Av ?_));by_cases e:l=z
  .rw [ag e]at c;rw[df e];refine kat_yes (kat_cons (Au ?_));by_cases a:(p == q)=true
   .rw [a];rw[aX (by rw[eq_of_beq a];exact Int.lt_irrefl _)]at c;exact kat_yes (kat_nil c)
   .rw [Bool.not_eq_true]at a;rw[a];exact kat_no (kat_one _ _ (yQ (show PySem.W.BoolBack C (.bool _) s from c)))
  .rw [aj e]at c;rw[aX e];exact kat_no (oneLt_str c)
 .cases h
theorem v9:∀{s:List P}{T:LV},Paired (KV a0) s T->∃fs,KatTups a0 T fs/\fs.length=s.length/\∀v ∈ fs,∃x t,v=Value.str x t
 |_,_,.nil=>⟨[],.nil,rfl,λ_ z=>nomatch z⟩
 |d::s,_,.cons k r=>by
  obtain⟨fs,f,h,e⟩:=v9 r;obtain⟨x,i,a,o,n,t,u,rfl,rfl,p,c,b⟩:=k;refine⟨.str x t::fs,.cons (xs:=#[.str x t,.int i u]) p c b rfl f,by rw[bz,bz,h],λv m=>?_⟩;rcases aM.mp m with rfl|m
  .exact⟨x,t,rfl⟩
  .exact e v m
theorem Ie{d:List P}{T:LV}(r:Paired (KV s.heap) d T)(m:2≤T.length) :
  wpAny (model prog w) A (keyKind' T.toArray) (λk h=>h=s/\∀i j b C,v4 d i j=some b->C b h->kas_ask prog w A k T i j C h) (λ_ _=>False) s:=by
 obtain⟨fs,f,x,a⟩:=v9 r;refine kat_kind (T:=.type "str") f (by rw[x,gK r];lia) (λv n=>?_) rfl ⟨rfl,λi j b C e c=>IU r e c⟩;obtain⟨i,t,rfl⟩:=a v n;exact PySem.W.Looks.of_peek (K:=[]) (λ_ _ z=>nomatch z) rfl
end
section
variable{X:Cx}
theorem EC{B:PN}{J:L2.St}{H:Hp}{s:Shared}(I:Inv X B J H s){F:Aa}:∀{e:List P}{xs:List V}{k:LV},bB X.K F H e xs->aU xs k->sortable e=true->Paired (KV s.heap) e k
 | [],_,_,h,r,_=>by cases (show _=([]:List V) from h);cases r;exact .nil
 |d::e,_,_,h,r,q=>by
  obtain⟨x,D,rfl,w,g⟩:=h;obtain⟨l,z⟩:=Bool.and_eq_true_iff.mp (show(Io d && sortable e)=true from q);cases r with
  |cons S K=>refine .cons ?_ (EC I g K z);obtain⟨y,i,rfl⟩:=Im l;obtain⟨a,E,rfl,C,_,_,rfl,f,_,_,rfl,b,c⟩:=w;cases S;cases f;cases b;cases c;obtain⟨j,A,⟨o,v,m,n,p⟩,_⟩:=I.tuple C.sq;obtain⟨_,_,rfl,⟨t,rfl⟩,u,rfl⟩:=vals2 A;exact⟨y,i,a,o,n,t,u,rfl,rfl,v,m,p⟩
theorem Ng(r:aU xs v)(i:Nat):RelV (xs.getD i .non) (v.getD i Value.none):=by
 rw[i0,i0];cases e:xs[i]? with
 |none=>
  have l:=gK r;have:v[i]? = none:=by rw[zA]at e ⊢;lia
  rw[this];rfl
 |some x=>obtain⟨y,h,a⟩:=i' r e;rw[h];exact a
theorem AS{xs:List V}{t:LV}(r:aU xs t):∀p:List Nat,aU (p.map λi=>xs.getD i .non) (p.map λi=>t.getD i Value.none)
 | []=>.nil
 |i::p=>.cons (Ng r i) (AS r p)
theorem DR{K:FG}{F:Aa}{H:Hp}{s:List P}{xs:List V}(r:bB K F H s xs):∀p:List Nat,bB K F H (p.map λi=>s.getD i .non) (p.map λi=>xs.getD i .non)
 | []=>rfl
 |i::p=>by
  refine⟨_,_,rfl,?_,DR r p⟩;show RP K F H (s.getD i P.non) (xs.getD i V.non);rw[i0,i0];cases e:s[i]? with
  |none=>
   have l:=r.length;have:xs[i]? = none:=by rw[zA]at e ⊢;lia
   rw[this];rfl
  |some d=>obtain⟨x,h,a⟩:=r.get e;rw[h];exact a
theorem kA{B:PN}{J:L2.St}{H:Hp}{s:Shared}{r:Heap}{C:Nat}{m:SV}(I:Inv X B J H s)(S:s.heap.Ns X.e.locals m)(a:r.Ns X.e.locals m)(k:∀b o,b≠X.e.locals->s.heap.get? b=some o->r.get? b=some o):Inv X B J H { s with heap:=r,toks:=C }:=by
 have L:∀b u,H b=some u->b≠X.e.locals:=λb u e z=>by rw[z,I.free]at e;cases e
 refine I.step (g':=s.gens) (d':=s.drawn) (ch:=[]) (λ_ z=>nomatch z) (λb o h _ _ e _=>k b o h e) (λb o h _ _ e _=>⟨o.slots,k b o h e⟩) (λ_ _ _ _ n=>n) (λb o _ e=>?_) (λ_ _ e=>e) (λ_ _ _ e=>e) (λ_ e=>e) (λP y=>?_) (λb u e=>?_) I.bare
 .by_cases h:b=X.e.locals
  .subst h;obtain⟨A,_,_,w,_⟩:=a;exact⟨A,w⟩
  .exact⟨o,k b o h e⟩
 .obtain⟨o,es,D,F,l,E,t⟩:=S;obtain⟨G,i,g,f,d,K,p⟩:=y;rw[F]at f;cases f;rw[l]at d;cases d;have:m=P:=funext λx=>(t x).symm.trans (p x);rw[<- this];exact a
 .refine (I.h b u e).stay (λc v j q=>k c v ?_ q) (λ_ q=>q) λ_ _ q=>q;rcases j with z|z
  .rw [z];exact L b u e
  .exact L c _ z
theorem lZ{g h x:Heap}{L:Addr}{m:SV}(k:∀b o,g.get? b=some o->h.get? b=some o)(F:Fr g L x m)(N:News g L x (mP g h L)):∀b o,b≠L->h.get? b=some o->x.get? b=some o:=λb o a e=>by
 cases q:g.get? b with
 |some u=>have:=k b u q;rw[e]at this;cases this;exact F.keep b _ q
 |none=>exact(N (b,o) (v3 a q e)).1
theorem Lk{P:Program}{w:World}{H:Hp}{h:Heap}{a:Addr}{o:HO}(x:cM P w H h a o):∃u,h.get? a=some u:=by
 cases o with
 |lst xs=>obtain⟨_,_,_,_,e⟩:=x;exact⟨_,e⟩
 |tup xs=>obtain⟨_,_,_,_,e,_⟩:=x;exact⟨_,e⟩
 |dK k=>obtain⟨_,_,_,_,_,_,_,e,_⟩:=x;exact⟨_,e⟩
 |dT k=>obtain⟨_,_,_,_,_,_,_,e,_⟩:=x;exact⟨_,e⟩
 |dN k=>obtain⟨_,_,_,_,_,_,_,e,_⟩:=x;exact⟨_,e⟩
 |set S n=>obtain⟨_,_,_,_,e,_⟩:=x;exact⟨_,e⟩
 |ins C d fs=>obtain⟨_,_,_,e,_⟩:=x;exact⟨_,e⟩
 |own y=>exact x
 |xd fs=>obtain⟨_,⟨_,_,_,e,_⟩,_⟩:=x;exact⟨_,e⟩
 |rng lo i=>obtain⟨_,_,_,e⟩:=x;exact⟨_,e⟩
 |frz b u=>exact⟨_,x.1⟩
 |tbl=>obtain⟨_,e,_⟩:=(show qZ H h a from x);exact⟨_,e⟩
 |met f y=>exact⟨_,(show h.get? a=some _ from x)⟩
 |ext s=>exact x.2.1
theorem EM{B:PN}{J:L2.St}{H:Hp}{s:Shared}{D:Addr}(I:Inv X B J H s)(h:s.heap.get? D=none):H D=none:=by
 cases q:H D with
 |none=>rfl
 |some v=>obtain⟨u,e⟩:=Lk (I.h D v q);rw[h]at e;cases e
theorem Ci{B:PN}{J:L2.St}{H:Hp}{s:Shared}{t:Heap}{S:Nat}{m:SV}{D:Addr}{u:HO}(I:Inv X B J H s)(y:s.heap.Ns X.e.locals m)(h:t.Ns X.e.locals m)(k:∀b o,b≠X.e.locals->s.heap.get? b=some o->t.get? b=some o)(j:s.heap.get? D=none)(i:cM X.p X.w (br H D u) t D u):Inv X B J (br H D u) { s with heap:=t,toks:=S }:=by
 have f:=EM I j;have N:∀b o,s.heap.get? b=some o->b≠D:=λb o e z=>by rw[z,j]at e;cases e
 have a:∀b v,H b=some v->b≠D:=λb v e z=>by rw[z,f]at e;cases e
 have F:=kA (C:=S) I y h k;refine I.step (g':=s.gens) (d':=s.drawn) (ch:=[]) (λ_ z=>nomatch z) (λb o L _ _ e _=>k b o L e) (λb o L _ _ e _=>⟨o.slots,k b o L e⟩) (λb o _ e n=>(ar (N b o e)).trans n) (λb o _ e=>?_) (λb xs e=>(ar (a b _ e)).trans e) (λb o v e=>(ar (a b _ e)).trans e) (λb e=>(ar (a b _ e)).trans e) (λM C=>?_) (λb v e=>?_) I.bare
 .by_cases L:b=X.e.locals
  .subst L;obtain⟨Q,_,_,g,_⟩:=h;exact⟨Q,g⟩
  .exact⟨o,k b o L e⟩
 .obtain⟨o,es,R,E,A,T,p⟩:=y;obtain⟨V,P,K,r,d,G,w⟩:=C;rw[E]at r;cases r;rw[A]at d;cases d;have:m=M:=funext λx=>(p x).symm.trans (w x);rw[<- this];exact h
 .by_cases l:b=D
  .subst l;rw[aC]at e;cases e;exact i
  .rw [ar l]at e;exact(F.h b v e).stay (λ_ _ _ q=>q) (λc q=>(ar (a c _ q)).trans q) (λc xs q=>(ar (a c _ q)).trans q) (λc W q=>(ar (a c _ q)).trans q)
theorem u_:cN X (.builtin "sorted") (λxs H Q=>∃F a P S b,xs=[.ref a]/\(fq X.K H a P\/kF X.K H a P)/\bB X.K F H S P/\sortable S=true/\rZ S=some b/\∀l z,H l=none->bB X.K F H b z->Q (.ref l) (br H l (.lst z))):=by
 intro B s J H xs us Q I r h;obtain⟨F,a,P,S,b,rfl,G,L,hs,k,q⟩:=h;obtain⟨u,rfl,rx⟩:=vals1 r;cases rx;obtain⟨m,R⟩:=I.fr;have w:∀(T:String)(hT:T="list"\/T="tuple")(t:LV)(o:Obj)(n:Nat),aU P t->s.heap.get? a=some o->o.cls=.type T->o.data=.seq t.toArray n->wpAny (model X.p X.w) X.A (call (.builtin "sorted") [.ref a]) (EP X B J Q) X.xe s:=by
  intro T hT t o n M E A C;have hl1:=L.length;have hl2:=gK M;have y:S.length < 64:=by
   unfold rZ at k;split at k
   .lia
   .split at k
    .lia
    .cases k
  have dH:∀(z:List V)(j:LV)(D:Addr)(f:Heap)(c:Nat),aU z j->bB X.K F H b z->j.length≤64->s.heap.get? D=none->Fr X.b X.e.locals f m->News X.b X.e.locals f ((D,seqObj "list" j.toArray c)::mP X.b s.heap X.e.locals)->EP X B J Q (.ref D) { s with heap:=f }:=
   λz j D f c vz rz hz K d N=>⟨.ref D,_,Ci (S:=s.toks) I R.ns d.ns (lZ I.bk d λp hp=>N p (.tail _ hp)) K (show cM X.p X.w _ f _ (.lst z) from ⟨by rw[gK vz,jM];lia,j,c,vz,(N _ (.head _)).1⟩),rfl,q _ z (EM I K) rz⟩
  refine Hf R (qh (g:=X.b)) hT E A C (by lia) (λfew D f c K d N=>?_) λtwo D e f K ne d N=>?_
  .unfold rZ at k;rw[ag (by lia)]at k;cases k;exact dH P t D f c M L (by lia) K d N
  .unfold rZ at k;rw[aj (by lia),ag y]at k;obtain⟨p,ep,k⟩:=lB.mp k;split at k;case isFalse=>cases k
   rename_i ps;cases k;have I1:Inv X B J H { s with heap:=f }:=kA (C:=s.toks) I R.ns d.ns (lZ I.bk d λp hp=>N p (.tail _ hp));have Z:OJ (v4 S) (kas_sort t.length)=some p:=by rw[<- hl2,<- hl1];exact ep
   refine bN (Ie (s:={ s with heap:=f }) (EC I1 L M hs) two) (λκ v hv=>?_) λ_ _ x=>x;obtain⟨rfl,W⟩:=hv;exact Fb (a:=p) (Q:=λp u=>C5 X.b X.e.locals m D e (p.toList.map λi=>t.getD i Value.none) (λu=>EP X B J Q (.ref D) u) u) W (PySem.W.KasFin.intro d N (.head ne) λh2 c F2 N2=>dH _ _ D h2 c (AS M p.toList) (DR L p.toList) (by rw[bv,lN];lia) K F2 N2) _ Z
 rcases G with G|G
 .obtain⟨t,r',pl,hz⟩:=I.list G;obtain⟨o,E,A,n,C⟩:=pl.isList;exact w "list" (.inl rfl) t o n r' E A C
 .obtain⟨t,r',⟨o,E,A,n,C⟩,hz⟩:=I.tuple G;exact w "tuple" (.inr rfl) t o n r' E A C
noncomputable def Mo:List D->Option (List P)
 | []=>some []
 | .p v::r=>(Mo r).map (v::·)
 | .ref _::_=>none
theorem Du:∀{d:List D}{T:List P},Mo d=some T->d=T.map .p
 | [],T,h=>by cases h;rfl
 | .p v::r,T,h=>by
  cases e:Mo r with
  |none=>simp only[Mo,e]at h;cases h
  |some w=>simp only[Mo,e]at h;cases h;rw[Du e];rfl
 | .ref _::_,T,h=>by cases h
theorem Jh:∀{T:List P}{xs:List V},bI K F H m (T.map .p) xs->bB K F H T xs
 | [],_,h=>h
 |_::_,_,h=>by obtain⟨x,r,e,a,s⟩:=h;exact⟨x,r,e,a,Jh s⟩
noncomputable def Ky:P->Option (List P)
 | .lst xs=>some xs
 | .ro xs=>some xs
 | .tup xs=>some xs
 |_=>none
def Kz:D->aE->Option (List P)
 | .p v,_=>Ky v
 | .ref i,S=>match S[i]? with
  |some (.lst d)=>Mo d
  |some (.fz v)=>Ky v
  |_=>none
@[simp] def Ja(r:EE)(L:Lc)(S:aE):tyV:=bw (r L S) λd h=>match Kz d h with
 |some xs=>(wM xs).map λv=>(v,h)
 |none=>none
theorem A0(p:RP K F H w v)(h:Ky w=some xs):∃a y,v=.ref a/\(fq K H a y\/kF K H a y)/\bB K F H xs y:=by
 cases w with
 |tup d=>obtain⟨a,y,rfl,t,r⟩:=p;cases h;exact⟨a,y,rfl,.inr t.sq,r⟩
 |lst d=>obtain⟨a,y,rfl,t,r⟩:=p;cases h;exact⟨a,y,rfl,.inl t.sq,r⟩
 |ro d=>obtain⟨a,y,rfl,t,r⟩:=p;cases h;exact⟨a,y,rfl,.inl t.sq,r⟩
 |_=>cases h
theorem Hh(r:Rel K F H m S)(p:RD K F H m u v)(h:Kz u S=some xs):∃a y,v=.ref a/\(fq K H a y\/kF K H a y)/\bB K F H xs y:=by
 cases u with
 |p w=>exact A0 p h
 |ref i=>
  obtain⟨a,rfl,x⟩:=p;simp only[Kz]at h;split at h
  .rename_i d es;obtain⟨y,e,s⟩:=r.obj i a _ x es;rw[Du h]at s;exact⟨a,y,rfl,.inl (fq.of e),Jh s⟩
  .rename_i w es;exact A0 (r.obj i a _ x es) h
  .cases h
theorem Dn(i:Gl X "sorted")(j:X.g "sorted"=none)(g:PE X e (tE X.K q))(n:starEach [e] X.e=[(false,eval e X.e)]:=by rfl):PE X (.Call (.Name "sorted" p) [e] [] N) (tV X.K (Ja q)):=
 (iF u_ i j GP (cq g dI (by rw[n];rfl)) (by decide) (by decide) (by rw[n];rfl) rfl).imp' λJ H Q s=>by
  obtain⟨F,m,L,S,d,G,r,l,h,k⟩:=s;obtain⟨x,c,t,h⟩:=ak h;refine⟨F,m,L,S,x,c,r,l,t,λv b K E C f P=>?_⟩;split at h
  .rename_i xs w;unfold wM at h;split at h
   .rename_i n;cases o:rZ xs with
    |none=>rw[o]at h;cases h
    |some u=>rw[o]at h;cases h;obtain⟨a,D,rfl,y,A⟩:=Hh f P w;exact⟨b,a,D,xs,u,rfl,y,A,n,o,λz I s B=>k _ _ K _ (C.trans (bS s).stp) (f.grow (bS s)) (.newLst s B)⟩
   .cases h
  .cases h
end
noncomputable def PB(K:FG)(e:Bool)(a:Addr):It:=if e=true then IZ K a else Pj K a
inductive tIOI(K:FG)(en:Bool)(fe:EE)(J:L2.St)(H:Hp)(R:It->Hp->Prop):Prop
 |mk (F:Aa) (m:List Addr) (L:Lc) (S:aE) (j:Nat) (S':aE) (ds:List D) (h0_:Rel K F H m S) (h1_:RL K F H m J L) (h2_:fe L S=some (.ref j,S')) (h3_:S'[j]? = some (.lst ds)) (h4_:∀a F' m' H',Stp F m H F' m' H'->Rel K F' H' m' S'->m'[j]? = some a->R (PB K en a) H'):tIOI K en fe J H R
noncomputable def Sy(K:FG)(e:Bool)(q:EE):TI:=λJ H R=>tIOI K e q J H R
theorem LM{K:FG}{F:Aa}{H:Hp}{e:Bool}{a:Addr}{xs:List V}{x:V}{i:Nat}{v:P}(q:fq K H a xs)(s:xs[i]? = some x)(p:RP K F H v x) :
  (PB K e a).go i H/\∀y h,(PB K e a).yld i H y h->∃n,Grow F H n h/\RP K n h (if e=true then .tup [.int (i:Int),v] else v) y:=by
 cases e with
 |true=>
  refine⟨⟨xs,x,q,s⟩,λz h y=>?_⟩;obtain⟨b,y,rfl,k,rfl,f⟩:=y;have:y=x:=by have:=f xs q;rw[s]at this;cases this;rfl
  subst this;exact⟨F,bq k,RP.newTup k ⟨_,_,rfl,rfl,_,_,rfl,p,rfl⟩⟩
 |false=>
  refine⟨⟨xs,x,q,s⟩,λy h z=>?_⟩;obtain⟨rfl,z⟩:=z;have:=z xs q
  rw[s]at this;cases this;exact⟨F,.refl,p⟩
variable{xs:List V}{i:Nat}
theorem EI(q:fq K H a xs)(h:xs.length≤i):(PB K v a).stop i H:=by
 cases v with
 |true=>exact⟨xs,q,h⟩
 |false=>exact⟨xs,q,h⟩
section
variable{X:Cx}{N:Pos}
theorem iO(h:PE X iter (tE X.K q)):PI X tg iter (Sy X.K false q):=(Hz h).imp' λJ H R z=>by obtain⟨F,m,L,S,j,d,w,r,l,b,es,k⟩:=z;refine⟨F,m,L,S,_,_,r,l,b,λx n t f v s p=>?_⟩;obtain⟨a,rfl,e⟩:=p;obtain⟨xs,c,u⟩:=s.obj j a _ e es;exact⟨a,rfl,⟨xs,fq.of c⟩,k a n t f v s e⟩
theorem ym:cN X (.type "range") (λxs H Q=>∃j:Int,xs=[.int j]/\∀r,H r=none->Q (.ref r) (br H r (.rng 0 j))):=by intro B s J H xs a Q I r h;obtain⟨j,rfl,q⟩:=h;obtain⟨u,rfl,x⟩:=vals1 r;obtain⟨t,rfl⟩:=x;refine call_range_1 ?_;exact⟨.ref s.heap.objs.size,_,I.laid (o:=.rng 0 j) (λb o e=>aF _ e) (al _) ⟨_,_,_,aR _ rfl⟩,rfl,q _ (I.h.fresh (al _))⟩
theorem sh:∀{xs:List d}{s:List β},xs.length=s.length->(∀(i:Nat) x y,xs[i]? = some x->s[i]? = some y->R x y)->Paired R xs s
 | [],[],_,_=>.nil
 | [],_::_,h,_=>by simp at h
 |_::_,[],h,_=>by simp at h
 |x::xs,y::s,h,k=>.cons (k 0 x y rfl rfl) (sh (by simpa using h) λi a b e n=>k (i+1) a b (by simpa using e) (by simpa using n))
theorem xW(h:ItemsOf (λi v=>∃t,v=Value.int (0+i * 1) t) u n):aU ((List.range n).map λ(i:Nat)=>V.int (i:Int)) u.toList:=by
 obtain⟨z,s⟩:=h;refine sh (by simp[z]) λi x y a f=>?_;rw[fF]at a;cases er:(List.range n)[i]? with
 |none=>rw[er]at a;cases a
 |some k=>
  rw[er]at a;cases a;have hk:k=i:=by have:=bg.mp er;obtain⟨b,e⟩:=this;simpa using e.symm
  subst hk;obtain⟨t,rfl⟩:=s k y (by simpa using f);exact⟨t,by simp⟩
theorem wL(a:X.c=true):cN X (.type "list") (λxs H Q=>∃r j,xs=[.ref r]/\H r=some (.rng 0 j)/\j.natAbs < 1000000/\∀l,H l=none->Q (.ref l) (br H l (.lst ((List.range j.toNat).map λ(i:Nat)=>V.int (i:Int))))):=by
 intro B s J H xs g Q I r h;obtain⟨m,j,rfl,b,w,q⟩:=h;obtain⟨u,rfl,p⟩:=vals1 r;cases p;obtain⟨t,u,v,o⟩:=I.h m _ b;refine call_list_range (n:=j.toNat) (I.o.hd a) o (small_one (by lia) (by lia) (by lia) (by lia)) (by rw[Al];split<;>lia) (by lia) λk d x c hk e f=>?_
 exact⟨.ref s.heap.objs.size,_,I.laid (t':=d) hk (al _) (show cM X.p X.w _ k _ (.lst _) from ⟨by rw[bv,List.length_range];exact ba (by lia:j.toNat≤1000000) (by decide),x.toList,c,xW f,by simpa using e⟩),rfl,q _ (I.h.fresh (al _))⟩
@[simp] def RR(a:EV)(L:Lc)(S:aE):tyV:=bw (a L S) λv h=>match v with
 | .int j=>if decide (j.natAbs < 1000000)=true then some (.lst (intsFrom 0 j.toNat),h) else none
 |_=>none
theorem vN:∀s:List Nat,bB K F H (s.map λ(i:Nat)=>P.int (0+(i:Int))) (s.map λ(i:Nat)=>V.int (i:Int))
 | []=>rfl
 |i::s=>⟨_,_,rfl,by show V.int _=V.int _;rw[lA],vN s⟩
theorem GX{a:Expr}{C:EV}{p G i y:Pos}(h:X.c=true)(A:Gl X "list")(D:X.g "list"=none)(g:Gl X "range")(s:X.g "range"=none)(K:PE X a (tV X.K C))(t:starEach [a] X.e=[(false,eval a X.e)])
  : PE X (.Call (.Name "list" p) [.Call (.Name "range" G) [a] [] y] [] i) (tV X.K (RR C)):=
 (iD (wL h) A D oY (cq (iD ym g s boot_range (cq K dI (by rw[t];rfl)) (by decide) (by decide) (by rw[t];rfl) rfl) dI rfl) (by decide) (by decide) rfl rfl).imp' λJ H Q e=>by
  obtain⟨F,m,L,S,d,N,r,l,q,k⟩:=e;obtain⟨x,u,o,q⟩:=ak q;refine⟨F,m,L,S,x,u,r,l,o,λv f E b M I p=>?_⟩;cases x with
  |int j=>
   dsimp only at q;split at q
   .rename_i P;have B:j.natAbs < 1000000:=aL P;cases q;cases (show v=.int j from p);refine⟨j,rfl,λw n=>⟨w,j,rfl,aC,B,λz e=>?_⟩⟩;have c:Grow f b f (br b w (.rng 0 j)):=bq n;exact k _ _ E _ (M.trans (c.stp.trans (bS e).stp)) ((I.grow c).grow (bS e)) (.newLst e (vN _))
   .cases q
  |_=>cases q
end
section
variable{X:Cx}{N:Pos}
theorem BX{prog:Program}{w:World}{A:Around}{E:VP}{s:Shared}{t l:Addr}{i:Array Value}{v u:Value}{lo x:Option Int}{Q:VP}(h:IsTup s.heap t i)(a:s.heap.IsSliceOf l v u .none)(p:IsPart v lo)(b:IsPart u x)
  (k:HT.dP i.size 0 lo=0) (f:HT.dP i.size i.size x=i.size) (q:Q (.ref t) s):wpAny (model prog w) A (getItem (.ref t) (.ref l)) Q E s:=by
 have T:s.TypeIs (.ref l) "slice":=by obtain⟨o,e,n,_⟩:=a;exact⟨o,e,n⟩
 unfold getItem;try with_reducible refine cF ?_
 first|refine ae (aq ?_)|skip
 refine ae (AC h.typeIs (by decide) ?_);refine ae (pP (name:=Str.ofString "__getitem__") h.typeIs iT (mV iT h.typeIs yP ?_ (yO _ _)));show wpAny _ _ (C1 (.ref t) >>= _) _ _ s;refine ae (yK h (ae (lh T ?_)));rw[ag (by decide)];refine ae (HT.iC a p b ?_);rw[k,f];have y:((((0:Nat):Int) == 0 && (1:Int) == 1 && (i.size-0) == i.size)=true):=by simp
 show wpAny _ _ (if ((((0:Nat):Int) == 0 && (1:Int) == 1 && (i.size-0) == i.size)=true) then _ else _) _ _ s;rw[ag y];refine ae (ae (lh h.typeIs ?_));refine aq ?_;rw[ag (by rfl)];first
  |exact ae (aq (aq ⟨_,rfl,aq q⟩))
  |exact ae (pG (aq ⟨_,rfl,aq q⟩))
  |exact aq ⟨_,rfl,aq q⟩
theorem DI:JE X (λx lo e H Q=>∃a xs,x=.ref a/\kF X.K H a xs/\HT.dP xs.length 0 lo=0/\HT.dP xs.length xs.length e=xs.length/\Q (.ref a) H):=by
 intro B s J H x v d w lo e m Q I c f p u h;obtain⟨a,xs,rfl,b,n,k,q⟩:=h;cases c;obtain⟨i,r,t,_⟩:=I.tuple b;have l:i.toArray.size=xs.length:=by rw[aY];exact r.length.symm
 exact⟨"tuple",_,iT.lookup,t.typeIs,BX t f p u (by rw[l];exact n) (by rw[l];exact k) ⟨.ref a,H,I,rfl,q⟩⟩
def yf:P->Option Int->Option Int->Option P
 | .tup xs,lo,h=>some (.tup (cut xs lo h))
 |x,lo,h=>Tf x lo h
@[simp] def i8(a:EV)(lo n:EO)(L:Lc)(S:aE):tyV:=bw (a L S) λx h=>bw (lo L h) λi e=>bw (n L e) λj s=>(yf x i j).map λv=>(v,s)
theorem Qk{e:Expr}{lo A:Option Expr}{C:EV}{P K:EO}{N p2:Pos}(Z:PE X e (tV X.K C))(hl:PO X lo (tO X.K P))(hh:PO X A (tO X.K K)):PE X (.Subscript e (.Slice lo A none p2) N) (tV X.K (i8 C P K)):=
 (vS (AZ.or (Kt.or DI)) Z hl hh).imp' λJ H Q hz=>by
  obtain⟨F,m,L,S,d,S',r,l,q,k⟩:=hz;obtain⟨x,z,R,q⟩:=ak q;obtain⟨i,o,T,q⟩:=ak q;obtain⟨j,M,V,q⟩:=ak q;refine⟨F,m,L,S,x,z,r,l,R,λv D m1 H1 g r1 p1=>?_⟩;refine⟨D,m1,L,z,i,o,r1,l.mono g,T,λE m2 H2 y r2=>?_⟩;refine⟨E,m2,L,o,j,M,r2,(l.mono g).mono y,V,λG f I B b=>?_⟩;have u:=RP.mono B (RP.mono y p1);have c:=g.trans (y.trans B);cases x with
  |lst n=>cases q;obtain⟨a,xs,rfl,t,s⟩:=u;exact .inl ⟨a,xs,rfl,t.sq,λp h=>k _ _ f _ (c.trans (bS h).stp) (b.grow (bS h)) (.newLst h (s.cut i j))⟩
  |ro n=>cases q;obtain⟨a,xs,rfl,t,s⟩:=u;exact .inl ⟨a,xs,rfl,t.sq,λp h=>k _ _ f _ (c.trans (bS h).stp) (b.grow (bS h)) (.newLst h (s.cut i j))⟩
  |tup n=>
   obtain⟨a,xs,rfl,t,s⟩:=u;cases q;by_cases w:HT.dP xs.length 0 i=0/\HT.dP xs.length xs.length j=xs.length
   .have W:cut n i j=n:=by
     unfold cut;rw[s.length,w.1,w.2,kj,tj,<- s.length,tK]
    rw[W]at k;exact .inr (.inr ⟨a,xs,rfl,t.sq,w.1,w.2,k _ G f I c b ⟨a,xs,rfl,t,s⟩⟩)
   .exact .inr (.inl ⟨a,xs,rfl,t.sq,w,λp h=>k _ _ f _ (c.trans (bq h).stp) (b.grow (bq h)) (.newTup h (s.cut i j))⟩)
  |_=>cases q
abbrev FM:List P->Option P:=FN
variable{e:Expr}{es:Ab}{fs:j'}{p:Pos}
theorem JO(g:Gl X "int")(m:X.g "int"=none)(a:PA X (e::es) (pi X.K fs))(x:starEach (e::es) X.e=(false,eval e X.e)::starEach es X.e)(h:(backTo N (starEach es X.e)).any (·.1)=false) :
  PE X (.Call (.Name "int" p) (e::es) [] N) (tV X.K (aG FM fs)):=xq IP g m yS a (by decide) (by decide) x h
inductive PEs(X:Cx):Ab->List EV->Prop
 |nil:PEs X [] []
 |cons {e es f fs}:PE X e (tV X.K f)->PEs X es fs->PEs X (e::es) (f::fs)
@[simp] def Dt(a b c:EV)(L:Lc)(S:aE):tyV:=bw (a L S) λd h=>bw (b L h) λy x=>bw (c L x) λz e=>match d with
 | .dct s T=>match eA y with
  |some k=>some ((gi k s T).getD z,e)
  |none=>none
 |_=>none
theorem rX{K:FG}{F:Aa}{H:Hp}{k:dj}:∀{s:List (dj×V)}{d:List P},bB K F H d (s.map (·.2))->gi k (s.map (·.1)) d=none->fL s k=none
 | [],d,r,h=>rfl
 |(a,v)::s,[],r,h=>by have:=r.length;simp at this
 |(a,v)::s,b::d,r,h=>by
  obtain⟨x,m,e,p,n⟩:=r;rw[aD]at e;injection e with c f;simp only[aD,gi]at h;by_cases hk:a=k
  .rw [ag hk]at h;cases h
  .rw [aj hk]at h;rw[<- f]at n;rw[fK (p:=(a,v)) hk];exact rX n h
theorem JP{o a b:Expr}{I C t:EV}{D E:Pos}(hu:X.A.units+1 < cLine)(ho:PE X o (tV X.K I))(ha:PE X a (tV X.K C))(hb:PE X b (tV X.K t))(m:M2 X o "get" D a b E):PE X (.Call (.Attribute o "get" D) [a,b] [] E) (tV X.K (Dt I C t)):=
 (D' hu ho ha hb m).imp' λJ H Q hz=>by
  obtain⟨F,m,L,S,d,S',r,l,q,k⟩:=hz;obtain⟨x,A,Z,q⟩:=ak q;obtain⟨y,B,e2,q⟩:=ak q;obtain⟨z,V,e3,q⟩:=ak q;refine⟨F,m,L,S,x,A,r,l,Z,λv R m1 H1 K r1 p1=>?_⟩;cases x with
  |dct ks W=>
   obtain⟨a,s,rfl,i,hk,ek,ra⟩:=id p1;refine⟨a,rfl,.inl ⟨s,.inl hk⟩,?_⟩;refine⟨R,m1,L,A,y,B,r1,l.mono K,e2,λvy T m2 H2 f r2 p2=>?_⟩;refine⟨T,m2,L,B,z,V,r2,(l.mono K).mono f,e3,λvz P G p c M p3=>?_⟩;have h:p a=some (.dK s):=(f.trans c).frk _ _ i hk;have e:=bB.mono c (bB.mono f ra);have py:=RP.mono c p2;dsimp only at q;split at q
   .rename_i j u;cases q;have g:=gN u py;subst g ek;have N:=K.trans (f.trans c);cases n:gi j (s.map (·.1)) W with
    |none=>have hm:=rX e n;refine⟨none,by rw[<- hm];exact jt.k h,?_⟩;rw[n]at k;exact k vz P G p N M p3
    |some w=>obtain⟨v,h1,h2⟩:=mZ e n;refine⟨some v,by rw[<- h1];exact jt.k h,?_⟩;rw[n]at k;exact k v P G p N M h2
   .cases q
  |_=>cases q
def Pl(w:World):List DictEntry->List (Str×P)->Prop
 | [],[]=>True
 |e::es,(k,p)::r=>(∃t,e.key=.str k t)/\e.hash=hashStr w k/\(∃v,RelV v e.val/\∀K F H,RP K F H p v)/\Pl w es r
 |_,_=>False
def RN(w:World)(K:FG)(m:SV)(x:Str)(k:List (Str×P)):Prop:=
 ∃a o es e,m x=some (.ref a)/\K.lookup a=some o/\o.ExactDict/\o.data=.dict es e/\Pl w es.toList k/\(k.map (·.1)).Nodup
end
noncomputable def No:List dj->List P->Option (List (Str×P))
 | [],[]=>some []
 | .inr k::s,v::T=>(No s T).map λr=>(k,v)::r
 |_,_=>none
noncomputable def EK:P->Bool
 | .dct _ _=>true
 |_=>false
def mQ(w:World)(K:FG)(m:SV)(x:Str)(v:P):Prop:=(EK v=false->vj K m x v)/\∀s T,v=.dct s T->∃k,No s T=some k/\RN w K m x k
theorem mQ.plain(h:vj K u x v)(a:EK v=false):mQ w K u x v:=⟨λ_=>h,λk T e=>by subst e;cases a⟩
section
variable{X:Cx}
theorem nL:∀{s:List Bool}{u:LV},aU (s.map V.bl) u->LSm.BoolsAre u s
 | [],u,r=>by obtain rfl:u=[]:=eh (by simpa using r.length.symm);exact .nil
 |b::s,u,r=>by
  cases r with
  |cons q t=>cases (show _=Value.bool b from q);exact .cons b (nL t)
theorem FH(c:X.c=true):cN X (.builtin "all") (λxs H Q=>∃(p:Addr)(b:List Bool),xs=[.ref p]/\fq X.K H p (b.map V.bl)/\Q (.bl (b.all id)) H):=by intro B s J H xs f Q I r h;obtain⟨p,b,rfl,a,q⟩:=h;obtain⟨u,rfl,n⟩:=vals1 r;cases n;obtain⟨i,e,l,z⟩:=I.list a;obtain⟨m,F⟩:=I.fr;exact LSm.all_bools F (qh (g:=X.b)) (I.o.hd c) l.isList (nL e) λk t x N=>⟨.bl (b.all id),H,kA I F.ns x.ns (lZ I.bk x N),rfl,q⟩
theorem FF(c:X.c=true):cN X (.builtin "any") (λxs H Q=>∃(p:Addr)(b:List Bool),xs=[.ref p]/\fq X.K H p (b.map V.bl)/\Q (.bl (b.any id)) H):=by intro B s J H xs f Q I r h;obtain⟨p,b,rfl,a,q⟩:=h;obtain⟨u,rfl,n⟩:=vals1 r;cases n;obtain⟨i,e,l,z⟩:=I.list a;obtain⟨m,F⟩:=I.fr;exact LSm.any_bools F (qh (g:=X.b)) (I.o.hd c) l.isList (nL e) λk t x N=>⟨.bl (b.any id),H,kA I F.ns x.ns (lZ I.bk x N),rfl,q⟩
noncomputable def qV:List P->Option (List Bool)
 | []=>some []
 | .bl b::r=>(qV r).map (b::·)
 |_=>none
def j7:List P->Option P
 | [.lst xs]=>(qV xs).map λb=>.bl (b.all id)
 |_=>none
def dw:List P->Option P
 | [.lst xs]=>(qV xs).map λb=>.bl (b.any id)
 |_=>none
theorem vg:∀{xs:List P}{s:List Bool}{x:List V},qV xs=some s->bB K F H xs x->x=s.map V.bl
 | [],s,x,h,r=>by cases h;exact eh r.length.symm
 | .bl b::xs,s,x,h,r=>by simp only[qV]at h;obtain⟨a,e,rfl⟩:=bJ.mp h;obtain⟨y,k,rfl,p,n⟩:=r;cases (show y=.bl b from p);rw[vg e n];rfl
theorem IQ(c:X.c=true):cN X (.builtin "all") (rC X.K j7):=by
 intro B s J H xs u Q I r h;obtain⟨F,m,d,v,f,q,k⟩:=h;unfold j7 at q;split at q
 .obtain⟨b,e,rfl⟩:=bJ.mp q;obtain⟨x,rfl,p⟩:=ri f;obtain⟨a,y,rfl,t,n⟩:=p;exact FH c B s J H _ u Q I r ⟨a,b,rfl,by rw[<- vg e n];exact t.sq,k _ F H .refl rfl⟩
 .cases q
theorem callAny(c:X.c=true):cN X (.builtin "any") (rC X.K dw):=by
 intro B s J H xs u Q I r h;obtain⟨F,m,d,v,f,q,k⟩:=h;unfold dw at q;split at q
 .obtain⟨b,e,rfl⟩:=bJ.mp q;obtain⟨x,rfl,p⟩:=ri f;obtain⟨a,y,rfl,t,n⟩:=p;exact FF c B s J H _ u Q I r ⟨a,b,rfl,by rw[<- vg e n];exact t.sq,k _ F H .refl rfl⟩
 .cases q
variable{e:Expr}{es:Ab}{fs:j'}{p N:Pos}
theorem M3(g:Gl X "all")(m:X.g "all"=none)(a:PA X (e::es) (pi X.K fs))(c:X.c=true)(x:starEach (e::es) X.e=(false,eval e X.e)::starEach es X.e)(h:(backTo N (starEach es X.e)).any (·.1)=false) :
  PE X (.Call (.Name "all" p) (e::es) [] N) (tV X.K (aG j7 fs)):=xt (IQ c) g m GK a (by decide) (by decide) x h
theorem M0(g:Gl X "any")(m:X.g "any"=none)(a:PA X (e::es) (pi X.K fs))(c:X.c=true)(x:starEach (e::es) X.e=(false,eval e X.e)::starEach es X.e)(h:(backTo N (starEach es X.e)).any (·.1)=false) :
  PE X (.Call (.Name "any" p) (e::es) [] N) (tV X.K (aG dw fs)):=xt (callAny c) g m GL a (by decide) (by decide) x h
end
end Ev
namespace Ev
open PySem PySem.Spec PyProof.Rows L2
theorem wj(f:Nat->β->Sem (ForInStep β))(I:Nat->β->Shared->Prop)(Q:β->Shared->Prop)(k:Nat)
  (turn:∀i b s,i < k->I i b s->wpAny M A (f i b) (λr s'=>match r with | .yield b'=>I (i+1) b' s' | .done b'=>Q b' s') E s)
  (dH:∀b s,I k b s->Q b s) (b:β) (h:I 0 b s):wpAny M A (forIn [0:k] b f) Q E s:=by
 rw[Std.Legacy.Range.forIn_eq_forIn_range'];refine Ax f (λrest b s=>∃i,rest=List.range' i (k-i)/\i≤k/\I i b s) Q (λx rest b s ⟨i,e,hi,hI⟩=>?_) (λb s ⟨i,e,hi,hI⟩=>?_) _ b ⟨0,by simp[Std.Legacy.Range.size],bW _,h⟩
 .obtain⟨m,hm⟩:∃m,k-i=m+1:=by
   cases q:k-i with
   |zero=>rw[q]at e;simp at e
   |succ m=>exact⟨m,rfl⟩
  rw[hm,zm]at e;injection e with e1 e2;subst e1;refine bN (turn x b s (by lia) hI) (λr s' hr=>?_) λ_ _ z=>z;cases r with
  |done b'=>exact hr
  |yield b'=>exact⟨x+1,by rw[e2];congr 1;lia,by lia,hr⟩
 .have:k-i=0:=by
   cases q:k-i with
   |zero=>rfl
   |succ m=>rw[q,zm]at e;cases e
  have:i=k:=by lia
  subst this;exact dH b s hI
section
open PySem.SeqAt PySem.MeetsSeq
open PySem.AutoSeq1 (wpAny_loadPart')
theorem BY(l:Addr)(items:Array Value)(n:Nat)(dd:Option Addr)(sl:Array (OV))(x:Value)(e:Value->Bool)(j:Nat)(hj:j < items.size)
  (hit:e items[j]=true) (hno:∀m (hm:m < items.size),m < j->e items[m]=false) :
  Meets (Builtin.«tuple.index» ⟨[.ref l,x],[]⟩)
   (λA R s=>s.heap.get? l=some { cls:=.type "tuple",dict:=dd,data:=.seq items n,slots:=sl }/\(∀y,y ∈ items->EqAt A.in1 s y x (e y))/\R (.ok (.ret (.int j s.toks))) { s with toks:=s.toks+1 }):=
 .of_wp λprog w A R s h=>by
  obtain⟨hp,g,d,tk,os⟩:=s;obtain⟨hl,he,h⟩:=h
  wp_walk using iR hl,wj _ (λi b s'=>i≤j/\b.1=none/\s'=⟨hp,g,d,tk,os⟩) _
  case turn=>
   rintro i b s' hi ⟨hij,hb,rfl⟩;have hi':i < items.size:=by lia
   rw[zJ hi'];refine ae (he _ (Array.getElem_mem hi') prog w _ _ ?_);by_cases hc:i=j
   .subst hc;rw[hit]
    wp_walk
    exact⟨_,rfl,h⟩
   .rw [hno i hi' (by lia)]
    wp_walk
    exact⟨by lia,rfl,rfl⟩
  case dH=>rintro b s' ⟨hij,_,_⟩;exact absurd hij (by lia)
  case h=>exact⟨bW _,rfl,rfl⟩
end
def oF(ps:List P)(y:P):Option Nat:=if (ps.all (gE 19) && gE 19 y)=true then (gJ ps).findIdx? λz=>bQ z (pd y) else none
@[simp] def J_(fa fb:EV)(L:Lc)(S:aE):tyV:=bw (fa L S) λv x=>match v with
 | .lst ps=>bw (fb L x) λy h=>(oF ps y).map λ(i:Nat)=>(.int (i:Int),h)
 | .tup ps=>bw (fb L x) λy h=>(oF ps y).map λ(i:Nat)=>(.int (i:Int),h)
 |_=>none
section
variable{X:Cx}{pins:PN}{J:L2.St}{H:Hp}{s:Shared}{F:Aa}{ps:List P}{y:P}{vy:V}{u:Value}{i:Nat}{Q:VK}{a:Addr}
theorem A9:∀s:List P,(gJ s).length=s.length
 | []=>rfl
 |q::s=>by simp[gJ,A9 s]
theorem EW(o:X.A.units+64 < cLine)(I:Inv X pins J H s)(d:RP X.K F H y vy)(g:RelV vy u)(e:oF ps y=some i){v:Array Value}{f:List Addr}(k:ReadsAll s.heap v.toList (gJ ps) f) :
  ∃t:i < v.size,bQ (iX s.heap v[i]) (pd y)=true/\(∀m (x:m < v.size),m < i->bQ (iX s.heap v[m]) (pd y)=false)/\v.size=ps.length /\
   ∀z,z ∈ v->SeqAt.EqAt X.A.in1 s z u (bQ (iX s.heap z) (pd y)):=by
 unfold oF at e;split at e;case isFalse=>cases e
 rename_i c;rw[az]at c;obtain⟨j,w⟩:=eP I 19 d g c.2;have l:=A' c.1;have q:=fI 19 _ c.2;obtain⟨t,b,r⟩:=List.findIdx?_eq_some_iff_getElem.mp e;have n:=y' _ _ _ l.1 k;have h:v.size=(gJ ps).length:=by rw[<- n];simp
 have a:∀(m:Nat)(x:m < v.size),iX s.heap v[m]=(gJ ps)[m]'(h ▸ x):=λm x=>by
  have:(v.toList.map (iX s.heap))[m]? = (gJ ps)[m]?:=by rw[n]
  rw[fF,zI,zJ x,ko (h ▸ x)]at this;simpa using this
 refine⟨by lia,?_,λm x p=>?_,by rw[h,A9],y_ k w l.1 q.1 (by lia)⟩
 .rw [a];exact b
 .rw [a];simpa using r m p
theorem EU(e:oF ps y=some i):ps.all (gE 19)=true:=by
 unfold oF at e;split at e
 .rename_i h;rw[az]at h;exact h.1
 .cases e
theorem yi(P:X.A.units+64 < cLine)(I:Inv X pins J H s)(p:RP X.K F H (.lst ps) (.ref a))(D:RP X.K F H y vy)(G:RelV vy u)(e:oF ps y=some i)(q:Q (.int i) H) :
  wpAny (model X.p X.w) X.A (call (.builtin "list.index") [.ref a,u]) (EP X pins J Q) X.xe s:=by
 have S:=EU e;obtain⟨N,b⟩:=eP I 20 p (show RelV (.ref a) (.ref a) from rfl) (by simpa[gE] using S);rw[pd]at b;cases b with
 | @list l o L n _ c x k f w=>
  obtain⟨j,t,v,V,d⟩:=EW P I D G e w;obtain⟨oc,B,C,h⟩:=o;dsimp only at k f;subst k f;have T:ps.length≤sizeLine:=by obtain⟨M,xs,m,K,E⟩:=p;cases m;obtain⟨z,A,Z,r,R,_⟩:=I.lstM K.2;have W:=E.length;lia
  have g:sizeLine < 2 ^ 63:=by decide
  exact eF Ad ⟨_,x,rfl⟩ PySem.F.entry_list_index (PySem.F.args_list_index_2 _ _) (SeqAt.list_indexAt a L n B h u _ i j (by lia) t v) ⟨x,d,⟨.int i,H,I.tok _,⟨_,rfl⟩,q⟩⟩
theorem wJ(hu:X.A.units+64 < cLine)(I:Inv X pins J H s)(px:RP X.K F H (.tup ps) (.ref a))(py:RP X.K F H y vy)(ru:RelV vy u)(e:oF ps y=some i)(q:Q (.int i) H) :
  wpAny (model X.p X.w) X.A (call (.builtin "tuple.index") [.ref a,u]) (EP X pins J Q) X.xe s:=by
 have ho:=EU e;obtain⟨as,ra⟩:=eP I 20 px (show RelV (.ref a) (.ref a) from rfl) (by simpa[gE] using ho);rw[pd]at ra;cases ra with
 | @tuple l o vs n _ as' h1 h2 h3 h4=>obtain⟨hi,e1,e2,hz,eq⟩:=EW hu I py ru e h4;obtain⟨oc,od,odt,osl⟩:=o;dsimp only at h2 h3;subst h2 h3;exact eF Ag ⟨_,h1,rfl⟩ PySem.F.entry_tuple_index (PySem.F.args_tuple_index_2 _ _) (BY a vs n od osl u _ i hi e1 e2) ⟨h1,eq,⟨.int i,H,I.tok _,⟨_,rfl⟩,q⟩⟩
theorem JS(hu:X.A.units+64 < cLine)(ho:PE X o (tV X.K fo))(he:PE X e (tV X.K fe))(hs:starEach [e] X.e=[(false,eval e X.e)])
  (w:attributeBase o "index" X.e (eval o X.e)=eval o X.e) (j:(M.endLine == g.line)=true):PE X (.Call (.Attribute o "index" M) [e] [] g) (tV X.K (J_ fo fe)):=by
 intro pins s J H Q I ⟨F,m,L,S,d,S',r,l,q,k⟩;obtain⟨x,Z,e1,q⟩:=ak q;refine xh w (by rw[hs];rfl) j rfl (b_ (ho pins s J H (λv c=>∃f K,Stp F m H f K c/\Rel X.K f c K Z/\RP X.K f c x v) I ⟨F,m,L,S,x,Z,r,l,e1,λv f K c s1 r1 B=>⟨f,K,s1,r1,B⟩⟩) λu s1 hz=>?_);obtain⟨v,c,I1,ru,f,K,T,r1,B⟩:=hz;have t:∀(id:String)(ps:List P),bw (fe L Z) (λy S2=>(oF ps y).map λ(i:Nat)=>((.int (i:Int):P),S2))=some (d,S') ->
   (∀(s:Shared)(h:Hp)(n:Aa)(y:P)(vy:V)(C:Value)(i:Nat),Inv X pins J h s->(∀p,RP X.K f c p v->RP X.K n h p v)->RP X.K n h y vy->RelV vy C->oF ps y=some i->Q (.int i) h->wpAny (model X.p X.w) X.A (call (.builtin id) [u,C]) (EP X pins J Q) X.xe s) ->
   wpAny (model X.p X.w) X.A (callWith g (.builtin id) [u] (backTo g (starEach [e] X.e)) []) (EP X pins J Q) X.xe s1:=by
  intro id ps q hc;obtain⟨y,S2,e2,q⟩:=ak q;obtain⟨i,E,q⟩:=bJ.mp q;cases q;rw[hs];refine iU rfl (kf (cm (b_ (he pins s1 J c (λvy h=>∃n A,Stp f K c n A h/\Rel X.K n h A S'/\RP X.K n h y vy) I1 ⟨f,K,L,Z,y,S',r1,l.mono T,e2,λv n A h s2 r2 G=>⟨n,A,s2,r2,G⟩⟩) λC s2 ⟨vy,h,D,ruy,n,A,W,r2,G⟩=>dC ?_)));exact hc s2 h n y vy C i D (λp R=>RP.mono W R) G ruy E (k _ n A h (T.trans W) r2 rfl)
 cases x with
 |lst ps=>obtain⟨a,xs,rfl,hq,rp⟩:=id B;cases (show u=Value.ref a from ru);obtain⟨z,its,n',rr,hl,N⟩:=I1.lstM hq.2;exact⟨"list","list.index",lO,Ad,PySem.F.type_list_index,⟨_,N,rfl⟩,λb eb=>by cases eb;exact⟨_,N,rfl⟩,t _ ps q λs h n y vy C i D R py ry E q=>yi hu D (R _ B) py ry E q⟩
 |tup ps=>obtain⟨a,xs,rfl,hq,rp⟩:=id B;cases (show u=Value.ref a from ru);obtain⟨its,rr,o,N,⟨ec,n',ed⟩,en⟩:=I1.tupleN hq.sq;exact⟨"tuple","tuple.index",PySem.F.plainAttrs_tuple,Ag,PySem.F.type_tuple_index,⟨_,N,ec⟩,λb eb=>by cases eb;exact⟨_,N,en⟩,t _ ps q λs h n y vy C i D R py ry E q=>wJ hu D (R _ B) py ry E q⟩
 |_=>cases q
end
variable{L:Type}
noncomputable def iJ[DecidableEq L](k:L):List L->List D->Option D
 |h::s,v::x=>if h=k then some v else iJ k s x
 |_,_=>none
noncomputable def nz[DecidableEq L](k:L)(v:D):List L->List D->List L×List D
 |h::s,w::x=>if h=k then (h::s,v::x) else (h::(nz k v s x).1,w::(nz k v s x).2)
 |_,_=>([k],[v])
def fU:List P->Option (List dj)
 | []=>some []
 |p::r=>(eA p).bind λk=>(fU r).map λs=>k::s
noncomputable def rj(d:D)(S:aE):Option (Nat×List (List dj)×List D):=match d with
 | .ref i=>match S[i]? with
  |some (.dtt k v)=>some (i,k,v)
  |_=>none
 |_=>none
theorem pq(h:rj d S=some (i,k,n)):d=.ref i/\S[i]? = some (.dtt k n):=by
 unfold rj at h;split at h
 .split at h
  .rename_i e;cases h;exact⟨rfl,e⟩
  .cases h
 .cases h
section
variable{K:FG}{F:Aa}{H:Hp}{m:List Addr}
theorem iG:∀{ps:List P}{s:List dj}{a:List V},fU ps=some s->bB K F H ps a->a=s.map kV
 | [],s,a,h,r=>by cases h;exact r
 |p::ps,s,a,h,r=>by
  obtain⟨x,m,rfl,b,c⟩:=r;unfold fU at h;cases e:eA p with
  |none=>rw[e]at h;cases h
  |some k=>
   rw[e]at h;cases n:fU ps with
   |none=>rw[n]at h;cases h
   |some f=>rw[n]at h;cases h;rw[aD,gN e b,iG n c]
theorem i7[DecidableEq L]:∀{C:List (L×V)}{s:List D},bI K F H m s (C.map (·.2)) ->
  match iJ k (C.map (·.1)) s with|some d=>∃v,fL C k=some v/\RD K F H m d v|none=>fL C k=none
 | [],s,r=>by have:s=[]:=eh r.length;subst this;rfl
 |(h,v)::C,[],r=>by have:=r.length;simp at this
 |(h,v)::C,d::s,r=>by
  obtain⟨x,b,e,p,a⟩:=r;rw[aD]at e;injection e with n f;rw[<- f]at a;simp only[aD,iJ];by_cases hk:h=k
  .rw [ag hk];exact⟨v,gH (p:=(h,v)) hk,by rw[show v=x from n];exact p⟩
  .rw [aj hk,fK (p:=(h,v)) hk];exact i7 a
theorem nj[DecidableEq L](f:RD K F H m y u):∀{C:List (L×V)}{s:List D},(C.map (·.1)).Nodup->bI K F H m s (C.map (·.2)) ->
  (L2.putK C k u).map (·.1)=(nz k y (C.map (·.1)) s).1/\bI K F H m (nz k y (C.map (·.1)) s).2 ((L2.putK C k u).map (·.2))
 | [],s,_,r=>by have:s=[]:=eh r.length;subst this;exact⟨rfl,u,[],rfl,f,rfl⟩
 |(h,w)::C,[],_,r=>by have:=r.length;simp at this
 |(h,w)::C,d::s,p,r=>by
  obtain⟨x,B,e,A,G⟩:=r;rw[aD]at e p;injection e with g i;subst g;subst i;obtain⟨b,t⟩:=bL.mp p;simp only[aD,nz];by_cases hk:h=k
  .subst hk;rw[ag rfl];have same:∀l:List (L×V),h ∉ l.map (·.1)->l.map (λv=>if v.1=h then (v.1,u) else v)=l:=by
    intro l;induction l with
    |nil=>intro _;rfl
    |cons q l P=>
     intro n;rw[aD]at n;have j:¬q.1=h:=λz=>n (by rw[<- z];exact aJ)
     rw[aD,aj j,P λz=>n (aN _ z)]
   have a:L2.putK ((h,w)::C) h u=(h,u)::C:=by unfold L2.putK;rw[ag (by simp),aD,ag rfl,same C b]
   rw[a];exact⟨rfl,u,_,rfl,f,G⟩
  .rw [aj hk];obtain⟨o,S⟩:=nj (k:=k) f t G;have a:L2.putK ((h,w)::C) k u=(h,w)::L2.putK C k u:=by
    unfold L2.putK;rw[cG,aX (show ¬(h,w).1=k from hk),kq];by_cases c:(C.any λv=>decide (v.1=k))=true
    .rw [ag c,ag c,aD,aj (show ¬(h,w).1=k from hk)]
    .rw [aj c,aj c];rfl
   rw[a,aD,aD,o];exact⟨rfl,w,_,rfl,A,S⟩
end
section
variable{X:Cx}{pos G:Pos}{o T:Expr}{c:Ab}{fo:EE}{fs:j'}{fv:EV}
@[simp] def u0(_L:Lc)(S:aE):rg:=some (.ref S.length,S++[.dtt [] []])
theorem JV:PE X (.Dict [] [] pos) (tE X.K u0):=D8.imp' λJ H Q z=>by obtain⟨F,m,L,S,d,x,r,l,q,k⟩:=z;cases q;intro p h;refine k (.ref p) F (m++[p]) _ (bY h) (r.own h ⟨[],aC,rfl,rfl⟩) ⟨p,rfl,?_⟩;rw[<- r.len,bF (al _)];simp
@[simp] def IF(o:EE)(k:j')(L:Lc)(S:aE):rg:=bw (o L S) λd x=>bw (k L x) λps h=>match rj d h,fU ps with
 |some (_,s,v),some B=>if few ps=true then (iJ B s v).map λz=>(z,h) else none
 |_,_=>none
theorem Ig(b:X.A.units+1 < cLine):CV X (λx y H Q=>∃a v,x=.ref a/\jt H a y (some v)/\(∃C,H a=some (.dT C))/\Q v H):=by intro T l pins s J H x y v u Q I c m h f;obtain⟨a,w,rfl,g,⟨C,hk⟩,q⟩:=h;cases c;obtain⟨_,_,_,_,o,_,_,e,k,_⟩:=I.h a _ hk;exact lD ⟨o,e,k.1⟩ xa.lookup (sI b I g m λp t n r=>⟨w,H,n,r,q⟩) f
theorem Qt {N} (hu:X.A.units+1 < cLine) (ho:PE X o (tE X.K fo)) (hk:PA X c (pi X.K fs)) (hs:kG (.Tuple c N G)):PE X (.Subscript o (.Tuple c N G) pos) (tE X.K (IF fo fs)):=
 (A7 (Ig hu) ho (qd hk) hs).imp' λJ H Q hz=>by
  obtain⟨F,m,L,S,d,S',r,l,q,k⟩:=hz;obtain⟨x,K,W,q⟩:=ak q;obtain⟨ps,P,Z,q⟩:=ak q;refine⟨F,m,L,S,x,K,r,l,W,λv T m1 H1 I r1 p1=>?_⟩;refine⟨T,m1,L,K,ps,P,r1,l.mono I,Z,λR y m2 V M E G=>?_⟩;cases s:rj x P with
  |none=>rw[s]at q;cases q
  |some t=>
   obtain⟨j,ks,vs⟩:=t;rw[s]at q;cases h:fU ps with
   |none=>rw[h]at q;cases q
   |some B=>
    rw[h]at q;dsimp only at q;split at q
    .rename_i hf;obtain⟨z,eg,q⟩:=bJ.mp q;cases q;obtain⟨rfl,n⟩:=pq s;obtain⟨a,rfl,hm⟩:=RD.mono M p1;obtain⟨C,f,u,rs⟩:=E.obj j a _ hm n;subst u;have A:=i7 (k:=B) rs;rw[eg]at A;obtain⟨w,ev,i⟩:=A;refine⟨by rw[<- G.length];exact jZ hf,λb D=>?_⟩;have p:a≠b:=λz=>by rw[z,D]at f;cases f
     have e:br V b (.tup R) a=some (.dT C):=by rw[ar p];exact f
     have g:=bq (F:=y) (o:=.tup R) D;rw[iG h G]at e g ⊢;refine⟨a,w,rfl,by rw[<- ev];exact jt.t e aC,⟨C,e⟩,?_⟩;exact k w y m2 _ (I.trans (M.trans g.stp)) (E.grow g) (RD.mono g.stp i)
    .cases q
@[simp] def Jw(o:EE)(k:j')(L:Lc)(S:aE):rg:=bw (o L S) λd h=>match rj d h with
 |none=>none
 |some _=>bw (k L h) λps x=>match rj d x,fU ps with
  |some (_,s,v),some B=>if few ps=true then some ((iJ B s v).getD (.p .non),x) else none
  |_,_=>none
theorem M' {N} (hu:X.A.units+1 < cLine) (ho:PE X o (tE X.K fo)) (hk:PA X c (pi X.K fs)) (I:M1 X o "get" ap (.Tuple c N G) cp) :
  PE X (.Call (.Attribute o "get" ap) [.Tuple c N G] [] cp) (tE X.K (Jw fo fs)):=
 (Ea hu ho (qd hk) I).imp' λJ H Q hz=>by
  obtain⟨F,m,L,S,d,S',r,l,q,k⟩:=hz;obtain⟨x,p,e1,q⟩:=ak q;refine⟨F,m,L,S,x,p,r,l,e1,λv F1 m1 H1 V r1 p1=>?_⟩;cases e:rj x p with
  |none=>rw[e]at q;cases q
  |some t1=>
   obtain⟨j,ks1,vs1⟩:=t1;rw[e]at q;dsimp only at q;obtain⟨ps,Z,e2,q⟩:=ak q;obtain⟨rfl,y⟩:=pq e;obtain⟨a,rfl,hm⟩:=id p1;obtain⟨s,A,_,_⟩:=r1.obj j a _ hm y;refine⟨a,rfl,.inr ⟨s,.inl A⟩,?_⟩;refine⟨F1,m1,L,p,ps,Z,r1,l.mono V,e2,λus f m2 H2 W R G=>?_⟩;cases i:rj (.ref j) Z with
   |none=>rw[i]at q;cases q
   |some t=>
    obtain⟨j2,ks,vs⟩:=t;rw[i]at q;cases u:fU ps with
    |none=>rw[u]at q;cases q
    |some B=>
     rw[u]at q;dsimp only at q;split at q
     .rename_i hf;cases q;obtain⟨h,K⟩:=pq i;cases h;obtain⟨a',e4,M⟩:=RD.mono W p1;cases e4;obtain⟨C,P,E,rs⟩:=R.obj j a _ M K;subst E;have n:=i7 (k:=B) rs;refine⟨by rw[<- G.length];exact jZ hf,λb hb=>?_⟩;have D:a≠b:=λz=>by rw[z,hb]at P;cases P
      have h:br H2 b (.tup us) a=some (.dT C):=by rw[ar D];exact P
      have g:=bq (F:=f) (o:=.tup us) hb;rw[iG u G]at h g ⊢;refine⟨fL C B,jt.t h aC,?_⟩;cases eg:iJ B (C.map (·.1)) vs with
      |none=>rw[eg]at n k;rw[show fL C B=none from n];exact k .non f m2 _ (V.trans (W.trans g.stp)) (R.grow g) rfl
      |some z=>rw[eg]at n k;obtain⟨w,ev,T⟩:=n;rw[ev];exact k w f m2 _ (V.trans (W.trans g.stp)) (R.grow g) (RD.mono g.stp T)
     .cases q
@[simp] def DN(o:EE)(k:j')(v:EV)(L:Lc)(S:aE):Dw:=bw (v L S) λy a=>bw (o L a) λd e=>bw (k L e) λps h=>match rj d h,fU ps with
 |some (i,s,x),some B=>if (s.Nodup/\few s=true/\few ps=true) then some (.nx,L,h.set i (.dtt (nz B (.p y) s x).1 (nz B (.p y) s x).2)) else none
 |_,_=>none
theorem MR {N} (hu:X.A.units+1 < cLine) (ho:PE X o (tE X.K fo)) (hk:PA X c (pi X.K fs)) (hv:PE X T (tV X.K fv)) (hs:swapsWith T (some (.Subscript o (.Tuple c N G) h)) pos.line X.e=pure false) :
  PS X (.Assign [.Subscript o (.Tuple c N G) h] T pos) (i_ X.K (DN fo fs fv)):=(A5 hu ho (qd hk) hv hs).imp' λD J H hz=>by
 obtain⟨F,m,L,S,fl,L',S',r,l,q,k⟩:=hz;obtain⟨y,A,e1,q⟩:=ak q;obtain⟨d,E,e2,q⟩:=ak q;obtain⟨ps,I,e3,q⟩:=ak q;refine⟨F,m,L,S,y,A,r,l,e1,λv K V H1 s r1 p1=>?_⟩;refine⟨K,V,L,A,d,E,r1,l.mono s,e2,λx F2 m2 H2 e r2 G=>?_⟩;refine⟨F2,m2,L,E,ps,I,r2,(l.mono s).mono e,e3,λus P W H3 n r3 p3=>?_⟩;cases w:rj d I with
 |none=>rw[w]at q;cases q
 |some t=>
  obtain⟨j,ks,vs⟩:=t;rw[w]at q;cases p:fU ps with
  |none=>rw[p]at q;cases q
  |some B=>
   rw[p]at q;dsimp only at q;split at q
   .rename_i u;cases q;obtain⟨rfl,c⟩:=pq w;refine⟨by rw[<- p3.length];exact jZ u.2.2,λb hb=>?_⟩;have M:=bq (F:=P) (o:=.tup us) hb;have i:=r3.grow M;have f:=M.stp (m:=W);obtain⟨a,rfl,g⟩:=RD.mono f (RD.mono n G);obtain⟨C,R,hk,rs⟩:=i.obj j a _ g c;subst hk;have pv:=RD.mono f (RD.mono n (RD.mono e (show RD X.K K H1 V (.p y) v from p1)));obtain⟨h1,h2⟩:=nj (k:=B) pv u.1 rs;have Z:∀zs,br H3 b (.tup us) a≠some (.tup zs):=λzs z=>by rw[R]at z;cases z
    have st:=dE (o:=.dT (L2.putK C B v)) i g c trivial Z;have hl:C.length < sizeLine:=by have Q:(C.map (·.1)).length≤1000000:=aL u.2.1;rw[bv]at Q;exact iW Q (by decide)
    refine⟨a,_,rfl,wS.t (k:=B) R ?_ hl,?_⟩
    .rw [iG p p3];exact aC
    .exact k J P W _ (s.trans (e.trans (n.trans (f.trans st)))) (i.set g c trivial Z ⟨_,aC,h1,bI.mono st h2⟩) ((((l.mono s).mono e).mono n).mono (f.trans st))
   .cases q
end
section
variable{X:Cx}{pins:PN}{J:L2.St}{H:Hp}{s:Shared}{a:Addr}{C:List (dj×V)}{B:dj}{u r:Value}{x:V}{A:Around}{E:VP}
theorem Fw(I:Inv X pins J H s)(e:H a=some (.dK C))(K:C.length < sizeLine)(S:RelV (kV B) u)(o:RelV x r)
  (t:∀v w n,fL C B=some v->RelV v w->Inv X pins J H n->Q w n) (p:fL C B=none->∀n,Inv X pins J (br H a (.dK (L2.putK C B x))) n->Q r n) :
  wpAny (model X.p X.w) A (call (.builtin "dict.setdefault") [.ref a,u,r]) Q E s:=by
 obtain⟨z,f,F,l,dd⟩:=Jx I.h e;have h:=l.val B;refine pH Ah dd.typeIs PySem.F.entry_dict_setdefault (PySem.F.args_dict_setdefault_3 _ _ _) (kt_meets_setdefault (bP X.p X.w) a (nY S) f r)
  ⟨F,dd,by rw[<- l.length];exact z,λv k=>?_,λc m d j=>?_⟩
 .cases q:fL C B with
  |none=>rw[q,k]at h;cases h
  |some b=>rw[q,k]at h;exact t b v _ q h (I.tok _)
 .have q:fL C B=none:=by
   cases q:fL C B with
   |none=>rfl
   |some b=>rw[q,c]at h;cases h
  refine p q _ ?_;have g:∃q,m.get? a=some q:=let ⟨q,_,_,i,_⟩:=d;⟨q,i⟩
  have y:(L2.putK C B x).length≤sizeLine:=by have:=jW C B x;lia
  exact pC I (by rw[e];exact True.intro) j g (Fq y f (l.put B o) d)
end
section
variable{X:Cx}{o e f:Expr}{ap cp:Pos}{fo fd:EE}{fk:EV}
@[simp] def uZ(o:EE)(k:EV)(d:EE)(L:Lc)(S:aE):rg:=bw (o L S) λx a=>match np x a with
 |none=>none
 |some _=>bw (k L a) λz e=>bw (d L e) λy h=>match np x h,eA z with
  |some (i,s,v),some B=>if (s.Nodup/\few s=true) then match iJ B s v with
    |some w=>some (w,h)
    |none=>some (y,h.set i (.dct (nz B y s v).1 (nz B y s v).2))
   else none
  |_,_=>none
theorem GZ(ho:PE X o (tE X.K fo))(he:PE X e (tV X.K fk))(hf:PE X f (tE X.K fd))(n:M2 X o "setdefault" ap e f cp):PE X (.Call (.Attribute o "setdefault" ap) [e,f] [] cp) (tE X.K (uZ fo fk fd)):=by
 intro pins s J H Q I ⟨F,m,L,S,d,S',r,l,q,k⟩;obtain⟨x,S1,e1,q⟩:=ak q;refine xb n.base n.few n.line ue Ah PySem.F.type_dict_setdefault
  (b_ (ho pins s J H (λv P=>∃b i,Stp F m H b i P/\Rel X.K b P i S1/\RD X.K b P i x v) I ⟨F,m,L,S,x,S1,r,l,e1,λv b i P s1 r1 p1=>⟨b,i,s1,r1,p1⟩⟩) λu s1 ⟨v,P,I1,ru,b,i,R,r1,p1⟩=>?_)
 cases D:np x S1 with
 |none=>rw[D]at q;cases q
 |some t1=>
  obtain⟨j,ks1,vs1⟩:=t1;rw [D] at q;dsimp only at q;obtain⟨z,S2,e2,q⟩:=ak q;obtain⟨y,S3,e3,q⟩:=ak q;obtain⟨rfl,es1⟩:=uH D;obtain⟨a,rfl,hm⟩:=id p1;obtain⟨kvs1,hH1,_,_⟩:=r1.obj j a _ hm es1;cases (show u=Value.ref a from ru);obtain⟨t1,t2,_⟩:=xZ I1 (.inl ⟨kvs1,.inl hH1⟩);refine⟨t1,t2,?_⟩;rw [n.trees];refine iU rfl (kf (cm (b_ (he pins s1 J P (fun vz A=>∃c N,Stp b i P c N A/\Rel X.K c A N S2/\RP X.K c A z vz) I1 ⟨b,i,L,S1,z,S2,r1,l.mono R,e2,fun v c N A s2 r2 G=>⟨c,N,s2,r2,G⟩⟩) fun uz s2 ⟨vz,A,I2,rz,c,N,T,r2,G⟩=>
   cm (b_ (hf pins s2 J A (λvy g=>∃p K,Stp c N A p K g/\Rel X.K p g K S3/\RD X.K p g K y vy) I2 ⟨c,N,L,S2,y,S3,r2,(l.mono R).mono T,e3,λv p K g s3 Z p3=>⟨p,K,s3,Z,p3⟩⟩) λuy s3 ⟨vy,g,I3,ry,p,K,V,Z,p3⟩=>dC ?_))))
  cases eo:np (.ref j) S3 with
  |none=>rw[eo]at q;cases q
  |some t=>
   obtain⟨j2,ks,vs⟩:=t;rw[eo]at q;cases ek:eA z with
   |none=>rw[ek]at q;cases q
   |some B=>
    rw[ek]at q;dsimp only at q;split at q
    .rename_i hc;obtain⟨e4,E⟩:=uH eo;cases e4;obtain⟨a',e5,M⟩:=RD.mono (T.trans V) p1;cases e5;obtain⟨C,hH,hk,rs⟩:=Z.obj j a _ M E;subst hk;have W:=i7 (k:=B) rs;have pz:=RP.mono V G;have ez:=gN ek pz;subst ez;have hl:C.length < sizeLine:=by
      have h9:(C.map (·.1)).length≤1000000:=aL hc.2;rw[bv]at h9;exact iW h9 (by decide)
     have stA:=R.trans (T.trans V);refine Fw I3 hH hl rz ry (λv w s' ev rv I'=>?_) λev s' I'=>?_
     .cases eg:iJ B (C.map (·.1)) vs with
      |none=>rw[eg]at W;rw[show fL C B=none from W]at ev;cases ev
      |some w'=>rw[eg]at W q;dsimp only at q;cases q;obtain⟨v',h,rd⟩:=W;rw[ev]at h;cases h;exact⟨v,g,I',rv,k v p K g stA Z rd⟩
     .cases eg:iJ B (C.map (·.1)) vs with
      |some w'=>rw[eg]at W;obtain⟨v',h,_⟩:=W;rw[ev]at h;cases h
      |none=>
       rw[eg]at q;dsimp only at q;cases q;obtain⟨h1,h2⟩:=nj (k:=B) p3 hc.1 rs;have nt:∀zs,g a≠some (.tup zs):=λzs z=>by rw[hH]at z;cases z
       have st:=dE (o:=.dK (L2.putK C B vy)) Z M E trivial nt;exact⟨vy,_,I',ry,k vy p K _ (stA.trans st) (Z.set M E trivial nt ⟨_,aC,h1,bI.mono st h2⟩) (RD.mono st p3)⟩
    .cases q
end
end Ev
set_option tactic.hygienic false
namespace PySem
open PySem PyProof.Rows
section
variable{prog:Program}{w:World}{A:Around}{E:VP}{s:Shared}
theorem pY(t:s.heap.IsTupleIter k h i)(b:s.heap.IsTuple h n)(m:n[i]? = some x)
  (f:∀a,a.IsTupleIter k h (i+1)->cD k s.heap a->Q x { s with heap:=a }):wpAny (model prog w) A (dZ (.ref k)) Q E s:=by
 have T:=t.typeIs;obtain⟨⟨v,u,r,p⟩,o,c,e⟩:=id t;obtain⟨g,l,_,q,d⟩:=b;dsimp only at c e;subst c e;unfold dZ;apply ae;apply pP (name:=Str.ofString "__next__") T pf;refine mV pf T z5 ?_ (z7 _);repeat first|with_reducible refine ae (cV o rfl (x:=.ref h) rfl ?_)|wp_step
 rw[d];apply aq;simp only[ke,m];apply ae;apply Ap o rfl (by simp);refine aq ⟨x,rfl,aq (f _ ⟨_,o3 _ o rfl,rfl,?_⟩ (ka ..))⟩;simp[yC,rawInt]
theorem i9(m:A.handled=none)(t:s.heap.IsTupleIter q h i)(p:s.heap.IsTuple h n)(v:n[i]? = none)
  (b:∀a e,g7 q s.heap a->(∃o,a.get? e=some o/\o.cls=.type "StopIteration")->E (.ref e) { s with heap:=a }):wpAny (model prog w) A (dZ (.ref q)) Q E s:=by
 have T:=t.typeIs;obtain⟨⟨y,z,u,g⟩,r,c,k⟩:=id t;obtain⟨H,l,_,j,d⟩:=p;dsimp only at c k;subst c k;unfold dZ;apply ae;apply pP (name:=Str.ofString "__next__") T pf;refine mV pf T z5 ?_ (z7 _);repeat first|with_reducible refine ae (cV r rfl (x:=.ref h) rfl ?_)|wp_step
 rw[d];apply aq;simp only[ke,v];have f:A.in1.handled=none:=m;repeat first|assumption|wp_step
 unfold raiseNew;apply ae;apply wpAny_handled;rw[f];apply wpAny_throw;exact b _ _ (((ka ..).extBut.push _).push _) ⟨_,aR _ rfl,rfl⟩
def rc(t:Bool)(h:Heap)(i l:Addr)(k:Nat):Prop:=if t=true then h.IsTupleIter i l k else h.IsListIter i l k
def CM(t:Bool)(h:Heap)(l:Addr)(y:Array Value):Prop:=if t=true then h.IsTuple l y else h.IsList l y
theorem rc.extBut(x:rc n h a l i)(s:g7 b h k)(e:a≠b):rc n k a l i:=by
 cases n
 .exact Heap.IsListIter.extBut x s e
 .exact Heap.IsTupleIter.extBut x s e
theorem CM.extBut(x:CM n h a q)(s:g7 b h k)(e:a≠b):CM n k a q:=by
 cases n
 .exact Heap.IsList.extBut x s e
 .exact Heap.IsTuple.extBut x s e
theorem rc.obj(x:rc k h a l i):∃o,h.get? a=some o/\(∃v,o.data=.fields v)/\∀s,s.get? a=some o->rc k s a l i:=by
 cases k
 .obtain⟨o,e,c,d⟩:=x;exact⟨o,e,⟨_,d⟩,λs n=>⟨o,n,c,d⟩⟩
 .obtain⟨o,e,c,d⟩:=x;exact⟨o,e,⟨_,d⟩,λs n=>⟨o,n,c,d⟩⟩
theorem wa(t:rc q s.heap k h i)(f:CM q s.heap h n)(b:n[i]? = some x)
  (e:∀a,rc q a k h (i+1)->cD k s.heap a->Q x { s with heap:=a }):wpAny (model prog w) A (dZ (.ref k)) Q E s:=by
 cases q
 .exact AO t f b e
 .exact pY t f b e
def dY(h:Heap)(z TI TO:Addr)(f x:Value):Prop:=h.get? z=some { cls:=.type "zip",data:=.fields #[f,x,.bool false,.ref TI,.ref TO] }
def cy(h:Heap)(T:Addr)(a b:Value):Prop:=h.get? T=some { cls:=.type "tuple",data:=.seq #[a,b] }
theorem Dh (l y:Addr) (xs ys:Array Value):Meets (Builtin.«zip.__new__» ⟨[.type "zip",.ref l,.ref y],[]⟩) (fun _ R s=>s.heap.IsList l xs/\s.heap.IsTuple y ys /\
  ∀v S F TI TO z,(∀b o,s.heap.get? b=some o->v.get? b=some o)->s.heap.objs.size≤S->S < F->F < TI->TI < TO->TO < z->v.IsListIter S l 0->v.IsTupleIter F y 0->cy v TI (.ref S) (.ref F)->cy v TO .none .none ->
   dY v z TI TO .none (.bool false)->R (.ok (.ret (.ref z))) { s with heap:=v }):=
 .of_wp λprog w A R s h=>by
  obtain⟨i,g,d,Z,os⟩:=s;obtain⟨B,C,h⟩:=h;have X:=sub_zip;have L:y6 (ly ⟨i,g,d,Z,os⟩) l xs:=B;have P:tu (ly ⟨i.push { cls:=.type "list_iterator",data:=.fields #[.ref l,.int 0 0] },g,d,Z,os⟩) y ys:=C.push _
  wp_walk using lj L,pM P
  have j:∀(u n x a f c:Heap)(r t p q m:Obj),n=u.push r->x=n.push t->a=x.push p->f=a.push q->c=f.push m->r.isFreed=false->t.isFreed=false->p.isFreed=false->q.isFreed=false->m.isFreed=false ->
    (∀b o,u.get? b=some o->c.get? b=some o)/\u.objs.size < n.objs.size/\n.objs.size < x.objs.size/\x.objs.size < a.objs.size/\a.objs.size < f.objs.size /\
    c.get? u.objs.size=some r/\c.get? n.objs.size=some t/\c.get? x.objs.size=some p/\c.get? a.objs.size=some q/\c.get? f.objs.size=some m:=by
   intro u n x a f c r t p q m E G I M N f1 f2 f3 f4 f5;have Q:n.get? u.objs.size=some r:=by rw[E];exact aR _ f1
   have T:x.get? n.objs.size=some t:=by rw[G];exact aR _ f2
   have V:a.get? x.objs.size=some p:=by rw[I];exact aR _ f3
   have W:f.get? a.objs.size=some q:=by rw[M];exact aR _ f4
   have g5:c.get? f.objs.size=some m:=by rw[N];exact aR _ f5
   have u2:∀b o,n.get? b=some o->x.get? b=some o:=λb o e=>by rw[G];exact aF _ e
   have D:∀b o,x.get? b=some o->a.get? b=some o:=λb o e=>by rw[I];exact aF _ e
   have K:∀b o,a.get? b=some o->f.get? b=some o:=λb o e=>by rw[M];exact aF _ e
   have H:∀b o,f.get? b=some o->c.get? b=some o:=λb o e=>by rw[N];exact aF _ e
   exact⟨λb o e=>H _ _ (K _ _ (D _ _ (u2 _ _ (by rw[E];exact aF _ e)))),av Q,av T,av V,av W,H _ _ (K _ _ (D _ _ (u2 _ _ Q))),H _ _ (K _ _ (D _ _ T)),H _ _ (K _ _ V),H _ _ W,g5⟩
  let r:Obj:={ cls:=.type "list_iterator",data:=.fields #[.ref l,.int 0 0] }
  let n:=i.push r
  let t:Obj:={ cls:=.type "tuple_iterator",data:=.fields #[.ref y,.int 0 0] }
  let x:=n.push t
  let p:Obj:={ cls:=.type "tuple",data:=.seq #[.ref i.objs.size,.ref n.objs.size] }
  let a:=x.push p
  let q:Obj:={ cls:=.type "tuple",data:=.seq #[.none,.none] }
  let f:=a.push q
  let m:Obj:={ cls:=.type "zip",data:=.fields #[.none,.bool false,.bool false,.ref x.objs.size,.ref a.objs.size] }
  obtain⟨k,s1,s2,s3,s4,a1,a2,a3,a4,a5⟩:=j i n x a f (f.push m) r t p q m rfl rfl rfl rfl rfl rfl rfl rfl rfl rfl;exact⟨_,rfl,h (f.push m) i.objs.size n.objs.size x.objs.size a.objs.size f.objs.size k (al _) s1 s2 s3 s4 ⟨_,a1,rfl,rfl⟩ ⟨_,a2,rfl,rfl⟩ a3 a4 a5⟩
end
section
variable{prog:Program}{w:World}{A:Around}{E:VP}{s:Shared}
theorem CL(h:Q (s.heap.get? a) s):wpAny M A (loadIfAlive a) Q E s:=λx p _=>by unfold loadIfAlive;rw[Sem.wp_loadIfAlive];exact(Sem.wp_pure ..).mpr h
theorem qy{z TI TO T:Addr}{f:Bool}{o:Obj}{Q:Bool->Shared->Prop}(a:dY s.heap z TI TO (rawInt T) (.bool f))(n:s.heap.get? T=some o)
  (h:∀e,dY e z TI TO (rawInt T) (.bool true)->cD z s.heap e->Q false { s with heap:=e }):wpAny (model prog w) A (oU (.ref z)) Q E s:=by
 unfold oU;apply ae;refine cV (show s.heap.get? z=some _ from a) rfl (x:=rawInt T) rfl ?_;unfold rawInt;dsimp only;apply ae;refine CL ?_;rw[ke,n];rw[aj (by simp)];apply ae;refine cV (show s.heap.get? z=some _ from a) rfl (x:=.bool f) rfl ?_;cases f with
 |true=>rw[aj (by decide)];exact aq (h s.heap a ⟨rfl,λ_ _=>rfl⟩)
 |false=>rw[ag (by decide)];apply ae;refine Ap (show s.heap.get? z=some _ from a) rfl (by simp) (aq (h _ ?_ (ka ..)));unfold dY;rw[o3 _ (show s.heap.get? z=some _ from a) rfl];simp[yC]
theorem BQ{z TI TO i a l r T:Addr}{K:Bool}{k:Nat}{H S:Array Value}{x y:Value}{oT:Obj}{Q:VP}(q:dY s.heap z TI TO (rawInt T) (.bool K))(I:cy s.heap TI (.ref i) (.ref a))(D:s.heap.get? T=some oT)
  (P:s.heap.IsListIter i l k) (B:s.heap.IsTupleIter a r k) (t:s.heap.IsList l H) (p:s.heap.IsTuple r S) (L:H[k]? = some x) (M:S[k]? = some y)
  (u:i≠z) (g:a≠z) (W:l≠z) (X:r≠z) (j:a≠i) (Z:r≠i) (n7:l≠a) (n8:l≠i) (n9:r≠a)
  (C:∀m:Heap,dY m z TI TO (rawInt T) (.bool true)->m.IsListIter i l (k+1)->m.IsTupleIter a r (k+1)->(∀c o,c≠z->c≠i->c≠a->s.heap.get? c=some o->m.get? c=some o) ->
   Q (.ref m.objs.size) { s with heap:=m.push { cls:=.type "tuple",data:=.seq #[x,y] } }) :
  wpAny (model prog w) A (Builtin.«zip.__next__» ⟨[.ref z],[]⟩) (λdH s'=>∃h,dH=.done (.ret h)/\Q h s') E s:=by
 unfold Builtin.«zip.__next__»;apply ae;apply aq;apply ae;refine cV (show s.heap.get? z=some _ from q) rfl (x:=.bool false) rfl ?_;apply ae;refine cV (show s.heap.get? z=some _ from q) rfl (x:=.ref TI) rfl ?_;apply ae;refine gG (show s.heap.get? TI=some _ from I) rfl ?_;dsimp only;rw[aj (by simp)];apply ae;refine qy q D λh0 d b=>?_
 rw[aj (by simp)];apply ae;rw[<- lM];show wpAny _ _ (forIn [Value.ref i,Value.ref a] _ _) _ _ _;rw[gw];apply ae;apply ae;apply cF;show wpAny _ _ (dZ (.ref i) >>= _) _ _ _;apply ae;refine AO (P.extBut b.extBut u) (t.extBut b.extBut W) L λha R n=>aq ?_;dsimp only;apply aq;dsimp only;rw[gw];apply ae;apply ae;apply cF;show wpAny _ _ (dZ (.ref a) >>= _) _ _ _;apply ae;refine pY ((B.extBut b.extBut g).extBut n.extBut j) ((p.extBut b.extBut X).extBut n.extBut Z) M λG V f=>aq ?_;dsimp only;apply aq;dsimp only;rw[zd];apply aq;dsimp only;apply ae;refine w1 (hsz:=by show 2≤sizeLine;decide) (aq ⟨_,rfl,C G ?_ ?_ V ?_⟩)
 .exact f.extBut _ _ (aH g) (n.extBut _ _ (aH u) d)
 .exact R.extBut f.extBut (aH j)
 .exact λc o N v F e=>f.extBut _ _ F (n.extBut _ _ v (b.extBut _ _ N e))
theorem Di{z TI TO i f n T:Addr}{t:Bool}{k:Nat}{m:Array Value}{S:Obj}{Q:Fin->Shared->Prop}(u:A.handled=none)(a:dY s.heap z TI TO (rawInt T) (.bool t))(I:cy s.heap TI (.ref i) (.ref f))(d:s.heap.get? T=some S)
  (p:s.heap.IsListIter i n k) (l:s.heap.IsList n m) (g:m[k]? = none) (y:i≠z) (H:n≠z)
  (q:∀h e,(∀c o,c≠z->c≠i->s.heap.get? c=some o->h.get? c=some o)->(∃o,h.get? e=some o/\o.cls=.type "StopIteration")->E (.ref e) { s with heap:=h }) :
  wpAny (model prog w) A (Builtin.«zip.__next__» ⟨[.ref z],[]⟩) Q E s:=by
 unfold Builtin.«zip.__next__»;apply ae;apply aq;apply ae;refine cV (show s.heap.get? z=some _ from a) rfl (x:=.bool false) rfl ?_;apply ae;refine cV (show s.heap.get? z=some _ from a) rfl (x:=.ref TI) rfl ?_;apply ae;refine gG (show s.heap.get? TI=some _ from I) rfl ?_;dsimp only;rw[aj (by simp)];apply ae;refine qy a d λF j b=>?_
 rw[aj (by simp)];apply ae;rw[<- lM];show wpAny _ _ (forIn [Value.ref i,Value.ref f] _ _) _ _ _;rw[gw];apply ae;apply ae;apply cF;show wpAny _ _ (dZ (.ref i) >>= _) _ _ _;apply ae;exact AK u (p.extBut b.extBut y) (l.extBut b.extBut H) g λh e x o=>q h e (λc K N v r=>x _ _ v (b.extBut _ _ N r)) o
end
section
variable{prog:Program}{w:World}{A:Around}{E:VP}{s:Shared}
theorem rc.at(x:rc n h a l i)(k:∀o,h.get? a=some o->h'.get? a=some o):rc n h' a l i:=by obtain⟨o,e,_,f⟩:=x.obj;exact f _ (k o e)
theorem Ij(k:A.handled=none)(t:rc d s.heap q h i)(f:CM d s.heap h n)(b:n[i]? = none)
  (a:∀x e,g7 q s.heap x->(∃o,x.get? e=some o/\o.cls=.type "StopIteration")->E (.ref e) { s with heap:=x }):wpAny (model prog w) A (dZ (.ref q)) Q E s:=by
 cases d
 .exact AK k t f b a
 .exact i9 k t f b a
theorem rS{tq tp:Bool}{k:Nat}{z TI TO i d G H:Addr}{xs ys:Array Value}{x y p q:Value}{Q:VP}(S:dY s.heap z TI TO .none (.bool false))(L:cy s.heap TI (.ref i) (.ref d))(M:cy s.heap TO p q)
  (h1:rc tq s.heap i G k) (h2:rc tp s.heap d H k) (R:CM tq s.heap G xs) (V:CM tp s.heap H ys) (hx:xs[k]? = some x) (hy:ys[k]? = some y)
  (n1:i≠z) (n2:d≠z) (n3:G≠z) (n4:H≠z) (n5:d≠i) (n6:H≠i) (I:TO≠z) (n8:TO≠i) (n9:TO≠d) (n10:H≠TO)
  (hQ:∀(g:Heap) (T:Addr),dY g z TI TO (rawInt T) (.bool false)->rc tq g i G (k+1)->rc tp g d H (k+1)->cy g TO x y->cy g T x y->T=s.heap.objs.size->(∀c o,c≠z->c≠i->c≠d->c≠TO->s.heap.get? c=some o->g.get? c=some o) ->
   Q (.ref T) { s with heap:=g }) :
  wpAny (model prog w) A (Builtin.«zip.__next__» ⟨[.ref z],[]⟩) (λdH s'=>∃h,dH=.done (.ret h)/\Q h s') E s:=by
 unfold Builtin.«zip.__next__»;apply ae;apply aq;apply ae;refine cV (show s.heap.get? z=some _ from S) rfl (x:=.bool false) rfl ?_;apply ae;refine cV (show s.heap.get? z=some _ from S) rfl (x:=.ref TI) rfl ?_;apply ae;refine gG (show s.heap.get? TI=some _ from L) rfl ?_;dsimp only;rw[aj (by simp)];apply ae;unfold oU;apply ae;refine cV (show s.heap.get? z=some _ from S) rfl (x:=.none) rfl (aq ?_);rw[ag rfl];apply ae;apply pG;apply ae;refine cV (show s.heap.get? z=some _ from S) rfl (x:=.ref TO) rfl ?_;dsimp only;apply ae;refine pN (show s.heap.get? z=some _ from S) (by simp) λh0 W b=>?_
 apply ae;show wpAny _ _ (forIn [(Value.ref i,0),(Value.ref d,1)] _ _) _ _ _;rw[gw];apply ae;apply ae;apply wZ;show wpAny _ _ (dZ (.ref i) >>= _) _ _ _;apply ae;refine wa (h1.extBut b.extBut n1) (R.extBut b.extBut n3) hx λha ia n=>aq ?_;dsimp only;have B:ha.get? TO=some { cls:=.type "tuple",data:=.seq #[p,q] }:=n.extBut _ _ n8 (b.extBut _ _ I M);apply ae;refine gG B rfl ?_;dsimp only;apply ae;refine AI (s:={ s with heap:=ha }) B λhb j f=>?_;replace j:hb.get? TO=some { cls:=.type "tuple",data:=.seq #[x,q] }:=j;apply ae;apply wpAny_letGo;apply aq;dsimp only;rw[gw];apply ae;apply ae;apply wZ;show wpAny _ _ (dZ (.ref d) >>= _) _ _ _;apply ae;refine wa (((h2.extBut b.extBut n2).extBut n.extBut n5).extBut f.extBut (aH n9)) (((V.extBut b.extBut n4).extBut n.extBut n6).extBut f.extBut n10) hy λhc ic m=>aq ?_;dsimp only;have C:hc.get? TO=some { cls:=.type "tuple",data:=.seq #[x,q] }:=m.extBut _ _ n9 j;apply ae;refine gG C rfl ?_;dsimp only;apply ae;refine AI (s:={ s with heap:=hc }) C λl u t=>?_;replace u:l.get? TO=some { cls:=.type "tuple",data:=.seq #[x,y] }:=u;apply ae;apply wpAny_letGo;apply aq;dsimp only;rw[zd];apply aq;dsimp only;apply ae;refine gG u rfl ?_;dsimp only;apply ae;refine w1 (hsz:=by show 2≤sizeLine;decide) ?_;have F:l.get? z=some { cls:=.type "zip",data:=.fields #[.ellipsis,.bool false,.bool false,.ref TI,.ref TO] }:=t.extBut _ _ (aH I) (m.extBut _ _ (aH n2) (f.extBut _ _ (aH I) (n.extBut _ _ (aH n1) W)));have D:=av F;have X:(l.push { cls:=.type "tuple",data:=.seq #[x,y] }).get? z=some { cls:=.type "zip",data:=.fields #[.ellipsis,.bool false,.bool false,.ref TI,.ref TO] }:=aF _ F;apply ae;unfold Gb;dsimp only;apply ae;refine pN X (by simp) λhe Z K=>?_;refine pN Z (by simp) λhf hz7 P=>?_;have a:∀c o,c≠z->l.get? c=some o->hf.get? c=some o:=λc o N e=>P.extBut _ _ N (K.extBut _ _ N (aF _ e));refine aq ⟨_,rfl,hQ hf l.objs.size hz7 ?_ ?_ (a _ _ I u) ?_ ?_ ?_⟩
 .exact rc.at (((ia.extBut f.extBut (aH n8)).extBut m.extBut (aH n5)).extBut t.extBut (aH n8)) λo e=>a _ o n1 e
 .obtain⟨o,e,_,r⟩:=(ic.extBut t.extBut (aH n9)).obj;exact r _ (a _ o n2 e)
 .exact P.extBut _ _ (bA D) (K.extBut _ _ (bA D) (aR _ rfl))
 .show l.objs.size=s.heap.objs.size;rw[t.1,m.1,f.1,n.1,b.1]
 .exact λc o N v c3 c4 e=>a c o N (t.extBut _ _ c4 (m.extBut _ _ c3 (f.extBut _ _ c4 (n.extBut _ _ v (b.extBut _ _ N e)))))
theorem vq(H:A.handled=none)(a:dY s.heap z TI TO .none (.bool false))(T:cy s.heap TI (.ref d) (.ref I))
  (i:rc M s.heap d g k) (l:CM M s.heap g xs) (S:xs[k]? = none) (t:d≠z) (K:g≠z)
  (y:∀h e,(∀c o,c≠z->c≠d->s.heap.get? c=some o->h.get? c=some o)->(∃o,h.get? e=some o/\o.cls=.type "StopIteration")->E (.ref e) { s with heap:=h }) :
  wpAny (model prog w) A (Builtin.«zip.__next__» ⟨[.ref z],[]⟩) Q E s:=by
 unfold Builtin.«zip.__next__»;apply ae;apply aq;apply ae;refine cV (show s.heap.get? z=some _ from a) rfl (x:=.bool false) rfl ?_;apply ae;refine cV (show s.heap.get? z=some _ from a) rfl (x:=.ref TI) rfl ?_;apply ae;refine gG (show s.heap.get? TI=some _ from T) rfl ?_;dsimp only;rw[aj (by simp)];apply ae;unfold oU;apply ae;refine cV (show s.heap.get? z=some _ from a) rfl (x:=.none) rfl (aq ?_);rw[ag rfl];apply ae;apply pG;apply ae;refine cV (show s.heap.get? z=some _ from a) rfl (x:=.ref TO) rfl ?_;dsimp only;apply ae;refine pN (show s.heap.get? z=some _ from a) (by simp) λB r b=>?_
 apply ae;show wpAny _ _ (forIn [(Value.ref d,0),(Value.ref I,1)] _ _) _ _ _;rw[gw];apply ae;apply ae;apply wZ;show wpAny _ _ (dZ (.ref d) >>= _) _ _ _;apply ae;refine Ij H (i.extBut b.extBut t) (l.extBut b.extBut K) S λh e x o=>?_;have n:=x _ _ (aH t) r;refine pN (s:={ s with heap:=h }) n (by simp) λj F f=>y j e (λc p N v u=>f.extBut _ _ N (x _ _ v (b.extBut _ _ N u))) ?_;obtain⟨p,m,c⟩:=o;have P:e≠z:=λq=>by rw[q,n]at m;cases m;exact absurd (show Value.type "zip"=Value.type "StopIteration" from c) (by decide)
 exact⟨p,f.extBut _ _ P m,c⟩
end
theorem vn:typeLookup (.type "zip") "keys"=pure none:=by rw[w5,xg];kernel_rfl
theorem pU:typeLookup (.type "zip") "__getattr__"=pure none:=by rw[w5,xg];kernel_rfl
theorem mY:entryFor table "zip.__getattribute__"=some Builtin.«object.__getattribute__»:=
 entryFor_alias (id':="object.__getattribute__") (by kernel_rfl) (by decide +kernel) (by decide +kernel) (by kernel_rfl)
section
variable{prog:Program}{w:World}{A:Around}{E:VP}{s:Shared}
theorem Dg(z TI TO:Addr)(f0 f1:Value)(u:Tok):Meets (Builtin.«object.__getattribute__» ⟨[.ref z,.str "keys" u],[]⟩) (λA R s=>dY s.heap z TI TO f0 f1/\raisesAttr (.ref z) "keys" A R s):=
 .of_wp λprog w A R s hs=>by
  obtain⟨hp,g,d,tk,os⟩:=s;obtain⟨hx,hs⟩:=hs;unfold dY at hx;have hT:(⟨hp,g,d,tk,os⟩:Shared).TypeIs (.ref z) "zip":=⟨_,hx,rfl⟩;have nk:=vn;unfold Builtin.«object.__getattribute__»;repeat any_goals first|assumption|wp_step
  exact wpAny_raiseAttrError hs.1 hs.2 (attrMsg_fits (by decide +kernel) (by size_fits))
theorem BP(q:dY s.heap z TI TO l j)(i:A.handled=none)
  (h:∀x v,(∀b o,s.heap.get? b=some o->x.get? b=some o)->Q none { s with heap:=x,toks:=v }):wpAny (model prog w) A (getAttr? (.ref z) "keys") Q E s:=by
 obtain⟨p,g,d,v,os⟩:=s;have T:∀t,(⟨p,g,d,t,os⟩:Shared).TypeIs (.ref z) "zip":=λ_=>⟨_,q,rfl⟩;have j:=AD;have y:=t_.lookup;have H:=t_.bind (.ref z);have S:=pU;have step:∀(n:Nat)(u:Tok)(m:VP)(f:VP),(∀x c e,y7 p x e (.ref z) "keys"->f (.ref e) ⟨x,g,d,c,os⟩) ->
   wpAny (model prog w) A (call (Value.builtin "zip.__getattribute__") ([Value.ref z]++[Value.str "keys" u]) []) m f ⟨p,g,d,n,os⟩:=λn u m f k=>
  eF t_ (T _) mY (F.args_zip_getattribute_2 _ _) (Dg z TI TO _ _ u) ⟨q,i,k⟩
 unfold getAttr?;unfold getAttrBy?;unfold getAttrBy;repeat any_goals first|assumption|exact T _|(with_reducible refine step _ _ _ _ λx t e a=>?_)|wp_step
 have r:=a.there;obtain⟨K,P,r⟩:=r;repeat any_goals first|assumption|wp_step
 exact h _ _ a.keeps
end
section
variable{prog:Program}{w:World}{A:Around}{E:VP}{s:Shared}
theorem uk(n:s.TypeIs (.ref z) "zip")
  (h:wpAny (model prog w) A.in1 (Builtin.«zip.__next__» ⟨[.ref z],[]⟩) (λdH x=>∃v,dH=.done (.ret v)/\Q (some v) x) (λe x=>∃a o,e=.ref a/\x.heap.get? a=some o/\o.cls=.type "StopIteration"/\Q none x) s) :
  wpAny (model prog w) A (pyNext (.ref z)) Q E s:=by
 unfold pyNext;apply ae;apply wpAny_attempt;refine pP (name:=Str.ofString "__next__") n zN (mV zN n F.entry_zip_next (bN h (λdH x ⟨v,e,q⟩=>⟨v,e,aq q⟩) λe x ⟨a,o,k,f,c,q⟩=>?_) (F.args_zip_next_1 _));subst k;apply ae;exact Ay (T:="StopIteration") (b:=true) ⟨_,f,c⟩ isSubtype_stop (aq q)
def IW(d:Addr)(h:Heap)(z TI TO i x l a:Addr)(k:Nat):Prop:=cy h TI (.ref i) (.ref x)/\h.IsListIter i l k/\h.IsTupleIter x a k /\
 ((k=0/\dY h z TI TO .none (.bool false)/\cy h TO .none .none)\/∃(T:Addr)(o:Obj)(f:Bool),dY h z TI TO (rawInt T) (.bool f)/\h.get? T=some o/\T≠z/\T≠i/\T≠x/\T≠d)
structure ZAp(d z TI TO i1 i2 l1 l2:Addr):Prop where
 nd:[d,z,TI,TO,i1,i2].Nodup
 l1n:l1 ∉ [d,z,TI,TO,i1,i2]
 l2n:l2 ∉ [d,z,TI,TO,i1,i2]
theorem IW.typeIs(x:IW d s.heap z TI TO n q l g k):s.TypeIs (.ref z) "zip":=by
 obtain⟨_,_,_,⟨_,h,_⟩|⟨T,o,f,h,_⟩⟩:=x
 .exact⟨_,h,rfl⟩
 .exact⟨_,h,rfl⟩
theorem IW.but(x:IW d h z TI TO q g l j k)(p:ZAp d z TI TO q g l j)(s:cD d h I):IW d I z TI TO q g l j k:=by
 have n:=p.nd;simp only[bL,aM,bM,bK,gp]at n;obtain⟨b,c,m,r⟩:=x;refine⟨s.extBut _ _ (aH n.1.2.1) b,c.extBut s.extBut (aH n.1.2.2.2.1),m.extBut s.extBut (aH n.1.2.2.2.2),?_⟩;rcases r with ⟨e,a,t⟩|⟨T,o,v,a,t,w,u,i,f⟩
 .exact .inl ⟨e,s.extBut _ _ (aH n.1.1) a,s.extBut _ _ (aH n.1.2.2.1) t⟩
 .exact .inr ⟨T,o,v,s.extBut _ _ (aH n.1.1) a,s.extBut _ _ f t,w,u,i,f⟩
theorem Dk(p:ZAp d z TI TO I M l1 l2)(a:IW d s.heap z TI TO I M l1 l2 k)(S:s.heap.get? d=some od)(l:s.heap.IsList l1 xs)(b:s.heap.IsTuple l2 ys)(C:xs[k]? = some x)(D:ys[k]? = some y)
  (B:∀h T,IW d h z TI TO I M l1 l2 (k+1)->cy h T x y->T≠d->(∀c o,c ∉ [z,TO,I,M]->s.heap.get? c=some o->h.get? c=some o)->Q (some (.ref T)) { s with heap:=h }) :
  wpAny (model prog w) A (pyNext (.ref z)) Q E s:=by
 have Z:=p.nd;have W:=p.l1n;have X:=p.l2n;simp only[bL,aM,bM,bK,gp]at Z W X;refine uk a.typeIs ?_;obtain⟨m,g,i,V⟩:=a;rcases V with ⟨e,v,t⟩|⟨T,oT,f1,v,t,L,N,R,t4⟩
 .subst e;refine rS (tq:=false) (tp:=true) v m t g i l b C D (by grind) (by grind) (by grind) (by grind) (by grind) (by grind) (by grind) (by grind) (by grind) (by grind) λh T F K P _ G q5 q=>?_
  have fresh:∀c o,s.heap.get? c=some o->T≠c:=λc o f z=>absurd (av f) (by rw[<- z,q5];exact d5 _);obtain⟨oi1,j,_⟩:=g;obtain⟨oi2,H,_⟩:=i;exact B h T ⟨q _ _ (by grind) (by grind) (by grind) (by grind) m,K,P,.inr ⟨T,_,false,F,G,fresh _ _ v,fresh _ _ j,fresh _ _ H,fresh _ _ S⟩⟩ G (fresh _ _ S) λc o n f=>q c o (λz=>n (by simp[z])) (λz=>n (by simp[z])) (λz=>n (by simp[z])) (λz=>n (by simp[z])) f
 .refine BQ v m t g i l b C D (by grind) (by grind) (by grind) (by grind) (by grind) (by grind) (by grind) (by grind) (by grind) λh F K P q=>?_;have dl:d < h.objs.size:=av (q _ _ (by grind) (by grind) (by grind) S);have u:∀c o,h.get? c=some o->(h.push { cls:=.type "tuple",data:=.seq #[x,y] }).get? c=some o:=λc o e=>aF _ e;refine B _ _ ⟨u _ _ (q _ _ (by grind) (by grind) (by grind) m),?_,?_,.inr ⟨T,oT,true,u _ _ F,u _ _ (q _ _ L N R t),L,N,R,t4⟩⟩ (aR _ rfl) (bA dl) λc o n f=>u _ _ (q c o (λz=>n (by simp[z])) (λz=>n (by simp[z])) (λz=>n (by simp[z])) f)
  .obtain⟨o,e,r⟩:=K;exact⟨o,u _ _ e,r⟩
  .obtain⟨o,e,r⟩:=P;exact⟨o,u _ _ e,r⟩
theorem GV(u:A.handled=none)(p:ZAp d z TI TO j I M l2)(a:IW d s.heap z TI TO j I M l2 k)(l:s.heap.IsList M xs)(i:xs[k]? = none)
  (v:∀h,(∀c o,c ∉ [z,TO,j,I]->s.heap.get? c=some o->h.get? c=some o)->Q none { s with heap:=h }):wpAny (model prog w) A (pyNext (.ref z)) Q E s:=by
 have S:=p.nd;have H:=p.l1n;simp only[bL,aM,bM,bK,gp]at S H;refine uk a.typeIs ?_;obtain⟨r,t,F,y⟩:=a;rcases y with ⟨e,n,g⟩|⟨T,P,K,n,g,B,C,D,G⟩
 .subst e;exact vq (M:=false) u n r t l i (by grind) (by grind) λh e q n=>by obtain⟨o,b,m⟩:=n;exact⟨e,o,rfl,b,m,v h λc o x f=>q c o (λz=>x (by simp[z])) (λz=>x (by simp[z])) f⟩
 .exact Di u n r g t l i (by grind) (by grind) λh e q ⟨o,b,m⟩=>⟨e,o,rfl,b,m,v h λc o x f=>q c o (λz=>x (by simp[z])) (λz=>x (by simp[z])) f⟩
end
section
variable{prog:Program}{w:World}{K:Type}[DecidableEq K]{t:KeyKind prog w K}{A:Around}{E:VP}{R:Result->Shared->Prop}
inductive ZipsAt(knd:KeyKind prog w K):LV->LV->List (K×Value)->Prop
 |nil {vs:LV}:ZipsAt knd [] vs []
 |cons {key v:Value}{k:K}{us vs:LV}{kvs:List (K×Value)}:knd.is k key=true->ZipsAt knd us vs kvs->ZipsAt knd (key::us) (v::vs) ((k,v)::kvs)
set_option tactic.hygienic true in
theorem ye(hh:A.handled=none){u:Heap}(p:ZAp d z TI TO i1 i2 l1 l2)(fr:∀a ∈ [d,z,TI,TO,i1,i2],u.get? a=none)(L:u.IsList l1 j)(hl2:u.IsTuple l2 ys) :
  ∀(n:List (K×Value))(i:Nat)(f:List (K×Value))(s:Shared),(∀b o,u.get? b=some o->s.heap.get? b=some o)->IW d s.heap z TI TO i1 i2 l1 l2 i->s.heap.DictOf t d f->ZipsAt t (j.toList.drop i) (ys.toList.drop i) n ->
   ((f++n).map (·.1)).Nodup->(f++n).length≤sizeLine->i+n.length=j.size ->
   (∀l t',(∀b o,u.get? b=some o->l.get? b=some o)->l.DictOf t d (f++n)->R (.ok (.ret .none)) { s with heap:=l,toks:=t' }) ->
   codeAny (model prog w) A (.builtin "dict.update.loop" ⟨[.ref d,.ref z,rawInt i,.none],[]⟩) R s:=by
 have nd:=p.nd;simp only[bL,aM,bM,bK,gp]at nd;have P:∀b o,u.get? b=some o->b ∉ [d,z,TI,TO,i1,i2]:=λb o e m=>by rw[fr b m]at e;cases e
 have dz:d ∉ [z,TO,i1,i2]:=by simp only[aM,bM,bK,gp];grind
 intro n;induction n with
 |nil=>
  intro i f s C y hd X N Z hi h;have I:j[i]? = none:=by simp at hi ⊢;lia
  have H:s.heap.IsList l1 j:=by obtain⟨o,S,r⟩:=L;exact⟨o,C _ _ S,r⟩
  refine mU F.entry_dict_update_loop ?_;rw[lL F.plain_dict_update_loop _];unfold Builtin.«dict.update.loop»;show wpAny _ A.in1 (pyNext (.ref z) >>= _) _ _ s;refine ae (GV hh p y H I λl D=>?_);show wpAny _ A.in1 (yx d [] >>= _) _ _ _;rw[cW]at h;apply ae;apply aq;apply aq;refine h l s.toks (λb o e=>D b o (λm=>P b o e (by simp only[aM,bM,bK]at m ⊢;grind)) (C b o e)) ?_;obtain⟨o,c,ep,S,r⟩:=hd;exact⟨o,c,ep,D _ _ dz S,r⟩
 |cons kv n ih=>
  intro i f s C y hd X N Z hi h;have H:s.heap.IsList l1 j:=by obtain⟨o,S,r⟩:=L;exact⟨o,C _ _ S,r⟩
  have M:s.heap.IsTuple l2 ys:=by obtain⟨o,S,r⟩:=hl2;exact⟨o,C _ _ S,r⟩
  generalize er:j.toList.drop i=us at X;generalize c:ys.toList.drop i=vs at X;cases X with
  |cons hk hps=>
   rename_i B v k us' vs';have hx:j[i]? = some B:=by have:=bX (·[0]?) er;simpa using this
   have hy:ys[i]? = some v:=by have:=bX (·[0]?) c;simpa using this
   have er':j.toList.drop (i+1)=us':=by rw[<- o5,er];rfl
   have es':ys.toList.drop (i+1)=vs':=by rw[<- o5,c];rfl
   obtain⟨od,ed1,ed2,Q,hdr⟩:=id hd;refine mU F.entry_dict_update_loop ?_;rw[lL F.plain_dict_update_loop _];unfold Builtin.«dict.update.loop»;show wpAny _ A.in1 (pyNext (.ref z) >>= _) _ _ s;refine ae (Dk p y Q H M hx hy λW T za g hTd D=>?_);have kp1:∀b o,u.get? b=some o->W.get? b=some o:=λb o e=>D b o (λm=>P b o e (by simp only[aM,bM,bK]at m ⊢;grind)) (C b o e);have hd1:W.DictOf t d f:=⟨od,ed1,ed2,D _ _ dz Q,hdr⟩;show wpAny _ A.in1 (holding [Value.ref T] _ >>= _) _ _ _;apply ae;apply cF;apply ae;apply Aq;unfold yw;refine ae (lh (T:="tuple") ⟨_,g,rfl⟩ ?_);rw[ag (by decide)];refine ae (gG (show W.get? T=some _ from g) rfl (aq ?_));show wpAny _ A.in1 (holding [B,v] (dictSet d B v)) _ _ _;refine cF ?_;refine wpAny_dictSet_pairs (s:={ s with heap:=W }) hk hd1 (λh2 G V=>?_) (by simp at Z;lia);have hnk:k ∉ f.map (·.1):=by intro hm;rw[d_,o_]at N;exact N.2.2 _ hm _ (by simp) rfl
   have est:stored f k v=f++[(k,v)]:=by unfold stored;rw[aj];intro E;obtain⟨x,hx1,hx2⟩:=lG.mp E;exact hnk (eJ.mpr ⟨x,hx1,aL hx2⟩)
   rw[est]at G;refine aq ⟨pI F.plain_dict_update_loop _,?_⟩;have kp2:∀b o,u.get? b=some o->h2.get? b=some o:=λb o e=>V.extBut _ _ (λq=>P b o e (by simp[q])) (kp1 b o e);have e1:f++(k,v)::n=(f++[(k,v)])++n:=by simp
   rw[e1]at N Z h;exact ih (i+1) (f++[(k,v)]) { s with heap:=h2,toks:=s.toks+1 } kp2 (za.but p V) G (er' ▸ es' ▸ hps) N Z (by simp at hi;lia) λl t' k1 k2=>h l t' k1 k2
end
section
variable{prog:Program}{w:World}{K:Type}[DecidableEq K]{t:KeyKind prog w K}{A:Around}{E:VP}{s:Shared}
theorem ov(l:s.heap.IsList n I)(e:s.heap.IsTuple q M)
  (h:∀x i a TI TO z,(∀b o,s.heap.get? b=some o->x.get? b=some o)->s.heap.objs.size≤i->i < a->a < TI->TI < TO->TO < z->x.IsListIter i n 0->x.IsTupleIter a q 0->cy x TI (.ref i) (.ref a)->cy x TO .none .none ->
   dY x z TI TO .none (.bool false)->Q (.ref z) { s with heap:=x }):wpAny (model prog w) A (call (.type "zip") [.ref n,.ref q]) Q E s:=by
 refine uh zK (by decide) (zP _ _) (zM _ _) (λj=>zV j _ _) zL (Dh n q I M) ⟨l,e,λx i a TI TO z k c m r t p v d u g f=>?_⟩;show _/\_;exact⟨⟨_,f,rfl⟩,h x i a TI TO z k c m r t p v d u g f⟩
theorem rN{k:Heap}(hh:A.handled=none)(k0:∀b o,k.get? b=some o->s.heap.get? b=some o)(H:k.IsList l1 xs)(S:k.IsTuple l2 ys)
  (i:k.objs.size≤I) (D:I < M) (G:M < TI) (P:TI < TO) (j:TO < z) (b1:s.heap.IsListIter I l1 0) (b2:s.heap.IsTupleIter M l2 0) (b3:cy s.heap TI (.ref I) (.ref M)) (b4:cy s.heap TO .none .none) (y:dY s.heap z TI TO .none (.bool false))
  (hp:ZipsAt t xs.toList ys.toList C) (hn:(C.map (·.1)).Nodup) (hz:C.length≤sizeLine) (hi:C.length=xs.size)
  (h:∀d X,(∀b o,k.get? b=some o->d.get? b=some o)->d.DictOf t s.heap.objs.size C->Q (.ref s.heap.objs.size) { s with heap:=d,toks:=X }) :
  wpAny (model prog w) A (call (.type "dict") [.ref z]) Q E s:=by
 have fresh:(s.heap.push { cls:=.type "dict",data:=.dict #[] }).DictOf t s.heap.objs.size []:=.new s.heap;have u:∀b o,s.heap.get? b=some o->(s.heap.push { cls:=.type "dict",data:=.dict #[] }).get? b=some o:=λb o=>aF _;have q:z < s.heap.objs.size:=av y;have K:=As (prog:=prog) (w:=w) (A:=A.in1) (E:=E) (s:=s) (Value.ref z) (Q₁:=λx z=>x=.ref s.heap.objs.size/\z={ s with heap:=s.heap.push { cls:=.type "dict",data:=.dict #[] } }) ⟨rfl,rfl⟩;apply Ao zO (zW (.ref z)) zQ K;rintro _ _ ⟨e,e'⟩;subst e e';generalize s.heap.push { cls:=.type "dict",data:=.dict #[] }=h1 at fresh u;refine⟨fresh.typeIs,zS (.ref s.heap.objs.size) (.ref z),?_⟩;unfold Builtin.«dict.__init__» yy;apply ae;apply ae;apply AL fresh.typeIs;apply aq;show wpAny _ _ (oS "dict.__init__" s.heap.objs.size (.ref z) [] .none) _ _ _;unfold oS;refine ae (lh (T:="zip") ⟨_,u _ _ y,rfl⟩ ?_);rw[ag (by decide)];refine ae (BP (u _ _ y) hh λh2 tk k2=>?_);rw[ag (by rfl)];refine ae (pG ?_);have g:∀b o,s.heap.get? b=some o->h2.get? b=some o:=λb o e=>k2 b o (u b o e);have R:h2.DictOf t s.heap.objs.size []:=by obtain⟨o,c,ep,ho,r⟩:=fresh;exact⟨o,c,ep,k2 _ _ ho,r⟩
 refine ae (w_ (z:=z) (TI:=TI) (TO:=TO) (f0:=.none) (g _ _ y) ?_);refine aq ⟨pI F.plain_dict_update_loop _,?_⟩;have V:l1 < k.objs.size:=by obtain⟨o,e,_⟩:=H;exact av e
 have W:l2 < k.objs.size:=by obtain⟨o,e,_⟩:=S;exact av e
 have f:∀{a b n:Nat},a < b->b < n->a < n:=λh d=>kg h d;have N:=f D G;have v:=f N P;have L:=f v j;have Z:=f L q;have c5:=f G P;have c6:=f c5 j;have c7:=f c6 q;have c8:=f P j;have c9:=f c8 q;have ca:=f j q;have low:∀{l n:Nat},l < k.objs.size->k.objs.size≤n->l≠n:=λh d=>aQ (bu h d);have ge:∀n ∈ [s.heap.objs.size,z,TI,TO,I,M],k.objs.size≤n:=λn B=>by
  simp only[aM,bM,bK]at B;rcases B with rfl|rfl|rfl|rfl|rfl|rfl
  .exact ba i (d0 Z)
  .exact ba i (d0 L)
  .exact ba i (d0 N)
  .exact ba i (d0 v)
  .exact i
  .exact ba i (d0 D)
 have p:ZAp s.heap.objs.size z TI TO I M l1 l2:=by refine⟨?_,λm=>low V (ge _ m) rfl,λm=>low W (ge _ m) rfl⟩;simp only[bL,aM,bM,bK,gp,lF,not_false_eq_true,and_true];exact⟨⟨bA q,bA c9,bA ca,bA Z,bA c7⟩,⟨bA c8,bA j,bA L,bA c6⟩,⟨aQ P,bA N,bA G⟩,⟨bA v,bA c5⟩,aQ D⟩
 refine ye (A:=A.in1) (t:=t) (u:=k) hh p (λn B=>?_) H S C 0 [] _ (λb o e=>g b o (k0 b o e)) ⟨g _ _ b3,?_,?_,.inl ⟨rfl,g _ _ y,g _ _ b4⟩⟩ R (by simpa using hp) (by simpa using hn) (by simpa using hz) (by lia) λd X q1 q2=>?_
 .cases e:k.get? n with
  |none=>rfl
  |some o=>exact absurd rfl (low (av e) (ge n B))
 .obtain⟨o,e,r⟩:=b1;exact⟨o,g _ _ e,r⟩
 .obtain⟨o,e,r⟩:=b2;exact⟨o,g _ _ e,r⟩
 .exact⟨rfl,h d X q1 q2⟩
end
section
variable{prog:Program}{w:World}{A:Around}{E:VP}{s:Shared}
theorem vo (l y:Addr) (xs ys:Array Value):Meets (Builtin.«zip.__new__» ⟨[.type "zip",.ref l,.ref y],[]⟩) (fun _ R s=>s.heap.IsTuple l xs/\s.heap.IsList y ys /\
  ∀v S F TI TO z,(∀b o,s.heap.get? b=some o->v.get? b=some o)->s.heap.objs.size≤S->S < F->F < TI->TI < TO->TO < z->v.IsTupleIter S l 0->v.IsListIter F y 0->cy v TI (.ref S) (.ref F)->cy v TO .none .none ->
   dY v z TI TO .none (.bool false)->R (.ok (.ret (.ref z))) { s with heap:=v }):=
 .of_wp λprog w A R s h=>by
  obtain⟨i,g,d,Z,os⟩:=s;obtain⟨B,C,h⟩:=h;have X:=sub_zip;have L:tu (ly ⟨i,g,d,Z,os⟩) l xs:=B;have P:y6 (ly ⟨i.push { cls:=.type "tuple_iterator",data:=.fields #[.ref l,.int 0 0] },g,d,Z,os⟩) y ys:=C.push _
  wp_walk using pM L,lj P
  have j:∀(u n x a f c:Heap)(r t p q m:Obj),n=u.push r->x=n.push t->a=x.push p->f=a.push q->c=f.push m->r.isFreed=false->t.isFreed=false->p.isFreed=false->q.isFreed=false->m.isFreed=false ->
    (∀b o,u.get? b=some o->c.get? b=some o)/\u.objs.size < n.objs.size/\n.objs.size < x.objs.size/\x.objs.size < a.objs.size/\a.objs.size < f.objs.size /\
    c.get? u.objs.size=some r/\c.get? n.objs.size=some t/\c.get? x.objs.size=some p/\c.get? a.objs.size=some q/\c.get? f.objs.size=some m:=by
   intro u n x a f c r t p q m E G I M N f1 f2 f3 f4 f5;have Q:n.get? u.objs.size=some r:=by rw[E];exact aR _ f1
   have T:x.get? n.objs.size=some t:=by rw[G];exact aR _ f2
   have V:a.get? x.objs.size=some p:=by rw[I];exact aR _ f3
   have W:f.get? a.objs.size=some q:=by rw[M];exact aR _ f4
   have g5:c.get? f.objs.size=some m:=by rw[N];exact aR _ f5
   have u2:∀b o,n.get? b=some o->x.get? b=some o:=λb o e=>by rw[G];exact aF _ e
   have D:∀b o,x.get? b=some o->a.get? b=some o:=λb o e=>by rw[I];exact aF _ e
   have K:∀b o,a.get? b=some o->f.get? b=some o:=λb o e=>by rw[M];exact aF _ e
   have H:∀b o,f.get? b=some o->c.get? b=some o:=λb o e=>by rw[N];exact aF _ e
   exact⟨λb o e=>H _ _ (K _ _ (D _ _ (u2 _ _ (by rw[E];exact aF _ e)))),av Q,av T,av V,av W,H _ _ (K _ _ (D _ _ (u2 _ _ Q))),H _ _ (K _ _ (D _ _ T)),H _ _ (K _ _ V),H _ _ W,g5⟩
  let r:Obj:={ cls:=.type "tuple_iterator",data:=.fields #[.ref l,.int 0 0] }
  let n:=i.push r
  let t:Obj:={ cls:=.type "list_iterator",data:=.fields #[.ref y,.int 0 0] }
  let x:=n.push t
  let p:Obj:={ cls:=.type "tuple",data:=.seq #[.ref i.objs.size,.ref n.objs.size] }
  let a:=x.push p
  let q:Obj:={ cls:=.type "tuple",data:=.seq #[.none,.none] }
  let f:=a.push q
  let m:Obj:={ cls:=.type "zip",data:=.fields #[.none,.bool false,.bool false,.ref x.objs.size,.ref a.objs.size] }
  obtain⟨k,s1,s2,s3,s4,a1,a2,a3,a4,a5⟩:=j i n x a f (f.push m) r t p q m rfl rfl rfl rfl rfl rfl rfl rfl rfl rfl;exact⟨_,rfl,h (f.push m) i.objs.size n.objs.size x.objs.size a.objs.size f.objs.size k (al _) s1 s2 s3 s4 ⟨_,a1,rfl,rfl⟩ ⟨_,a2,rfl,rfl⟩ a3 a4 a5⟩
theorem wI(l:s.heap.IsTuple n I)(e:s.heap.IsList q M)
  (h:∀x i a TI TO z,(∀b o,s.heap.get? b=some o->x.get? b=some o)->s.heap.objs.size≤i->i < a->a < TI->TI < TO->TO < z->x.IsTupleIter i n 0->x.IsListIter a q 0->cy x TI (.ref i) (.ref a)->cy x TO .none .none ->
   dY x z TI TO .none (.bool false)->Q (.ref z) { s with heap:=x }):wpAny (model prog w) A (call (.type "zip") [.ref n,.ref q]) Q E s:=by
 refine uh zK (by decide) (zP _ _) (zM _ _) (λj=>zV j _ _) zL (vo n q I M) ⟨l,e,λx i a TI TO z k c m r t p v d u g f=>?_⟩;show _/\_;exact⟨⟨_,f,rfl⟩,h x i a TI TO z k c m r t p v d u g f⟩
end
end PySem
set_option tactic.hygienic true
namespace Ev
open PySem PySem.Spec PyProof.Rows L2
@[simp] def Fk(fa fb:EV)(L:Lc)(S:aE):rg:=bw (fa L S) λx a=>bw (fb L a) λy h=>match x,y with
 | .lst k,.tup v=>match fU k with
  |some B=>if (B.Nodup/\few k=true/\B.length≤v.length) then some (.ref h.length,h++[.dct B ((v.take B.length).map .p)]) else none
  |none=>none
 |_,_=>none
theorem AQ:∀{B:List dj}{s i:LV}{x:List V},aU (B.map kV) s->aU x i->B.length≤x.length->ZipsAt (bP g w) s i (B.zip i)/\L2.KV (B.zip x) (B.zip i)
 | [],_,i,x,h,_,_=>by cases h;exact⟨.nil,.nil⟩
 |k::B,_,_,[],h,_,l=>absurd l (by simp)
 |k::B,_,_,y::x,h,e,l=>by
  cases h with
  |cons r t=>
   cases e with
   |cons n f=>obtain⟨a,b⟩:=AQ (g:=g) (w:=w) t f (by simpa using l);exact⟨.cons (nY r) a,.cons ⟨rfl,n⟩ b⟩
theorem mX:∀{xs:List L}{ys:List n},xs.length≤ys.length->(xs.zip ys).map (·.1)=xs/\(xs.zip ys).map (·.2)=ys.take xs.length
 | [],ys,_=>by simp
 |x::xs,[],h=>absurd h (by simp)
 |x::xs,y::ys,h=>by obtain⟨a,b⟩:=mX (xs:=xs) (ys:=ys) (by simpa using h);simp[a,b]
section
variable{X:Cx}{a b:Expr}{fa fb:EV}{p G N v:Pos}
theorem JU(hc:X.c=true)(gd:Gl X "dict")(md:X.g "dict"=none)(gz:Gl X "zip")(mz:X.g "zip"=none)(ha:PE X a (tV X.K fa))(hb:PE X b (tV X.K fb))(hs:starEach [a,b] X.e=[(false,eval a X.e),(false,eval b X.e)])(W:starEach [b] X.e=[(false,eval b X.e)])(hz:bootBuiltins "zip"=some (.type "zip")) :
  PE X (.Call (.Name "dict" p) [.Call (.Name "zip" G) [a,b] [] v] [] N) (tE X.K (Fk fa fb)):=by
 intro pins s J H Q I ⟨F,m,L,S,d,S',r,l,q,k⟩;obtain⟨x,S1,e1,q⟩:=ak q;obtain⟨y,S2,e2,q⟩:=ak q;have hh:X.A.handled=none:=I.o.hd hc;refine ii (ir I gd md yV ?_ (by decide) (by decide));refine g6 (cm ?_) rfl rfl;refine ii (ir I gz mz hz ?_ (by decide) (by decide));refine g6 ?_ (by rw [hs,W]) (by rw [W];rfl);rw [hs];refine cm (b_ (ha pins s J H (fun h g=>∃n P,Stp F m H n P g/\Rel X.K n g P S1/\RP X.K n g x h) I ⟨F,m,L,S,x,S1,r,l,e1,fun h n P g s1 r1 p1=>⟨n,P,s1,r1,p1⟩⟩) fun u s1 ⟨h,g,I1,ru,n,P,st1,r1,p1⟩=>
  cm (b_ (hb pins s1 J g (λh C=>∃f D,Stp n P g f D C/\Rel X.K f C D S2/\RP X.K f C y h) I1 ⟨n,P,L,S1,y,S2,r1,l.mono st1,e2,λh f D C E r2 G=>⟨f,D,E,r2,G⟩⟩) λu2 E ⟨v2,C,M,ru2,f,D,st2,r2,G⟩=>dC ?_))
 cases x with
 |lst ks=>
  cases y with
  |tup vs=>
   dsimp only at q;cases ek:fU ks with
   |none=>rw[ek]at q;cases q
   |some B=>
    rw[ek]at q;dsimp only at q;split at q
    .rename_i c;cases q;obtain⟨ax,xs,rfl,hq,rp⟩:=RP.mono st2 p1;obtain⟨ay,ys,rfl,ta,rq⟩:=G;cases (show u=Value.ref ax from ru);cases (show u2=Value.ref ay from ru2);obtain⟨z1,Z,n1,rx,V,ex⟩:=M.lstM hq.2;obtain⟨i,ry,ity,hzy⟩:=M.tuple ta.sq;have exs:=iG ek rp;subst exs;have K:B.length≤ys.length:=by rw[<- rq.length];exact c.2.2
     obtain⟨za,zk⟩:=AQ (g:=X.p) (w:=X.w) rx ry K;have hl2:B.length≤i.length:=by rw[<- ry.length];exact K
     obtain⟨zf1,zf2⟩:=mX (xs:=B) (ys:=ys) K;obtain⟨A,_⟩:=mX (xs:=B) (ys:=i) hl2;have R:(B.zip i).length=Z.toArray.size:=by have:=bX d9 A;rw[bv]at this;rw[this,aY,<- V,bv]
     have hkz:(B.zip i).length≤sizeLine:=by rw[R,aY,<- V];exact z1
     have T:E.heap.IsList ax Z.toArray:=⟨_,ex,rfl,n1,rfl⟩;refine ov T ity λe i1 i2 TI TO z k0 a1 a2 a3 a4 a5 b1 b2 b3 b4 b5=>dC ?_;refine rN (t:=bP X.p X.w) (s:={ E with heap:=e }) (k:=E.heap) hh k0 T ity a1 a2 a3 a4 a5 b1 b2 b3 b4 b5 (by simpa using za) (by rw[A];exact c.1) hkz R λh'' t' k1 dd=>?_;have j:E.heap.objs.size≤e.objs.size:=d0 (iW a1 (kg a2 (kg a3 (kg a4 (kg a5 (av b5))))));have hf:C e.objs.size=none:=M.h.fresh j;have hsm:(e.objs.size == sysModules)=false:=by have:=M.big;simp only[gu];exact bA (bu this j)
     have hkv:(B.zip ys).length≤sizeLine:=by have e1:=bX d9 zf1;have e2:=bX d9 A;rw[bv]at e1 e2;lia
     have I3:=M.laid (a:=e.objs.size) (o:=.dK (B.zip ys)) (t':=t') k1 j ⟨hkv,hsm,_,zk,dd⟩;refine⟨.ref e.objs.size,_,I3,rfl,k (.ref e.objs.size) f (D++[e.objs.size]) _ (st1.trans (st2.trans (bY hf))) (r2.own hf ⟨_,aC,zf1,?_⟩) ⟨e.objs.size,rfl,?_⟩⟩
     .rw [zf2,zc];exact(bI.mono (bY hf) (bI.ofP rq)).take _
     .rw [<- r2.len,bF (al _)];simp
    .cases q
  |_=>cases q
 |_=>cases y<;>cases q
end
end Ev
namespace Ev
open PySem PySem.Spec PyProof.Rows L2
noncomputable def Rp:P->Bool
 | .tup _=>true
 |_=>false
def cg(k:P):Bool:=Rp k && (gE 8 k && Nk.kd (pd k))
noncomputable def jS(d:D)(S:aE):Option (Nat×List P×List D):=match d with
 | .ref i=>match S[i]? with
  |some (.dtn k v)=>some (i,k,v)
  |_=>none
 |_=>none
theorem pu(h:jS d S=some (i,k,r)):d=.ref i/\S[i]? = some (.dtn k r):=by
 unfold jS at h;split at h
 .split at h
  .cases h;exact⟨rfl,by assumption⟩
  .cases h
 .cases h
def nw(k:P)(s:List P):Bool:=s.any λq=>bQ (pd q) (pd k)
def Mz(d c:D)(S:aE):Option Bool:=match d,jS c S with
 | .p k,some (_,s,_)=>if (cg k && s.all cg)=true then some (nw k s) else none
 |_,_=>none
def E5(d c:D)(S:aE):Option P:=(Mz d c S).map .bl
def eS(d c:D)(S:aE):Option P:=(Mz d c S).map λb=>.bl (!b)
section
variable{X:Cx}{pins:PN}{J:L2.St}{H:Hp}{s:Shared}{F:Aa}
theorem lq(I:Inv X pins J H s)(g:cg k=true)(r:RP X.K F H k y):lx s.heap (pd k) y:=by
 unfold cg at g;simp only[az]at g;obtain⟨t,o,h⟩:=g;cases k with
 |tup e=>obtain⟨b,z,rfl,x⟩:=r;obtain⟨a,d⟩:=eP I 8 (p:=.tup e) (v:=.ref b) (u:=.ref b) ⟨b,z,rfl,x⟩ rfl o;exact⟨b,rfl,h,(fI 8 _ o).2,a,d⟩
 |_=>cases t
theorem lY(I:Inv X pins J H s):∀{kvs:List (PyData×V×V)}{h:List P},h.all cg=true->kvs.map (·.1)=gJ h->bB X.K F H h (kvs.map (·.2.1))->∀p ∈ kvs,lx s.heap p.1 p.2.1
 | [],_,_,_,_,_,a=>nomatch a
 |q::kvs,h,g,e,r,p,a=>by
  cases h with
  |nil=>cases r
  |cons k h=>
   rw[iY,az]at g;rw[aD,gJ]at e;injection e with n f;obtain⟨x,t,er,b,c⟩:=r;injection er with z m;subst z m;rcases aM.mp a with rfl|a
   .rw [n];exact lq I g.1 b
   .exact lY I g.2 f c p a
theorem iI(g:cg k=true):Nk.kd (pd k)=true:=by unfold cg at g;simp only[az]at g;exact g.2.2
theorem uR(g:cg k=true):∀{kvs:List (PyData×V×V)}{ks:List P},ks.all cg=true->kvs.map (·.1)=gJ ks->hasN kvs (pd k)=nw k ks
 | [],ks,_,e=>by
  cases ks with
  |nil=>rfl
  |cons _ _=>cases e
 |q::kvs,ks,h,e=>by
  cases ks with
  |nil=>cases e
  |cons p ks=>rw[iY,az]at h;rw[aD,gJ]at e;injection e with e1 e2;have ih:=uR g h.2 e2;unfold hasN nw at ih ⊢;rw[cG,cG,ih,e1];congr 1;rw[i3,Nk.eqv_kd _ _ (iI h.1) (iI g),tB]
theorem ET(h:Mz d c S=some b):∃k i s v,d=.p k/\jS c S=some (i,s,v)/\cg k=true/\s.all cg=true/\b=nw k s:=by
 unfold Mz at h;split at h
 .split at h
  .rename_i e x;rw[az]at x;cases h;exact⟨_,_,_,_,rfl,e,x.1,x.2,rfl⟩
  .cases h
 .cases h
end
section
variable{X:Cx}
theorem N7(C:X.A.units+64 < cLine):gX X (compareOp .In) (rE X.K E5):=by
 intro pins s J H x y v u Q I A B h;obtain⟨F,m,S,d,e,r,P,l,z,q,k⟩:=h;unfold E5 at q;obtain⟨b,p,rfl⟩:=bJ.mp q;obtain⟨j,i,D,G,rfl,o,g,f,rfl⟩:=ET p;obtain⟨rfl,N⟩:=pu o;obtain⟨a,rfl,w⟩:=z;obtain⟨kvs,t,n,K,_⟩:=P.obj i a _ w N;cases B;refine Rh (by lia) I t (lY I f n K) (lq I g l) A λE c=>⟨.bl _,H,c,rfl,?_⟩
 rw[uR g f n];exact k _ F H .refl rfl
theorem Eg(C:X.A.units+64 < cLine):gX X (compareOp .NotIn) (rE X.K eS):=by
 intro pins s J H x y v u Q I A B h;obtain⟨F,m,S,d,e,r,P,l,z,q,k⟩:=h;unfold eS at q;obtain⟨b,p,rfl⟩:=bJ.mp q;obtain⟨j,i,D,G,rfl,o,g,f,rfl⟩:=ET p;obtain⟨rfl,N⟩:=pu o;obtain⟨a,rfl,w⟩:=z;obtain⟨kvs,t,n,K,_⟩:=P.obj i a _ w N;cases B;refine HQ (by lia) I t (lY I f n K) (lq I g l) A λE c=>⟨.bl _,H,c,rfl,?_⟩
 rw[uR g f n];exact k _ F H .refl rfl
end
section
variable{X:Cx}{B l:Pos}{o i n:Expr}{L:EE}{fk fv:EV}{td ty tv:TE}
def NG(X:Cx)(td ty tv:TE):TS:=λD J H=>tv J H λv e=>td J e λx n=>ty J n λy h=>∃a kvs d,x=.ref a/\h a=some (.dN kvs)/\(∀pins s,Inv X pins J h s->lx s.heap d y/\∀p ∈ kvs,lx s.heap p.1 p.2.1)/\hasN kvs d=false/\kvs.length < sizeLine/\D.nx J (br h a (.dN (kvs++[(d,y,v)])))
theorem Hv(K:X.A.units+9 < cLine)(S:PE X o td)(j:PE X i ty)(P:PE X n tv)(F:swapsWith n (some (.Subscript o i l)) B.line X.e=pure false):PS X (.Assign [.Subscript o i l] n B) (NG X td ty tv):=by intro pins s J H D I h;refine AN (b_ (P pins s J H _ I h) λr R ⟨v,f,c,M,E⟩=>b_ (S pins R J f _ c E) λu T ⟨x,b,m,N,G⟩=>b_ (j pins T J b _ m G) λZ V A=>?_) F;obtain⟨y,W,k,Q,a,kvs,d,p,e,g,C,z,L⟩:=A;subst p;obtain rfl:u=Value.ref a:=N;obtain⟨q,w⟩:=g pins V k;exact Oh K k e w q Q M C z λs4 t=>⟨J,_,t,L⟩
def nT(o:EE)(k v:EV):ES:=λL S=>bw (v L S) λy x=>bw (o L x) λd a=>bw (k L a) λe h=>match jS d h with
 |some (i,s,n)=>if (cg e && (s.all cg && (few s && !nw e s)))=true then some (.nx,L,h.set i (.dtn (s++[e]) (n++[.p y]))) else none
 |none=>none
theorem vU(k:P):∀s:List P,gJ (s++[k])=gJ s++[pd k]
 | []=>rfl
 |x::s=>by rw[g_,gJ,gJ,vU k s,g_]
theorem MS(hu:X.A.units+9 < cLine)(ho:PE X o (tE X.K L))(hk:PE X i (tV X.K fk))(hv:PE X n (tV X.K fv))(hs:swapsWith n (some (.Subscript o i l)) B.line X.e=pure false) :
  PS X (.Assign [.Subscript o i l] n B) (i_ X.K (nT L fk fv)):=(Hv hu ho hk hv hs).imp' λD J H hz=>by
 obtain⟨F,m,h,S,fl,L',S',r,e,q,k⟩:=hz;obtain⟨y,R,e1,q⟩:=ak q;obtain⟨d,T,e2,q⟩:=ak q;obtain⟨f,V,e3,q⟩:=ak q;refine⟨F,m,h,S,y,R,r,e,e1,λv E m1 H1 b r1 M=>?_⟩;refine⟨E,m1,h,R,d,T,r1,e.mono b,e2,λx F2 m2 H2 c r2 C=>?_⟩;refine⟨F2,m2,h,T,f,V,r2,(e.mono b).mono c,e3,λK G m3 Q p P p3=>?_⟩;cases u:jS d V with
 |none=>rw[u]at q;cases q
 |some t=>
  obtain⟨j,ks,vs⟩:=t;rw[u]at q;dsimp only at q;split at q
  .rename_i hc;simp only[az,kr]at hc;obtain⟨W,Z,g3,g4⟩:=hc;cases q;obtain⟨rfl,N⟩:=pu u;obtain⟨a,rfl,g⟩:=RD.mono p C;obtain⟨kvs,hH,w,A,rs⟩:=P.obj j a _ g N;have nt:∀zs,Q a≠some (.tup zs):=λzs z=>by rw[hH]at z;cases z
   have st:=dE (o:=.dN (kvs++[(pd f,K,v)])) P g N trivial nt;have pv:=RD.mono st (RD.mono p (RD.mono c (show RD X.K E H1 m1 (.p y) v from M)));have pk:RP X.K G (br Q a (.dN (kvs++[(pd f,K,v)]))) f K:=RP.kp st.kp p3;have hl:kvs.length < sizeLine:=by have h9:ks.length≤1000000:=aL g3;have h8:=A.length;rw[bv]at h8;exact iW (by lia) (show(1000000:Nat) < sizeLine by decide)
   refine⟨a,kvs,pd f,rfl,hH,λpins s I=>⟨lq I W p3,lY I Z w A⟩,(uR W Z w).trans g4,hl,?_⟩;refine k J G m3 _ (b.trans (c.trans (p.trans st))) (P.set g N trivial nt ⟨_,aC,?_,?_,?_⟩) ((((e.mono b).mono c).mono p).mono st)
   .rw [d_,w,vU];rfl
   .rw [d_];exact bB.append (bB.kp st.kp A) ⟨_,_,rfl,pk,rfl⟩
   .rw [d_];exact bI.append (bI.mono st rs) ⟨_,_,rfl,pv,rfl⟩
  .cases q
end
def Mx(x c:P):Option Bool:=match c with
 | .lst s=>if (s.all (gE 19) && gE 19 x)=true then some (s.any λy=>bQ (pd y) (pd x)) else none
 | .tup s=>if (s.all (gE 19) && gE 19 x)=true then some (s.any λy=>bQ (pd y) (pd x)) else none
 |_=>none
def Mw(d c:D)(S:aE):Option Bool:=(eN S 9 d).bind λx=>(eN S 9 c).bind λy=>Mx x y
def ls(d c:D)(S:aE):Option P:=(qQ c S).elim ((Mw d c S).map .bl) λ_=>PH d c S
def jY(d c:D)(S:aE):Option P:=(Mw d c S).map λb=>.bl (!b)
section
variable{X:Cx}{pins:PN}{J:L2.St}{H:Hp}{s:Shared}{F:Aa}{m:List Addr}{S:aE}{d e:D}{x y:V}{v u:Value}{b:Bool}{Q:VK}
theorem ER(K:X.A.units+64 < cLine)(I:Inv X pins J H s)(g:RelV x v)(i:RelV y u)(t:Rel X.K F H m S)(p:RD X.K F H m d x)(w:RD X.K F H m e y)(q:Mw d e S=some b) :
  (Q (.bl b) H->wpAny (model X.p X.w) X.A (compareOp .In v u) (EP X pins J Q) X.xe s)/\(Q (.bl (!b)) H->wpAny (model X.p X.w) X.A (compareOp .NotIn v u) (EP X pins J Q) X.xe s):=by
 unfold Mw at q;cases f:eN S 9 d with
 |none=>rw[f]at q;cases q
 |some M=>
  rw[f]at q;cases c:eN S 9 e with
  |none=>rw[c]at q;cases q
  |some C=>
   rw[c]at q;simp only[eG]at q;cases C with
   |lst o=>
    simp only[Mx]at q;split at q
    .rename_i h;rw[az]at h;cases q;obtain⟨j,r⟩:=dq I t 9 20 w i c (by simpa[gE] using h.1);obtain⟨z,n⟩:=dq I t 9 19 p g f h.2;have l:=A' h.1;have a:=fI 19 _ h.2;rw[pd]at r;exact⟨λk=>SeqAt.in_list_reads r n l.1 a.1 (by lia) ⟨.bl _,H,I,rfl,by rw[lW];exact k⟩,λk=>SeqAt.notIn_list_reads r n l.1 a.1 (by lia) ⟨.bl _,H,I,rfl,by rw[lW];exact k⟩⟩
    .cases q
   |tup o=>
    simp only[Mx]at q;split at q
    .rename_i h;rw[az]at h;cases q;obtain⟨j,r⟩:=dq I t 9 20 w i c (by simpa[gE] using h.1);obtain⟨z,n⟩:=dq I t 9 19 p g f h.2;have l:=A' h.1;have a:=fI 19 _ h.2;rw[pd]at r;exact⟨λk=>SeqAt.in_tuple_reads r n l.1 a.1 (by lia) ⟨.bl _,H,I,rfl,by rw[lW];exact k⟩,λk=>SeqAt.notIn_tuple_reads r n l.1 a.1 (by lia) ⟨.bl _,H,I,rfl,by rw[lW];exact k⟩⟩
    .cases q
   |_=>cases q
end
section
variable{X:Cx}
theorem N9(n:X.A.units+64 < cLine):gX X (compareOp .In) (rE X.K ls):=by
 intro pins s J H x y v u Q I c t h;obtain⟨F,m,S,d,e,r,l,p,f,q,k⟩:=h;unfold ls at q;cases a:qQ e S with
 |some g=>rw[a]at q;exact N8 n pins s J H x y v u Q I c t ⟨F,m,S,d,e,r,l,p,f,q,k⟩
 |none=>rw[a]at q;obtain⟨b,w,rfl⟩:=bJ.mp (show(Mw d e S).map P.bl=some r from q);exact(ER n I c t l p f w).1 (k _ F H .refl rfl)
theorem Eh(n:X.A.units+64 < cLine):gX X (compareOp .NotIn) (rE X.K jY):=by intro pins s J H x y v u Q I c t h;obtain⟨F,m,S,d,e,r,l,p,f,q,k⟩:=h;unfold jY at q;obtain⟨b,a,rfl⟩:=bJ.mp q;exact(ER n I c t l p f a).2 (k _ F H .refl rfl)
end
section
variable{X:Cx}{B:Pos}{a b c:Expr}{qa:EB}{G fb:EE}{va vb:EV}
@[simp] def PM(c:EB)(a b:EE)(L:Lc)(S:aE):rg:=bw (c L S) λt h=>if t=true then a L h else b L h
theorem Qz(z:PT X c (tQ X.K qa))(j:PE X a (tE X.K G))(y:PE X b (tE X.K fb)):PE X (.IfExp c a b B) (tE X.K (PM qa G fb)):=
 (vT z j y).imp' λJ H Q o=>by
  obtain⟨F,m,L,S,d,w,r,l,q,k⟩:=o;obtain⟨c,e,i,q⟩:=ak q;refine⟨F,m,L,S,c,e,r,l,i,λp u K s g=>?_⟩;cases c with
  |true=>rw[ag rfl]at q ⊢;exact⟨p,u,L,e,d,w,g,l.mono s,q,λv h n x t f=>k v h n x (s.trans t) f⟩
  |false=>rw[aj be]at q ⊢;exact⟨p,u,L,e,d,w,g,l.mono s,q,λv h n x t f=>k v h n x (s.trans t) f⟩
end
end Ev
namespace L2
open PySem PySem.Spec PyProof.Rows
noncomputable def Mv(kvs:List (PyData×V×V))(d:PyData):Option V:=(kvs.find? λp=>decide (p.1=d)).map (·.2.2)
theorem KN.look(r:KN kvs k)(h:Mv kvs d=some v):∃p,atKey k d=some p/\RelV v p.2:=by
 induction r with
 |nil=>cases h
 | @cons p q j f a t i=>
  unfold Mv at h;by_cases e:p.1=d
  .have x:q.1=d:=a.1.symm.trans e;rw[zy (by simpa using e)]at h;cases h;exact⟨q.2,by simp[atKey,fD,x],a.2.2⟩
  .have x:¬q.1=d:=λz=>e (a.1.trans z);rw[tS (by simpa using e)]at h;obtain⟨z,s,n⟩:=i h;exact⟨z,by rw[<- s];simp[atKey,fD,x],n⟩
section
variable{X:Cx}{pins:PN}{J:St}{H:Hp}{s:Shared}{a:Addr}{d:PyData}{y v:V}{u:Value}{A:Around}{E:VP}{kvs:List (PyData×V×V)}
theorem Oi(hu:A.units+9 < cLine)(I:Inv X pins J H s)(e:H a=some (.dN kvs))(ks:∀p ∈ kvs,lx s.heap p.1 p.2.1)(ky:lx s.heap d y)(ry:RelV y u)(hl:Mv kvs d=some v)
  (h:∀w s',Inv X pins J H s'->RelV v w->Q w s'):wpAny (model X.p X.w) A (getItem (.ref a) u) Q E s:=by
 obtain⟨b,rfl,k⟩:=ky;cases (show u=Value.ref b from ry);obtain⟨z,hd,xs,rel,dd⟩:=BD I.h e ks;obtain⟨p,e1,e2⟩:=rel.look hl;exact AE (knd:=Nk.nest X.p X.w) (show(A.in1).units+8 < cLine by rw[i4];lia) k dd e1 (h _ _ (I.tok _) e2)
theorem Ih(t:X.A.units+9 < cLine):CV X (λx y H Q=>∃a kvs d v,x=.ref a/\H a=some (.dN kvs)/\(∀pins J s,Inv X pins J H s->lx s.heap d y/\∀p ∈ kvs,lx s.heap p.1 p.2.1)/\Mv kvs d=some v/\Q v H):=by intro n l pins s J H x y v u Q I j z h r;obtain⟨a,kvs,d,w,rfl,hk,g,m,q⟩:=h;cases j;obtain⟨b,c⟩:=g pins J s I;obtain⟨_,_,_,_,o,_,_,e,f,_⟩:=I.h a _ hk;exact lD ⟨o,e,f.1⟩ xa.lookup (Oi t I hk c b z m λF S k i=>⟨w,H,k,i,q⟩) r
def Kn:TE:=λ_ H Q=>∀p,H p=none->Q (.ref p) (br H p (.dN []))
end
end L2
namespace Ev
open PySem PySem.Spec PyProof.Rows L2
def lX(k:P):List P->List D->Option D
 |q::s,v::h=>if bQ (pd q) (pd k)=true then some v else lX k s h
 |_,_=>none
@[simp] def rM(o:EE)(k:EV)(L:Lc)(S:aE):rg:=bw (o L S) λd x=>bw (k L x) λe h=>(jS d h).elim none λz=>if (cg e && z.2.1.all cg)=true then (lX e z.2.1 z.2.2).map λv=>(v,h) else none
variable{K:FG}
theorem Bj(g:cg k=true):∀{kvs:List (PyData×V×V)}{ks:List P}{vs:List D},ks.all cg=true->kvs.map (·.1)=gJ ks->bI K F H m vs (kvs.map (·.2.2))->lX k ks vs=some v->∃w,Mv kvs (pd k)=some w/\RD K F H m v w
 | [],ks,vs,_,e,r,h=>by
  cases ks with
  |nil=>cases h
  |cons _ _=>cases e
 |q::kvs,ks,vs,gs,e,r,h=>by
  cases ks with
  |nil=>cases e
  |cons p ks=>
   cases vs with
   |nil=>cases h
   |cons d vs=>
    rw[iY,az]at gs;rw[aD,gJ]at e;injection e with e1 e2;obtain⟨x,r',er,r1,r2⟩:=r;injection er with z1 z2;subst z1 z2;have iff:bQ (pd p) (pd k)=decide (q.1=pd k):=by rw[e1,i3,Nk.eqv_kd _ _ (iI gs.1) (iI g),tB]
    unfold lX at h;unfold Mv;rw[iff]at h;by_cases hq:q.1=pd k
    .rw [ag (df hq)]at h;cases h;rw[zy (by simpa using hq)];exact⟨_,rfl,r1⟩
    .rw [aj (by simpa using hq)]at h;rw[tS (by simpa using hq)];exact Bj g gs.2 e2 r2 h
section
variable{X:Cx}{B:Pos}{o i:Expr}{L:EE}{fk:EV}
theorem Qu(hu:X.A.units+9 < cLine)(ho:PE X o (tE X.K L))(hk:PE X i (tV X.K fk))(hs:kG i):PE X (.Subscript o i B) (tE X.K (rM L fk)):=
 (A7 (Ih hu) ho hk hs).imp' λJ H Q hz=>by
  obtain⟨F,m,h,S,d,R,r,l,q,k⟩:=hz;obtain⟨x,u,T,q⟩:=ak q;obtain⟨e,n,V,q⟩:=ak q;refine⟨F,m,h,S,x,u,r,l,T,λv E m1 H1 A r1 M=>?_⟩;refine⟨E,m1,h,u,e,n,r1,l.mono A,V,λy G m2 N D P C=>?_⟩;cases f:jS x n with
  |none=>rw[f]at q;cases q
  |some t=>
   obtain⟨j,K,vs⟩:=t;rw[f]at q;replace q:(if (cg e && K.all cg)=true then (lX e K vs).map λv=>(v,n) else none)=some (d,R):=q;split at q
   .rename_i c;rw[az]at c;obtain⟨z,W,q⟩:=bJ.mp q;cases q;obtain⟨rfl,b⟩:=pu f;obtain⟨a,rfl,hm⟩:=RD.mono D M;obtain⟨kvs,hH,g,rk,rs⟩:=P.obj j a _ hm b;obtain⟨w,Z,p⟩:=Bj c.1 c.2 g rs W;exact⟨a,kvs,pd e,w,rfl,hH,λpins J s I=>⟨lq I c.1 C,lY I c.2 g rk⟩,Z,k w G m2 N (A.trans D) P p⟩
   .cases q
end
variable{X:Cx}
theorem D9:PE X (.Dict [] [] B) Kn:=λpins s J H Q I h=>
 w9 ⟨.ref s.heap.objs.size,_,I.laid (a:=s.heap.objs.size) (o:=.dN []) (t':=s.toks) (λ_ _ q=>aF _ q) (al _) (Fp s.heap I.big),rfl,h _ (I.h.fresh (al _))⟩
@[simp] def qH(_L:Lc)(S:aE):rg:=some (.ref S.length,S++[.dtn [] []])
theorem Dp:PE X (.Dict [] [] B) (tE X.K qH):=D9.imp' λJ H Q z=>by obtain⟨F,m,L,S,d,x,r,l,q,k⟩:=z;cases q;intro p h;refine k (.ref p) F (m++[p]) _ (bY h) (r.own h ⟨[],aC,rfl,rfl,rfl⟩) ⟨p,rfl,?_⟩;rw[<- r.len,bF (al _)];simp
@[simp] def J8(va vb:EV)(L:Lc)(S:aE):tyV:=bw (va L S) λx h=>(kH x).bind λt=>if t=true then some (.bl false,h) else bw (vb L h) λy a=>(kH y).map λu=>(.bl (!u),a)
section
variable{X:Cx}{a b:Expr}{M C:Pos}{va vb:EV}
theorem Qo(ha:PE X a (tV X.K va))(hb:PE X b (tV X.K vb)):PE X (.UnaryOp .Not (.BoolOp .Or [a,b] M) C) (tV X.K (J8 va vb)):=by
 intro pins s J H Q I ⟨F,m,L,S,d,Z,r,l,q,k⟩;obtain⟨x,E,e1,q⟩:=ak q;refine s_ (BoolOp_or (b_ (ha pins s J H (λv w=>∃e f,Stp F m H e f w/\Rel X.K e w f E/\RP X.K e w x v) I ⟨F,m,L,S,x,E,r,l,e1,λv e f w T A M=>⟨e,f,T,A,M⟩⟩) λu T n=>?_));obtain⟨v,w,I1,ru,e,f,g,A,M⟩:=n;obtain⟨t,et,q⟩:=lB.mp q;refine bN (ur pins T J w v u (λc i=>c=t/\i=w) I1 ru ⟨t,lR M et,rfl,rfl⟩) (λc B n=>?_) λ_ _ z=>z
 obtain⟨i,W,o,K⟩:=n;subst o K;cases c with
 |true=>cases q;rw[ag rfl];refine not_of (bN (ur pins B J i v u (λc h=>c=true/\h=i) W ru ⟨true,lR M et,rfl,rfl⟩) (λc s3 n=>?_) λ_ _ z=>z);obtain⟨h,D,o,K⟩:=n;subst o K;exact⟨.bl false,h,D,rfl,k _ e f h g A rfl⟩
 |false=>rw[aj be]at q ⊢;obtain⟨y,S2,e2,q⟩:=ak q;obtain⟨t2,G,q⟩:=bJ.mp q;cases q;refine b_ (D6 hb pins B J i (λv h=>∃p j,Stp e f i p j h/\Rel X.K p h j Z/\RP X.K p h y v) W ⟨e,f,L,E,y,Z,A,l.mono g,e2,λv p j h B N C=>⟨p,j,B,N,C⟩⟩) λu2 s3 n=>?_;obtain⟨v2,h,D,R,p,j,V,N,C⟩:=n;refine not_of (bN (ur pins s3 J h v2 u2 (λc P=>c=t2/\P=h) D R ⟨t2,lR C G,rfl,rfl⟩) (λc s4 n=>?_) λ_ _ z=>z);obtain⟨P,I4,o,K⟩:=n;subst o K;exact⟨.bl (!c),P,I4,rfl,k _ p j P (g.trans V) N rfl⟩
end
noncomputable def gD(g:GF):GF:=λd S=>g (d++[.p .non]) S
section
variable{X:Cx}{B:Pos}{e:Expr}{N:Ab}{fs:sS}
theorem JR(o:Mk X.K h z)(G:FnOk X.p X.w X.K X.g X.b nR k z fd j (nc X.K g))(hr:Room (k+1) X.A)(hg:Gl X x)(hm:X.g x=some (.ref h))(hC:gn X.K x h)(hb:Binds X.K fd j [.none])
  (ha:PA X (e::N) (wU X.K fs)) (P:(x == ("__debug__":Str))=false) (he:starEach (e::N) X.e=(false,eval e X.e)::starEach N X.e) (C:(backTo B (starEach N X.e)).any (·.1)=false) :
  PE X (.Call (.Name x p) (e::N) [] B) (tE X.K (gb (gD g) x fs)):=
 (A6 o G hr hg hm hb (dvs:=[.non]) (.cons rfl .nil) qe ha P he C).imp' λJ H Q hz=>by
  obtain⟨F,m,L,S,d,E,r,l,q,k⟩:=hz;obtain⟨i,c,e1,q⟩:=ak q;refine⟨F,m,L,S,i,c,r,l,e1,λxs f s b s1 I M=>λy a hy w A=>?_⟩;split at q
  .rename_i _ S2 eg;cases q;have R:Stp f s b f s (br b a (.own y)):=eM w;have r2:Rel X.K f (br b a (.own y)) s c:=I.new w;have u:br b a (.own y) y=none:=by rw[ar (aH A)];exact hy
   have T:Stp f s (br b a (.own y)) f (s++[y]) (br (br b a (.own y)) y (.ins h a [])):=bY u;have r3:Rel X.K f (br (br b a (.own y)) y (.ins h a [])) (s++[y]) (c++[.ins x [] []]):=r2.own u ⟨h,a,[],hC,aC,rfl,rfl⟩;have t:(s++[y])[c.length]? = some y:=by rw[<- I.len,bF (al _)];simp
   have p3:=bI.mono T (bI.mono R M);have K:g (.ref c.length::(i++[.p .non])) (c++[.ins x [] []])=some (.p .non,E):=eg;have D:RD X.K f (br (br b a (.own y)) y (.ins h a [])) (s++[y]) (.p .non) .non:=show V.non=V.non from rfl;have pp:bI X.K f (br (br b a (.own y)) y (.ins h a [])) (s++[y]) (i++[.p .non]) (xs++[.non]):=bI.append p3 ⟨_,_,rfl,D,rfl⟩;refine⟨f,s++[y],.ref c.length::(i++[.p .non]),_,.p .non,E,r3,⟨_,_,rfl,⟨y,rfl,t⟩,pp⟩,K,λv Z m4 H4 W r4 p4=>⟨p4,?_⟩⟩;refine k (.ref y) Z m4 H4 (s1.trans (R.trans (T.trans W))) r4 ⟨y,rfl,?_⟩;obtain⟨n,en⟩:=W.pre;rw[en,bE (bg.mp t).1];exact t
  .cases q
end
section
variable{X:Cx}{pins:PN}{J:L2.St}{H:Hp}{s:Shared}{fp:List Addr}{f:Heap}
theorem EL(I:Inv X pins J H s)(t:∀b ∈ fp,re X pins H b)(k:∀b o,b ∉ fp->s.heap.get? b=some o->f.get? b=some o)
  (w:f.get? s.heap.objs.size=some { cls:=.type "tuple",data:=.seq #[u,v] }) (P:RelV x u) (A:RelV y v):Inv X pins J (br H s.heap.objs.size (.tup [x,y])) { s with heap:=f }:=by
 have h:H s.heap.objs.size=none:=I.h.fresh (al _);have p:∀{b:Addr}{o:HO},H b=some o->b ∉ fp:=λ{b o} q z=>by rw[(t b z).1]at q;cases q
 refine I.step (g':=s.gens) (d':=s.drawn) (t':=s.toks) (ch:=fp) (λb e=>?_) (λb o _ _ a q _=>k b o a q) (λb o _ _ a q _=>⟨o.slots,k b o a q⟩) (λb o _ q n=>?_) (λb o a q=>⟨o,k b o a q⟩)
  (λb d q=>?_) (λb o d q=>?_) (λb q=>?_) (λm F=>?_) (λb B q=>?_) I.bare
 .obtain⟨_,i,_,j,l,S⟩:=t b e;exact⟨j,i,l,S⟩
 .rw [ar (aQ (av q))];exact n
 .rw [ar (a9 q h)];exact q
 .rw [ar (a9 q h)];exact q
 .rw [ar (a9 q h)];exact q
 .obtain⟨o,N,g,K,r⟩:=F;exact⟨o,N,g,k _ o (λz=>(t _ z).2.1 rfl) K,r⟩
 .by_cases e:b=s.heap.objs.size
  .subst e;rw[aC]at q;cases q;exact⟨by show 2≤sizeLine;decide,[u,v],.cons P (.cons A .nil),⟨_,w,⟨rfl,_,rfl⟩,rfl⟩⟩
  .rw [ar e]at q;refine(I.h b B q).stay (λc v a z=>k c v ?_ z) (λc z=>by rw[ar (a9 z h)];exact z) λc d z=>by rw[ar (a9 z h)];exact z
   rcases a with rfl|a
   .exact p q
   .exact p a
theorem LQ(I:Inv X pins J H s)(x:∀b ∈ fp,re X pins H b)(k:∀b o,b ∉ fp->s.heap.get? b=some o->f.get? b=some o):Inv X pins J H { s with heap:=f }:=by
 have e:∀{b:Addr}{o:HO},H b=some o->b ∉ fp:=λ{b o} q z=>by rw[(x b z).1]at q;cases q
 refine I.step (g':=s.gens) (d':=s.drawn) (t':=s.toks) (ch:=fp) (λb u=>?_) (λb o _ _ h q _=>k b o h q) (λb o _ _ h q _=>⟨o.slots,k b o h q⟩) (λ_ _ _ _ n=>n) (λb o h q=>⟨o,k b o h q⟩)
  (λ_ _ q=>q) (λ_ _ _ q=>q) (λ_ q=>q) (λm g=>?_) (λb j q=>?_) I.bare
 .obtain⟨_,a,_,t,d,w⟩:=x b u;exact⟨t,a,d,w⟩
 .obtain⟨o,N,p,i,r⟩:=g;exact⟨o,N,p,k _ o (λz=>(x _ z).2.1 rfl) i,r⟩
 .refine (I.h b j q).stay (λc v h z=>k c v ?_ z) (λc z=>z) λc y z=>z;rcases h with rfl|h
  .exact e q
  .exact e h
def CU(t:Bool)(K:FG)(H:Hp)(a:Addr)(x:List V):Prop:=if t=true then kF K H a x else fq K H a x
theorem xH(I:Inv X pins J H s)(h:CU k X.K H a q):∃i:LV,aU q i/\CM k s.heap a i.toArray:=by
 cases k
 .obtain⟨i,r,p,_⟩:=I.list h;exact⟨i,r,p.isList⟩
 .obtain⟨i,r,⟨o,e,c,n⟩,_⟩:=I.tuple h;exact⟨i,r,o,e,c,n⟩
theorem He(p:CM k h a r)(q:CM k h a g):r=g:=by cases k<;>(obtain⟨o,e,c,n,d⟩:=p;obtain⟨m,s,f,b,x⟩:=q;rw[e]at s;cases s;rw[d]at x;cases x;rfl)
theorem vL(I:Inv X pins J H s)(p:CU g X.K H a z)(q:CU g X.K H a ys):z=ys:=by
 obtain⟨i,r,k⟩:=xH I p;obtain⟨x,n,f⟩:=xH I q;have e:=He k f;have h:i=x:=by simpa using bX t5 e
 subst h;exact aU.inj r n
end
def Mm(K:FG)(t e:Bool)(a b:Addr):It:=
 ⟨λi H=>∃s h x y,CU t K H a s/\CU e K H b h/\s[i]? = some x/\h[i]? = some y,λi H x n=>∃p u v,x=.ref p/\H p=none/\n=br H p (.tup [u,v])/\(∀s,CU t K H a s->s[i]? = some u)/\∀h,CU e K H b h->h[i]? = some v,λi H=>∃s,CU t K H a s/\s.length≤i⟩
theorem Dz{P:Program}{w:World}{K:FG}{N:Ab}{n:Nat}{B:Pos}(tq tp:Bool){a b z TI TO t d:Addr}(nd:[z,TI,TO,t,d].Nodup)(na:a ∉ [z,TI,TO,t,d])(nb:b ∉ [z,TI,TO,t,d]) :
  Turn P w K (.Tuple N n B) (Mm K tq tp a b) [z,TI,TO,t,d] z (λi h=>dY h z TI TO .none (.bool false)/\cy h TI (.ref t) (.ref d)/\(∃p q,cy h TO p q)/\rc tq h t a i/\rc tp h d b i) where
 mem:=by simp
 obj:=λi h st c m=>by
  obtain⟨r,g,⟨p,q,F⟩,l,S⟩:=st;obtain⟨o1,M,⟨vs1,d1⟩,_⟩:=l.obj;obtain⟨o2,A,⟨vs,d2⟩,_⟩:=S.obj;simp only[aM,bM,bK]at m;rcases m with rfl|rfl|rfl|rfl|rfl
  .exact⟨_,r,λv x=>by have D:Data.fields _=Data.cell v:=x;cases D⟩
  .exact⟨_,g,λv x=>by have D:Data.seq _ _=Data.cell v:=x;cases D⟩
  .exact⟨_,F,λv x=>by have D:Data.seq _ _=Data.cell v:=x;cases D⟩
  .exact⟨o1,M,λv x=>by rw[d1]at x;cases x⟩
  .exact⟨o2,A,λv x=>by rw[d2]at x;cases x⟩
 keep:=λi h f st k=>by obtain⟨r,g,⟨p,q,F⟩,l,S⟩:=st;obtain⟨o2,A,_,r2⟩:=S.obj;exact⟨k z (by simp) _ r,k TI (by simp) _ g,⟨p,q,k TO (by simp) _ F⟩,rc.at l λo e=>k t (by simp) o e,r2 _ (k d (by simp) _ A)⟩
 item:=by
  intro X hP Z R m i pins s J H E I G st W;subst hP Z R;obtain⟨xs,ys,x,y,L,C,hx,hy⟩:=W;obtain⟨its,rv,s1⟩:=xH I L;obtain⟨u,hu,ru⟩:=rv.get hx;obtain⟨its2,rv2,s2⟩:=xH I C;obtain⟨v,hv,rv'⟩:=rv2.get hy;obtain⟨r,g,⟨p,q,F⟩,l,S⟩:=st;have lt:∀c ∈ [z,TI,TO,t,d],c < s.heap.objs.size:=λc m=>by
   obtain⟨o1,M,_⟩:=l.obj;obtain⟨o2,A,_⟩:=S.obj;simp only[aM,bM,bK]at m;rcases m with rfl|rfl|rfl|rfl|rfl
   .exact av r
   .exact av g
   .exact av F
   .exact av M
   .exact av A
  simp only[bL,aM,bM,bK,gp]at nd na nb;refine uk ⟨_,r,rfl⟩ (rS r g F l S s1 s2 (by simpa using hu) (by simpa using hv) (by grind) (by grind) (by grind) (by grind) (by grind) (by grind) (by grind) (by grind) (by grind) (by grind) λf T q1 q2 q3 q4 q5 q6 q7=>?_);subst q6;refine⟨_,rfl,wpAny_letOwnedTupleGo_zip (s:={ s with heap:=f }) q1 λQ z2 j=>?_⟩;replace j:cD z f Q:=j;have kp:∀c o,c ∉ [z,TI,TO,t,d]->s.heap.get? c=some o->Q.get? c=some o:=λc o m e=>by simp only[aM,bM,bK,gp]at m;exact j.extBut _ _ m.1 (q7 c o m.1 m.2.2.2.1 m.2.2.2.2 m.2.2.1 e)
  have zlt:=lt z (by simp);have V:H s.heap.objs.size=none:=I.h.fresh (al _);have I2:Inv X pins J (br H s.heap.objs.size (.tup [x,y])) { s with heap:=Q }:=EL I G kp (j.extBut _ _ (bA zlt) q5) ru rv';refine⟨.ref s.heap.objs.size,_,I2,rfl,⟨_,x,y,rfl,V,rfl,λxs' h=>by rw[vL I h L];exact hx,λys' h=>by rw[vL I h C];exact hy⟩,⟨z2,j.extBut _ _ (by grind) (q7 _ _ (by grind) (by grind) (by grind) (by grind) g),⟨u,v,j.extBut _ _ (by grind) q4⟩,q2.extBut j.extBut (by grind),q3.extBut j.extBut (by grind)⟩,λc m=>?_⟩;rw[ar (aQ (lt c m))];exact(G c m).1
 done:=by intro X hP Z R m i pins s J H E I G st W;subst hP Z R;obtain⟨xs,L,hx⟩:=W;obtain⟨its,rv,s1⟩:=xH I L;obtain⟨r,g,⟨p,q,F⟩,l,S⟩:=st;have hl:=rv.length;simp only[bL,aM,bM,bK,gp]at nd na;refine uk ⟨_,r,rfl⟩ (vq (show X.A.in1.handled=none from I.o.hd m) r g l s1 (by simp;lia) (by grind) (by grind) λf e kp hz=>?_);obtain⟨o,eo,co⟩:=hz;refine⟨e,o,rfl,eo,co,rfl,LQ I G λc ob m ec=>kp c ob (λx=>m (by simp[x])) (λx=>m (by simp[x])) ec⟩
 self:=λ_ _ _ _ _ st h=>w_ st.1 h
theorem CF(q t:Bool)(c:q=false\/t=false)(l:CM q s.heap r I)(x:CM t s.heap g ys)
  (h:∀f i a TI TO z,(∀b o,s.heap.get? b=some o->f.get? b=some o)->s.heap.objs.size≤i->i < a->a < TI->TI < TO->TO < z->rc q f i r 0->rc t f a g 0->cy f TI (.ref i) (.ref a)->cy f TO .none .none ->
   dY f z TI TO .none (.bool false)->Q (.ref z) { s with heap:=f }):wpAny (model prog w) A (call (.type "zip") [.ref r,.ref g]) Q E s:=by
 cases q
 .cases t
  .refine call_zip_2 l x λf m T e n k _ hk=>?_;exact h f s.heap.objs.size (s.heap.objs.size+1) (s.heap.objs.size+2) (s.heap.objs.size+3) (s.heap.objs.size+4) hk (al _) (d6 _) (d6 _) (d6 _) (d6 _) n k T e m
  .exact ov l x h
 .cases t
  .exact wI l x h
  .rcases c with z|z<;>cases z
noncomputable def BR(x y:List P):List P:=(x.zip y).map λz=>.tup [z.1,z.2]
@[simp] def Jq(a b:EV)(L:Lc)(S:aE):BV:=bw (a L S) λv e=>bw (b L e) λw h=>match v,w with
 | .lst x,.lst y=>if x.length≤y.length then some (BR x y,h) else none
 | .lst x,.tup y=>if x.length≤y.length then some (BR x y,h) else none
 | .tup x,.lst y=>if x.length≤y.length then some (BR x y,h) else none
 |_,_=>none
theorem xU{K:FG}{F:Aa}{m:List Addr}{H:Hp}{B A:Bool}{a b:Addr}{d w:List P}{n f:List V}(L:d.length≤w.length)(M:∀k t h,Stp F m H k t h->CU B K h a n/\CU A K h b f)(r:bB K F H d n)(R:bB K F H w f):JG K (Mm K B A a b) (BR d w) F m H:=by intro k t h st;obtain⟨c,s⟩:=M k t h st;have N:=r.length;refine⟨λi v e=>?_,⟨n,c,by unfold BR;rw[bv,List.length_zip,y3 L,N];exact al _⟩⟩;unfold BR at e;rw[fF]at e;obtain⟨⟨W,X⟩,C,rfl⟩:=bJ.mp e;obtain⟨D,E⟩:=List.getElem?_zip_eq_some.mp C;obtain⟨x,l,p⟩:=r.get D;obtain⟨y,o,Q⟩:=R.get E;refine⟨⟨n,f,x,y,c,s,l,o⟩,λz T q=>?_⟩;obtain⟨Z,u,v,rfl,S,rfl,G,I⟩:=q;have g:=G n c;have j:=I f s;rw[l]at g;rw[o]at j;cases g;cases j;exact⟨k,bq S,RP.newTup S ⟨_,_,rfl,RP.mono st p,_,_,rfl,RP.mono st Q,rfl⟩⟩
theorem iZ{X:Cx}{B:Pos}{N:Ab}{n:Nat}{a b:Expr}{G fb:EV}{p Z:Pos}(gz:Gl X "zip")(mz:X.g "zip"=none)(ha:PE X a (tV X.K G))(hb:PE X b (tV X.K fb))(hs:starEach [a,b] X.e=[(false,eval a X.e),(false,eval b X.e)])(hs2:starEach [b] X.e=[(false,eval b X.e)]) :
  PI X (.Tuple N n B) (.Call (.Name "zip" p) [a,b] [] Z) (tI X.K (Jq G fb)):=by
 intro pins s J H R I ⟨F,m,L,S,vs,S',r,l,q,k⟩;obtain⟨x,S1,e1,q⟩:=ak q;obtain⟨y,S2,e2,q⟩:=ak q;refine ii (ir I gz mz yU ?_ (by decide) (by decide));refine g6 ?_ (by rw [hs,hs2]) (by rw [hs2];rfl);rw [hs];refine cm (b_ (ha pins s J H (fun v A=>∃j D,Stp F m H j D A/\Rel X.K j A D S1/\RP X.K j A x v) I ⟨F,m,L,S,x,S1,r,l,e1,fun v j D A s1 r1 M=>⟨j,D,s1,r1,M⟩⟩) fun u s1 ⟨v,A,I1,ru,j,D,i,r1,M⟩=>
  cm (b_ (hb pins s1 J A (λv h=>∃d o,Stp j D A d o h/\Rel X.K d h o S2/\RP X.K d h y v) I1 ⟨j,D,L,S1,y,S2,r1,l.mono i,e2,λv d o h E r2 C=>⟨d,o,E,r2,C⟩⟩) λu2 E ⟨v2,h,W,ru2,d,o,t,r2,C⟩=>dC ?_))
 have go:∀(T Q:Bool)(hb:T=false\/Q=false){w g:Addr}{xs ys:List V},v=.ref w->v2=.ref g->CU T X.K h w xs->CU Q X.K h g ys->R (Mm X.K T Q w g) h->wpAny (model X.p X.w) X.A (call (.type "zip") [u,u2]) (λv s1=>wpAny (model X.p X.w) X.A (pyIter v) (Pd X pins J (.Tuple N n B) R) X.xe s1) X.xe E:=λT Q hb {w g xs ys} ea eb hq hq2 qR=>by
  subst ea eb;cases ru;cases ru2;obtain⟨its,_,sp⟩:=xH W hq;obtain⟨its2,_,sq⟩:=xH W hq2;have la:w < E.heap.objs.size:=by cases T<;>(obtain⟨_,e,_⟩:=sp;exact av e)
  have lb:g < E.heap.objs.size:=by cases Q<;>(obtain⟨_,e,_⟩:=sq;exact av e)
  refine CF T Q hb sp sq λf i1 i2 TI TO z kp n0 n1 n2 n3 n4 hi1 hi2 hTI hTO hz=>w_ hz ?_;refine⟨z,[z,TI,TO,i1,i2],_,_,h,rfl,W.kept (t':=E.toks) kp,Dz T Q (a:=w) (b:=g) (by simp;grind) (by simp;grind) (by simp;grind),⟨hz,hTI,⟨_,_,hTO⟩,hi1,hi2⟩,λc hc=>?_,qR⟩;have hcl:E.heap.objs.size≤c:=by simp only[aM,bM,bK]at hc;grind
  exact W.fpOk hcl (W.h.fresh hcl)
 cases x with
 |lst ds=>
  cases y with
  |lst ds2=>
   dsimp only at q;split at q
   .rename_i hl;cases q;obtain⟨w,xs,rfl,K,ra⟩:=RP.mono t M;obtain⟨g,ys,rfl,P,rb⟩:=C;exact go false false (.inl rfl) rfl rfl K.sq P.sq (k _ d o h (i.trans t) r2 (xU (B:=false) (A:=false) hl (λF3 m3 H3 s=>⟨(K.kp s.kp).sq,(P.kp s.kp).sq⟩) ra rb))
   .cases q
  |tup ds2=>
   dsimp only at q;split at q
   .rename_i hl;cases q;obtain⟨w,xs,rfl,K,ra⟩:=RP.mono t M;obtain⟨g,ys,rfl,P,rb⟩:=C;exact go false true (.inl rfl) rfl rfl K.sq P.sq (k _ d o h (i.trans t) r2 (xU (B:=false) (A:=true) hl (λF3 m3 H3 s=>⟨(K.kp s.kp).sq,(P.kp s.kp).sq⟩) ra rb))
   .cases q
  |_=>cases q
 |tup ds=>
  cases y with
  |lst ds2=>
   dsimp only at q;split at q
   .rename_i hl;cases q;obtain⟨w,xs,rfl,K,ra⟩:=RP.mono t M;obtain⟨g,ys,rfl,P,rb⟩:=C;exact go true false (.inr rfl) rfl rfl K.sq P.sq (k _ d o h (i.trans t) r2 (xU (B:=true) (A:=false) hl (λF3 m3 H3 s=>⟨(K.kp s.kp).sq,(P.kp s.kp).sq⟩) ra rb))
   .cases q
  |_=>cases q
 |_=>cases q
def L8(j:List P)(y:P):Option Nat:=if (j.all (gE 19) && gE 19 y)=true then some ((gJ j).countP λz=>bQ z (pd y)) else none
@[simp] def Ni(G fb:EV)(L:Lc)(S:aE):tyV:=bw (G L S) λv h=>match v with
 | .lst j=>bw (fb L h) λy x=>(L8 j y).map λ(i:Nat)=>(.int (i:Int),x)
 |_=>none
section
variable{X:Cx}{pins:PN}{J:L2.St}{H:Hp}{s:Shared}{F:Aa}{j:List P}{y:P}{vy:V}{u:Value}{i:Nat}{Q:VK}{a:Addr}
theorem yk(E:X.A.units+64 < cLine)(I:Inv X pins J H s)(K:RP X.K F H (.lst j) (.ref a))(P:RP X.K F H y vy)(B:RelV vy u)(e:L8 j y=some i)(q:Q (.int i) H) :
  wpAny (model X.p X.w) X.A (call (.builtin "list.count") [.ref a,u]) (EP X pins J Q) X.xe s:=by
 unfold L8 at e;split at e;case isFalse=>cases e
 rename_i h;cases e;rw[az]at h;obtain⟨C,r⟩:=eP I 20 K (show RelV (.ref a) (.ref a) from rfl) (by simpa[gE] using h.1);obtain⟨D,A⟩:=eP I 19 P B h.2;have m:=A' h.1;have w:=fI 19 _ h.2;rw[pd]at r;cases r with
 | @list l o v n _ t k f b c=>
  obtain⟨G,g,S,x⟩:=o;dsimp only at f b;subst f b;have d:=y' _ _ _ m.1 c;have p:v.toList.countP (λz=>bQ (iX s.heap z) (pd y))=(gJ j).countP λz=>bQ z (pd y):=by rw[<- d,List.countP_map];rfl
  exact eF Ac ⟨_,k,rfl⟩ PySem.F.entry_list_count (PySem.F.args_list_count_2 _ _) (SeqAt.list_countAt a v n g x u (λz=>bQ (iX s.heap z) (pd y))) ⟨k,y_ c A m.1 w.1 (by lia),⟨.int _,H,I.tok _,⟨_,rfl⟩,by rw[p];exact q⟩⟩
theorem JX(hu:X.A.units+64 < cLine)(ho:PE X o (tV X.K L))(he:PE X e (tV X.K fe))(W:starEach [e] X.e=[(false,eval e X.e)])
  (t:attributeBase o "count" X.e (eval o X.e)=eval o X.e) (p:(apos.endLine == cpos.line)=true):PE X (.Call (.Attribute o "count" apos) [e] [] cpos) (tV X.K (Ni L fe)):=by
 intro pins s J H Q I ⟨F,m,h,S,d,T,r,l,q,k⟩;obtain⟨x,B,e1,q⟩:=ak q;refine xh t (by rw[W];rfl) p rfl (b_ (ho pins s J H (λv c=>∃n w,Stp F m H n w c/\Rel X.K n c w B/\RP X.K n c x v) I ⟨F,m,h,S,x,B,r,l,e1,λv n w c N D M=>⟨n,w,N,D,M⟩⟩) λu N hz=>?_);obtain⟨v,c,R,ru,n,w,P,D,M⟩:=hz;cases x with
 |lst j=>obtain⟨y,S2,e2,q⟩:=ak q;obtain⟨i,ei,q⟩:=bJ.mp q;cases q;obtain⟨a,xs,rfl,hq,rp⟩:=id M;cases (show u=Value.ref a from ru);obtain⟨z,its,n',rr,hl,V⟩:=R.lstM hq.2;refine⟨"list","list.count",lO,Ac,PySem.F.type_list_count,⟨_,V,rfl⟩,λb eb=>by cases eb;exact⟨_,V,rfl⟩,?_⟩;rw[W];refine iU rfl (kf (cm (b_ (he pins N J c (λvy g=>∃f K,Stp n w c f K g/\Rel X.K f g K T/\RP X.K f g y vy) R ⟨n,w,h,B,y,T,D,l.mono P,e2,λv f K g Z E C=>⟨f,K,Z,E,C⟩⟩) λuy Z ⟨vy,g,I2,G,f,K,A,E,C⟩=>dC ?_)));exact yk hu I2 (RP.mono A M) C G ei (k _ f K g (P.trans A) E rfl)
 |_=>cases q
end
noncomputable def OZ:P->Option (List P)
 | .lst x=>some x
 | .tup x=>some x
 |_=>none
@[simp] def Fm(a:EV)(L:Lc)(S:aE):rg:=bw (a L S) λv h=>(OZ v).map λx=>(.ref h.length,h++[.lst (x.map .p)])
@[simp] def OM(a b:EV)(L:Lc)(S:aE):rg:=bw (a L S) λv e=>bw (b L e) λw h=>match v,w with
 | .lst x,.int n=>if (gO (x.length * n.toNat) && decide (n.natAbs < 1000000))=true then some (.ref h.length,h++[.lst ((List.replicate n.toNat x).flatten.map .p)]) else none
 |_,_=>none
section
variable{X:Cx}
theorem Do{a:Expr}{G:EV}{p B:Pos}(A:Gl X "list")(C:X.g "list"=none)(P:PE X a (tV X.K G))(g:starEach [a] X.e=[(false,eval a X.e)]):PE X (.Call (.Name "list" p) [a] [] B) (tE X.K (Fm G)):=
 (iD jf A C oY (cq P dI (by rw[g];rfl)) (by decide) (by decide) (by rw[g];rfl) rfl).imp' λJ H Q z=>by
  obtain⟨F,m,L,S,d,D,r,l,q,k⟩:=z;obtain⟨x,j,K,q⟩:=ak q;obtain⟨E,t,q⟩:=bJ.mp q;cases q;refine⟨F,m,L,S,x,j,r,l,K,λv h e f i c M=>?_⟩;cases x with
  |lst o=>cases t;obtain⟨a,y,rfl,u,w⟩:=M;refine⟨a,y,rfl,.inl u.sq,λb s=>?_⟩;have n:Stp h e f h (e++[b]) (br f b (.lst y)):=bY s;refine k (.ref b) h (e++[b]) _ (i.trans n) (c.own s ⟨y,aC,bI.ofP (bB.mono n w)⟩) ⟨b,rfl,?_⟩;rw[<- c.len,bF (al _)];simp
  |tup o=>cases t;obtain⟨a,y,rfl,u,w⟩:=M;refine⟨a,y,rfl,.inr u.sq,λb s=>?_⟩;have n:Stp h e f h (e++[b]) (br f b (.lst y)):=bY s;refine k (.ref b) h (e++[b]) _ (i.trans n) (c.own s ⟨y,aC,bI.ofP (bB.mono n w)⟩) ⟨b,rfl,?_⟩;rw[<- c.len,bF (al _)];simp
  |_=>cases t
theorem A2(r:bB K F H h k):∀n:Nat,bB K F H (List.replicate n h).flatten (List.replicate n k).flatten
 |0=>rfl
 |n+1=>by rw[cn,cn,dD,dD];exact r.append (A2 r n)
theorem Ql{a b:Expr}{G fb:EV}{B:Pos}(R:PE X a (tV X.K G))(T:PE X b (tV X.K fb)):PE X (.BinOp a .Mult b B) (tE X.K (OM G fb)):=
 (Jj Ec R T).imp' λJ H Q V=>by
  obtain⟨F,m,L,S,d,S',r,l,q,k⟩:=V;obtain⟨v,f,E,q⟩:=ak q;obtain⟨w,P,I,q⟩:=ak q;refine⟨F,m,L,S,v,f,r,l,E,λx K W H1 i Z M=>?_⟩;refine⟨K,W,L,f,w,P,Z,l.mono i,I,λy h e s j u C=>?_⟩;cases v with
  |lst D=>
   cases w with
   |int n=>
    dsimp only at q;split at q
    .rename_i c;rw[az]at c;cases q;obtain⟨A,o,rfl,ta,g⟩:=RP.mono j M;cases (show y=.int n from C);have h1:=aL c.2;have N:D.length * n.toNat≤1000000:=aL c.1;refine⟨A,n,o,rfl,rfl,ta.2,by lia,by lia,?_,λp t=>?_⟩
     .rw [<- g.length];exact ba N (by decide)
     .have z:Stp h e s h (e++[p]) (br s p (.lst (List.replicate n.toNat o).flatten)):=bY t;refine k (.ref p) h (e++[p]) _ (i.trans (j.trans z)) (u.own t ⟨_,aC,bI.ofP (bB.mono z (A2 g n.toNat))⟩) ⟨p,rfl,?_⟩;rw[<- u.len,bF (al _)];simp
    .cases q
   |_=>cases q
  |_=>cases q
end
section
variable{X:Cx}{a:Expr}{G:EE}{p B:Pos}
end
noncomputable def Mp:P->Option String
 | .non=>some "NoneType"
 | .bl _=>some "bool"
 | .int _=>some "int"
 | .str _=>some "str"
 | .tup _=>some "tuple"
 | .lst _=>some "list"
 | .ro _=>some "list"
 | .dct _ _=>none
def G4(d:D)(S:aE):Option String:=match d with
 | .p v=>Mp v
 | .ref i=>match S[i]? with
  |some (.lst _)=>some "list"
  |some (.fz v)=>Mp v
  |_=>none
noncomputable def wb(t T:String):Bool:=t == T ||(t == "bool" && T == "int")
noncomputable def qu:List String:=["NoneType","bool","int","str","tuple","list"]
noncomputable def l0:List String:=["bool","int","str","tuple","list"]
variable{T:String}
theorem Jo(x:t ∈ qu)(h:T ∈ l0):PySem.W.kitOne K (.type t) (.type T)=some (wb t T):=by simp only[qu,l0,aM,bM,bK]at x h;rcases x with rfl|rfl|rfl|rfl|rfl|rfl<;>rcases h with rfl|rfl|rfl|rfl|rfl<;>rfl
theorem Br(x:t ∈ qu):∀{s:List String},(∀T ∈ s,T ∈ l0)->C6 K (.type t) (s.map Value.type)=some (s.any (wb t))
 | [],_=>rfl
 |T::s,h=>by
  rw[aD];unfold C6;rw[Jo x (h T aJ)];cases e:wb t T with
  |true=>simp[e]
  |false=>simp[e,Br x λa n=>h a (aN _ n)]
section
variable{X:Cx}{pins:PN}{J:L2.St}{H:Hp}{s:Shared}{F:Aa}{m:List Addr}{S:aE}{d:D}{x:V}{u:Value}{t:String}
theorem Dx(h:Mp v=some t):t ∈ qu:=by cases v<;>cases h<;>simp[qu]
theorem Dy(h:G4 d S=some t):t ∈ qu:=by
 cases d with
 |p v=>exact Dx h
 |ref i=>
  unfold G4 at h;dsimp only at h;split at h
  .cases h;simp[qu]
  .exact Dx h
  .cases h
theorem Op(I:Inv X pins J H s)(p:RP X.K F H v x)(r:RelV x u)(h:Mp v=some t):∃k,C3 X.K u (.type t) k/\k s.heap/\u≠.builtin "__main__.__loader__#opaque":=by
 cases v with
 |non=>cases h;cases (show x=.non from p);cases (show u=Value.none from r);exact⟨_,PySem.W.kitx_none,True.intro,λz=>nomatch z⟩
 |bl b=>cases h;cases (show x=.bl b from p);cases (show u=Value.bool b from r);exact⟨_,PySem.W.kitx_bool,True.intro,λz=>nomatch z⟩
 |int i=>cases h;cases (show x=.int i from p);obtain⟨m,rfl⟩:=r;exact⟨_,PySem.W.kitx_int,True.intro,λz=>nomatch z⟩
 |str y=>cases h;cases (show x=.str y from p);obtain⟨m,rfl⟩:=r;exact⟨_,PySem.W.kitx_str,True.intro,λz=>nomatch z⟩
 |tup d=>cases h;obtain⟨a,f,rfl,n,_⟩:=p;cases r;obtain⟨e,_,⟨o,g,c,_⟩,_⟩:=I.tuple n.sq;exact⟨_,PySem.W.kitx_tuple,⟨o,g,c⟩,λz=>nomatch z⟩
 |lst d=>cases h;obtain⟨a,f,rfl,n,_⟩:=p;cases r;obtain⟨e,_,l,_⟩:=I.list n.sq;obtain⟨o,g,c,_⟩:=l.isList;exact⟨_,xm,⟨o,g,c⟩,λz=>nomatch z⟩
 |ro d=>cases h;obtain⟨a,f,rfl,n,_⟩:=p;cases r;obtain⟨e,_,l,_⟩:=I.list n.sq;obtain⟨o,g,c,_⟩:=l.isList;exact⟨_,xm,⟨o,g,c⟩,λz=>nomatch z⟩
 |dct q w=>cases h
theorem Oq(I:Inv X pins J H s)(l:Rel X.K F H m S)(p:RD X.K F H m d x)(r:RelV x u)(h:G4 d S=some t):∃e,C3 X.K u (.type t) e/\e s.heap/\u≠.builtin "__main__.__loader__#opaque":=by
 cases d with
 |p v=>exact Op I p r h
 |ref i=>
  obtain⟨a,rfl,n⟩:=p;unfold G4 at h;dsimp only at h;split at h
  .rename_i q N;cases h;obtain⟨y,k,_⟩:=l.obj i a _ n N;cases r;obtain⟨f,_,b,_⟩:=I.list (fq.of k);obtain⟨o,g,c,_⟩:=b.isList;exact⟨_,xm,⟨o,g,c⟩,λz=>nomatch z⟩
  .rename_i v N;exact Op I (l.obj i a _ n N) r h
  .cases h
end
section
variable{X:Cx}{a:Expr}{G:EE}{p B:Pos}
theorem CH(n:T ∈ l0):cN X (.builtin "isinstance") (λa H Q=>∃F m S d t x,a=[x,.ty T]/\Rel X.K F H m S/\RD X.K F H m d x/\G4 d S=some t/\Q (.bl (wb t T)) H):=by intro pins s J H a v Q I r ⟨F,m,S,d,t,x,e,l,pd,h,q⟩;subst e;obtain⟨u,b,rfl,f,w⟩:=vals2 r;cases (show b=Value.type T from w);obtain⟨c,Z,z,k⟩:=Oq I l pd f h;exact PySem.W.kia_one Z I.kIn z (Jo (Dy h) n) k λp=>⟨.bl _,H,I.tok _,rfl,q⟩
theorem CG{a:List String}(p:∀T ∈ a,T ∈ l0):cN X (.builtin "isinstance") (λb H Q=>∃F m S d t x l,b=[x,.ref l]/\kF X.K H l (a.map V.ty)/\Rel X.K F H m S/\RD X.K F H m d x/\G4 d S=some t/\Q (.bl (a.any (wb t))) H):=by
 intro pins s J H b W Q I r ⟨F,m,S,d,t,x,l,e,K,C,pd,k,q⟩;subst e;obtain⟨u,G,rfl,D,w⟩:=vals2 r;cases (show G=Value.ref l from w);obtain⟨L,Z,A,P⟩:=Oq I C pd D k;obtain⟨i,E,⟨o,y,g,n,j⟩,_⟩:=I.tuple K;have z:∀{a:List String}{i:LV},aU (a.map V.ty) i->i=a.map Value.type:=λ{a}=>by
  induction a with
  |nil=>intro i h;cases h;rfl
  |cons T a B=>intro i h;obtain⟨v,f⟩:=h;rename_i v f;cases (show _=Value.type T from v);rw[B f];rfl
 cases z E;obtain⟨c,dd,M,N⟩:=o;cases g;cases j;exact PySem.W.kia_tup Z I.kIn A y (Br (Dy k) p) P λR=>⟨.bl _,H,I.tok _,rfl,q⟩
@[simp] def AT(T:List String)(f:EE)(L:Lc)(S:aE):tyV:=bw (f L S) λd h=>(G4 d h).map λt=>(.bl (T.any (wb t)),h)
theorem Qx(j:T ∈ l0)(K:Gl X "isinstance")(P:X.g "isinstance"=none)(g:Gl X h)(e:X.g h=none)(z:bootBuiltins h=some (.type T))(y:PE X a (tE X.K G))
  (A:h≠"__name__") (o:(h == ("__debug__":Str))=false) (f:starEach [a,.Name h C] X.e=[(false,eval a X.e),(false,eval (.Name h C) X.e)]):PE X (.Call (.Name "isinstance" p) [a,.Name h C] [] B) (tV X.K (AT [T] G)):=
 (iF (CH j) K P yX (cq y (cq (uG (v:=.ty T) g e z rfl A o) dI rfl) (by rw[f];rfl)) (by decide) (by decide) (by rw[f];rfl) rfl).imp' λJ H Q D=>by obtain⟨F,m,L,S,d,I,r,l,q,k⟩:=D;obtain⟨x,M,u,q⟩:=ak q;obtain⟨t,i,q⟩:=bJ.mp q;cases q;exact⟨F,m,L,S,_,_,r,l,u,λv n b w s c E=>⟨n,b,_,x,t,v,rfl,c,E,i,k _ n b w s c (by simp;rfl)⟩⟩
theorem Qw{T f:String}{h e:Str}{M C c:Pos}{n:Nat}(D:T ∈ l0)(E:f ∈ l0)(N:Gl X "isinstance")(R:X.g "isinstance"=none)(P:Gl X h)(W:X.g h=none)(i:bootBuiltins h=some (.type T))(A:Gl X e)(Z:X.g e=none)(j:bootBuiltins e=some (.type f))(I:PE X a (tE X.K G))
  (n1:h≠"__name__") (y:(h == ("__debug__":Str))=false) (n2:e≠"__name__") (z:(e == ("__debug__":Str))=false) (w:starEach [a,.Tuple [.Name h M,.Name e C] n c] X.e=[(false,eval a X.e),(false,eval (.Tuple [.Name h M,.Name e C] n c) X.e)]):PE X (.Call (.Name "isinstance" p) [a,.Tuple [.Name h M,.Name e C] n c] [] B) (tV X.K (AT [T,f] G)):=
 (iF (CG (a:=[T,f]) (by simp[D,E])) N R yX (cq I (cq (qd (cq (uG (v:=.ty T) P W i rfl n1 y) (cq (uG (v:=.ty f) A Z j rfl n2 z) dI rfl) rfl)) dI rfl) (by rw[w];rfl)) (by decide) (by decide) (by rw[w];rfl) rfl).imp' λJ H Q V=>by obtain⟨F,m,L,S,d,S',r,l,q,k⟩:=V;obtain⟨x,S1,o,q⟩:=ak q;obtain⟨t,K,q⟩:=bJ.mp q;cases q;refine⟨F,m,L,S,_,_,r,l,o,λv F' u H' s g pp=>⟨by rw[jM];exact Nat.le_of_ble_eq_true rfl,λp b=>?_⟩⟩;exact⟨_,u,_,x,t,v,p,rfl,.of (aC ..),g.grow (bq b),pp.mono (bq b).stp,K,k _ _ u _ (s.trans (bq b).stp) (g.grow (bq b)) rfl⟩
end
noncomputable def DX:List D->Option (List P)
 | []=>some []
 | .p v::r=>(DX r).map (v::·)
 | .ref _::_=>none
theorem uE:∀{d:List D}{j:List P},DX d=some j->d=j.map .p
 | [],_,h=>by cases h;rfl
 | .p v::r,j,h=>by obtain⟨q,e,rfl⟩:=bJ.mp h;rw[aD,<- uE e]
 | .ref _::_,_,h=>by cases h
def A_(d:D)(S:aE):Option (Nat×List P):=(eQ d S).bind λz=>(DX z.2).map λj=>(z.1,j)
def pX(L:EE)(t:List Nat)(n:Nat)(g:kE)(c:EB)(e:EV)(h:Lc)(S:aE):tyV:=bw (L h S) λd a=>(A_ d a).bind λz=>if few z.2=true then bw (eW (λx=>x[z.1]? = some (.lst (z.2.map .p))) g c e z.2 (ph t n h) a) λy x=>some (.lst y,x) else none
theorem L7(R:PE X iter (tE X.K L)):oz X tg iter (pX L ts h g I fe) ts h g I fe:=by
 refine⟨_,iO R,λJ H F m s S d y r l q=>?_⟩;obtain⟨d',c,z,q⟩:=ak q;obtain⟨⟨n,j⟩,E,q⟩:=lB.mp q;obtain⟨⟨b,ds⟩,o,K⟩:=lB.mp E;obtain⟨W,P,A⟩:=bJ.mp K;cases A;obtain⟨rfl,N⟩:=hV o;cases uE P;dsimp only at q;split at q;case isFalse=>cases q
 rename_i M;obtain⟨ys,S3,B,q⟩:=ak q;cases q;refine⟨_,j,c,ys,rfl,M,⟨F,m,s,S,b,c,_,r,l,z,N,λa u T H1 s1 r1 p=>⟨u,T,s1,r1,λF2 V H2 y st r2 ok=>?_⟩⟩,B⟩;have f:V[b]? = some a:=by obtain⟨k,C⟩:=st.pre;rw[C,bE (bg.mp p).1];exact p
 obtain⟨xs,t,w⟩:=r2.obj b a _ f ok;have Q:=w.length;refine⟨λi v e=>?_,EI (fq.of t) (by rw[<- Q,bv];exact al _)⟩;obtain⟨x,G,Z⟩:=w.get (show(j.map D.p)[i]? = some (.p v) by rw[fF,e];rfl);exact LM (e:=false) (fq.of t) G Z
@[simp] def Nh(a:EE)(lo s:EO)(L:Lc)(S:aE):tyV:=bw (a L S) λd x=>bw (lo L x) λi e=>bw (s L e) λj h=>(A_ d h).map λz=>(.lst (cut z.2 i j),h)
theorem DU{K:FG}{F:Aa}{H:Hp}{m:List Addr}:∀{j:List P}{s:List V},bI K F H m (j.map .p) s->bB K F H j s
 | [],_,r=>r
 |p::j,_,r=>by obtain⟨x,h,rfl,M,C⟩:=r;exact⟨x,h,rfl,M,DU C⟩
theorem Qj{X:Cx}{e:Expr}{lo g:Option Expr}{G:EE}{u w:EO}{B C:Pos}(he:PE X e (tE X.K G))(hl:PO X lo (tO X.K u))(hh:PO X g (tO X.K w)):PE X (.Subscript e (.Slice lo g none C) B) (tV X.K (Nh G u w)):=
 (vS AZ he hl hh).imp' λJ H Q hz=>by obtain⟨F,m,L,S,d,P,r,l,q,k⟩:=hz;obtain⟨x,c,A,q⟩:=ak q;obtain⟨i,t,D,q⟩:=ak q;obtain⟨h,S3,E,q⟩:=ak q;obtain⟨⟨n,j⟩,I,q⟩:=bJ.mp q;obtain⟨⟨n',ds⟩,R,T⟩:=lB.mp I;obtain⟨ps',V,W⟩:=bJ.mp T;cases W;cases q;obtain⟨rfl,N⟩:=hV R;cases uE V;refine⟨F,m,L,S,_,c,r,l,A,λv o m1 H1 f r1 M=>?_⟩;refine⟨o,m1,L,c,i,t,r1,l.mono f,D,λK m2 H2 b r2=>?_⟩;refine⟨K,m2,L,t,h,P,r2,(l.mono f).mono b,E,λF3 m3 H3 z y=>?_⟩;obtain⟨a,rfl,hm⟩:=RD.mono z (RD.mono b M);obtain⟨xs,Z,rs⟩:=y.obj _ a _ hm N;exact⟨a,xs,rfl,fq.of Z,λp s=>k _ _ m3 _ ((f.trans (b.trans z)).trans (bS s).stp) (y.grow (bS s)) (.newLst s ((DU rs).cut i h))⟩
end Ev
namespace PySem
open PySem PyProof.Rows
section
variable{prog:Program}{w:World}{A:Around}{E:VP}{s:Shared}
theorem Ct(u:A.handled=none)(n t:Addr)(k:t≠n)(m:Array Value):Draws prog w A n [n,t] m.size (λi v=>m[i]? = some v) (λi h=>h.IsTupleIter n t i/\h.IsTuple t m) where
 live:=λ_ _ st=>by obtain⟨⟨o,g,_⟩,_⟩:=st;exact⟨o,g⟩
 frame:=λ_ _ _ st hk=>⟨st.1.at λo e=>hk n (by simp) o e,st.2.at λo e=>hk t (by simp) o e⟩
 item:=λi s Q E r st d=>by obtain⟨a,b⟩:=st;exact pY a b (x:=m[i]) (by simp[r]) λf c p=>d _ f s.toks (by simp[r]) ⟨c,b.extBut p.extBut k⟩ p
 done:=λs Q E st q=>by obtain⟨a,b⟩:=st;exact i9 u a b (by simp) q
theorem Cu(a:A.handled=none)(f:r[k]? = none):Draws prog w A q [q,t] k (λ_ _=>True) (λj h=>j=k/\h.IsTupleIter q t k/\h.IsTuple t r) where
 live:=λ_ _ st=>by obtain⟨_,⟨o,b,_⟩,_⟩:=st;exact⟨o,b⟩
 frame:=λ_ _ _ st hk=>⟨st.1,st.2.1.at λo e=>hk q (by simp) o e,st.2.2.at λo e=>hk t (by simp) o e⟩
 item:=λi s Q E n st _=>absurd st.1 (aQ n)
 done:=λs Q E st x=>i9 a st.2.1 st.2.2 f x
theorem uo{h:Heap}(n:h.IsTuple t k)(e:h.IsTupleIter r t i):t≠r:=λz=>by subst z;obtain⟨o,s,a,_⟩:=n;obtain⟨f,x,c,_⟩:=e;rw[s]at x;cases x;rw[a]at c;simp at c
theorem uq{i:Int}(n:h.IsTuple t k)(s:IsEnum h e r i x):e≠t:=λz=>by subst z;obtain⟨o,a,c,_⟩:=n;rw[show h.get? e=_ from s]at a;cases a;simp at c
theorem Cs (t:Addr) (r:Array Value):Meets (Builtin.«enumerate.__new__» ⟨[.type "enumerate",.ref t],[]⟩) (fun _ R s=>s.heap.IsTuple t r /\
  ∀f,IsEnum f (s.heap.objs.size+1) s.heap.objs.size 0 .none->f.IsTupleIter s.heap.objs.size t 0->f.objs.size=s.heap.objs.size+2->(∀b o,s.heap.get? b=some o->f.get? b=some o)->R (.ok (.ret (.ref (s.heap.objs.size+1)))) { s with heap:=f }):=
 .of_wp λprog w A R s h=>by
  obtain⟨p,g,d,H,os⟩:=s;obtain⟨m,h⟩:=h;have u:=sub_enumerate;obtain⟨⟨S,i,j,y⟩,l,a,n,k⟩:=id m;dsimp only at a k;subst a k;have T:tu (ly ⟨p,g,d,H,os⟩) t r:=m
  wp_walk using sZ l
  let e:Obj:={ cls:=.type "tuple_iterator",data:=.fields #[.ref t,.int 0 0] }
  let v:Obj:={ cls:=.type "enumerate",data:=.fields #[.none,.bool false,.ref p.objs.size,rawInt 0,.none,.none] }
  have z:(p.push e).objs.size=p.objs.size+1:=kh ..;have q:IsEnum ((p.push e).push v) (p.objs.size+1) p.objs.size 0 .none:=by rw[<- z];exact aR _ rfl
  have dH:=h _ q ⟨_,aF _ (aR _ rfl),rfl,rfl⟩ ((kh ..).trans (by rw[z])) λb o x=>aF _ (aF _ x);rw[show Array.size p.objs+1=(p.push e).objs.size from z.symm]at dH;apply wpAny_stack_any;intro st;apply aq;split
  .rename_i c _ _ _ _ _;rcases c == Value.type "enumerate" with _|_;all_goals
    wp_walk using sZ l,pM T
    exact⟨_,rfl,dH⟩
  .wp_walk using sZ l,pM T
   exact⟨_,rfl,dH⟩
theorem yj(x:s.heap.IsTuple t k)
  (h:∀f,IsEnum f (s.heap.objs.size+1) s.heap.objs.size 0 .none->f.IsTupleIter s.heap.objs.size t 0->f.objs.size=s.heap.objs.size+2->(∀b o,s.heap.get? b=some o->f.get? b=some o)->Q (.ref (s.heap.objs.size+1)) { s with heap:=f }) :
  wpAny (model prog w) A (call (.type "enumerate") [.ref t]) Q E s:=uh F.called_enumerate (by decide) (F.typeCall_enumerate_1 _) (F.newCall_enumerate_1 _) (λj=>F.args_object_init_2 j _) F.entry_enumerate_new (Cs t k) ⟨x,λf e i z hk=>⟨⟨_,e,rfl⟩,h f e i z hk⟩⟩
end
end PySem
namespace Ev
open PySem PySem.Spec PyProof.Rows L2
section
variable{X:Cx}{B:Pos}
def Pk(K:FG)(a:Addr):It:=
 ⟨λi H=>∃s x,kF K H a s/\s[i]? = some x,λi H x h=>∃p y,x=.ref p/\H p=none/\h=br H p (.tup [.int i,y])/\∀s,kF K H a s->s[i]? = some y,λi H=>∃s,kF K H a s/\s.length≤i⟩
theorem xx{P:Program}{w:World}{K:FG}{N:Ab}{n:Nat}(a e g:Addr)(R:e≠g):Turn P w K (.Tuple N n B) (Pk K a) [e,g] e (λi h=>(∃l,IsEnum h e g i l)/\h.IsTupleIter g a i) where
 mem:=by simp
 obj:=λi h st b y=>by
  obtain⟨⟨l,C⟩,⟨o,ho,c,d⟩⟩:=st;have:b=e\/b=g:=by simpa using y
  rcases this with rfl|rfl
  .exact⟨_,C,λv z=>by have z':Data.fields _=Data.cell v:=z;cases z'⟩
  .exact⟨o,ho,λv z=>by rw[d]at z;cases z⟩
 keep:=λi h f st k=>by obtain⟨⟨l,C⟩,j⟩:=st;exact⟨⟨l,k e (by simp) _ C⟩,j.at λo q=>k g (by simp) o q⟩
 item:=by
  intro X hP hw hK p i pins s J H E I hf st hg;subst hP hw hK;obtain⟨xs,x,hq,hx⟩:=hg;obtain⟨Q,rv,pl,hz⟩:=I.tuple hq;obtain⟨u,hu,ru⟩:=rv.get hx;obtain⟨⟨l,C⟩,j⟩:=st;obtain⟨f0,f1,f2,f3,f4,f5⟩:=hf e (by simp);obtain⟨g0,g1,g2,g3,g4,g5⟩:=hf g (by simp);have Z:s.heap.IsTuple a Q.toArray:=pl;have hai:=uo Z j;have hae:=uq Z C;have D:=Ct (prog:=X.p) (w:=X.w) (A:=X.A.in1) (I.o.hd p) g a hai Q.toArray;refine wpAny_pyNext_enum_itemD D C ⟨j,Z⟩ (by simpa using (bg.mp hu).1) R (by simp[R,hae]) λu2 h1 tk W ho1 G ht1 hz1 hk1=>?_
  obtain⟨G,_⟩:=G;have hu3:u2=u:=by simp[hu]at W;exact W.symm
  subst hu3;refine⟨_,rfl,C0 (s:={ s with heap:=h1,toks:=tk+1 }) ho1 λh2 he2 M=>?_⟩;replace M:cD e h1 h2:=M;have T:e < s.heap.objs.size:=av C;have L:∀b o,b≠e->b≠g->s.heap.get? b=some o->h2.get? b=some o:=λb o b1 b2 q=>(M.2 b b1).trans (hk1 b o b1 b2 q)
  have V:h2.get? s.heap.objs.size=some { cls:=.type "tuple",data:=.seq #[.int i tk,u2] }:=(M.2 _ (bA T)).trans ht1;have F:H s.heap.objs.size=none:=I.h.fresh (al _);have ne:∀{b:Addr}{o:HO},H b=some o->b≠e/\b≠g:=λ{b o} q=>⟨λz=>(by rw[z,f0]at q;cases q),λz=>(by rw[z,g0]at q;cases q)⟩;have S:∀b,b ∉ [e,g]->b≠e/\b≠g:=λb y=>⟨λz=>y (by simp[z]),λz=>y (by simp[z])⟩;have I':Inv X pins J (br H s.heap.objs.size (.tup [.int i,x])) { s with heap:=h2,gens:=s.gens,drawn:=s.drawn,toks:=tk+1 }:=by
   refine I.step (ch:=[e,g]) (λb y=>?_) (λb o _ _ p q _=>L b o (S b p).1 (S b p).2 q) (λb o _ _ p q _=>⟨o.slots,L b o (S b p).1 (S b p).2 q⟩) (λb o _ q n=>?_) (λb o p q=>⟨o,L b o (S b p).1 (S b p).2 q⟩)
    (λb ys q=>?_) (λb o ys q=>?_) (λb q=>?_) (λm hm=>?_) (λb u' q=>?_) I.bare
   .have:b=e\/b=g:=by simpa using y
    rcases this with rfl|rfl
    .exact⟨f3,f1,f4,f5⟩
    .exact⟨g3,g1,g4,g5⟩
   .rw [ar (aQ (av q))];exact n
   .rw [ar (a9 q F)];exact q
   .rw [ar (a9 q F)];exact q
   .rw [ar (a9 q F)];exact q
   .obtain⟨o,N,ep,ho,r⟩:=hm;exact⟨o,N,ep,L _ o (aH f1) (aH g1) ho,r⟩
   .by_cases y:b=s.heap.objs.size
    .subst y;rw[aC]at q;cases q;exact⟨by show 2≤sizeLine;decide,[.int i tk,u2],.cons ⟨_,rfl⟩ (.cons ru .nil),⟨_,V,⟨rfl,_,rfl⟩,rfl⟩⟩
    .rw [ar y]at q;refine(I.h b u' q).stay (λc v p z=>L c v ?_ ?_ z) (λc z=>by rw[ar (a9 z F)];exact z) λc ys z=>by rw[ar (a9 z F)];exact z
     .rcases p with rfl|p
      .exact (ne q).1
      .exact (ne p).1
     .rcases p with rfl|p
      .exact (ne q).2
      .exact (ne p).2
  refine⟨.ref s.heap.objs.size,_,I',rfl,⟨s.heap.objs.size,x,rfl,F,rfl,λys hy=>by rw[I.tuple_inj hy hq];exact hx⟩,⟨⟨u2,by simpa using he2⟩,G.at λo q=>(M.2 g (aH R)).trans q⟩,λb y=>?_⟩;have hb':b=e\/b=g:=by simpa using y
  obtain⟨oi,hoi,_⟩:=id j;rcases hb' with rfl|rfl
  .rw [ar (aQ T)];exact f0
  .rw [ar (aQ (av hoi))];exact g0
 done:=by intro X hP hw hK p i pins s J H E I hf st hg;subst hP hw hK;obtain⟨xs,hq,hx⟩:=hg;obtain⟨Q,rv,pl,hz⟩:=I.tuple hq;obtain⟨⟨l,C⟩,j⟩:=st;obtain⟨g0,g1,g2,g3,g4,g5⟩:=hf g (by simp);have hl:=rv.length;have Z:s.heap.IsTuple a Q.toArray:=pl;exact wpAny_pyNext_enum_endD (Cu (prog:=X.p) (w:=X.w) (A:=X.A.in1) (I.o.hd p) (q:=g) (t:=a) (r:=Q.toArray) (k:=i) (by simp;lia)) C ⟨rfl,j,Z⟩ λf eb=>⟨rfl,I.turned (t':=s.toks) (λb o y e=>eb b o y e) g0 g1 g3 g4 g5⟩
 self:=λ_ _ _ _ _ st h=>by obtain⟨⟨l,C⟩,_⟩:=st;exact sU C h
theorem Ii{K:FG}{F:Aa}{m:List Addr}{H:Hp}{a:Addr}{c:List P}{s:List V}(w:∀h k n,Stp F m H h k n->kF K n a s)(r:bB K F H c s):JG K (Pk K a) (dS 0 c) F m H:=by
 intro h k n st;have q:=w h k n st;have l:=r.length;refine⟨λi v e=>?_,⟨s,q,by rw[nA,l];exact al _⟩⟩;obtain⟨d,t,rfl⟩:=nB e;obtain⟨x,f,p⟩:=r.get t;refine⟨⟨s,x,q,f⟩,λz g y=>?_⟩;obtain⟨j,y,rfl,b,rfl,u⟩:=y;have:y=x:=by have:=u s q;rw[f]at this;cases this;rfl
 subst this;refine⟨h,bq b,RP.newTup b ⟨_,_,rfl,?_,_,_,rfl,RP.mono st p,rfl⟩⟩;show V.int (i:Int)=V.int (0+(i:Int));rw[lA]
@[simp] def rD(a:EV)(L:Lc)(S:aE):BV:=bw (a L S) λv h=>match v with
 | .lst x=>some (dS 0 x,h)
 | .ro x=>some (dS 0 x,h)
 | .tup x=>some (dS 0 x,h)
 |_=>none
theorem SS{N:Ab}{n:Nat}{a:Expr}{G:EV}{p c:Pos}(P:Gl X "enumerate")(C:X.g "enumerate"=none)(z:PE X a (tV X.K G))(i:starEach [a] X.e=[(false,eval a X.e)]):PI X (.Tuple N n B) (.Call (.Name "enumerate" p) [a] [] c) (tI X.K (rD G)):=by
 intro pins s J H R I ⟨F,m,L,S,vs,Q,r,l,q,k⟩;obtain⟨v,T,y,q⟩:=ak q;cases v with
 |lst g=>exact iE P C z i pins s J H R I ⟨F,m,L,S,vs,Q,r,l,by unfold Ro;rw[y];exact q,k⟩
 |ro g=>exact iE P C z i pins s J H R I ⟨F,m,L,S,vs,Q,r,l,by unfold Ro;rw[y];exact q,k⟩
 |tup g=>
  have hA:PA X [a] (pi X.K (O G ah)):=F6 z IV (by rw[i];rfl);refine Call_ (ir I P C yL (g6 (b_ (hA c pins s J H (λj x=>∃e t,Stp F m H e t x/\Rel X.K e x t T/\bB X.K e x [.tup g] j) I ⟨F,m,L,S,[.tup g],T,r,l,?_,λj e t x h E M=>⟨e,t,h,E,M⟩⟩) λus h ⟨j,x,d,W,e,t,st,E,M⟩=>?_) (by rw[i];rfl) rfl))
  .simp only[O,ah,y,ac]
  obtain⟨x1,rfl,px⟩:=ri M;obtain⟨u,rfl,ru⟩:=vals1 W;cases q;obtain⟨b,j,rfl,Z,ra⟩:=px;have kk:=k _ e t x st E (Ii (λF2 m2 H2 s=>(Z.kp s.kp).sq) ra);cases ru;obtain⟨D,W,pl,hz⟩:=d.tuple Z.sq;refine yj (show h.heap.IsTuple b D.toArray from pl) λf V A hsz hk=>?_;refine sU V ?_;have w:∀b,h.heap.objs.size≤b->x b=none:=λb o=>d.h.fresh o;refine⟨h.heap.objs.size+1,[h.heap.objs.size+1,h.heap.objs.size],_,_,x,rfl,d.kept (t':=h.toks) hk,xx b _ _ (bA (d6 _)),⟨⟨_,V⟩,A⟩,λb o=>?_,kk⟩;have K:b=h.heap.objs.size+1\/b=h.heap.objs.size:=by simpa using o
  rcases K with rfl|rfl
  .exact d.fpOk (iV _) (w _ (iV _))
  .exact d.fpOk (al _) (w _ (al _))
 |_=>cases q
end
end Ev
namespace Ev
open PySem PySem.Spec PyProof.Rows L2
theorem qp:∀e:List (Bool×Addr),TriplesOk (nX e)
 | []=>trivial
 |_::e=>qp e
theorem sn(k:Bool):∀s:List (Bool×Addr),codeAmong (rA k) (nX s)=none\/∃c,codeAmong (rA k) (nX s)=some (.ref c)/\(k,c) ∈ s
 | []=>.inl rfl
 |(j,c)::s=>by
  have h:=sn k s;have e:codeAmong (rA k) (nX ((j,c)::s))=if j=k then some (.ref c) else codeAmong (rA k) (nX s):=by cases k<;>cases j<;>rfl
  rw[e];by_cases q:j=k
  .subst q;rw[ag rfl];exact .inr ⟨c,rfl,aJ⟩
  .rw [aj q];rcases h with h|⟨x,a,n⟩
   .exact .inl h
   .exact .inr ⟨x,a,aN _ n⟩
section
variable{X:Cx}{B:PN}{J:L2.St}{H:Hp}{s:Shared}
theorem Ia(I:Inv X B J H s)(k:∀b o,s.heap.get? b=some o->h.get? b=some o)(l:wW (v::X.k)=s.heap.objs.size::wW X.k)
  (m:CE (v::X.k) X.p X.w H { s with heap:=h,toks:=d } Q w t):EP X B J Q w t:=by
 obtain⟨p,G,os,a,un,f,r,q⟩:=m;refine I.after ⟨p,G,os,a,⟨λb o e n x _=>?_,λb o e n x _=>?_,λb o e n c=>un.free b o (k b o e) n c,λb o e c=>un.there b o (k b o e) c,un.tups,un.frzs,un.tbls⟩,f,r,q⟩
 .refine un.keep b o (k b o e) n (λz=>?_) (by simp);rw[l]at z;rcases aM.mp z with rfl|z
  .exact absurd (av e) (d5 _)
  .exact x z
 .exact un.slot b o (k b o e) n (by rw[l];exact aN _ x) (by simp)
theorem Ez{a:Heap}{m:Nat}(G:FnOk X.p X.w X.K X.g X.b nR n z I N T)(S:Room (n+1) X.A)(k:Binds X.K I N [])(x:Inv X B J H s)
  (c:∀b o,s.heap.get? b=some o->a.get? b=some o) (u:wW (v::X.k)=s.heap.objs.size::wW X.k) (y:v.frame=some s.heap.objs.size) (l:v.locals=s.heap.objs.size) (f:a.Ns v.locals mm) (d:v.scope.kind≠.module) (g:aU j t) (h:T j H Q E0) :
  wpAny (model X.p X.w) (X.A.deeper v) (call (.ref z) t) (EP X B J Q) E { s with heap:=a,toks:=m }:=by
 have K:X.K.In a:=x.o.mod.kin.keeps λb o e=>c b o (x.bk b o e);have p:t.length=N.length:=by rw[<- g.length];exact G.len _ _ _ _ h
 refine mS (jN (G.run _ (v::X.k) { s with heap:=a,toks:=m } H ⟨t,[]⟩ t j Q E0 (S.deeper _) ⟨zG x.o.frames,x.o.mod,λb o e=>⟨c b o (x.bs b o e).1,(x.bs b o e).2⟩,?_,?_,?_,λP hP=>x.base.tbls P (x.o.tab P hP),x.h.kept c,x.bare⟩ (by have:=k { s with heap:=a,toks:=m } t K (by simpa using p);simpa using this) g h) λr F q=>?_)
 .refine ba (ba x.o.bsz x.sz) ?_;have:=f.lt
  rw[l]at this;exact d0 this
 .exact .cons d (by rw[y,l]) f (by rw[l];exact tw (ba x.o.bsz x.sz)) (x.stack.of_keeps λb o e _=>⟨o,c b o e,rfl⟩)
 .intro b k;rw[u]at k;rcases aM.mp k with rfl|k
  .exact x.h.fresh (al _)
  .exact x.stkFree b k
 .cases r with
  |error e=>exact False.elim q
  |ok i=>
   cases i with
   |ret w=>exact Ia x c u q
   |next=>exact False.elim q
   |brk=>exact False.elim q
   |cont=>exact False.elim q
theorem H_(G:FnOk X.p X.w X.K X.g X.b nR n fe I N sp)(A:Room (n+1) X.A)(L:Binds X.K I N [])
  (D:Cls X.K t) (l:Meth X.K t (rB k) fe) (c:Inv X B J H s) (ho:s.heap.get? f=some (v7 k cs pm c' ctv)) (S:s.heap.CodeRec (.ref c') (rn k)) (g:wT H (.ref a::j) cs) (R:j.length=(qo k).length-1) (E:H a=some (.ins t dx T)) (M:T.lookup (rB k)=none) (W:RelV v q) (h:sp (.ref a::v::j) H Q E0) :
  wpAny (model X.p X.w) X.A (call (.ref f) [q]) (EP X B J Q) X.xe s:=by
 obtain⟨cr,r,o,ub,rfl,y,i,z,g⟩:=g;obtain rfl:ub=.ref a:=z;have V:=(c.h _ _ y).1;refine mS (PySem.W.kla_callFunE (body:=Ic k) A.depth ho rfl (by cases k<;>rfl) (by cases k<;>rfl) rfl S ?_);cases k with
 |false=>obtain rfl:j=[]:=eh R;obtain rfl:r=[]:=g;refine aq (show wpAny _ _ (newFunctionEnv (qm false) _ _ [(Str.ofString "standing",q)] _ _ _ _ _) _ _ _ from xf (show ∀x ∈ (qm false).names,x.2≠.cell by decide) (show ∀x ∈ [(Str.ofString "standing",q)],(qm false).names.lookup x.1=some .local by simp) (λd m p=>⟨c.nolimit.fresh _ p,?_⟩) rfl);have u:∀b o,s.heap.get? b=some o->d.get? b=some o:=λb o e=>p.extBut b o (aQ (av e)) (aF _ e);refine Dc (t0 (jL (sV rfl rfl rfl ⟨o,u _ _ V,i⟩ ?_)) rfl);refine jd (c.kept (t':=s.toks+1) u) E D l M ?_;refine mW (first:=[.ref a]) (h₀:=X.b) c.o.mod.kin l.kp ?_ rfl rfl;show wpAny _ _ (spliced ((false,eval (.Name "standing" ⟨551,74,551,82⟩) _)::[])) _ _ _;refine cm (jL (sW rfl rfl m rfl (dC ⟨c.o.mod.kin.keeps λb o e=>u b o (c.bk b o e),?_⟩)));exact Ez (m:=s.toks+1) (t:=[.ref a,q]) (j:=[.ref a,v]) G A L c u rfl rfl rfl m (show ScopeKind.function≠ScopeKind.module by decide) (.cons rfl (.cons W .nil)) h
 |true=>
  obtain⟨w,rfl⟩:∃w,j=[w]:=by
   match j,R with
   | [w],_=>exact⟨w,rfl⟩
  obtain⟨Z,r2,o2,C,rfl,F,K,P,rfl⟩:=g;have od:=(c.h _ _ F).1;refine aq (show wpAny _ _ (newFunctionEnv (qm true) _ _ [(Str.ofString "fact",q)] _ _ _ _ _) _ _ _ from xf (show ∀x ∈ (qm true).names,x.2≠.cell by decide) (show ∀x ∈ [(Str.ofString "fact",q)],(qm true).names.lookup x.1=some .local by simp) (λd m p=>⟨c.nolimit.fresh _ p,?_⟩) rfl);have u:∀b o,s.heap.get? b=some o->d.get? b=some o:=λb o e=>p.extBut b o (aQ (av e)) (aF _ e);refine Dc (t0 (jL (sV rfl rfl rfl ⟨o,u _ _ V,i⟩ ?_)) rfl);refine jd (c.kept (t':=s.toks+1) u) E D l M ?_;refine mW (first:=[.ref a]) (h₀:=X.b) c.o.mod.kin l.kp ?_ rfl rfl;show wpAny _ _ (spliced ((false,eval (.Name "fact" ⟨577,68,577,72⟩) _)::(false,eval (.Name "standings" ⟨577,74,577,83⟩) _)::[])) _ _ _;refine cm (jL (sW rfl rfl m rfl (cm (jL (sV rfl rfl rfl ⟨o2,u _ _ od,K⟩ (dC ⟨c.o.mod.kin.keeps λb o e=>u b o (c.bk b o e),?_⟩))))));exact Ez (m:=s.toks+1) (t:=[.ref a,q,C]) (j:=[.ref a,v,w]) G A L c u rfl rfl rfl m (show ScopeKind.function≠ScopeKind.module by decide) (.cons rfl (.cons W (.cons P .nil))) h
theorem Ey{E:VP}{Q:VP}{c P:Addr}{T:List Addr}{k:Bool}(I:Inv X B J H s)(j:X.e.code=.ref c)(C:pQ X.b c P)(hP:P ∈ bR X.K)(hq:X.e.qual++Str.ofString "<lambda>"=rn k)(cl:Paired (λx c=>X.e.cells.lookup x=some c) (qo k) T)
  (kk:∀f p S pm w g D G,Inv X B J G { s with heap:=g,toks:=D }->(G=br H f (.frz (v7 k T pm p w) (.own f))\/H p=none/\p≠f/\G=br (br H p (.frz S (.own P))) f (.frz (v7 k T pm p w) (.own f)))->H f=none->G p=some (.frz S (.own P))->xX k S->Q (.ref f) { s with heap:=g,toks:=D }) :
  wpAny (model X.p X.w) X.A (eval (.Lambda (LD k) (Ic k) (qm k) (rA k)) X.e) Q E s:=by
 have F:H P=some .tbl:=I.base.tbls P (I.o.tab P hP);obtain⟨A,e0,z⟩:=(show qZ H s.heap P from I.h P _ F);have C':=C.keeps I.bk;obtain⟨bm,ob,b1,b2,b3,b4,b5,b6⟩:=I.mod.bmain;have N:s.heap.Ns mainGlobals X.g:=I.mod.glob.keeps I.bk;have hgP:mainGlobals≠P:=λq=>by obtain⟨o,A,ep,e,l,_⟩:=N;rw[q,e0]at e;cases e;cases l
 have K:bm≠P:=λq=>by have e:=I.bk _ _ b3;rw[q,e0]at e;cases e;cases b4
 have hbG:bm≠mainGlobals:=λq=>by obtain⟨o,A,ep,e,l,_⟩:=I.mod.glob;rw[q,e]at b3;cases b3;rw[l]at b6;cases b6
 have hB:s.heap.BuiltinsAt X.g P:=⟨bm,ob,b1,b2,hbG,K,I.bk _ _ b3,b4,b5,b6⟩;have hcl:closureFor (qm k) X.e=pure ((qo k).zip T).reverse:=by
  have ce:∀{x:Str}{c:Addr},X.e.cells.lookup x=some c->cellOf X.e x=pure c:=λh=>by unfold cellOf;rw[h]
  cases k with
  |false=>obtain _|⟨V,L⟩:=cl;cases L;simp[closureFor,ce V]
  |true=>obtain _|⟨V,L⟩:=cl;obtain _|⟨L,h3⟩:=L;cases h3;simp[closureFor,ce V,ce L]
 refine PySem.W.kla_eval (by cases k<;>rfl) ?_;rw[hq];rcases sn k A with hn|⟨p,hc,hm⟩
 .refine PySem.W.kla_makeFunction (mg:=X.g) hcl I.o.glob N j C' e0 (by simpa using qp A) (by simpa using hn) hgP hB λp w g D hx M hlt hrec htb=>?_;obtain⟨x,S,vs,t,ex,ec,d1,d2⟩:=hrec;cases ex;have Z:H p=none:=I.h.fresh M;have R:∀b,H b=none->b≠P:=λb n q=>by rw[q,F]at n;cases n
  have i:∀b o,H b=some o->b≠p:=λb o e q=>by rw[q,Z]at e;cases e
  have hs':s.heap.objs.size≤g.objs.size:=ba M (d0 hlt);have I1:Inv X B J (br H p (.frz S (.own P))) { s with heap:=g,toks:=D }:=by
   refine I.step (g':=s.gens) (d':=s.drawn) (ch:=[]) (λ_ z=>nomatch z) (λb o _ _ _ e n=>hx b o (R b n) e) (λb o _ _ _ e n=>⟨o.slots,hx b o (R b n) e⟩) (λb o _ e n=>?_) (λb o _ e=>?_) (λb xs q=>(ar (i b _ q)).trans q) (λb o u q=>(ar (i b _ q)).trans q) (λb q=>(ar (i b _ q)).trans q) (λm hm=>?_) (λb u q=>?_) I.bare
   .rw [ar (aQ (bu (av e) M))];exact n
   .by_cases W:b=P
    .subst W;exact⟨_,htb⟩
    .exact⟨o,hx b o W e⟩
   .obtain⟨o,A,ep,ho,r⟩:=hm;exact⟨o,A,ep,hx _ o (R _ I.free) ho,r⟩
   .by_cases W:b=p
    .subst W;rw[aC]at q;cases q;exact⟨ec,⟨S,ec⟩⟩
    .rw [ar W]at q;by_cases K:b=P
     .subst K;rw[F]at q;cases q;refine⟨A++[(k,p)],by rw[htb];simp[nX],λy hy=>?_⟩;rcases fE.mp hy with hy|hy
      .obtain⟨oc',z1,z2⟩:=z y hy;exact⟨oc',(ar (i _ _ z1)).trans z1,z2⟩
      .cases eK.mp hy;exact⟨S,aC,vs,t,d1,d2⟩
     .refine (I.h b u q).stay (λd v l e=>hx d v (λz=>?_) e) (λd e=>(ar (i d _ e)).trans e) (λd xs e=>(ar (i d _ e)).trans e) (λd xs e=>(ar (i d _ e)).trans e);rcases l with l|l
      .exact K (l ▸ z)
      .rw [z,F]at l;cases l
  have hfc:p≠g.objs.size:=aQ hlt;refine kk g.objs.size p S ((X.g "__name__").getD .none) w _ D _ (I1.laid (a:=g.objs.size) (o:=.frz (v7 k T ((X.g "__name__").getD .none) p w) (.own g.objs.size)) (λb u e=>aF _ e) (al _) ⟨aR _ rfl,⟨_,aR _ rfl⟩⟩) (.inr ⟨Z,hfc,rfl⟩) (I.h.fresh hs') ?_ ⟨vs,t,d1,d2⟩;rw[ar hfc];exact aC
 .obtain⟨S,V,L⟩:=z _ hm;refine PySem.W.kla_makeFunctionHit (mg:=X.g) (cv:=.ref p) hcl I.o.glob N j C' e0 (by simpa using qp A) (by simpa using hc) hB λw g D hk hsz=>?_;have I1:Inv X B J H { s with heap:=g,toks:=D }:=I.kept hk;have hf:H g.objs.size=none:=I1.h.fresh (al _);refine kk g.objs.size p S ((X.g "__name__").getD .none) w _ D _ (I1.laid (a:=g.objs.size) (o:=.frz (v7 k T ((X.g "__name__").getD .none) p w) (.own g.objs.size)) (λb u e=>aF _ e) (al _) ⟨aR _ rfl,⟨_,aR _ rfl⟩⟩) (.inl rfl) hf ?_ L;rw[ar (a9 V hf)];exact V
end
noncomputable def fnOf(d:D)(S:aE):Option (Bool×List D):=match d with
 | .ref i=>match S[i]? with
  |some (.fn (some b))=>some b
  |_=>none
 |_=>none
variable{S:aE}
theorem Ix(h:fnOf d S=some b):∃i,d=.ref i/\S[i]? = some (.fn (some b)):=by
 unfold fnOf at h;split at h
 .split at h
  .cases h;exact⟨_,rfl,by assumption⟩
  .cases h
 .cases h
def Cd(M:Str->Str->Option GF)(k:Bool)(d:List D)(v:P)(S:aE):Option (D×aE):=match d with
 | .ref j::w=>if w.length=(qo k).length-1 then (match S[j]? with
  |some (.ins c s _)=>(M c (rB k)).elim none λg=>if s.contains (rB k)=true then none else g (.ref j::.p v::w) S
  |_=>none) else none
 |_=>none
def il(M:Str->Str->Option GF)(i:Nat)(a:EV):EV:=λL S=>bw (U i L S) λf _=>(fnOf f S).elim none λz=>bw (a L S) λv h=>bw (Cd M z.1 z.2 v h) λd x=>bw (toP 9 d x) λr e=>some (r,trunc h.length e)
def Pf(X:Cx)(M:Str->Str->Option GF):Prop:=∀c m g,M c m=some g->∃C k f I N,gn X.K c C/\Cls X.K C/\Meth X.K C m f/\FnOk X.p X.w X.K X.g X.b nR k f I N (nc X.K g)/\Room (k+1) X.A/\Binds X.K I N []
section
variable{X:Cx}{e:Expr}{fa:EV}{M p:Pos}{x:Str}{i:Nat}
theorem J2(hM:Pf X h)(hx:PE X (.Name x p) (tE X.K (U i)))(ha:PE X e (tV X.K fa))(he:starEach [e] X.e=[(false,eval e X.e)]):PE X (.Call (.Name x p) [e] [] M) (tV X.K (il h i fa)):=by
 intro B s J H Q z ⟨F,m,L,S,d,S',r,l,q,kk⟩;obtain⟨f,Z,e0,q⟩:=ak q;have hS:Z=S:=by
  unfold U at e0;split at e0
  .cases e0;rfl
  .cases e0
 subst hS;cases eb:fnOf f Z with
 |none=>rw[eb]at q;cases q
 |some b=>
  obtain⟨k,ds⟩:=b;rw[eb]at q;obtain⟨v,D,e1,q⟩:=ak (show bw (fa L Z) _=_ from q);obtain⟨d1,S2,K,q⟩:=ak q;obtain⟨v1,S3,e3,q⟩:=ak q;cases q;obtain⟨j,rfl,es⟩:=Ix eb;refine ii (b_ (hx B s J H (λv W=>∃E R,Stp F m H E R W/\Rel X.K E W R Z/\RD X.K E W R (.ref j) v) z ⟨F,m,L,Z,_,Z,r,l,e0,λv E R W s1 r1 p1=>⟨E,R,s1,r1,p1⟩⟩) λfu s1 hz=>?_);obtain⟨vf,W,I1,rf,E,R,st1,r1,p1⟩:=hz;obtain⟨a,rfl,hma⟩:=p1;cases (show fu=Value.ref a from rf);obtain⟨vs,⟨cs,c',P,oc,pm,ctv,h1,h2,h5,h6⟩,rb⟩:=r1.obj j a _ hma es _ _ rfl;refine callWith_def (o:=v7 k cs pm c' ctv) rfl ?_ he;refine b_ ((cq ha dI (by rw[he];rfl)) M B s1 J W (λxs H2=>∃y V T,xs=[y]/\Stp E R W V T H2/\Rel X.K V H2 T D/\RP X.K V H2 v y) I1 ⟨E,R,L,Z,v,D,r1,l.mono st1,e1,λy V T H2 s2 r2 p2=>⟨y,V,T,rfl,s2,r2,p2⟩⟩) λus s2 hz=>?_;obtain⟨vs',H2,I2,rv,y,V,T,ev,A,r2,p2⟩:=hz;subst ev;obtain⟨u,rfl,ru⟩:=vals1 rv;have h1':=A.cod _ _ _ h1;have h5':=A.cod _ _ _ h5;have oa:=(I2.h _ _ h1').1;have occ:=(I2.h _ _ h5').1;obtain⟨ovs,t,d1',d2'⟩:=h6;unfold Cd at K;dsimp only at K;split at K
  .rename_i jj ws _;split at K
   .rename_i hw;split at K
    .rename_i c ks dd hs;cases hg:h c (rB k) with
     |none=>rw[hg]at K;cases K
     |some g=>
      rw[hg]at K;replace K:(if ks.contains (rB k)=true then none else g (.ref jj::.p v::ws) D)=some (d1,S2):=K;split at K
      .cases K
      .rename_i hk;obtain⟨C,n,fe,I,N,ec,hc,hm,G,hr,hb⟩:=hM c _ g hg;have rb2:=bI.mono A rb;obtain⟨x0,vr,rfl,hx0,hvr⟩:=rb2;obtain⟨ai,rfl,hmi⟩:=id hx0;obtain⟨C',dx,kvs,ec',hH,rfl,rs⟩:=r2.obj jj ai _ hmi hs;cases gn.inj ec ec';refine⟨oa,H_ G hr hb hc hm I2 oa ⟨c',oc,ovs,t,rfl,occ,d1',d2'⟩ (h2.cod A.cod) (by rw[<- hvr.length];exact hw) hH (uL (by simpa using hk)) ru ?_⟩;refine⟨V,T,.ref jj::.p v::ws,D,d1,S2,r2,⟨_,_,rfl,hx0,_,_,rfl,p2,hvr⟩,K,λw F3 m3 H3 s3 r3 p3=>?_⟩;obtain⟨F4,s4,r4,l4,p4⟩:=m9 9 e3 r3 p3;have st:=s3.trans s4;have hl1:=r2.len;by_cases hc:(S3.take D.length).all (HW D.length)=true
       .have et:Ev.trunc D.length S3=S3.take D.length:=ag hc;rw[et]at kk;have hle:T.length≤m3.length:=by
         obtain⟨nn,e⟩:=st.pre;rw[e,bc];lia
        have rt:=r4.trunc (n:=D.length) (by rw[<- hl1];exact hle) hc;refine kk w F4 (m3.take T.length) H3 (st1.trans (A.trans st.trunc)) ?_ p4;rw[hl1];exact rt
       .have et:Ev.trunc D.length S3=S3:=aj hc;rw[et]at kk;exact kk w F4 m3 H3 (st1.trans (A.trans st)) r4 p4
    .cases K
   .cases K
  .cases K
end
noncomputable def era(H:Hp)(c:Addr):Hp:=λb=>if b=c then none else H b
section
variable{K:FG}{F F':Aa}{H G:Hp}{m m':List Addr}{S:aE}{c:Addr}{x:Obj}{y:Addr}
theorem fy(h:b≠c):era H c b=H b:=aj h
theorem fX(a:H c=some (.frz x (.own y)))(h:H b=some o)(n:o≠.frz x (.own y)):era H c b=some o:=by rw[fy];exact h;rintro rfl;rw[a]at h;cases h;exact n rfl
mutual
theorem RP.era(hc:H c=some (.frz x (.own y))):∀{d:P}{v:V},RP K F H d v->RP K F (era H c) d v
 | .non,_,h=>h
 | .bl _,_,h=>h
 | .int _,_,h=>h
 | .str _,_,h=>h
 | .tup _,_,h=>by obtain⟨a,xs,e,t,r⟩:=h;exact⟨a,xs,e,t.imp (λz=>fX hc z (by simp)) id,bB.era hc r⟩
 | .lst _,_,h=>by obtain⟨a,xs,e,t,r⟩:=h;exact⟨a,xs,e,⟨t.1,fX hc t.2 (by simp)⟩,bB.era hc r⟩
 | .ro _,_,h=>by obtain⟨a,xs,e,t,r⟩:=h;refine⟨a,xs,e,t.imp (λz=>?_) id,bB.era hc r⟩;obtain⟨f,o,z⟩:=z;exact⟨f,o,fX hc z (by simp)⟩
 | .dct _ _,_,h=>by obtain⟨a,kvs,e,f,t,k,r⟩:=h;exact⟨a,kvs,e,f,fX hc t (by simp),k,bB.era hc r⟩
theorem bB.era(hc:H c=some (.frz x (.own y))):∀{ds:List P}{xs:List V},bB K F H ds xs->bB K F (era H c) ds xs
 | [],_,h=>h
 |_::_,_,h=>by obtain⟨x,r,e,h1,h2⟩:=h;exact⟨x,r,e,RP.era hc h1,bB.era hc h2⟩
end
theorem RD.era(a:H c=some (.frz x (.own y))):∀{d:D}{v:V},RD K F H m d v->RD K F (era H c) m d v
 | .p _,_,h=>RP.era a h
 | .ref _,_,h=>h
theorem bI.era(a:H c=some (.frz x (.own y))):∀{d:List D}{s:List V},bI K F H m d s->bI K F (era H c) m d s
 | [],_,h=>h
 |_::_,_,h=>by obtain⟨x,r,e,n,k⟩:=h;exact⟨x,r,e,RD.era a n,bI.era a k⟩
noncomputable def HP:SO->Bool
 | .fn (some _)=>false
 |_=>true
variable{a:Addr}
theorem RO.era(s:H c=some (.frz x (.own y)))(w:HP o=true)(h:RO K F H m a o):RO K F (era H c) m a o:=by
 cases o with
 |lst b=>obtain⟨g,e,r⟩:=h;exact⟨g,fX s e (by simp),r.era s⟩
 |dct t b=>obtain⟨k,e,f,r⟩:=h;exact⟨k,fX s e (by simp),f,r.era s⟩
 |fz v=>exact RP.era s (show RP K F H v (.ref a) from h)
 |ins c t b=>obtain⟨C,p,k,n,e,f,r⟩:=h;exact⟨C,p,k,n,fX s e (by simp),f,r.era s⟩
 |dtn t b=>obtain⟨k,e,f,u,r⟩:=h;exact⟨k,fX s e (by simp),f,u.era s,r.era s⟩
 |dtt t b=>obtain⟨k,e,f,r⟩:=h;exact⟨k,fX s e (by simp),f,r.era s⟩
 |fn i=>intro j d q;subst q;cases w
theorem Rel.era(r:Rel K F H m S)(k:H c=some (.frz x (.own y)))(n:¬F c)(b:c ∉ m)(t:S.all HP=true):Rel K F (era H c) m S where
 len:=r.len
 nd:=r.nd
 obj:=λi a o s e=>(r.obj i a o s e).era k (bD.mp t o (dg e))
 sep:=r.sep
 trk:=λa h=>by rw[fy (by rintro rfl;exact b h)];exact r.trk a h
 ft:=λa f=>by rw[fy (by rintro rfl;exact n f)];exact r.ft a f
theorem Stp.era(s:Stp F m (br H c (.frz x (.own y))) F' m' G)(a:H c=none):Stp F m H F' m' (era G c):=by
 have n:∀{b:Addr}{o:HO},H b=some o->b≠c:=λh z=>by rw[z,a]at h;cases h
 have p:∀{b:Addr}{o:HO},H b=some o->br H c (.frz x (.own y)) b=some o:=λh=>(ar (n h)).trans h;refine⟨s.pre,λb o h k=>?_,s.frz,λb o f h=>?_,λb r h=>?_,λb h=>?_,λb h=>?_,λb h=>?_,λb o u h=>?_⟩
 .rw [fy (n h)];exact s.oth b o (p h) k
 .rw [fy (n h)];exact s.frk b o f (p h)
 .rw [fy (n h)];exact s.tup b r (p h)
 .cases q:H b with
  |none=>exact absurd q h
  |some o=>rw[fy (n q)];exact s.trk b (by rw[p q];exact λz=>nomatch z)
 .rcases s.nf b h with z|z|z
  .exact .inl z
  .by_cases e:b=c
   .subst e;exact .inr (.inl a)
   .rw [ar e]at z;exact .inr (.inl z)
  .exact .inr (.inr z)
 .rcases s.nm b h with z|z
  .exact .inl z
  .by_cases e:b=c
   .subst e;exact .inr a
   .rw [ar e]at z;exact .inr z
 .rw [fy (n h)];exact s.cod b o u (p h)
theorem Rel.swap(r:Rel K F H m S)(n:m[i]? = some a)(k:RO K F H m a o)(f:¬o.own):Rel K F H m (S.set i o) where
 len:=by rw[bC];exact r.len
 nd:=r.nd
 obj:=λj b u h e=>by
  by_cases x:i=j
  .subst x;rw[n]at h;cases h;have s:i < S.length:=by rw[<- r.len];exact(bg.mp n).1
   rw[ee s]at e;cases e;exact k
  .rw [bb x]at e;exact r.obj j b u h e
 sep:=λj b u h e w=>by
  by_cases x:i=j
  .subst x;have s:i < S.length:=by rw[<- r.len];exact(bg.mp n).1
   rw[ee s]at e;cases e;exact absurd w f
  .rw [bb x]at e;exact r.sep j b u h e w
 trk:=r.trk
 ft:=r.ft
end
noncomputable def FC:SO->SO
 | .fn _=>.fn none
 |o=>o
theorem Rel.clr{K:FG}{F:Aa}{H:Hp}{m:List Addr}{S:aE}(r:Rel K F H m S):Rel K F H m (S.map FC) where
 len:=by rw[bv];exact r.len
 nd:=r.nd
 obj:=λi a o h e=>by
  rw[fF]at e;cases q:S[i]? with
  |none=>rw[q]at e;cases e
  |some u=>
   rw[q]at e;cases e;have:=r.obj i a u h q
   cases u with
   |fn _=>exact λ_ d z=>nomatch z
   |_=>exact this
 sep:=λi a o h e w=>by
  rw[fF]at e;cases q:S[i]? with
  |none=>rw[q]at e;cases e
  |some u=>
   rw[q]at e;cases e;cases u with
   |fn _=>exact absurd w id
   |_=>exact r.sep i a _ h q w
 trk:=r.trk
 ft:=r.ft
theorem L9(S:aE):(S.map FC).all HP=true:=by rw[tF];refine bD.mpr λo _=>?_;cases o<;>rfl
theorem iB.cell{P:Program}{w:World}{H:Hp}{h:Heap}{c:Addr}{o:Obj}(ok:iB P w H h)(a:H c=none)(e:h.get? c=some o):iB P w (br H c (.frz o (.own c))) h:=λb u q=>by
 have n:∀{b:Addr}{o:HO},H b=some o->b≠c:=λh z=>by rw[z,a]at h;cases h
 by_cases x:b=c
 .subst x;rw[aC]at q;cases q;exact⟨e,o,e⟩
 .rw [ar x]at q;exact(ok b u q).stay (λ_ _ _ z=>z) (λd z=>(ar (n z)).trans z) (λd s z=>(ar (n z)).trans z) (λd s z=>(ar (n z)).trans z)
theorem iB.era{P:Program}{w:World}{H:Hp}{h:Heap}{c:Addr}{o:Obj}(ok:iB P w H h)(a:H c=some (.frz o (.own c))):iB P w (era H c) h:=λb u q=>by
 by_cases x:b=c
 .subst x;cases (show(none:Option HO)=some u from(ag rfl).symm.trans q)
 .rw [fy x]at q;refine(ok b u q).stay (λ_ _ _ z=>z) (λd z=>fX a z (by simp)) (λd s z=>fX a z (by simp)) (λd s z=>?_);refine fX a z λw=>?_;injection w with _ w;injection w with w;exact x w
def fz:Hp->PN->Hp
 |H,[]=>H
 |H,(c,o)::r=>fz (br H c (.frz o (.own c))) r
def er:Hp->PN->Hp
 |H,[]=>H
 |H,(c,_)::r=>era (er H r) c
structure CsOk(X:Cx)(s:Shared)(H:Hp)(cos:PN):Prop where
 no:∀p ∈ cos,H p.1=none
 at':∀p ∈ cos,s.heap.get? p.1=some p.2
 bs:∀p ∈ cos,∀o,X.b.get? p.1≠some o
 fr:∀p ∈ cos,p.1 ∉ wW X.k
 nd:(cos.map (·.1)).Nodup
variable{X:Cx}{s:Shared}
theorem CsOk.tl(h:CsOk X s H ((c,o)::r)):CsOk X s (br H c (.frz o (.own c))) r:=
 ⟨λp x=>by rw[ar];exact h.no p (aN _ x);rintro rfl;exact(bL.mp h.nd).1 (eJ.mpr ⟨p,x,rfl⟩),λp x=>h.at' p (aN _ x),λp x=>h.bs p (aN _ x),λp x=>h.fr p (aN _ x),(bL.mp h.nd).2⟩
theorem Ff:∀{x:PN}{H:Hp},CsOk X s H x->Env0 X.p X.w X.K X.g X.b X.A X.k s H->Env0 X.p X.w X.K X.g X.b X.A X.k s (fz H x)
 | [],_,_,z=>z
 |(c,o)::r,H,h,z=>by
  have n:H c=none:=h.no _ aJ;refine Ff (H:=br H c (.frz o (.own c))) (x:=r) h.tl ⟨z.frames,z.mod,λb a e=>⟨(z.bs b a e).1,?_⟩,z.bsz,z.funs,λb f=>?_,λT k=>?_,iB.cell z.h n (h.at' _ aJ),z.bare⟩
  .rw [ar];exact(z.bs b a e).2;rintro rfl;exact h.bs _ aJ a e
  .rw [ar];exact z.frf b f;rintro rfl;exact h.fr _ aJ f
  .rw [ar];exact z.tab T k;rintro rfl;rw[z.tab T k]at n;cases n
theorem CD{t:List Env}{P:Program}{w:World}{H:Hp}{s y:Shared}{Q:VK}{u:Value}{c:Addr}{o:Obj}(S:H c=none)(l:s.heap.get? c=some o)(h:CE t P w (br H c (.frz o (.own c))) s (λv p=>Q v (era p c)) u y):CE t P w H s Q u y:=by
 obtain⟨K,p,os,r,un,f,i,F⟩:=h;have q:∀{b:Addr}{o:HO},H b=some o->b≠c:=λh z=>by rw[z,S]at h;cases h
 have j:∀{b:Addr}{a:HO},H b=some a->br H c (.frz o (.own c)) b=some a:=λh=>(ar (q h)).trans h;have d:∀{b:Addr},b≠c->H b=none->br H c (.frz o (.own c)) b=none:=λh z=>(ar h).trans z;have k:p c=some (.frz o (.own c)):=un.frzs c o _ aC;refine⟨K,era p c,os,r,⟨λb a e n g m=>?_,λb a e n g m=>?_,λb a e n m=>?_,λb a e m=>un.there b a e m,λb A z=>?_,λb a u z=>?_,λb z=>?_⟩,iB.era f k,i,F⟩
 .by_cases x:b=c
  .subst x;rw[l]at e;cases e;exact(f _ _ k).1
  .exact un.keep b a e (d x n) g m
 .by_cases x:b=c
  .subst x;rw[l]at e;cases e;exact⟨o.slots,(f _ _ k).1⟩
  .exact un.slot b a e (d x n) g m
 .by_cases x:b=c
  .exact ag x
  .rw [fy x];exact un.free b a e (d x n) m
 .rw [fy (q z)];exact un.tups b A (j z)
 .rw [fy (q z)];exact un.frzs b a u (j z)
 .rw [fy (q z)];exact un.tbls b (j z)
theorem BJ{X:Cx}{t:List Env}{P:Program}{w:World}{s e:Shared}{u:Value}:∀{x:PN}{H:Hp}{Q:VK},CsOk X s H x->CE t P w (fz H x) s (λv a=>Q v (er a x)) u e->CE t P w H s Q u e
 | [],_,_,_,z=>z
 |(c,o)::r,H,Q,h,z=>CD (h.no _ aJ) (h.at' _ aJ) (BJ (Q:=λv a=>Q v (era a c)) h.tl z)
variable{F:Aa}{m:List Addr}
theorem DH:∀{x:PN}{H:Hp},CsOk X s H x->Stp F m H F m (fz H x)
 | [],_,_=>.refl
 |(c,o)::r,H,h=>(eM (h.no _ aJ)).trans (DH h.tl)
theorem DT:∀{x:PN}{H:Hp},CsOk X s H x->Rel X.K F H m S->Rel X.K F (fz H x) m S
 | [],_,_,r=>r
 |(c,o)::r,H,h,z=>DT (H:=br H c (.frz o (.own c))) (x:=r) h.tl (z.new (h.no _ aJ))
theorem Jb(l:S.all HP=true):∀{x:PN}{H:Hp},CsOk X s H x->(∀b,F b->H b≠none)->(∀b ∈ m,H b≠none)->Stp F m (fz H x) k g t->Rel X.K k t g S ->
  Stp F m H k g (er t x)/\Rel X.K k (er t x) g S/\∀d v,RD X.K k t g d v->RD X.K k (er t x) g d v
 | [],_,_,_,_,z,r=>⟨z,r,λ_ _ h=>h⟩
 |(c,o)::q,H,h,j,i,z,r=>by
  have p:H c=none:=h.no _ aJ;have y:∀{b:Addr},H b≠none->br H c (.frz o (.own c)) b≠none:=λ{b} n=>by
   by_cases e:b=c
   .subst e;rw[aC];exact λz=>nomatch z
   .rw [ar e];exact n
  obtain⟨st,P,K⟩:=Jb l h.tl (λb f=>y (j b f)) (λb f=>y (i b f)) z r;have a:er t q c=some (.frz o (.own c)):=st.cod _ _ _ aC;have w:¬k c:=λz=>by
   rcases st.nf c z with z|z|z
   .exact j c z p
   .rw [aC]at z;cases z
   .exact i c z p
  have u:c ∉ g:=λz=>by
   rcases st.nm c z with z|z
   .exact i c z p
   .rw [aC]at z;cases z
  exact⟨st.era p,P.era a w u l,λd v h=>(K d v h).era a⟩
theorem Bx:∀{x:PN}{H:Hp},CsOk X s H x->∀{b:Addr}{o:HO},H b=some o->fz H x b=some o
 | [],_,_,_,_,e=>e
 |(c,o)::r,H,h,b,u,e=>Bx h.tl (by rw[ar];exact e;rintro rfl;rw[h.no _ aJ]at e;cases e)
theorem Ju:∀{x:PN}{H:Hp},CsOk X s H x->∀p ∈ x,fz H x p.1=some (.frz p.2 (.own p.1))
 | [],_,_,p,a=>nomatch a
 |(c,o)::r,H,h,p,a=>by
  rcases aM.mp a with rfl|a
  .exact Bx h.tl aC
  .exact Ju h.tl p a
def BO(X:Cx):LS->List Nat->Prop:=Paired λx i=>X.N[i]? = some x/\X.e.scope.names.lookup x=some .cell
noncomputable def gy:List Nat->Lc->Option (List D)
 | [],_=>some []
 |i::r,L=>match L[i]? with
  |some (some d)=>(gy r L).map (d::·)
  |_=>none
theorem JB(ok:X.Ok):∀{a:LS}{i:List Nat},BO X a i->∃s,Paired (λx c=>X.e.cells.lookup x=some c) a s
 |_,_,.nil=>⟨[],.nil⟩
 |_,_,.cons h t=>by obtain⟨c,e⟩:=ok.has _ (.inl h.2);obtain⟨s,r⟩:=JB ok t;exact⟨c::s,.cons e r⟩
theorem Fy:∀{a:LS}{s:List Addr},Paired (λx c=>X.e.cells.lookup x=some c) a s->c ∈ s->∃x ∈ a,X.e.cells.lookup x=some c
 |_,_,.nil,h=>nomatch h
 |_,_,.cons e t,h=>by
  rcases aM.mp h with rfl|h
  .exact⟨_,aJ,e⟩
  .obtain⟨x,n,q⟩:=Fy t h;exact⟨x,aN _ n,q⟩
theorem JA(ok:X.Ok):∀{a:LS}{s:List Addr},a.Nodup->Paired (λx c=>X.e.cells.lookup x=some c) a s->s.Nodup
 |_,_,_,.nil=>.nil
 |_,_,h,.cons e t=>by obtain⟨n,k⟩:=bL.mp h;refine bL.mpr ⟨λz=>?_,JA ok k t⟩;obtain⟨y,f,q⟩:=Fy t z;exact n (ok.inj _ _ _ e q ▸ f)
section
variable{X:Cx}{B:PN}{J:L2.St}{H:Hp}{s:Shared}{F:Aa}{m:List Addr}{L:Lc}
theorem wG(I:Inv X B J H s)(l:RL X.K F H m J L):∀{w:LS}{b:List Nat}{a:List Addr}{f:List D},BO X w b->Paired (λx c=>X.e.cells.lookup x=some c) w a->gy b L=some f ->
  ∃(os:List Obj)(r:List V),os.length=a.length/\bI X.K F H m f r/\(∀p ∈ a.zip os,s.heap.get? p.1=some p.2)/\∀G:Hp,(∀p ∈ a.zip os,G p.1=some (.frz p.2 (.own p.1)))->wT G r a
 |_,_,_,f,.nil,.nil,e=>by cases e;exact⟨[],[],rfl,rfl,(λp k=>nomatch (show p ∈ ([]:PN) from k)),λ_ _=>rfl⟩
 |x::w,i::b,c::a,f,.cons h t,.cons P tc,e=>by
  unfold gy at e;split at e
  .rename_i d A;obtain⟨dr,K,rfl⟩:∃dr,gy b L=some dr/\f=d::dr:=by
    cases q:gy b L with
    |none=>rw[q]at e;cases e
    |some dr=>rw[q]at e;cases e;exact⟨dr,rfl,rfl⟩
   obtain⟨os,r,E,M,N,Q⟩:=wG I l t tc K;obtain⟨v,R,Z⟩:=l.at' i d A;obtain⟨mm,_,T⟩:=id I.loc;obtain⟨j,u,lk⟩:=T i _ _ h.1 R (.inr (.inl h.2));have n:s.heap.IsCell c (some j):=by
    rcases lk with ⟨z,_⟩|⟨_,S,y,z2⟩
    .have z:X.e.scope.names.lookup x=some .local:=z;rw[h.2]at z;cases z
    .rw [P]at y;cases y;exact z2
   obtain⟨o,C,W⟩:=n;refine⟨o::os,v::r,by simp[E],⟨v,r,rfl,Z,M⟩,λp k=>?_,λG g=>?_⟩
   .rcases aM.mp (show p ∈ (c,o)::a.zip os from k) with rfl|k
    .exact C
    .exact N p k
   .exact⟨c,a,o,j,rfl,g (c,o) aJ,W,u,Q G λp k=>g p (aN _ k)⟩
  .cases e
end
theorem bI.snoc{K:FG}{F:Aa}{H:Hp}{m:List Addr}{d:D}{v:V}(h:RD K F H m d v):∀{s:List D}{a:List V},bI K F H m s a->bI K F H m (s++[d]) (a++[v])
 | [],_,r=>by cases r;exact⟨v,[],rfl,h,rfl⟩
 |_::_,_,r=>by obtain⟨x,q,rfl,e,n⟩:=r;exact⟨x,q++[v],rfl,e,bI.snoc h n⟩
inductive PVs(X:Cx):Ab->j'->Prop
 |nil:PVs X [] ah
 |cons {e:Expr}{es:Ab}{f:EV}{fs:j'}:PE X e (tV X.K f)->PVs X es fs->PVs X (e::es) (O f fs)
theorem sQ{X:Cx}{B:PN}{J:L2.St}{L:Lc}{t:List (Bool×Sem Value)}{Q:LV->Shared->Prop}:∀{i:Ab}{K:j'},PVs X i K->∀{s:Shared}{H:Hp}{F:Aa}{m:List Addr}{S p:aE}{g:List P},Inv X B J H s->Rel X.K F H m S->RL X.K F H m J L->K L S=some (g,p) ->
  ∀{R:LV->LV},(∀n x h a y u,Inv X B J x n->Stp F m H h a x->Rel X.K h x a p->bB X.K h x g y->aU y u->wpAny (model X.p X.w) X.A (spliced t) (λw f=>Q (R (u++w)) f) X.xe n) ->
  wpAny (model X.p X.w) X.A (spliced (i.map (λe=>(false,eval e X.e))++t)) (λw f=>Q (R w) f) X.xe s
 | [],_,.nil,s,H,F,m,S,p,g,I,r,l,q,R,k=>by cases q;exact k s H F m [] [] I .refl r rfl .nil
 |e::i,_,.cons T V,s,H,F,m,S,p,g,I,r,l,q,R,k=>by obtain⟨v,o,M,q⟩:=ak q;obtain⟨vr,S2,N,q⟩:=ak q;cases q;refine cm (b_ (T B s J H (λd x=>∃h a,Stp F m H h a x/\Rel X.K h x a o/\RP X.K h x v d) I ⟨F,m,L,S,v,o,r,l,M,λv h a x n j p1=>⟨h,a,n,j,p1⟩⟩) λA n W=>?_);obtain⟨d,x,E,z,h,a,b,j,pv⟩:=W;exact sQ V (R:=λw=>R (A::w)) E j (l.mono b) N λf D C Z y u G c r2 rp rv=>k f D C Z (d::y) (A::u) G (b.trans c) r2 ⟨d,y,rfl,RP.mono c pv,rp⟩ (.cons z rv)
abbrev gW(k:Bool):Expr:=.Lambda (LD k) (Ic k) (qm k) (rA k)
def nH(g:GF)(k:Bool)(i:List Nat)(a:j'):EE:=λL S=>bw (a L S) λv h=>(gy i L).elim none λd=>bw (g (v.map .p++[.ref h.length]) (h++[.fn (some (k,d))])) λr x=>some (r,x.map FC)
def JF(X:Cx)(k:Bool):Prop:=X.e.qual++Str.ofString "<lambda>"=rn k/\∃c P,X.e.code=.ref c/\xl X.K c P=true/\P ∈ bR X.K
variable{I:FuncData}{N:LS}{n:Nat}
theorem J1(G:FnOk X.p X.w X.K X.g X.b nR n f I N (nc X.K g))(hr:Room n X.A)(hg:Gl X x)(hm:X.g x=some (.ref f))(hk:fw X.K (.ref f)=true)(hb:Binds X.K I N [])
  (lm:JF X k) (hC:BO X (qo k) is) (hfn:∀x,X.fn x=true) (ha:PVs X (e::T) fs) (hdb:(x == ("__debug__":Str))=false)
  (he:starEach (e::T++[gW k]) X.e=(e::T++[gW k]).map λe=>(false,eval e X.e)) (he2:starEach (T++[gW k]) X.e=(T++[gW k]).map λe=>(false,eval e X.e)) :
  PE X (.Call (.Name x p) (e::T++[gW k]) [] M) (tE X.K (nH g k is fs)):=by
 intro B s J H Q h ⟨F,m,L,S,d,S',r,l,q,kk⟩;obtain⟨vs,u,e1,q⟩:=ak q;cases Z:gy is L with
 |none=>rw[Z]at q;cases q
 |some ds=>
  rw[Z]at q;obtain⟨d2,S2,e2,q⟩:=ak (show bw (g _ _) _=_ from q);cases q;obtain⟨hq,c,P,hcode,C,hP⟩:=lm;refine ii (pA h hg hm ?_ hdb);have bt:∀l:Ab,backTo M (l.map λe=>(false,eval e X.e))=l.map λe=>(false,eval e X.e):=λl=>by simp[backTo]
  refine mW (e:=e) (rest:=T++[gW k]) (h₀:=X.b) h.o.mod.kin hk ?_ (by rw[show e::(T++[gW k])=e::T++[gW k] from rfl,he,he2];rfl) (by rw[he2,bt];simp);rw[show e::(T++[gW k])=e::T++[gW k] from rfl,he,bt,d_];refine sQ (Q:=λvs E=>X.K.In E.heap/\wpAny (model X.p X.w) X.A (call (.ref f) ([]++vs)) (EP X B J Q) X.xe E) (R:=id) ha h r l e1 λs1 H1 V D ys us I1 st1 r1 rp rv=>?_;obtain⟨y,K⟩:=JB I1.o hC;have ndN:(qo k).Nodup:=by cases k<;>decide
  refine cm (Ey I1 hcode (C_ I1.mod.kin C) hP hq K λa c' oc pm ctv h' tk A b hH hf0 hc' hlam=>dC ⟨b.kIn,?_⟩);have hf2:A a=some (.frz (v7 k y pm c' ctv) (.own a)):=by rcases hH with rfl|⟨_,_,rfl⟩<;>exact aC
  have t:Stp V D H1 V (D++[a]) A/\Rel X.K V A (D++[a]) (u++[.fn none]):=by
   rcases hH with rfl|⟨hc0,hcf,rfl⟩
   .exact⟨bY hf0,r1.own hf0 λ_ d z=>nomatch z⟩
   .have hf1:br H1 c' (.frz oc (.own P)) a=none:=(ar (aH hcf)).trans hf0;exact⟨(eM hc0).trans (bY hf1),(r1.new hc0).own hf1 λ_ d z=>nomatch z⟩
  obtain⟨t,r2⟩:=t;obtain⟨os,ws,ol,rws,oat,ocel⟩:=wG b (l.mono (st1.trans t)) hC K Z;have hlen:y.length≤os.length:=by lia
  have ok:CsOk X { s1 with heap:=h',toks:=tk } A (y.zip os):=by
   have W:∀p ∈ y.zip os,∃x,X.e.cells.lookup x=some p.1:=λp hp=>by obtain⟨x,_,e⟩:=Fy K (o7 hp).1;exact⟨x,e⟩
   refine⟨λp hp=>?_,oat,λp hp o e=>?_,λp hp hb=>?_,by rw[List.map_fst_zip hlen];exact JA I1.o ndN K⟩
   .obtain⟨x,e⟩:=W p hp;exact b.freeC _ _ e
   .obtain⟨x,e'⟩:=W p hp;exact absurd (bu (av e) (ba b.o.bsz (b.o.cab _ _ (hfn x) e'))) (d5 _)
   .obtain⟨x,e'⟩:=W p hp;rcases aM.mp (b.stkSub _ hb) with hb|hb
    .exact b.cne _ _ e' hb
    .obtain⟨_,o',ho',_⟩:=b.o.funs.mem hb;exact absurd (bu (av ho') (b.o.cab _ _ (hfn x) e')) (d5 _)
  have st3:Stp V (D++[a]) A V (D++[a]) (fz A (y.zip os)):=DH ok;have hfm:(D++[a])[u.length]? = some a:=by rw[<- r1.len,bF (al _)];simp
  have r3:Rel X.K V (fz A (y.zip os)) (D++[a]) (u++[.fn (some (k,ds))]):=by
   have z:=(DT ok r2).swap (i:=u.length) (o:=.fn (some (k,ds))) hfm (λj d hd=>by cases hd;exact⟨ws,⟨y,c',P,oc,pm,ctv,Bx ok hf2,ocel _ (Ju ok),Bx ok hc',hlam⟩,bI.mono st3 rws⟩) id
   have e:(u++[SO.fn none]).set u.length (.fn (some (k,ds)))=u++[.fn (some (k,ds))]:=by simp
   rw[e]at z;exact z
  have hsp:nc X.K g (ys++[.ref a]) (fz A (y.zip os)) (λv H4=>Q v (er H4 (y.zip os))) E0:=by refine⟨V,D++[a],vs.map .p++[.ref u.length],u++[.fn (some (k,ds))],_,S2,r3,bI.snoc (d:=.ref u.length) (v:=.ref a) ⟨a,rfl,hfm⟩ (bI.ofP (bB.mono (t.trans st3) rp)),e2,λw F4 m4 H4 st4 r4 p4=>?_⟩;obtain⟨a1,a2,a3⟩:=Jb (L9 S2) ok r2.ft r2.trk st4 r4.clr;exact kk w F4 m4 _ (st1.trans (t.trans a1)) a2 (a3 _ _ p4)
  have hps:(us++[Value.ref a]).length=N.length:=by have:=G.len _ _ _ _ hsp;rw[<- this,bc,bc,rv.length];rfl
  refine mS (jN (G.run X.A X.k _ _ ⟨us++[.ref a],[]⟩ (us++[.ref a]) (ys++[.ref a]) _ E0 hr (Ff ok b.env0) (by have:=hb { s1 with heap:=h',toks:=tk } (us++[.ref a]) b.kIn (by simpa using hps);simpa using this) (rv.append (.cons (show RelV (.ref a) (.ref a) from rfl) .nil)) hsp) λr s' hq=>?_);cases r with
  |error e=>exact False.elim hq
  |ok fl'=>
   cases fl' with
   |ret w=>exact b.after (BJ ok hq)
   |next=>exact False.elim hq
   |brk=>exact False.elim hq
   |cont=>exact False.elim hq
end Ev
namespace PySem
open PySem PyProof.Rows
section
variable{prog:Program}{w:World}{A:Around}{E:VP}{R:Result->Shared->Prop}
theorem si(k:∀c o,h.get? c=some o->h'.get? c=some o)(x:(Nk.nest prog w).is h d b):(Nk.nest prog w).is h' d b:=by obtain⟨x1,x2,as,r⟩:=x;exact⟨x1,x2,as,Nk.stay _ x1 r λc o hc _ _=>k c o hc⟩
inductive PairsN(prog:Program)(w:World)(h:Heap):LV->List (PyData×Addr×Value)->Prop
 |nil:PairsN prog w h [] []
 |cons {t b:Addr}{v:Value}{d:PyData}{us:LV}{xs:List (PyData×Addr×Value)}:IsTup h t #[.ref b,v]->(Nk.nest prog w).is h d b->PairsN prog w h us xs->PairsN prog w h (.ref t::us) ((d,b,v)::xs)
def oO(w:World)(h:Heap)(d:Addr)(xs:List (PyData×Addr×Value)):Prop:=∃o es ep,h.get? d=some o/\o.ExactDict/\o.data=.dict es ep/\es.toList=xs.map (λx=>(⟨Nk.hk w x.1,.ref x.2.1,x.2.2⟩:DictEntry))/\(xs.map (·.1)).Nodup
theorem oO.of(x:oO w h d xs)(k:∀y ∈ xs,(Nk.nest prog w).is h y.1 y.2.1):h.DictOfH (Nk.nest prog w) d xs:=
 let ⟨o,es,ep,h1,h2,h3,h4,h5⟩:=x;⟨o,es,ep,h1,h2,h3,h4,k,h5⟩
theorem oO.to(x:h.DictOfH (Nk.nest prog w) d xs):oO w h d xs:=
 let ⟨o,es,ep,h1,h2,h3,h4,_,h5⟩:=x;⟨o,es,ep,h1,h2,h3,h4,h5⟩
theorem oO.at(x:oO w h d f)(k:∀o,h.get? d=some o->h'.get? d=some o):oO w h' d f:=
 let ⟨o,s,e,a,r⟩:=x;⟨o,s,e,k o a,r⟩
theorem Ca(hh:A.handled=none)(hu:A.units+9 < cLine)(hd₀:h₀.get? d=none)(hi₀:h₀.get? it=none)(hdi:d≠it)(hl:h₀.IsList l items) :
  ∀(rest:List (PyData×Addr×Value))(i:Nat)(acc:List (PyData×Addr×Value))(s:Shared),(∀b o,h₀.get? b=some o->s.heap.get? b=some o)->s.heap.IsListIter it l i->oO w s.heap d acc->(∀y ∈ acc,(Nk.nest prog w).is h₀ y.1 y.2.1)->PairsN prog w h₀ (items.toList.drop i) rest ->
   ((acc++rest).map (·.1)).Nodup->(acc++rest).length≤sizeLine->i+rest.length=items.size ->
   (∀h' t',(∀b o,h₀.get? b=some o->h'.get? b=some o)->oO w h' d (acc++rest)->R (.ok (.ret .none)) { s with heap:=h',toks:=t' }) ->
   codeAny (model prog w) A (.builtin "dict.update.loop" ⟨[.ref d,.ref it,rawInt i,.none],[]⟩) R s:=by
 intro rest;induction rest with
 |nil=>
  intro i acc s kp hit hd ha hp hn hz hi h;have hl1:s.heap.IsList l items:=let ⟨o,ho,r⟩:=hl;⟨o,kp _ _ ho,r⟩
  refine mU F.entry_dict_update_loop ?_;rw[lL F.plain_dict_update_loop _];unfold Builtin.«dict.update.loop»;show wpAny _ A.in1 (pyNext (.ref it) >>= _) _ _ s;refine ae (sX hh hit hl1 (by simp at hi ⊢;lia) λh1 eb=>?_);show wpAny _ A.in1 (yx d [] >>= _) _ _ _;rw[cW]at h;refine ae (aq (aq (h h1 s.toks (λb o e=>eb b o (λz=>by rw[z,hi₀]at e;cases e) (kp b o e)) (hd.at λo e=>eb d o hdi e))))
 |cons kv rest ih=>
  intro i acc s kp hit hd ha hp hn hz hi h;have hl1:s.heap.IsList l items:=let ⟨o,ho,r⟩:=hl;⟨o,kp _ _ ho,r⟩
  generalize er:items.toList.drop i=us at hp;cases hp with
  | @cons t b v k us1 _ hpt hk hps=>
   have hx:items[i]? = some (.ref t):=by have:=bX (·[0]?) er;simpa using this
   have er1:items.toList.drop (i+1)=us1:=by rw[<- o5,er];rfl
   refine mU F.entry_dict_update_loop ?_;rw[lL F.plain_dict_update_loop _];unfold Builtin.«dict.update.loop»;show wpAny _ A.in1 (pyNext (.ref it) >>= _) _ _ s;refine ae (sY hit hl1 hx λh1 hit1 sb1=>?_);have kp1:∀c o,h₀.get? c=some o->h1.get? c=some o:=λc o e=>(sb1.2 c (λz=>by rw[z,hi₀]at e;cases e)).trans (kp c o e);obtain⟨ot,hot,hct,nt,hdt⟩:=hpt;have hot1:=kp1 _ _ hot;show wpAny _ A.in1 (holding [Value.ref t] _ >>= _) _ _ _;refine ae (cF (ae (Aq ?_)));unfold yw;refine ae (lh (T:="tuple") ⟨ot,hot1,hct⟩ ?_);rw[ag (by decide)];refine ae (gG hot1 hdt (aq ?_));show wpAny _ A.in1 (holding [Value.ref b,v] (dictSet d (.ref b) v)) _ _ _;have dd:=(hd.at (h':=h1) λo e=>(sb1.2 d hdi).trans e).of (prog:=prog) λy hy=>si kp1 (ha y hy);refine cF (wpAny_dictSet_heap (knd:=Nk.nest prog w) (s:={ s with heap:=h1 }) (hsz:=by simp at hz;lia) (show A.in1.units+8 < cLine by rw[i4];lia) (si kp1 hk) dd λh2 dd2 sb2=>?_);have hnk:k ∉ acc.map (·.1):=λhm=>by rw[d_,o_]at hn;exact hn.2.2 _ hm _ (by simp) rfl
   have none:atKey acc k=none:=by unfold atKey;rw[Option.map_eq_none_iff,List.find?_eq_none];intro y hy z;exact hnk (eJ.mpr ⟨y,hy,aL z⟩)
   rw[storedH_new none]at dd2;refine aq ⟨pI F.plain_dict_update_loop _,?_⟩;have e1:acc++(k,b,v)::rest=(acc++[(k,b,v)])++rest:=by simp
   rw[e1]at hn hz h;refine ih (i+1) (acc++[(k,b,v)]) { s with heap:=h2,toks:=s.toks+(Nk.nest prog w).draws k } (λc o e=>(sb2.2 c (λz=>by rw[z,hd₀]at e;cases e)).trans (kp1 c o e)) ?_ (.to dd2) (λy hy=>?_) (er1 ▸ hps) hn hz (by simp at hi;lia) λh3 t3 k1 k2=>h h3 t3 k1 k2
   .obtain⟨o,ho,r⟩:=hit1;exact⟨o,(sb2.2 it (aH hdi)).trans ho,r⟩
   .rcases fE.mp hy with hy|hy
    .exact ha y hy
    .cases eK.mp hy;exact hk
theorem call_dict_nest(j:A.handled=none)(V:A.units+10 < cLine)(y:s.heap.get? a=some { cls:=.type "list",data:=.seq t n })(C:PairsN prog w s.heap t.toList k)
  (P:(k.map (·.1)).Nodup) (G:k.length≤sizeLine) (R:k.length=t.size)
  (h:∀x i,(∀b o,s.heap.get? b=some o->x.get? b=some o)->oO w x s.heap.objs.size k->Q (.ref s.heap.objs.size) { s with heap:=x,toks:=i }) :
  wpAny (model prog w) A (call (.type "dict") [.ref a]) Q E s:=by
 have fresh:(s.heap.push { cls:=.type "dict",data:=.dict #[] }).DictOf (intKind prog w) s.heap.objs.size []:=.new s.heap;have p:oO w (s.heap.push { cls:=.type "dict",data:=.dict #[] }) s.heap.objs.size []:=⟨_,#[],0,aR _ rfl,⟨rfl,rfl,rfl⟩,rfl,rfl,lF⟩;have d:∀b o,s.heap.get? b=some o->(s.heap.push { cls:=.type "dict",data:=.dict #[] }).get? b=some o:=λb o=>aF _;have r:=As (prog:=prog) (w:=w) (A:=A.in1) (E:=E) (s:=s) (Value.ref a) (Q₁:=λv z=>v=.ref s.heap.objs.size/\z={ s with heap:=s.heap.push { cls:=.type "dict",data:=.dict #[] } }) ⟨rfl,rfl⟩;apply Ao zO (zW (.ref a)) zQ r;rintro _ _ ⟨e,H⟩;subst e H;generalize s.heap.push { cls:=.type "dict",data:=.dict #[] }=N at fresh d p;have g:=d _ _ y;refine⟨fresh.typeIs,zS (.ref s.heap.objs.size) (.ref a),?_⟩;unfold Builtin.«dict.__init__» yy;apply ae;apply ae;apply AL fresh.typeIs;apply aq;show wpAny _ _ (oS "dict.__init__" s.heap.objs.size (.ref a) [] .none) _ _ _;unfold oS;refine ae (lh (T:="list") ⟨_,g,rfl⟩ ?_);rw[ag (by decide)];refine ae (xR (name:="keys") g rfl rfl rfl F.list_no_keys (by decide) j λf W u=>?_);rw[ag (by rfl)];refine ae (pG ?_);have q:=u _ _ g;have I:∀b o,s.heap.get? b=some o->f.get? b=some o:=λb o e=>u b o (d b o e);have c:oO w f s.heap.objs.size []:=p.at λo e=>u _ _ e;refine ae (lj (l:=a) (items:=t) ⟨_,q,rfl,n,rfl⟩ ?_);refine aq ⟨pI F.plain_dict_update_loop _,?_⟩;have m:s.heap.objs.size < f.objs.size:=by obtain⟨o,_,_,B,_⟩:=c;exact av B
 have S:s.heap.get? f.objs.size=none:=by
  cases e:s.heap.get? f.objs.size with
  |none=>rfl
  |some o=>exact absurd (av e) (oZ.mpr (d0 m))
 have K:s.heap.get? s.heap.objs.size=none:=by
  cases e:s.heap.get? s.heap.objs.size with
  |none=>rfl
  |some o=>exact absurd (av e) (d5 _)
 refine Ca (A:=A.in1) (w:=w) j (by rw[i4];lia) (h₀:=s.heap) (items:=t) (l:=a) K S (aQ m) ⟨_,y,rfl,n,rfl⟩ k 0 [] _ (λb o e=>aF _ (I b o e)) ?_ (c.at λo e=>aF _ e) (λ_ D=>nomatch D) (by simpa using C) (by simpa using P) (by simpa using G) (by lia) λx i L M=>?_
 .exact⟨_,aR _ rfl,rfl,rfl⟩
 .exact⟨rfl,h x i L M⟩
end
end PySem
namespace Ev
open PySem PySem.Spec PyProof.Rows L2
noncomputable def xJ:List P->Option (List P×List P)
 | []=>some ([],[])
 | .tup [k,v]::r=>(xJ r).map λz=>(k::z.1,v::z.2)
 |_=>none
def Lr:List P->Bool
 | []=>true
 |k::s=>!nw k s && Lr s
theorem wh(g:cg k=true):∀{ks:List P},ks.all cg=true->(nw k ks=true↔pd k ∈ gJ ks)
 | [],_=>by simp[nw,gJ]
 |q::ks,h=>by rw[iY,az]at h;have ih:=wh g h.2;unfold nw at ih ⊢;rw[cG,tY,ih,gJ,aM,Nk.eqv_kd _ _ (iI h.1) (iI g)];exact⟨λz=>z.imp Eq.symm id,λz=>z.imp Eq.symm id⟩
theorem Em:∀{s:List P},s.all cg=true->Lr s=true->(gJ s).Nodup
 | [],_,_=>lF
 |k::s,h,n=>by rw[iY,az]at h;simp only[Lr,az,kr]at n;refine bL.mpr ⟨λz=>?_,Em h.2 n.2⟩;rw[(wh h.1 h.2).mpr z]at n;cases n.1
theorem B7(e:xJ (p::N)=some (f,b)):∃k v s x,p=.tup [k,v]/\xJ N=some (s,x)/\f=k::s/\b=v::x:=by
 unfold xJ at e;split at e
 .rename_i h;cases h
 .rename_i k v r h;cases h;obtain⟨z,a,e⟩:=bJ.mp e;cases e;exact⟨k,v,z.1,z.2,rfl,a,rfl,rfl⟩
 .cases e
theorem sg(I:Inv X B J H s):∀{N a c:List P}{m:List V}{n:LV},bB X.K F H N m->aU m n->xJ N=some (a,c)->a.all cg=true ->
  ∃(h:List (PyData×V×V))(f:List (PyData×Addr×Value)),h.map (·.1)=gJ a/\bB X.K F H a (h.map (·.2.1))/\bB X.K F H c (h.map (·.2.2))/\KN h f/\PySem.PairsN X.p X.w s.heap n f/\h.length=n.length
 | [],_,_,_,_,r,v,e,_=>by cases e;cases r;cases v;exact⟨[],[],rfl,rfl,rfl,.nil,.nil,rfl⟩
 |p::N,_,_,_,_,r,v,e,g=>by
  obtain⟨k,w,a,c,rfl,o,rfl,rfl⟩:=B7 e;rw[iY,az]at g;obtain⟨x,xr,rfl,E,G⟩:=r;obtain⟨t,ys,rfl,R,M⟩:=E;obtain⟨y1,y2,rfl,q,L⟩:=QX M;cases v with
  | @cons _ u _ n T W=>cases (show u=Value.ref t from T);obtain⟨C,Q,A,_⟩:=I.tuple R.sq;obtain⟨Z,w2,rfl,S,K⟩:=vals2 Q;obtain⟨h,f,d,i,j,l,y,z⟩:=sg I G W o g.2;obtain⟨b,rfl,D⟩:=lq I g.1 q;cases (show Z=Value.ref b from S);exact⟨(pd k,.ref b,y2)::h,(pd k,b,w2)::f,by rw[aD,d];rfl,⟨_,_,rfl,q,i⟩,⟨_,_,rfl,L,j⟩,.cons ⟨rfl,rfl,K⟩ l,.cons A D y,by simp[z]⟩
def yc(fa:EV):EE:=λL S=>bw (fa L S) λx h=>match x with
 | .lst N=>match xJ N with
  |some (k,v)=>if (k.all cg && (Lr k && few N))=true then some (.ref h.length,h++[.dtn k (v.map .p)]) else none
  |none=>none
 |_=>none
section
variable{X:Cx}{a:Expr}{fa:EV}{p c1:Pos}
theorem JW(hc:X.c=true)(hu:X.A.units+10 < cLine)(gd:Gl X "dict")(md:X.g "dict"=none)(ha:PE X a (tV X.K fa))(hs:starEach [a] X.e=[(false,eval a X.e)]) :
  PE X (.Call (.Name "dict" p) [a] [] c1) (tE X.K (yc fa)):=by
 intro B s J H Q I ⟨F,m,L,S,d,S',r,l,q,k⟩;obtain⟨x,R,e1,q⟩:=ak q;have hh:X.A.handled=none:=I.o.hd hc;refine ii (ir I gd md yV ?_ (by decide) (by decide));refine g6 ?_ (by rw[hs];rfl) rfl;rw[hs];refine cm (b_ (ha B s J H (λv w=>∃f t,Stp F m H f t w/\Rel X.K f w t R/\RP X.K f w x v) I ⟨F,m,L,S,x,R,r,l,e1,λv f t w e y E=>⟨f,t,e,y,E⟩⟩) λu e ⟨v,w,g,ru,f,t,G,y,E⟩=>dC ?_);cases x with
 |lst N=>
  dsimp only at q;cases C:xJ N with
  |none=>rw[C]at q;cases q
  |some z=>
   obtain⟨ks,vs⟩:=z;rw[C]at q;dsimp only at q;split at q
   .rename_i c;simp only[az]at c;obtain⟨Z,g2,g3⟩:=c;cases q;obtain⟨A,xs,rfl,hq,rp⟩:=E;cases (show u=Value.ref A from ru);obtain⟨zl,i,n,rv,ho⟩:xs.length≤sizeLine/\∃(i:LV)(n:Nat),aU xs i/\e.heap.get? A=some { cls:=.type "list",data:=.seq i.toArray n }:=g.h A _ hq.2;obtain⟨b,M,K,T,V,P,W,a6⟩:=sg g rp rv C Z;have el:b.length=M.length:=Paired.length P;have e2:=rv.length;have D:M.map (·.1)=b.map (·.1):=by
     clear K T V W a6 el;induction P with
     |nil=>rfl
     |cons h _ ih=>rw[aD,aD,ih,h.1]
    refine PySem.call_dict_nest hh hu ho (by simpa using W) (by rw[D,K];exact Em Z g2) (by lia) (by simp;lia) λh' t' k1 k2=>?_;have j:w e.heap.objs.size=none:=g.h.fresh (al _);obtain⟨ob,es,ep,h1,h2,h3,h4,h5⟩:=k2;have I3:=g.laid (a:=e.heap.objs.size) (o:=.dN b) (t':=t') k1 (al _) ⟨by lia,gu.mpr (aH (aQ g.big)),M,P,ob,es,ep,h1,h2,h3,h4,h5⟩;refine⟨.ref e.heap.objs.size,_,I3,rfl,k (.ref e.heap.objs.size) f (t++[e.heap.objs.size]) _ (G.trans (bY j)) (y.own j ⟨_,aC,K,bB.kp (bY (m:=t) j).kp T,bI.mono (bY j) (bI.ofP V)⟩) ⟨e.heap.objs.size,rfl,?_⟩⟩;rw[<- y.len,bF (al _)];simp
   .cases q
 |_=>cases q
end
section
variable{X:Cx}{u:Scope}{N':LS}{ts:List Nat}{n:Nat}
theorem JL(i:Nat)(hN:X.N.Nodup)(h:BlockOk X u N' ts n)(c:X.c=true)
  (W:oz X tg iter f ts n g fc fe) (hg:∀s H C w,PG (inn X u N' s H C w) tg (gT X.K g)) (hc:∀s H C w,PIfs (inn X u N' s H C w) b fc) (he:∀s H C w,PE (inn X u N' s H C w) t (tV X.K fe))
  (o:closureFor u X.e=pure (lu u X.e)) (E:swapsWith (.ListComp t [⟨tg,iter,b,0⟩] u M) (some (.Name x px)) T.line X.e=pure true:=by rfl)
  (hs:∀x,foldedSetIterable iter X.e x=pure x:=by intro _;rfl) (P:X.N[i]? = some x:=by rfl) (hx:Loc X.e.scope x:=by first|exact Or.inl rfl|exact Or.inr rfl)
  (hf:X.fn x=true\/X.e.scope.names.lookup x=some .local:=by first|exact .inl rfl|exact .inr rfl|assumption) :
  PS X (.Assign [.Name x px] (.ListComp t [⟨tg,iter,b,0⟩] u M) T) (i_ X.K (aZ i (sB f))):=by
 intro B s J H D I ⟨F,m,L,S,fl,L',S',r,l,q,k⟩;obtain⟨d,S1,e1,q⟩:=ak q;cases q;obtain⟨v,Z,e2,e3⟩:=ak e1;rw[AJ _ _ _ _ E];refine ae (pJ (ae ?_));show wpAny _ _ (do let _ <- comprehension (.ListComp t [⟨tg,iter,b,0⟩] u M) u X.e _ (newList []) false (eval iter X.e) (some (assign (.Name x px) X.e))) _ _ s;obtain⟨wi,hi,W⟩:=W;obtain⟨ok,vs,S3,ds,rfl,y,hw,e4⟩:=W J H F m L S v _ r l e2;cases e3;refine ae (bN (kC (use:=some (assign (.Name x px) X.e)) (Q:=λ_ N=>SP X B D .next N) h c hi hg hc he o hs I r l hw y e4 λp F' m' G sx C xs I' V r0 f hC h0 h1 h2 h3 hz=>?_) (λ_ N hq=>aq (aq hq)) λ_ _ e=>e);obtain⟨mC,A⟩:=hz;obtain⟨st,r'⟩:=wD V r0 f;have rp:RD X.K F' G (m'++[p]) (.ref Z.length) (.ref p):=⟨p,rfl,by rw[<- r0.len,bF (al _)];simp⟩;refine xc (m_ I' hN P hx (v:=.ref p) rfl (λN K z=>?_) hf);refine⟨mC,?_,λh' sb=>⟨_,G,K.letGo sb hC h0 h1 h2 h3,k _ _ (m'++[p]) G st r' ((l.mono st).set (d:=.ref Z.length) rp i)⟩⟩;obtain⟨a,R,j⟩:=z;refine A.sameBut R ?_;rcases j with j|j
 .rw [j];exact h1
 .exact aH (h2 x a j)
end
end Ev
set_option tactic.hygienic false
namespace PySem
open PyProof.Rows
section
variable{prog:Program}{w:World}{A:Around}{E:VP}{s:Shared}
noncomputable abbrev cC(led:Bool):Obj:={ cls:=.type "set",dict:=none,data:=.set #[] 0 (.fresh 0 0 led) }
theorem xG (v:∀led:Bool,wpAny (model prog w) A.in1.in1 (Builtin.«set.__init__» ⟨[.ref s.heap.objs.size,x],[]⟩)
   (fun dH n=>match dH with
    | .done f=>wants (λr h=>r=.none/\Q (.ref s.heap.objs.size) h) E (.ok f) n
    | .again t=>t.quiet=true/\codeAny (model prog w) A.in1 t (wants (λr h=>r=.none/\Q (.ref s.heap.objs.size) h) E) n)
   (λe n=>wants (λr h=>r=.none/\Q (.ref s.heap.objs.size) h) E (.error e) n)
   { s with heap:=s.heap.push (cC led) }) :
  wpAny (model prog w) A (call (.type "set") [x]) Q E s:=by
 have u:=hE.mro;obtain⟨c,C,i⟩:=u;have j:=hE.made;have y:=hE.sub;have H:=hE.notType;have S:=hE.canCreate;have K:=F.typeCall_set_1 x;have P:=hE.init.lookup;apply mS;apply codeAny_of_tree;show wpAny _ _ (callAny (.type "set") _) _ _ _;apply aq;refine⟨Code.quiet_builtin _ (by decide +kernel),mU F.entry_type_call ?_⟩;rw[Around.under_plain (weight_type_call_type "set" [x] []) rfl];repeat any_goals first|assumption|wp_step
 have b:=code_set_new_1 (prog:=prog) (w:=w) (A:=A.in1) (s:=s) x (E:=E) (Q₁:=λo z=>∃led:Bool,o=.ref s.heap.objs.size/\z={ s with heap:=s.heap.push (cC led) }) λled=>⟨led,rfl,rfl⟩;refine jN b λr z k=>?_;rcases r with e|q
 .exact k
 .cases q with
  |ret o=>
   obtain⟨led,m,p⟩:=k;subst m p;have T:yz { s with heap:=s.heap.push (cC led) } (.ref s.heap.objs.size) "set":=⟨cC led,aR _ rfl,rfl⟩;have B:=hE.init.bind (.ref s.heap.objs.size);repeat any_goals first|assumption|wp_step
   refine jN (codeAny_call_builtin hE.init.plain F.entry_set_init (check_set_init_1 T (v led))) λg D a=>?_;rcases g with e|l
   .exact a
   .cases l with
    |ret r=>obtain⟨e,d⟩:=a;subst e;repeat any_goals first|assumption|wp_step
    |_=>exact a.elim
  |_=>exact k.elim
end
section
variable{prog:Program}{w:World}{A:Around}{E:VP}{R:Result->Shared->Prop}{C:Type}
theorem vF (h:wpAny (model prog w) A.in1 (Builtin.«set.update.loop» c) (fun dH x=>match dH with
   | .done f=>R (.ok f) x
   | .again k=>k.quiet=true/\codeAny (model prog w) A k R x) (λe x=>R (.error e) x) s):codeAny (model prog w) A (.builtin "set.update.loop" c) R s:=
 mU F.entry_set_update_loop (by rw[lL F.plain_set_update_loop c];exact h)
set_option tactic.hygienic true in
theorem DK(hh:A.handled=none){n:Heap}{S d l:Addr}{t:Array Value}(u:n.get? S=none)(m:n.get? d=none)(V:S≠d)(hl:n.IsList l t){Is:C->Value->Prop}{H:Heap->List C->Prop}{N:Nat}
  (hex:∀{h f:Heap}{j:List C},(∀o,h.get? d=some o->o.cls=.type "list_iterator")->H h j->g7 d h f->H f j)
  (L:∀(s:Shared) (j:List C) (x:C) (v:Value) (Q:Bool->Shared->Prop) (E:VP),(∀b o,n.get? b=some o->s.heap.get? b=some o)->H s.heap j->Is x v->j.length < N ->
   (∀b f tk,cD S s.heap f->H f (j++[x])->Q b { s with heap:=f,toks:=tk })->wpAny (model prog w) A.in1 (setAdd S v) Q E s) :
  ∀(a:List C)(i:Nat)(k:List C)(s:Shared),(∀b o,n.get? b=some o->s.heap.get? b=some o)->s.heap.IsListIter d l i->H s.heap k->Paired Is a (t.toList.drop i)->(k++a).length≤N->i+a.length=t.size ->
   (∀f t',(∀b o,n.get? b=some o->f.get? b=some o)->H f (k++a)->R (.ok (.ret .none)) { s with heap:=f,toks:=t' }) ->
   codeAny (model prog w) A (.builtin "set.update.loop" ⟨[.ref S,.ref d],[]⟩) R s:=by
 have cl:∀{h:Heap}{i:Nat},h.IsListIter d l i->∀o,h.get? d=some o->o.cls=.type "list_iterator":=λq o e=>by obtain⟨o',e',c,_⟩:=q;rw[e]at e';cases e';exact c
 intro a;induction a with
 |nil=>
  intro i k s P p hs X I W h;have y:t[i]? = none:=by simp at W ⊢;lia
  have g:s.heap.IsList l t:=by obtain⟨o,K,r⟩:=hl;exact⟨o,P _ _ K,r⟩
  refine vF (ae (sX hh p g y λf eb=>?_));rw[cW]at h;apply aq;exact h f s.toks (λb o e=>eb b o (λz=>by rw[z,m]at e;cases e) (P b o e)) (hex (cl p) hs eb)
 |cons x a ih=>
  intro i k s P p hs X I W h;have g:s.heap.IsList l t:=by obtain⟨o,K,r⟩:=hl;exact⟨o,P _ _ K,r⟩
  generalize er:t.toList.drop i=us at X;cases X with
  |cons hx Z=>
   rename_i v us';have hv:t[i]? = some v:=by have:=bX (·[0]?) er;simpa using this
   have M:t.toList.drop (i+1)=us':=by rw[<- o5,er];rfl
   refine vF (ae (sY p g hv λh1 it2 D=>?_));have B:∀b o,n.get? b=some o->h1.get? b=some o:=λb o e=>(D.2 b (λz=>by rw[z,m]at e;cases e)).trans (P b o e);show wpAny _ A.in1 (holding [v] (setAdd S v) >>= _) _ _ _;apply ae;apply cF;refine L { s with heap:=h1 } k x v _ _ B (hex (cl p) hs λb o hb e=>(D.2 b hb).trans e) hx (by simp at I;lia) λb2 T tk G hs2=>?_;refine aq ⟨pI F.plain_set_update_loop _,?_⟩;have kp2:∀b o,n.get? b=some o->T.get? b=some o:=λb o e=>(G.2 b (λz=>by rw[z,u]at e;cases e)).trans (B b o e);have it3:T.IsListIter d l (i+1):=by obtain⟨o,K,r⟩:=it2;exact⟨o,(G.2 d (aH V)).trans K,r⟩
   have e1:k++x::a=(k++[x])++a:=by simp
   rw[e1]at I h;exact ih (i+1) (k++[x]) { s with heap:=T,toks:=tk } kp2 it3 hs2 (M ▸ Z) I (by simp at W;lia) λf t' k1 k2=>h f t' k1 k2
end
section
variable{prog:Program}{w:World}{A:Around}{E:VP}{s:Shared}{C:Type}
theorem Kv{l:Addr}{i:Array Value}{n:Nat}{r:List C}{Q:VP}(W:A.handled=none)(D:s.heap.get? l=some { cls:=.type "list",data:=.seq i n }){I:C->Value->Prop}{H:Heap->List C->Prop}{N:Nat}
  (T:∀(h:Heap)(led:Bool),h.get? s.heap.objs.size=some (cC led)->H h [])
  (j:∀{S:Addr}{h k:Heap}{c:List C},S≠s.heap.objs.size->(∀o,h.get? S=some o->o.cls=.type "list_iterator")->H h c->g7 S h k->H k c)
  (g:∀(z:Shared) (c:List C) (x:C) (v:Value) (Q:Bool->Shared->Prop) (E:VP),(∀b o,s.heap.get? b=some o->z.heap.get? b=some o)->H z.heap c->I x v->c.length < N ->
   (∀b k tk,cD s.heap.objs.size z.heap k->H k (c++[x])->Q b { z with heap:=k,toks:=tk })->wpAny (model prog w) A.in1.in1.in1 (setAdd s.heap.objs.size v) Q E z)
  (L:Paired I r i.toList) (X:r.length≤N)
  (h:∀k K,(∀b o,s.heap.get? b=some o->k.get? b=some o)->H k r->Q (.ref s.heap.objs.size) { s with heap:=k,toks:=K }):wpAny (model prog w) A (call (.type "set") [.ref l]) Q E s:=by
 refine xG λled=>?_;have B:(s.heap.push (cC led)).get? s.heap.objs.size=some (cC led):=aR _ rfl;have m:=kh s.heap (cC led);have d:∀b o,s.heap.get? b=some o->(s.heap.push (cC led)).get? b=some o:=λb o e=>aF _ e;have hT:yz { s with heap:=s.heap.push (cC led) } (.ref s.heap.objs.size) "set":=⟨_,B,rfl⟩;have y:=d _ _ D;obtain⟨no1,no2,no3⟩:isSubtype (.type "list") (.type "set")=pure false/\isSubtype (.type "list") (.type "frozenset")=pure false/\(Value.type "list" == Value.type "dict")=false:=⟨F.sub_list_set,F.sub_list_frozenset,by decide⟩;obtain⟨u,P⟩:∃f,f=pyIter:=⟨_,rfl⟩;unfold Builtin.«set.__init__» Builtin.Frozenset.updateFrom noKeywords;rw[<- P]
 wp_walk
 rw[P];refine lj (l:=l) (items:=i) ⟨_,y,rfl,n,rfl⟩ ?_;refine ae (wpAny_runValue ?_);have t:∀a,s.heap.objs.size≤a->s.heap.get? a=none:=λa V=>Option.eq_none_iff_forall_ne_some.mpr λo q=>absurd (av q) (oZ.mpr V);have M:=t _ (al _);have R:=t (s.heap.push (cC led)).objs.size (by rw[m];lia);have p:s.heap.objs.size≠(s.heap.push (cC led)).objs.size:=by rw[m];exact aQ (d6 _)
 have G:r.length=i.size:=by have:=Paired.length L;simpa using this
 refine DK (A:=A.in1.in1) (n:=s.heap) (t:=i) (l:=l) (Is:=I) (H:=H) (N:=N) (by simpa using W) M R p ⟨_,D,rfl,n,rfl⟩ (λZ k2 sb=>j (aH p) Z k2 sb) g r 0 [] { s with heap:=(s.heap.push (cC led)).push { cls:=.type "list_iterator",data:=.fields #[.ref l,.int 0 0] } }
  (λb o e=>aF _ (d b o e)) ⟨_,aR _ rfl,rfl,rfl⟩ (T _ led (aF _ B)) (by simpa using L) (by simpa using X) (by lia) λk K q1 q2=>?_
 repeat any_goals first|assumption|wp_step
 exact⟨rfl,h k K q1 q2⟩
end
section
variable{prog:Program}{w:World}{E:VP}
mutual
theorem Bu:∀(d:PyData)(n:Nat)(v:Value)(as:List Addr)(A:Around)(s:Shared)(Q:Bool->Shared->Prop),Nk.kd d=true->Reads s.heap v d as->(∀b,Q b s)->wpAny (model prog w) A (hashByValue n v) Q E s
 | .none,n,_,_,A,s,Q,_,r,h=>by cases r;cases n<;>exact aq (h _)
 | .int _,n,_,_,A,s,Q,_,r,h=>by cases r;cases n<;>exact aq (h _)
 | .str _,n,_,_,A,s,Q,_,r,h=>by cases r;cases n<;>exact aq (h _)
 | .tuple xs,n,_,_,A,s,Q,k,r,h=>by
  cases r with
  | @tuple a o vs m _ _ g1 g2 g3 g4=>
   cases n with
   |zero=>exact aq (h _)
   |succ n=>
    unfold hashByValue;refine ae (w6 ⟨o,g1,g2⟩ zR.lookup (ae (gG g1 g3 (ae ?_))));rw[Option.getD_some,<- lM];refine wf xs n vs.toList _ A s _ _ k g4 λr=>?_
    obtain⟨r1,r2⟩:=r;cases r1<;>exact aq (h _)
 | .bool _,_,_,_,_,_,_,k,_,_ | .list _,_,_,_,_,_,_,k,_,_ | .dict _,_,_,_,_,_,_,k,_,_=>nomatch k
theorem wf:∀(xs:List PyData)(n:Nat)(vs:LV)(as:List Addr)(A:Around)(s:Shared)(b:Option Bool×Unit)(Q:Option Bool×Unit->Shared->Prop),Nk.kds xs=true->ReadsAll s.heap vs xs as->(∀b,Q b s) ->
  wpAny (model prog w) A (forIn vs b fun x _=>do
   let z <- hashByValue n x
   if (!z)=true then pure (ForInStep.done (some false,())) else pure (ForInStep.yield (none,()))) Q E s
 | [],_,_,_,_,s,b,_,_,r,h=>by cases r;exact aq (h b)
 |d::xs,n,_,_,A,s,b,Q,k,r,h=>by
  cases r with
  |cons r1 r2=>
   simp only[Nk.kds,az]at k;rw[gw];refine ae (ae (Bu d n _ _ A s _ k.1 r1 λz=>?_));cases z
   .exact aq (aq (h _))
   .exact aq (wf xs n _ _ A s _ Q k.2 r2 h)
end
end
def nv(a:Addr)(n:Nat):Heap->Prop:=λh=>∃o e p t,h.get? a=some o/\o.ExactSet/\o.data=.set e p t/\t.fits e.size=true/\e.size=n
section
variable{prog:Program}{w:World}{A:Around}{E:VP}{s:Shared}
theorem B3(hu:A.units+d.depth < cLine)(ho:s.heap.get? S=some (cC led))(k:Nk.kd d=true)(r:Reads s.heap (.ref a) d as)
  (h:∀h' tk,cD S s.heap h'->nv S 1 h'->Q true { s with heap:=h',toks:=tk }):wpAny (model prog w) A (setAdd S (.ref a)) Q E s:=by
 unfold setAdd;refine cF (ae (Nk.hash_of d _ as A s _ k r hu ?_));generalize s.toks+Nk.dr d=tk0;generalize Nk.hk w d=hs;have st:∀{R:(Array (Int×Value)×Nat×SetTable)->Shared->Prop},R (#[],0,.fresh 0 0 led) { s with toks:=tk0 }->wpAny (model prog w) A (setState S) R E { s with toks:=tk0 }:=λq=>wpAny_setState_of (s:={ s with toks:=tk0 }) ho rfl (by cases led<;>decide) q
 unfold setAddHashed;refine cF ?_;unfold setAddHashedIn;refine ae (st ?_);dsimp only;rw[aj (show ¬byScan (.ref a) #[]=true by simp[byScan,Value.scannable])];unfold setSearch setSearchFrom;refine ae (ae (st ?_));dsimp only;rw[aj (show ¬(SetTable.fresh 0 0 led).gaveWay=true by cases led<;>decide)];have pr:∀f,(SetTable.fresh 0 0 led).probe f hs ((none:Option SetTable.Probe).getD ((SetTable.fresh 0 0 led).probeStart hs))=some (.empty ((SetTable.fresh 0 0 led).probeStart hs).j none):=λf=>by cases led<;>rfl
 rw[pr];refine ae (aq (aq ?_));generalize ((SetTable.fresh 0 0 led).probeStart hs).j=j;refine ae (st ?_);rw[ag (show(((#[],0,SetTable.fresh 0 0 led):Array (Int×Value)×Nat×SetTable).2.2.put j).1.plain=true by cases led<;>rfl)];refine ae (Bu d 8 _ as A _ _ k r λb=>?_);have full:∀t:SetTable,t.mask=7->t.place.size=1->t.dummies=#[]->t.fits 1=true/\t.tooFull=false:=λt h1 h2 h3=>by
  have hf:t.fill=1:=by show t.place.size+t.dummies.size=1;rw[h2,h3];rfl
  unfold SetTable.fits SetTable.tooFull;rw[h1,h2,hf];decide
 have pl:((SetTable.fresh 0 0 led).put j).1.place.size=1:=by show(oR #[] _ j).size=1;simp[oR]
 have du:((SetTable.fresh 0 0 led).put j).1.dummies=#[]:=by show(if SetTable.has #[] j=true then SetTable.eraseAt #[] (SetTable.below #[] j) else #[])=#[];rw[aj (by simp[SetTable.has])]
 dsimp only;generalize ht:(if b=true then ((SetTable.fresh 0 0 led).put j).1 else { ((SetTable.fresh 0 0 led).put j).1 with plain:=false })=t;obtain⟨f1,f2⟩:t.fits 1=true/\t.tooFull=false:=by
  subst ht;cases b
  .exact full _ rfl pl du
  .exact full _ rfl pl du
 have one:(oR (#[]:Array (Int×Value)) ((SetTable.fresh 0 0 led).put j).2 (hs,Value.ref a)).size=1:=by simp[oR]
 refine ae (wpAny_storeSet_of (s:={ s with toks:=tk0 }) ho rfl ?_ (by rw[one,jM];decide));rw[f2,aj (by simp)];refine aq (h _ _ (ka s.heap S _) ⟨_,_,1,t,o3 (Obj.putSet _ t) ho rfl,⟨rfl,rfl,rfl⟩,rfl,by rw[one];exact f1,one⟩)
end
end PySem
set_option tactic.hygienic true
namespace Ev
open PySem PySem.Spec PyProof.Rows L2
def lP(f:EV):EV:=λL S=>bw (f L S) λx h=>match x with
 | .lst [v]=>if cg v=true then some (.int 1,h) else none
 |_=>none
section
variable{X:Cx}
theorem FJ(C:X.c=true)(hu:X.A.units+64 < cLine):cN X (.type "set") (λS H Q=>∃(F:Aa)(v:P),bB X.K F H [.lst [v]] S/\cg v=true/\∀p,H p=none->Q (.ref p) (br H p (.ext (nv p 1)))):=by
 intro B s J H S us Q I r h;obtain⟨F,v,rs,q,L⟩:=h;obtain⟨x,rfl,T⟩:=ri rs;obtain⟨a,ys,rfl,R,y,yr,rfl,ry,rfl⟩:=T;obtain⟨u,rfl,ru⟩:=vals1 r;cases (show u=Value.ref a from ru);obtain⟨zl,i,n,vs,D⟩:[y].length≤sizeLine/\∃(i:LV)(n:Nat),aU [y] i/\s.heap.get? a=some { cls:=.type "list",data:=.seq i.toArray n }:=I.h a _ R.2;obtain⟨z,rfl,rz⟩:=vals1 vs;obtain⟨b,rfl,k,dp,as,Z⟩:=lq I q ry;cases (show z=Value.ref b from rz);have ne:s.heap.get? s.heap.objs.size=none:=tw (al _);refine Kv (r:=[()]) (I:=λ_ x=>x=.ref b) (H:=λh m=>(m=[]->∃led,h.get? s.heap.objs.size=some (cC led))/\(m≠[]->nv s.heap.objs.size 1 h)) (N:=1) (I.o.hd C) D (λh led e=>⟨λ_=>⟨led,e⟩,λz=>absurd rfl z⟩) (λf _ c j=>⟨λz=>?_,λz=>?_⟩) (λz m x v Q E M c G hk q=>?_) (.cons rfl .nil) (al _) λg t' V W=>?_
 .obtain⟨led,e⟩:=c.1 z;exact⟨led,j _ _ (aH f) e⟩
 .obtain⟨o,w,d,t,e,r⟩:=c.2 z;exact⟨o,w,d,t,j _ _ (aH f) e,r⟩
 .subst G;obtain rfl:m=[]:=eh (by lia);obtain⟨led,e⟩:=c.1 rfl;exact B3 (by simp only[Around.in1];lia) e k (Nk.stay _ k Z λb o A _ _=>M b o A) λg tk sb K=>q true g tk sb ⟨(λz=>nomatch z),λ_=>K⟩
 .have l:=W.2 (λz=>nomatch z);exact⟨.ref s.heap.objs.size,_,I.laid (a:=s.heap.objs.size) (o:=.ext (nv s.heap.objs.size 1)) (t':=t') V (al _) ⟨l,let ⟨o,_,_,_,e,_⟩:=l;⟨o,e⟩,λh1 h2 ⟨o,w,d,t,e,r⟩ k=>⟨o,w,d,t,k o e,r⟩⟩,rfl,L _ (I.h.fresh (al _))⟩
theorem yn:cN X (.builtin "len") (λx H Q=>∃p,x=[.ref p]/\H p=some (.ext (nv p 1))/\Q (.int 1) H):=by intro B s J H x c Q I r h;obtain⟨p,rfl,e,q⟩:=h;obtain⟨u,rfl,n⟩:=vals1 r;cases (show u=Value.ref p from n);obtain⟨⟨o,b,k,t,a,hex,d,f,z⟩,_⟩:=I.h p _ e;refine call_len_set a hex d f (by lia) ?_;rw[z];exact⟨.int 1,H,I.tok _,⟨_,rfl⟩,q⟩
theorem G0(u:X.c=true)(y:X.A.units+64 < cLine)(g:Gl X "len")(s:X.g "len"=none)(w:Gl X "set")(o:X.g "set"=none)(i:PE X e (tV X.K f))(c:starEach [e] X.e=[(false,eval e X.e)]) :
  PE X (.Call (.Name "len" t) [.Call (.Name "set" p2) [e] [] T] [] c1) (tV X.K (lP f)):=
 (iF yn g s AH (cq (iD (FJ u y) w o GO (cq i dI (by rw[c];rfl)) (by decide) (by decide) (by rw[c];rfl) rfl) dI rfl) (by decide) (by decide) rfl rfl).imp' λJ H Q z=>by
  obtain⟨F,m,L,S,d,A,r,l,q,k⟩:=z;obtain⟨x,B,p,q⟩:=ak q;split at q
  .rename_i v;split at q
   .rename_i j;cases q;refine⟨F,m,L,S,_,_,r,l,p,λv h s b P K t=>?_⟩;refine⟨h,_,⟨v,[],rfl,t,rfl⟩,j,λn a=>⟨n,rfl,aC,?_⟩⟩;have g:Grow h b h (br b n (.ext (nv n 1))):=bq a;exact k _ _ s _ (P.trans g.stp) (K.grow g) rfl
   .cases q
  .cases q
end
end Ev
namespace Ev
open PySem PySem.Spec PyProof.Rows L2
def pureOf(g:GF)(p:List P):Option P:=match g (p.map .p) [] with
 |some (d,S)=>(toP 9 d S).map (·.1)
 |none=>none
@[simp] noncomputable def db:Option (Fl×Lc×aE)->Option (D×aE)
 |some (.rt d,_,S)=>some (d,S)
 |some (.nx,_,S)=>some (.p .non,S)
 |_=>none
def fg(p n:Nat)(b:ES):GF:=λd S=>if d.length=p then db (b (d.map some++List.replicate (n-d.length) none) S) else none
theorem Rel.nil{K:FG}{F:Aa}{H:Hp}(f:∀a,F a->H a≠none):Rel K F H [] []:=⟨rfl,by simp,by simp,by simp,by simp,f⟩
variable{K:FG}{H:Hp}
theorem p7(h:Pp K (pureOf g) l H Q s):nc K g l H Q s:=by
 obtain⟨F,n,d,t,r,q,k⟩:=h;unfold pureOf at q;cases e:g (n.map .p) [] with
 |none=>rw[e]at q;cases q
 |some z=>
  obtain⟨a,S⟩:=z;rw[e]at q;dsimp only at q;cases x:toP 9 a S with
  |none=>rw[x]at q;cases q
  |some y=>obtain⟨p,P⟩:=y;rw[x]at q;cases q;refine⟨F,[],n.map .p,[],a,S,.nil t,bI.ofP r,e,λv o A b i m u=>?_⟩;obtain⟨f,j,w,_,c⟩:=m9 9 x m u;exact k v f b ((i.trans j).toGrow w.ft) c
theorem FnOk.pure(G:FnOk s w K m base nR k f d p (nc K g)):FnOk s w K m base nR k f d p (Pp K (pureOf g)):=
 FnOk.imp G λ_ _ _ _ h=>p7 h
theorem bI.toSt(r:bI K F H m s k):RL K F H m (L2.start N k) (s.map some++List.replicate (N.length-s.length) none):=by
 have l:=r.length;refine⟨by unfold L2.start;simp[l],λi d e=>?_⟩;by_cases h:i < s.length
 .rw [bE (by simpa using h),fF]at e;cases q:s[i]? with
  |none=>rw[q]at e;cases e
  |some v=>rw[q]at e;cases e;obtain⟨x,a,p⟩:=r.get q;refine⟨x,?_,p⟩;unfold L2.start;rw[bE (by simpa[<- l] using h),fF,a];rfl
 .rw [bF (by simpa using h),tT]at e;split at e<;>cases e
theorem Iv{P:Program}{w:World}{K:FG}{m:SV}{base:Heap}{x u:Str}{st:Stmt}{f:Addr}{n:FuncData}{N a:LS}{k:Nat}{e:Sp}(F:Fun K x u st f n)(S:FnScope N a (bf st))(len:∀v H Q E,e v H Q E->v.length=a.length)
  (b:∀(c:Value),ik K c u=true->∀(A:Around) (o:List Env) (s:Shared) (H:Hp) (v:List V) (Q:VK) (E:XK),Room k (A.deeper (envOfC u (bf st) s.heap.objs.size f c))->e v H Q E ->
   ∃t,oy (wy nR P w K m base N u (bf st) f c A o s H E).nox (eU st) t/\t { nx:=λ_ r=>Q .non r,rt:=Q } (start N v) H):FnOk P w K m base nR (k+1) f n a e:=by
 obtain⟨B,C,z,kV,g,D,j,c,y,l,rfl,lk,d⟩:=F.ex;refine OH lk d S len λA o s H v Q E i p=>?_;obtain⟨t,h,q⟩:=b c d A o s H v Q E i p;exact⟨t,h.nox,q⟩
theorem L0{P:Program}{w:World}{K:FG}{y:SV}{base:Heap}{x u:Str}{st:Stmt}{f:Addr}{i:FuncData}{N p:LS}{k:Nat}{b:ES}(F:Fun K x u st f i)(S:FnScope N p (bf st))
  (M:∀(c:Value),ik K c u=true->∀(A:Around) (o:List Env) (s:Shared) (H:Hp) (E:XK),Room k (A.deeper (envOfC u (bf st) s.heap.objs.size f c)) ->
   oy (wy nR P w K y base N u (bf st) f c A o s H E).nox (eU st) (i_ K b)):FnOk P w K y base nR (k+1) f i p (nc K (fg p.length N.length b)):=by
 refine Iv F S (λV H Q E h=>?_) (λc n A o s H V Q E R h=>⟨_,M c n A o s H E R,?_⟩)
 .obtain⟨F,m,a,S,d,G,C,r,q,k⟩:=h;rw[<- r.length];unfold fg at q;split at q
  .assumption
  .cases q
 .obtain⟨F,m,a,S,d,G,C,r,q,k⟩:=h;unfold fg at q;split at q
  .cases e:b (a.map some++List.replicate (N.length-a.length) none) S with
   |none=>rw[e]at q;cases q
   |some z=>
    obtain⟨l,L,I⟩:=z;rw[e]at q;refine⟨F,m,_,S,l,L,I,C,r.toSt,e,λW t j g D B X=>?_⟩;cases l with
    |nx=>cases q;exact k .non t j g D B rfl
    |bk=>cases q
    |ct=>cases q
    |rt dd=>intro v T;cases q;exact k v t j g D B T
  .cases q
theorem E7{P:Program}{w:World}{K:FG}{g:SV}{base:Heap}{f:Addr}{x:FuncData}{p:LS}{k:Nat}:FnOk P w K g base nR k f x p (nc K λ_ _=>none):=by
 have n:∀v H Q E,¬nc K (λ_ _=>none) v H Q E:=λv H Q E h=>by obtain⟨F,m,b,S,d,e,_,_,q,_⟩:=h;cases q
 exact⟨λv H Q E h=>absurd h (n v H Q E),λA o s H a u v Q E _ _ _ _ h=>absurd h (n v H Q E)⟩
structure Tr where
 v:Option EV:=none
 e:Option EE:=none
 b:Option EB:=none
 w:Option EB:=none
def Tr.ofV(f:Option EV):Tr:=⟨f,f.map eV,f.map λg=>bT (eV g),f.map bV⟩
def Tr.ofC(f:Option EV):Tr:=⟨f,f.map eV,f.map bV,f.map bV⟩
def Tr.ofE(f:Option EE):Tr:=⟨f.map vE,f,f.map bT,f.map λg=>bV (vE g)⟩
def Tr.ofB(b w:Option EB):Tr:=⟨w.map vB,w.map λg=>eV (vB g),b,w⟩
structure Cn where
 N:LS
 own:LS
 deep:LS
 refs:LS
 ks:List (Str×NameKind)
 F:Str->Option GF
 G:Str->Option P
 A:Str->Str->Bool
 M:Str->Str->Option GF
 I:Str->Option GF
 L:Option (Str->Str->Option GF)
noncomputable def jX:LS->Str->Option Nat
 | [],_=>none
 |y::r,x=>if y=x then some 0 else (jX r x).map (·+1)
theorem qr:∀{N:LS}{x:Str}{i:Nat},jX N x=some i->N[i]? = some x
 | [],_,_,h=>by cases h
 |y::r,x,i,h=>by
  unfold jX at h;split at h
  .rename_i e;cases h;simp[e]
  .cases q:jX r x with
   |none=>rw[q]at h;cases h
   |some j=>rw[q]at h;cases h;simpa using qr q
theorem nZ:∀{N:LS}{x:Str}{i:Nat},N.Nodup->N[i]? = some x->jX N x=some i
 | [],_,_,_,h=>by simp at h
 |y::r,x,0,_,h=>by
  have:y=x:=by simpa using h
  unfold jX;rw[ag this]
 |y::r,x,i+1,d,h=>by
  have a:r[i]? = some x:=by simpa using h
  have n:¬y=x:=λe=>by subst e;exact(bL.mp d).1 (dg a)
  unfold jX;rw[aj n,nZ (bL.mp d).2 a];rfl
noncomputable def bO(s:List (Str×NameKind))(x:Str)(l:List NameKind):Bool:=match s.lookup x with
 |some k=>l.contains k
 |none=>false
noncomputable def iq(x:Str):Bool:=!(x == ("__debug__":Str)) && !(x == ("__classdict__":Str))
noncomputable def Of:LS:=["listed","known"]
noncomputable def F_:LS:=[]
def R9:Operator->Option (P->P->Option P)
 | .Add=>some gj
 | .Sub=>some wv
 | .Mult=>some dU
 | .FloorDiv=>some u5
 | .Mod=>some qP
 | .Pow=>some IG
 |_=>none
def MK:CmpOp->Option (P->P->Option P)
 | .Lt=>some PU
 | .LtE=>some OR
 | .Gt=>some OS
 | .GtE=>some PZ
 |_=>none
def O0:CmpOp->Option (D->D->aE->Option P)
 | .Eq=>some fS
 | .NotEq=>some Iu
 | .In=>some ls
 | .NotIn=>some jY
 | .Is=>some x6
 | .IsNot=>some lr
 |_=>none
def Fz (n:Bool) (o:CmpOp):Option (D->D->aE->Option P):=if n=true then (match o with
 | .NotIn=>some eS
 | .In=>some E5
 |_=>none) else O0 o
def oC:List (Option EV)->Option j'
 | []=>some ah
 |a::r=>a.bind λf=>(oC r).map λg=>O f g
def vI:List (Option EE)->Option sS
 | []=>some aI
 |a::r=>a.bind λf=>(vI r).map λg=>af f g
def vw(o:BoolOp):List (Option EB)->Option EB
 | []=>none
 | [a]=>a
 |a::r=>a.bind λf=>(vw o r).map λg=>match o with | .And=>f8 f g | .Or=>FU f g
def Nm(o:Option (Option EV)):Option EO:=match o with
 |none=>some eR
 |some a=>a.map ew
noncomputable def n_(t:Str):Option String:=if t=("list":Str) then some "list" else if t=("bool":Str) then some "bool" else if t=("tuple":Str) then some "tuple" else if t=("int":Str) then some "int" else if t=("str":Str) then some "str" else none
def FO(f:Str):Option (List P->Option P):=
 if f=("int":Str) then some FM else if f=("list":Str) then some ve else if f=("tuple":Str) then some kD else if f=("abs":Str) then some BL else if f=("all":Str) then some j7 else if f=("any":Str) then some dw else none
noncomputable def FP:LS:=["len","isinstance","int","bool","tuple","list","str","max","min","dict","range","abs","enumerate","sorted","all","any","sum","set","zip"]
noncomputable def r_(a s:List (Str×NameKind)):List (Str×NameKind):=a.map λ(n,k)=>if (k == .free && s.lookup n == some .cell) then (n,.cell) else (n,k)
def yp(j:Cn)(E:Scope)(o:LS)(y:List Nat)(n:Nat):Bool:=
 decide (E.kind=.function) && E.names.all (λx=>x.2 != .cell) && E.names.all (λx=>x.2 != .local ||E.names.lookup x.1 == some .local)
  && E.names.all (λx=>x.2 != .free ||(E.names.lookup x.1 == some .free && (j.ks.lookup x.1 == some .cell ||j.ks.lookup x.1 == some .free)))
  && decide (j.N=o.take j.N.length) && decide (o.length=j.N.length+n)
  && E.names.all (λx=>x.2 != .local ||match jX j.N x.1 with|some i=>y.contains i|none=>true)
def oD(j:Cn)(f g:Str):Bool:=decide (f=g) && bO j.ks f [.globalImplicit]
variable{B:Type}
noncomputable def lp:List B->Option B
 | [a]=>some a
 |_=>none
noncomputable def lQ{B:Type}:List B->Option (B×B)
 | [a,b]=>some (a,b)
 |_=>none
theorem dh{B:Type}{l:List B}{a:B}(h:lp l=some a):l=[a]:=by
 unfold lp at h;split at h
 .cases h;rfl
 .cases h
theorem fH{B:Type}{l:List B}{a b:B}(h:lQ l=some (a,b)):l=[a,b]:=by
 unfold lQ at h;split at h
 .cases h;rfl
 .cases h
theorem ao{B e:Type}{x:Option B}{f:B->Option e}{r:e}(h:x.bind f=some r):∃a,x=some a/\f a=some r:=by
 cases x with
 |none=>cases h
 |some a=>exact⟨a,rfl,h⟩
theorem au{B e:Type}{x:Option B}{f:B->e}{r:e}(h:x.map f=some r):∃a,x=some a/\r=f a:=by
 cases x with
 |none=>cases h
 |some a=>cases h;exact⟨a,rfl,rfl⟩
theorem Fu{B:Type}{c:Prop}[Decidable c]{f:c->Option B}{x:B}(h:(if q:c then f q else none)=some x):c:=by
 by_cases q:c
 .exact q
 .rw [dif_neg q]at h;cases h
section
variable{e:Expr}
noncomputable def Bc(e:Expr):Option Str:=if h:e.ctorIdx=23 then Expr.Name.elim e h λx _=>some x else none
theorem jT{x:Str}(h:Bc e=some x):∃p,e=.Name x p:=by have c:=Fu h;revert h;exact Expr.Name.elim e c λ_ p h=>by cases h;exact⟨p,rfl⟩
noncomputable def ju(e:Expr):Option (Ab):=if h:e.ctorIdx=25 then Expr.Tuple.elim e h λs _ _=>some s else none
theorem fM{s:Ab}(h:ju e=some s):∃c p,e=.Tuple s c p:=by have c:=Fu h;revert h;exact Expr.Tuple.elim e c λ_ c p h=>by cases h;exact⟨c,p,rfl⟩
noncomputable def Bt(e:Expr):Option (Ab):=if h:e.ctorIdx=24 then Expr.List.elim e h λs _=>some s else none
theorem qv{s:Ab}(h:Bt e=some s):∃p,e=.List s p:=by have c:=Fu h;revert h;exact Expr.List.elim e c λ_ p h=>by cases h;exact⟨p,rfl⟩
noncomputable def MN(e:Expr):Option (Expr×Str×Pos):=if h:e.ctorIdx=20 then Expr.Attribute.elim e h λo m p=>some (o,m,p) else none
theorem FY{o:Expr}{m:Str}{p:Pos}(h:MN e=some (o,m,p)):e=.Attribute o m p:=by have c:=Fu h;revert h;exact Expr.Attribute.elim e c λ_ _ _ h=>by cases h;rfl
noncomputable def Pr(e:Expr):Option (Expr×Expr):=if h:e.ctorIdx=21 then Expr.Subscript.elim e h λo i _=>some (o,i) else none
theorem KC{o i:Expr}(h:Pr e=some (o,i)):∃p,e=.Subscript o i p:=by have c:=Fu h;revert h;exact Expr.Subscript.elim e c λ_ _ p h=>by cases h;exact⟨p,rfl⟩
noncomputable def RW(e:Expr):Option (Option Expr×Option Expr×Option Expr):=if h:e.ctorIdx=26 then Expr.Slice.elim e h λi j k _=>some (i,j,k) else none
theorem Ku{i j k:Option Expr}(h:RW e=some (i,j,k)):∃p,e=.Slice i j k p:=by have c:=Fu h;revert h;exact Expr.Slice.elim e c λ_ _ _ p h=>by cases h;exact⟨p,rfl⟩
noncomputable def RC(e:Expr):Option (Expr×Ab×Pos):=if h:e.ctorIdx=16 then Expr.Call.elim e h λf a k p=>if k.isEmpty=true then some (f,a,p) else none else none
theorem Mc{f:Expr}{a:Ab}{p:Pos}(h:RC e=some (f,a,p)):e=.Call f a [] p:=by
 have c:=Fu h;revert h;exact Expr.Call.elim e c λ_ _ k _ h=>by
  cases k with
  |nil=>cases h;rfl
  |cons _ _=>cases h
end
def mI(e:Expr):Option (Str×Ab):=(RC e).bind λz=>(Bc z.1).map λr=>(r,z.2.1)
theorem eX{e:Expr}{r:Str}{a:Ab}(h:mI e=some (r,a)):∃p c,e=.Call (.Name r p) a [] c:=by obtain⟨⟨f,s,c⟩,x,n⟩:=ao h;obtain⟨m,k,b⟩:=au n;obtain⟨p,rfl⟩:=jT k;cases b;exact⟨p,c,Mc x⟩
def R'(e:Expr):Option ((Expr×Str×Pos)×Ab×Pos):=(RC e).bind λz=>(MN z.1).map λr=>(r,z.2)
def Jn(j:Cn)(f:Str)(a:Expr):Option Expr:=(mI a).bind λz=>(lp z.2).bind λb=>if (decide (f=("list":Str)) && oD j z.1 "range")=true then some b else none
def Dj(j:Cn)(f:Str)(a:Expr):Option (Expr×Expr):=(mI a).bind λz=>(lQ z.2).bind λb=>if (decide (f=("dict":Str)) && oD j z.1 "zip")=true then some b else none
def G9(j:Cn)(T:Expr->Tr)(t e:Expr):Option j':=(mI e).elim ((T e).v.map gF) λz=>if oD j z.1 "range"=true then (lp z.2).bind λa=>(T a).v.map iH
  else if oD j z.1 "enumerate"=true then (lp z.2).bind λa=>if (ju t).isSome=true then (T a).v.map rD else none
  else if oD j z.1 "zip"=true then (lQ z.2).bind λa=>if (ju t).isSome=true then (T a.1).v.bind λx=>(T a.2).v.map λy=>Jq x y else none
  else (T e).v.map gF
def Ke(N:LS)(s:List (Str×NameKind))(k:List NameKind)(e:Expr):Option kE:=(Bc e).bind λx=>if bO s x k=true then (jX N x).map aK else none
def DB(N:LS)(s:List (Str×NameKind))(k:List NameKind):Ab->Option (List kE)
 | []=>some []
 |e::r=>(Ke N s k e).bind λg=>(DB N s k r).map λh=>g::h
def G8(N:LS)(s:List (Str×NameKind))(k:List NameKind)(e:Expr):Option kE:=(ju e).elim (Ke N s k e) λh=>(DB N s k h).map ci
def fN(e:Expr):LS:=((ju e).getD [e]).filterMap Bc
noncomputable def nK(N:LS):LS->LS
 | []=>[]
 |t::r=>if (N.contains t ||(nK N r).contains t)=true then nK N r else t::nK N r
def P1(N:LS)(y:LS):List Nat:=y.filterMap λt=>jX N t
def NU(j:Cn)(e:Expr):Bool:=(Bc e).any (j.own.contains ·) ||(Pr e).any λz=>(Bc z.1).any (j.deep.contains ·)
def im(j:Cn)(T:Cn->Expr->Tr)(r t iter:Expr)(i:Ab)(E:Scope):Option EV:=
 if (yp j E (j.N++nK j.N (fN t)) (P1 j.N (fN t)) (nK j.N (fN t)).length && decide (j.N++nK j.N (fN t)).Nodup)=true then
  (G8 (j.N++nK j.N (fN t)) (r_ E.names j.ks) [.local] t).bind λg=>
   (match i with | []=>some dG | [c]=>(T ⟨j.N++nK j.N (fN t),j.own.filter (λx=>!(fN t).contains x),[],j.refs,r_ E.names j.ks,j.F,j.G,j.A,j.M,j.I,none⟩ c).b|_=>none).bind λc=>
   (T ⟨j.N++nK j.N (fN t),j.own.filter (λx=>!(fN t).contains x),[],j.refs,r_ E.names j.ks,j.F,j.G,j.A,j.M,j.I,none⟩ r).v.bind λe=>
   if NU j iter=true then (T j iter).e.map λf=>pX f (P1 j.N (fN t)) (nK j.N (fN t)).length g c e
   else (G9 j (T j) t iter).map λh=>bH h (P1 j.N (fN t)) (nK j.N (fN t)).length g c e
 else none
def oe(j:Cn):Nat->Expr->Bool
 |0,_=>false
 |n+1,e=>(Bc e).any (j.own.contains ·) ||(Pr e).any (λz=>oe j n z.1) ||(MN e).any (λz=>oe j n z.1) ||(R' e).any λz=>decide (z.1.2.1=("setdefault":Str)) && oe j n z.1.1
def Jf(a:Ab):Option Expr:=(lQ a).bind λz=>(Bt z.2).bind λe=>if e.isEmpty=true then some z.1 else none
def wc(e:Expr):Bool:=[20,21,23].contains e.ctorIdx ||(R' e).isSome
def Il(e:Expr):Bool:=(Bc e).any (Of.contains ·) ||(MN e).any (Of.contains ·.2.1)
def Oe(e:Expr):Option (Expr×Expr):=if h:e.ctorIdx=0 then Expr.BoolOp.elim e h λo s _=>(lQ s).bind λz=>if (decide (o.ctorIdx=BoolOp.Or.ctorIdx) && (mI z.1).isSome)=true then some z else none else none
variable{e:Expr}{a:Expr}
theorem HN(h:Oe e=some (a,b)):∃p,e=.BoolOp .Or [a,b] p:=by
 have c:=Fu h;revert h;exact Expr.BoolOp.elim e c λo k p h=>by
  obtain⟨z,n,x⟩:=ao h;split at x
  .rename_i s;cases x;rw[az]at s;cases o with
   |Or=>exact⟨p,by rw[fH n]⟩
   |And=>cases aL s.1
  .cases x
noncomputable def fx(e:Expr):Bool:=e.ctorIdx == 8
def Ms(j:Cn)(o:Option EE)(os:Expr)(m:Str)(s:List (Option EE))(p c:Pos):Tr:=
 if (wc os && (p.endLine == c.line) && decide (s.length < 29))=true then .ofE (o.bind λx=>(vI s).map λa=>cz j.M x m a) else {}
def Ls(j:Cn)(o:Expr)(m:Str)(n:Str)(a c:Pos):Bool:=decide (m=n) && oe j 4 o && wc o && (a.endLine == c.line)
def SJ(a:Ab):Option (Expr×Str):=(lQ a).bind λz=>(Bc z.2).map λt=>(z.1,t)
def Rq(a:Ab):Option (Expr×Str×Str):=(lQ a).bind λz=>(ju z.2).bind λe=>(lQ e).bind λy=>(Bc y.1).bind λt=>(Bc y.2).map λu=>(z.1,t,u)
def Kw(j:Cn)(e:Expr):Option Expr:=(mI e).bind λz=>(lp z.2).bind λa=>if oD j z.1 "set"=true then some a else none
def ML(s:List Comprehension):Option (Expr×Expr×Ab):=(lp s).bind λg=>if g.is_async=0 then some (g.target,g.iter,g.ifs) else none
def RT(j:Cn)(T:Expr->Tr)(f:Str)(s:Ab):Tr:=if (bO j.ks f [.globalImplicit] && iq f && !s.isEmpty)=true then
  (j.I f).elim ((j.F f).elim
   ((lp s).elim
    ((SJ s).elim ((Rq s).elim {} fun z=>if (decide (f=("isinstance":Str)) && bO j.ks z.2.1 [.globalImplicit] && bO j.ks z.2.2 [.globalImplicit])=true then (n_ z.2.1).elim {} fun t=>(n_ z.2.2).elim {} fun u=>.ofV ((T z.1).e.map fun x=>AT [t,u] x) else {})
     λz=>if (decide (f=("isinstance":Str)) && bO j.ks z.2 [.globalImplicit])=true then (n_ z.2).elim {} (λt=>.ofV ((T z.1).e.map λx=>AT [t] x)) else {})
    λa=>if f=("len":Str) then (Kw j a).elim (.ofV ((T a).e.map cH)) (λb=>.ofV ((T b).v.map lP)) else if f=("sorted":Str) then .ofV ((T a).e.map Ja) else
     (Jn j f a).elim ((Dj j f a).elim (.ofV ((FO f).bind λg=>(oC [(T a).v]).map λx=>aG g x)) λz=>.ofE ((T z.1).v.bind λx=>(T z.2).v.map λy=>Fk x y)) λb=>.ofV ((T b).v.map RR))
   λg=>if j.refs.contains f=true then .ofV ((vI (s.map λx=>(T x).e)).map λa=>aP g a) else .ofV ((oC (s.map λx=>(T x).v)).map λa=>aG (pureOf g) a))
  λg=>.ofE ((vI (s.map λx=>(T x).e)).map λa=>gb (if F_.contains f=true then gD g else g) f a)
 else if (bO j.ks f [.local] && iq f)=true then (lp s).elim {} λa=>.ofV (j.L.bind λM=>(jX j.N f).bind λi=>(T a).v.map λx=>il M i x) else {}
def RU(j:Cn)(T:Expr->Tr)(o:Expr)(m:Str)(p:Pos)(s:Ab)(c:Pos):Tr:=(lp s).elim
  (if (Ls j o m "pop" p c && s.isEmpty)=true then .ofE ((T o).e.map Fj) else if (decide (m=("get":Str)) && wc o && (p.endLine == c.line))=true then (lQ s).elim {} (fun z=>.ofV ((T o).v.bind fun x=>(T z.1).v.bind fun y=>(T z.2).v.map fun z=>Dt x y z)) else
   (Jf s).elim (Ms j (T o).e o m (s.map λx=>(T x).e) p c) λa=>if Ls j o m "setdefault" p c=true then .ofE ((T o).e.bind λx=>(T a).v.map λy=>uZ x y (fj ah)) else Ms j (T o).e o m (s.map λx=>(T x).e) p c)
  λa=>if Ls j o m "append" p c=true then .ofE ((T o).e.bind λx=>(T a).e.map λy=>eT x y) else
   if Ls j o m "extend" p c=true then .ofE ((T o).e.bind λx=>(T a).v.map λy=>c0 x y) else
   if (decide (m=("index":Str)) && wc o && (p.endLine == c.line))=true then .ofV ((T o).v.bind λx=>(T a).v.map λy=>J_ x y) else
   if (decide (m=("count":Str)) && wc o && (p.endLine == c.line))=true then .ofV ((T o).v.bind λx=>(T a).v.map λy=>Ni x y) else
   (ju a).elim (Ms j (T o).e o m (s.map λx=>(T x).e) p c) λe=>if Ls j o m "get" p c=true then .ofE ((T o).e.bind λx=>(oC (e.map λz=>(T z).v)).map λy=>Jw x y) else Ms j (T o).e o m (s.map λx=>(T x).e) p c
def Ss(j:Cn)(T:Expr->Tr)(d:Cn->Expr->Tr)(e:Expr):Tr:=match e with
  | .Constant c _ _=>match c with
   | .int i=>.ofV (some (vC (.int i)))
   | .bool i=>.ofV (some (vC (.bl i)))
   | .none=>.ofV (some (vC .non))
   | .str i=>.ofV (some (vC (.str i)))
   |_=>{}
  | .Name x _=>if (bO j.ks x [.local,.cell,.free] && iq x)=true then .ofE ((jX j.N x).map U) else
    if (bO j.ks x [.globalImplicit] && iq x)=true then .ofV ((j.G x).bind λv=>if EK v=true then none else some (vC v)) else {}
  | .BinOp a p b _=>.ofV ((R9 p).bind λg=>(T a).v.bind λx=>(T b).v.map λy=>aW g x y)
  | .UnaryOp p a _=>match p with
   | .USub=>.ofV ((T a).v.map (vA jJ))
   | .Not=>(Oe a).elim (.ofB ((T a).b.map dB) ((T a).w.map dB)) λz=>{ Tr.ofV ((T z.1).v.bind λx=>(T z.2).v.map λy=>J8 x y) with b:=none }
   |_=>{}
  | .BoolOp p s _=>.ofB (vw p (s.map λx=>(T x).b)) (vw p (s.map λx=>(T x).w))
  | .Compare a h m _=>(lp h).elim (.ofC ((lQ h).bind λo=>(lQ m).bind λz=>(MK o.1).bind λg=>(MK o.2).bind λu=>(T a).v.bind λx=>(T z.1).v.bind λy=>(T z.2).v.map λz=>m5 g u x y z))
    λp=>(lp m).elim {} λb=>(MK p).elim (.ofC ((Fz (Il b) p).bind λg=>(T a).e.bind λx=>(T b).e.map λy=>a7 g x y)) λg=>.ofC ((T a).v.bind λx=>(T b).v.map λy=>aW g x y)
  | .IfExp c a b _=>if (oe j 4 a ||oe j 4 b)=true then { Tr.ofE ((T c).b.bind λq=>(T a).e.bind λx=>(T b).e.map λy=>PM q x y) with b:=none } else { Tr.ofV ((T c).b.bind λq=>(T a).v.bind λx=>(T b).v.map λy=>QD q x y) with b:=none }
  | .Tuple s _ _=>.ofV ((oC (s.map λx=>(T x).v)).map aS)
  | .List s _=>.ofV ((oC (s.map λx=>(T x).v)).map cB)
  | .Dict k H _=>if (k.isEmpty && H.isEmpty)=true then { e:=some qI,v:=some (vE qI) } else {}
  | .Subscript a i _=>(RW i).elim (if Il a=true then .ofE ((T a).e.bind λx=>(T i).v.map λy=>rM x y) else if oe j 4 a=true then (ju i).elim (.ofE ((T a).e.bind λx=>(T i).v.map λy=>kZ x y)) λs=>.ofE ((T a).e.bind λx=>(oC (s.map λz=>(T z).v)).map λy=>IF x y) else .ofV ((T a).v.bind λx=>(T i).v.map λy=>aW bj x y))
    λz=>if z.2.2.isSome=true then {} else if oe j 4 a=true then .ofV ((T a).e.bind λx=>(Nm (z.1.map λy=>(T y).v)).bind λy=>(Nm (z.2.1.map λz=>(T z).v)).map λz=>Nh x y z) else .ofV ((T a).v.bind λx=>(Nm (z.1.map λy=>(T y).v)).bind λy=>(Nm (z.2.1.map λz=>(T z).v)).map λz=>i8 x y z)
  | .Call t n k w=>if k.isEmpty=true then (Bc t).elim ((MN t).elim {} λz=>RU j T z.1 z.2.1 z.2.2 n w) (λf=>RT j T f n) else {}
  | .Attribute o f _=>if wc o=true then .ofE ((T o).e.map λx=>a8 j.A x f) else {}
  | .ListComp r l E _=>(ML l).elim {} λz=>.ofV (im j d r z.1 z.2.1 z.2.2 E)
  |_=>{}
def tr(j:Cn):Nat->Expr->Tr
 |0,_=>{}
 |n+1,e=>Ss j (λx=>tr j n x) (λh x=>tr h n x) e
noncomputable def nmP(e:Expr):Option (Str×Pos):=if h:e.ctorIdx=23 then Expr.Name.elim e h λx p=>some (x,p) else none
theorem Lp(h:nmP e=some z):e=.Name z.1 z.2:=by have c:=Fu h;revert h;exact Expr.Name.elim e c λ_ _ h=>by cases h;rfl
def Lo:Ab->Option (List (Str×Pos))
 | []=>some []
 |e::r=>(nmP e).bind λz=>(Lo r).map (z::·)
theorem Bb:∀{s:Ab}{l:List (Str×Pos)},Lo s=some l->s=l.map λz=>.Name z.1 z.2
 | [],l,h=>by cases h;rfl
 |e::s,l,h=>by obtain⟨z,x,h⟩:=ao h;obtain⟨r,a,rfl⟩:=au h;rw[Lp x,Bb a];rfl
def Rj:Bool->Str×Pos×Pos×Str×Pos×Pos×Pos
 |false=>("standing",⟨551,50,551,58⟩,⟨551,60,551,65⟩,"ends_of",⟨551,60,551,73⟩,⟨551,60,551,83⟩,rA false)
 |true=>("fact",⟨577,46,577,50⟩,⟨577,52,577,57⟩,"truths_at",⟨577,52,577,67⟩,⟨577,52,577,84⟩,rA true)
noncomputable def Rk:Bool->List (Str×Pos)
 |false=>[("standing",⟨551,74,551,82⟩)]
 |true=>[("fact",⟨577,68,577,72⟩),("standings",⟨577,74,577,83⟩)]
def LC(k:Bool)(e:Expr):Bool:=match e with
 | .Lambda ⟨[],[⟨x,none,p⟩],none,[],[],none,[]⟩ (.Call (.Attribute (.Name c h) m n) a [] s) sc o=>decide ((x,p,h,m,n,s,o)=Rj k) && decide (c=Str.ofString "court") && decide (Lo a=some (Rk k)) && decide (sc=qm k)
 |_=>false
theorem Ib(h:LC k e=true):e=gW k:=by
 unfold LC at h;split at h
 .simp only[az,tz]at h;obtain⟨⟨⟨a,rfl⟩,x⟩,rfl⟩:=h;have x:=Bb x;subst x;cases k<;>(cases a;rfl)
 .cases h
def Rn(N:LS):LS->Option (List Nat)
 | []=>some []
 |x::r=>(jX N x).bind λi=>(Rn N r).map (i::·)
def xT(j:Cn)(k:Bool)(a:Ab):Option (Ab):=a.getLast?.bind λl=>if (LC k l && j.deep.contains (rn k) && (qo k).all (λx=>bO j.ks x [.cell]) && !a.dropLast.isEmpty)=true then some a.dropLast else none
def Kf(j:Cn)(n:Nat)(g:GF)(k:Bool)(e:Ab):Option EE:=(Rn j.N (qo k)).bind λi=>(oC (e.map λx=>(tr j n x).v)).map λa=>nH g k i a
def G_(j:Cn)(n _k:Nat)(e:Expr):Option EE:=(mI e).elim (tr j n e).e λz=>if (bO j.ks z.1 [.globalImplicit] && iq z.1 && !z.2.isEmpty && j.deep.contains z.1)=true then
   (j.F z.1).elim (tr j n e).e λg=>(xT j false z.2).elim ((xT j true z.2).elim ((vI (z.2.map λx=>(tr j n x).e)).map λa=>nG g a) λs=>Kf j n g true s) λs=>Kf j n g false s
  else (tr j n e).e
def Po(j:Cn)(n k:Nat)(e:Expr):Option EE:=(Bt e).elim (G_ j n k e) λs=>(vI (s.map λx=>G_ j n k x)).map Jv
structure XOk(Γ:Cn)(X:Cx):Prop where
 hN:X.N=Γ.N
 nd:X.N.Nodup
 ks:X.e.scope.names=Γ.ks
 kd:X.e.scope.kind=.function
 calm:X.c=true
 hu:X.A.units+64 < cLine
 fns:∀x g,Γ.F x=some g->∃k f fd ps,FnOk X.p X.w X.K X.g X.b nR k f fd ps (nc X.K g)/\Room k X.A/\X.g x=some (.ref f)/\fw X.K (.ref f)=true/\Binds X.K fd ps []
 blt:∀x ∈ FP,X.g x=none
 glb:∀x v,Γ.G x=some v->mQ X.w X.K X.g x v
 attrs:P8 X.K Γ.A
 meths:P6 X Γ.M
 mks:∀c g,Γ.I c=some g->∃C k f fd ps,gn X.K c C/\X.g c=some (.ref C)/\Mk X.K C f/\FnOk X.p X.w X.K X.g X.b nR k f fd ps (nc X.K g)/\Room (k+1) X.A/\Binds X.K fd ps (if F_.contains c=true then [.none] else [])
 lam:∀k,Γ.deep.contains (rn k)=true->JF X k/\∀x,X.fn x=true
 lmf:∀M,Γ.L=some M->Pf X M
structure Good(X:Cx)(ex:Expr)(t:Tr):Prop where
 v:∀f,t.v=some f->PE X ex (tV X.K f)
 e:∀f,t.e=some f->PE X ex (tE X.K f)
 b:∀f,t.b=some f->PT X ex (tQ X.K f)
 w:∀f,t.w=some f->PE X ex (tV X.K (vB f))
section
variable{X:Cx}{e:Expr}
theorem Good.no:Good X e {}:=⟨λ_ h=>(by cases h),λ_ h=>(by cases h),λ_ h=>(by cases h),λ_ h=>(by cases h)⟩
theorem Good.el{B:Type}{o:Option B}{b:Tr}{f:B->Tr}(h:∀a,o=some a->Good X e (f a))(x:o=none->Good X e b):Good X e (o.elim b f):=by
 cases o with
 |none=>exact x rfl
 |some a=>exact h a rfl
theorem Good.ite{c:Prop}[Decidable c]{a b:Tr}(h:c->Good X e a)(x:Good X e b):Good X e (if c then a else b):=by
 by_cases q:c
 .rw [ag q];exact h q
 .rw [aj q];exact x
def F9(e:Expr):Prop:=∀env w,isTrue e env w=(do let v <- w;standAt e.pos;holding [v] (truthy v))
theorem Good.ofV{t:Option EV}(h:∀f,t=some f->PE X e (tV X.K f))(p:F9 e):Good X e (.ofV t) where
 v:=h
 e:=λf q=>by
  cases t with
  |none=>cases q
  |some g=>cases q;exact JT (h _ rfl)
 b:=λf q=>by
  cases t with
  |none=>cases q
  |some g=>cases q;exact yT (JT (h _ rfl)) (p _)
 w:=λf q=>by
  cases t with
  |none=>cases q
  |some g=>cases q;exact rT (h _ rfl)
theorem Good.ofC{t:Option EV}(h:∀f,t=some f->PE X e (tV X.K f))(x:∀f,t=some f->PT X e (tQ X.K (bV f))):Good X e (.ofC t) where
 v:=h
 e:=λf q=>by
  cases t with
  |none=>cases q
  |some g=>cases q;exact JT (h _ rfl)
 b:=λf q=>by
  cases t with
  |none=>cases q
  |some g=>cases q;exact x _ rfl
 w:=λf q=>by
  cases t with
  |none=>cases q
  |some g=>cases q;exact rT (h _ rfl)
theorem Good.ofE{t:Option EE}(h:∀f,t=some f->PE X e (tE X.K f))(p:F9 e):Good X e (.ofE t) where
 v:=λf q=>by
  cases t with
  |none=>cases q
  |some g=>cases q;exact M6 (h _ rfl)
 e:=h
 b:=λf q=>by
  cases t with
  |none=>cases q
  |some g=>cases q;exact yT (h _ rfl) (p _)
 w:=λf q=>by
  cases t with
  |none=>cases q
  |some g=>cases q;exact rT (M6 (h _ rfl))
theorem Good.ofB{b w:Option EB}(x:∀f,b=some f->PT X e (tQ X.K f))(h:∀f,w=some f->PE X e (tV X.K (vB f))):Good X e (.ofB b w) where
 v:=λf q=>by
  cases w with
  |none=>cases q
  |some g=>cases q;exact h _ rfl
 e:=λf q=>by
  cases w with
  |none=>cases q
  |some g=>cases q;exact JT (h _ rfl)
 b:=x
 w:=h
end
theorem fh{B x:Type}{o:Option B}{b r:x}{f:B->x}(h:o.elim b f=r):(∃a,o=some a/\f a=r)\/(o=none/\b=r):=by
 cases o with
 |none=>exact .inr ⟨rfl,h⟩
 |some a=>exact .inl ⟨a,rfl,h⟩
def eu(e:Expr):Prop:=∀s env,starEach (e::s) env=(false,eval e env)::starEach s env
structure RdE(e:Expr):Prop where
 st:eu e
 ix:kG e
 mr:∀op,behindInMarks op e=false
 ms:∀op op' b,lastMarks [op,op'] [b,e]=false
 ps:q_ e
 sw:fx e=false->∀t l env,swapsWith e t l env=pure false
 fs:∀env x,foldedSetIterable e env x=pure x
theorem rd_of{j:Cn}{n:Nat}{e:Expr}(h:(tr j n e).v.isSome=true\/(tr j n e).e.isSome=true):RdE e:=by
 cases n with
 |zero=>rcases h with h|h<;>cases h
 |succ n=>cases e<;>first|(rcases h with h|h<;>cases h;done)|exact⟨λ_ _=>rfl,λ_ _=>rfl,λ_=>rfl,λ_ _ _=>rfl,λ_ _ _ _=>rfl,λc _ _ _=>(by first|rfl|cases c),λ_ _=>rfl⟩
theorem dQ{j:Cn}{n:Nat}{e:Expr}{f:EV}(h:(tr j n e).v=some f):RdE e:=rd_of (.inl (by rw[h];rfl))
theorem ni{j:Cn}{n:Nat}{e:Expr}{f:EE}(h:(tr j n e).e=some f):RdE e:=rd_of (.inr (by rw[h];rfl))
variable{env:Env}{u:Pos}
theorem js(h:∀e ∈ s,eu e):(backTo u (starEach s env)).any (·.1)=false:=by
 induction s with
 |nil=>rfl
 |cons e s i=>
  rw[h e aJ s env];have:=i λx a=>h x (aN _ a)
  unfold backTo at this ⊢;rw[aD,cG,this];rfl
section
variable{j:Cn}{X:Cx}(h:XOk j X)
include h
theorem XOk.gl(q:bO j.ks x [.globalImplicit]=true):Gl X x:=by
 unfold Gl Env.kindOf;rw[h.ks];unfold bO at q;cases e:j.ks.lookup x with
 |none=>rw[e]at q;cases q
 |some k=>rw[e]at q;cases k<;>first|rfl|cases q
theorem XOk.vis(q:bO j.ks x [.local,.cell,.free]=true):IX X.e.scope x:=by
 unfold IX;rw[h.ks];unfold bO at q;cases e:j.ks.lookup x with
 |none=>rw[e]at q;cases q
 |some k=>rw[e]at q;cases k<;>first|exact .inl rfl|exact .inr (.inl rfl)|exact .inr (.inr rfl)|cases q
theorem XOk.loc(q:bO j.ks x [.local,.cell]=true):L2.Loc X.e.scope x:=by
 unfold L2.Loc;rw[h.ks];unfold bO at q;cases e:j.ks.lookup x with
 |none=>rw[e]at q;cases q
 |some k=>rw[e]at q;cases k<;>first|exact .inl rfl|exact .inr rfl|cases q
theorem XOk.local(q:bO j.ks x [.local]=true):X.e.scope.names.lookup x=some .local:=by
 rw[h.ks];unfold bO at q;cases e:j.ks.lookup x with
 |none=>rw[e]at q;cases q
 |some k=>rw[e]at q;cases k<;>first|rfl|cases q
omit h in
theorem cQ{x:Str}(q:iq x=true):(x == ("__debug__":Str))=false/\(x == ("__classdict__":Str))=false:=by unfold iq at q;rw[az]at q;exact⟨by simpa using q.1,by simpa using q.2⟩
theorem XOk.get(q:jX j.N x=some i):X.N[i]? = some x:=by rw[h.hN];exact qr q
omit h in
theorem gx{j:Cn}{n:Nat}:∀{s:Ab}{k:j'},(∀e ∈ s,Good X e (tr j n e))->oC (s.map λx=>(tr j n x).v)=some k->PA X s (pi X.K k)/\∀e ∈ s,eu e
 | [],k,_,q=>by cases q;exact⟨IV,λ_ z=>by cases z⟩
 |e::s,k,g,q=>by
  obtain⟨f,b,p⟩:=ao q;obtain⟨r,v,rfl⟩:=au p;obtain⟨m,t⟩:=gx (λx a=>g x (aN _ a)) v;have b:(tr j n e).v=some f:=b;have c:eu e:=(dQ b).st;refine⟨F6 ((g e aJ).v f b) m (c _ _),λx a=>?_⟩;rcases aM.mp a with a|a
  .subst a;exact c
  .exact t x a
omit h in
theorem lT{j:Cn}{n:Nat}:∀{s:Ab}{k:sS},(∀e ∈ s,Good X e (tr j n e))->vI (s.map λx=>(tr j n x).e)=some k->PA X s (wU X.K k)/\∀e ∈ s,eu e
 | [],k,_,q=>by cases q;exact⟨Jz,λ_ z=>by cases z⟩
 |e::s,k,g,q=>by
  obtain⟨f,b,p⟩:=ao q;obtain⟨r,v,rfl⟩:=au p;obtain⟨m,t⟩:=lT (λx a=>g x (aN _ a)) v;have b:(tr j n e).e=some f:=b;have c:eu e:=(ni b).st;refine⟨Fv ((g e aJ).e f b) m (c _ _),λx a=>?_⟩;rcases aM.mp a with a|a
  .subst a;exact c
  .exact t x a
omit h in
theorem vu{o:BoolOp}{u:Pos}{j:Cn}{n:Nat}:∀{s:Ab}{f:EB},(∀e ∈ s,Good X e (tr j n e))->vw o (s.map λx=>(tr j n x).b)=some f->PW X (.BoolOp o s u) (tQ X.K f)
 | [],f,_,q=>by cases q
 | [a],f,g,q=>by
  cases o with
  |And=>exact MZ ((g a aJ).b f q)
  |Or=>exact Qd ((g a aJ).b f q)
 |a::b::s,f,g,q=>by
  obtain⟨x,k,m⟩:=ao q;obtain⟨r,t,rfl⟩:=au m;have i:=vu (s:=b::s) (u:=u) (λx c=>g x (aN _ c)) t;cases o with
  |And=>exact Qg ((g a aJ).b x k) i
  |Or=>exact Sj ((g a aJ).b x k) i
omit h in
theorem vv{o:BoolOp}{u:Pos}{j:Cn}{n:Nat}:∀{s:Ab}{f:EB},(∀e ∈ s,Good X e (tr j n e))->vw o (s.map λx=>(tr j n x).w)=some f->PE X (.BoolOp o s u) (tV X.K (vB f))
 | [],f,_,q=>by cases q
 | [a],f,g,q=>Nd ((g a aJ).w f q)
 |a::b::s,f,g,q=>by
  obtain⟨x,k,m⟩:=ao q;obtain⟨r,t,rfl⟩:=au m;have i:=vv (s:=b::s) (u:=u) (λx c=>g x (aN _ c)) t;cases o with
  |And=>exact QC ((g a aJ).w x k) i
  |Or=>exact Sk ((g a aJ).w x k) i
omit h in
theorem ut{j:Cn}{n:Nat}{o:Option Expr}{f:EO}(g:∀e,Good X e (tr j n e))(q:Nm (o.map λy=>(tr j n y).v)=some f):PO X o (tO X.K f):=by
 cases o with
 |none=>cases q;exact Lm
 |some e=>obtain⟨x,a,rfl⟩:=au (show((tr j n e).v).map ew=some f from q);exact Ll ((g e).v x a)
theorem Md{o:Operator}{g:P->P->Option P}(q:R9 o=some g):oQ X (binaryOp o) g:=by cases o<;>first|(cases q;exact Lg)|(cases q;exact N0)|(cases q;exact Lf)|(cases q;exact HJ)|(cases q;exact N5)|(cases q;exact N1)|cases q
omit h in
theorem nJ{o:CmpOp}{g:P->P->Option P}(q:MK o=some g):oQ X (compareOp o) g:=by cases o<;>first|(cases q;exact Q_)|(cases q;exact Q')|(cases q;exact Ra)|(cases q;exact Rb)|cases q
theorem II{o:CmpOp}{g:D->D->aE->Option P}(q:O0 o=some g):gX X (compareOp o) (rE X.K g):=by cases o<;>first|(cases q;exact Oa h.hu)|(cases q;exact N3 h.hu)|(cases q;exact N9 h.hu)|(cases q;exact Eh h.hu)|(cases q;exact N6)|(cases q;exact Ei)|cases q
theorem wB(q:Fz k p=some g):gX X (compareOp p) (rE X.K g):=by
 cases k
 .exact II h q
 .cases p<;>first|(cases q;exact Eg h.hu)|(cases q;exact N7 h.hu)|cases q
theorem IN{f:Str}{g:GF}{a:Expr}{s:Ab}{x:j'}{b u:Pos}(t:j.F f=some g)(hk:bO j.ks f [.globalImplicit]=true)(v:iq f=true)(c:PA X (a::s) (pi X.K x))(n:∀e ∈ a::s,eu e) :
  PE X (.Call (.Name f b) (a::s) [] u) (tV X.K (aG (pureOf g) x)):=by
 obtain⟨k,w,i,l,G,d,q,p,m⟩:=h.fns f g t;exact Nc (FnOk.pure G) d (h.gl hk) q p m c (cQ v).1 (n a aJ _ _) (js λe r=>n e (aN _ r))
theorem wK{f:Str}{g:GF}{a:Expr}{s:Ab}{x:sS}{c u:Pos}(d:j.F f=some g)(hk:bO j.ks f [.globalImplicit]=true)(q:iq f=true)(m:PA X (a::s) (wU X.K x))(n:∀e ∈ a::s,eu e) :
  PE X (.Call (.Name f c) (a::s) [] u) (tV X.K (aP g x))/\PE X (.Call (.Name f c) (a::s) [] u) (tE X.K (nG g x)):=by
 obtain⟨k,w,i,l,G,v,t,p,r⟩:=h.fns f g d;exact⟨GY G v (h.gl hk) t p r m (cQ q).1 (n a aJ _ _) (js fun e b=>n e (aN _ b)),
  J0 G v (h.gl hk) t p r m (cQ q).1 (n a aJ _ _) (js λe b=>n e (aN _ b))⟩
theorem Me{f:Str}{g:List P->Option P}{a:Expr}{k:Ab}{b:j'}{m u:Pos}(x:FO f=some g)(hk:bO j.ks f [.globalImplicit]=true)(n:PA X (a::k) (pi X.K b))(c:∀e ∈ a::k,eu e) :
  PE X (.Call (.Name f m) (a::k) [] u) (tV X.K (aG g b)):=by
 have s:=c a aJ k X.e;have p:=js (env:=X.e) (u:=u) λe s=>c e (aN _ s);unfold FO at x;split at x
 .rename_i e;subst e;cases x;exact JO (h.gl hk) (h.blt _ (by decide)) n s p
 split at x
 .rename_i e;subst e;cases x;exact JN (h.gl hk) (h.blt _ (by decide)) n s p
 split at x
 .rename_i e;subst e;cases x;exact GW (h.gl hk) (h.blt _ (by decide)) n s p
 split at x
 .rename_i e;subst e;cases x;exact M4 (h.gl hk) (h.blt _ (by decide)) n s p
 split at x
 .rename_i e;subst e;cases x;exact M3 (h.gl hk) (h.blt _ (by decide)) n h.calm s p
 split at x
 .rename_i e;subst e;cases x;exact M0 (h.gl hk) (h.blt _ (by decide)) n h.calm s p
 .cases x
omit h in
theorem qt(x:n_ t=some T):t ∈ FP/\T ∈ l0/\bootBuiltins t=some (.type T)/\t≠"__name__"/\(t == ("__debug__":Str))=false:=by
 unfold n_ at x;split at x
 .rename_i e;subst e;cases x;exact⟨by decide,by decide,oY,by decide,by decide⟩
 split at x
 .rename_i e;subst e;cases x;exact⟨by decide,by decide,GN,by decide,by decide⟩
 split at x
 .rename_i e;subst e;cases x;exact⟨by decide,by decide,yW,by decide,by decide⟩
 split at x
 .rename_i e;subst e;cases x;exact⟨by decide,by decide,yS,by decide,by decide⟩
 split at x
 .rename_i e;subst e;cases x;exact⟨by decide,by decide,GQ,by decide,by decide⟩
 .cases x
theorem LN{t:Str}{T:String}{a:Expr}{f:EE}{p q u:Pos}(m:n_ t=some T)(hk:bO j.ks ("isinstance":Str) [.globalImplicit]=true)(k:bO j.ks t [.globalImplicit]=true)(c:PE X a (tE X.K f))(r:eu a) :
  PE X (.Call (.Name "isinstance" p) [a,.Name t q] [] u) (tV X.K (AT [T] f)):=by
 obtain⟨x,e,s,n,b⟩:=qt m;exact Qx e (h.gl hk) (h.blt ("isinstance":Str) (by decide)) (h.gl k) (h.blt _ x) s c n b (by rw[r];rfl)
theorem Ik(v:n_ t=some T)(d:n_ s=some b)(hk:bO j.ks ("isinstance":Str) [.globalImplicit]=true)(k:bO j.ks t [.globalImplicit]=true)(x:bO j.ks s [.globalImplicit]=true)(q:PE X a (tE X.K m))(z:eu a) :
  PE X (.Call (.Name "isinstance" A) [a,.Tuple [.Name t G,.Name s I] c C] [] u) (tV X.K (AT [T,b] m)):=by
 obtain⟨e,n,f,r,p⟩:=qt v;obtain⟨w,g,i,l,y⟩:=qt d;exact Qw n g (h.gl hk) (h.blt ("isinstance":Str) (by decide)) (h.gl k) (h.blt _ e) f (h.gl x) (h.blt _ w) i q r p l y (by rw[z];rfl)
omit h in
theorem gA{f g:Str}(q:oD j f g=true):f=g/\bO j.ks f [.globalImplicit]=true:=by unfold oD at q;rw[az]at q;exact⟨aL q.1,q.2⟩
theorem Jp{n:Nat}{v e:Expr}{f:j'}(g:∀x,Good X x (tr j n x))(q:G9 j (λx=>tr j n x) v e=some f):PI X v e (tI X.K f):=by
 have plain:((tr j n e).v.map gF=some f)->PI X v e (tI X.K f):=λq=>by obtain⟨x,s,rfl⟩:=au q;exact iS ((g e).v x s)
 have H:=fh q;clear q;rcases H with ⟨⟨S,d⟩,z,q⟩|⟨_,q⟩
 .obtain⟨F,u,rfl⟩:=eX z;dsimp only at q;split at q
  .rename_i r;obtain⟨rfl,r⟩:=gA r;obtain⟨a,m,k⟩:=ao q;clear q;cases dh m;obtain⟨x,s,rfl⟩:=au k;exact SR (h.gl r) (h.blt ("range":Str) (by decide)) ((g a).v x s) ((dQ s).st _ _)
  .split at q
   .rename_i r;obtain⟨rfl,r⟩:=gA r;obtain⟨a,m,k⟩:=ao q;clear q;cases dh m;split at k
    .rename_i t;obtain⟨x,s,rfl⟩:=au k;obtain⟨l,t⟩:=lC.mp t;obtain⟨c,p,rfl⟩:=fM t;exact SS (h.gl r) (h.blt ("enumerate":Str) (by decide)) ((g a).v x s) ((dQ s).st _ _)
    .cases k
   .split at q
    .rename_i r;obtain⟨rfl,r⟩:=gA r;obtain⟨⟨a,b⟩,m,k⟩:=ao q;clear q;cases fH m;split at k
     .rename_i t;obtain⟨x,s,o⟩:=ao k;obtain⟨y,w,rfl⟩:=au o;obtain⟨l,t⟩:=lC.mp t;obtain⟨c,p,rfl⟩:=fM t;have i:starEach [b] X.e=[(false,eval b X.e)]:=(dQ w).st _ _;exact iZ (h.gl r) (h.blt ("zip":Str) (by decide)) ((g a).v x s) ((g b).v y w) (by rw[(dQ s).st,i]) i
     .cases k
    .exact plain q
 .exact plain q
omit h in
theorem BS{f:Str}{a b c:Expr}(q:Dj j f a=some (b,c)):f="dict"/\∃r p x,a=.Call (.Name r p) [b,c] [] x/\oD j r "zip"=true:=by
 obtain⟨⟨r,m⟩,z,n⟩:=ao q;obtain⟨⟨t,v⟩,k,s⟩:=ao n;clear q n;obtain⟨p,x,rfl⟩:=eX z;cases fH k;split at s
 .rename_i e;cases s;simp only[az]at e;exact⟨aL e.1,r,p,x,rfl,e.2⟩
 .cases s
omit h in
theorem Er{f:Str}{a b:Expr}(q:Jn j f a=some b):f="list"/\∃r p c,a=.Call (.Name r p) [b] [] c/\oD j r "range"=true:=by
 obtain⟨⟨r,m⟩,z,s⟩:=ao q;obtain⟨t,k,e⟩:=ao s;clear q s;obtain⟨p,n,rfl⟩:=eX z;cases dh k;split at e
 .rename_i x;cases e;simp only[az]at x;exact⟨aL x.1,r,p,n,rfl,x.2⟩
 .cases e
omit h in
theorem v_{n:Nat}{t e:Expr}{f:j'}(q:G9 j (λx=>tr j n x) t e=some f)(env:Env)(x:Value):foldedSetIterable e env x=pure x:=by
 have s:=fh q;clear q;rcases s with ⟨⟨b,a⟩,z,q⟩|⟨_,q⟩
 .obtain⟨p,u,rfl⟩:=eX z;rfl
 .obtain⟨x,k,rfl⟩:=au q;exact(dQ k).fs _ _
theorem FQ(q:yp j E o y n=true):BlockOk X E o y n:=by
 unfold yp at q;simp only[az]at q;obtain⟨⟨⟨⟨⟨⟨f,b⟩,c⟩,m⟩,r⟩,p⟩,v⟩:=q;have s:j.N=o.take j.N.length:=aL r;refine⟨aL f,λx a=>?_,λx a l=>?_,λx a l=>?_,?_,?_,λx a l i k=>?_⟩
 .simpa using bD.mp b x a
 .have:=bD.mp c x a;rw[l]at this;simpa using this
 .have:=bD.mp m x a;rw[l]at this;have t:E.names.lookup x.1=some .free/\(j.ks.lookup x.1=some .cell\/j.ks.lookup x.1=some .free):=by simpa using this
  refine⟨t.1,?_⟩;unfold Env.kindOf;rw[h.ks];exact t.2
 .rw [h.hN];exact s
 .rw [h.hN];exact aL p
 .have:=bD.mp v x a;rw[l]at this;have e:jX j.N x.1=some i:=nZ (by rw[<- h.hN];exact h.nd) (by rw[<- h.hN];exact k);rw[e]at this;simpa using this
end
theorem Jm{X:Cx}{N:LS}{s:List (Str×NameKind)}{k:List NameKind}{e:Expr}{g:kE}(f:X.N=N)(d:X.N.Nodup)(hk:∀x,bO s x k=true->L2.Loc X.e.scope x/\(X.fn x=true\/X.e.scope.names.lookup x=some .local))(q:Ke N s k e=some g):∃x p,e=.Name x p/\PG X (.Name x p) (gT X.K g):=by
 obtain⟨x,b,h⟩:=ao q;clear q;obtain⟨p,rfl⟩:=jT b;split at h
 .rename_i c;obtain⟨i,m,rfl⟩:=au h;obtain⟨a,n⟩:=hk _ c;exact⟨x,p,rfl,LZ i d (by rw[f];exact qr m) a n⟩
 .cases h
theorem DC{X:Cx}{N:LS}{n:List (Str×NameKind)}{k:List NameKind}{e:Expr}{g:kE}(t:X.c=true)(b:X.N=N)(d:X.N.Nodup)(hk:∀x,bO n x k=true->L2.Loc X.e.scope x/\(X.fn x=true\/X.e.scope.names.lookup x=some .local))(q:G8 N n k e=some g):PG X e (gT X.K g):=by
 have all:∀{s:Ab}{h:List kE},DB N n k s=some h->GsOk X s h:=by
  intro s;induction s with
  |nil=>intro h q;cases q;exact .nil
  |cons e s i=>intro h q;obtain⟨g,f,m⟩:=ao q;obtain⟨r,w,rfl⟩:=au m;clear q m;obtain⟨x,p,rfl,a⟩:=Jm b d hk f;exact .cons a (i w)
 have v:=fh q;clear q;rcases v with ⟨s,z,q⟩|⟨_,q⟩
 .obtain⟨c,p,rfl⟩:=fM z;obtain⟨h,f,rfl⟩:=au q;exact LY t (all f)
 .obtain⟨x,p,rfl,a⟩:=Jm b d hk q;exact a
variable{E:Scope}
theorem DS(hk:env.scope.kind=.function):(relabel E env).names=r_ E.names env.scope.names:=by unfold relabel r_ Env.kindOf;rw[hk];simp
variable{j:Cn}{X:Cx}{o:LS}{y:List Nat}{n:Nat}
theorem XOk.inn(h:XOk j X)(B:BlockOk X E o y n)(d:o.Nodup)(s:Shared)(H:Hp)(C:Addr)(f:List Addr) :
  XOk ⟨o,[],[],j.refs,r_ E.names j.ks,j.F,j.G,j.A,j.M,j.I,none⟩ (Ev.inn X E o s H C f) where
 hN:=rfl
 nd:=d
 ks:=by show(relabel E X.e).names=_;rw[DS h.kd,h.ks]
 kd:=B.kind
 calm:=h.calm
 hu:=h.hu
 fns:=h.fns
 blt:=h.blt
 glb:=h.glb
 attrs:=h.attrs
 meths:=h.meths
 mks:=h.mks
 lam:=λ_ z=>by cases z
 lmf:=λg z=>by cases z
theorem je(B:BlockOk X E o y n)(I:Inv X t J H s):closureFor E X.e=pure (lu E X.e):=by
 have all:∀x ∈ E.names,x.2=.free->∃c,X.e.cells.lookup x.1=some c:=λx d e=>I.o.has x.1 (B.fr x d e).2;unfold closureFor lu;have b:∀(l:List (Str×NameKind))(a:List (Str×Addr)),(∀x ∈ l,x.2=.free->∃c,X.e.cells.lookup x.1=some c) ->
   (forIn l a fun (x:Str×NameKind) (r:List (Str×Addr))=>(do
    if x.2 == .free then do
     let c <- cellOf X.e x.1
     pure (ForInStep.yield ((x.1,c)::r))
    else pure (ForInStep.yield r):Sem (ForInStep (List (Str×Addr)))))=pure ((((l.filter λx=>x.2 == .free).map λx=>(x.1,(X.e.cells.lookup x.1).getD 0)).reverse)++a):=by
  intro l;induction l with
  |nil=>intro a _;rfl
  |cons x l i=>
   intro a e;rw[gw];by_cases hk:(x.2 == NameKind.free)=true
   .obtain⟨c,m⟩:=e x aJ (by simpa using hk);rw[ag hk,List.filter_cons_of_pos (p:=λ(x:Str×NameKind)=>x.2 == .free) hk,aD,List.reverse_cons,lI];have v:cellOf X.e x.1=pure c:=by unfold cellOf;rw[m]
    rw[v,m];show(forIn l ((x.1,c)::a) _:Sem _)=_;rw[i ((x.1,c)::a) λh f=>e h (aN _ f)];rfl
   .rw [aj hk,List.filter_cons_of_neg (p:=λ(x:Str×NameKind)=>x.2 == .free) hk];show(forIn l a _:Sem _)=_;rw[i a λh f=>e h (aN _ f)]
 have k:=b E.names [] all;rw [cW] at k;show (Bind.bind (forIn E.names [] fun (x:Str×NameKind) (r:List (Str×Addr))=>(do
    if x.2 == .free then do
     let c <- cellOf X.e x.1
     pure (ForInStep.yield ((x.1,c)::r))
    else pure (ForInStep.yield r):Sem (ForInStep (List (Str×Addr))))) λq=>pure q:Sem (List (Str×Addr)))=_
 rw[k];rfl
def mR(n:Nat):Prop:=∀(j:Cn)(X:Cx),XOk j X->∀e,Good X e (tr j n e)
theorem XOk.own(h:XOk j X)(o:LS):XOk ⟨j.N,o,j.deep,j.refs,j.ks,j.F,j.G,j.A,j.M,j.I,j.L⟩ X:=⟨h.hN,h.nd,h.ks,h.kd,h.calm,h.hu,h.fns,h.blt,h.glb,h.attrs,h.meths,h.mks,h.lam,h.lmf⟩
theorem j6{j:Cn}{X:Cx}(h:XOk j X){n:Nat}(G:mR n){r t iter:Expr}{b:Ab}{E:Scope}{f:EV}(q:im j (λu x=>tr u n x) r t iter b E=some f) :
  ∃o y m g l z,BlockOk X E o y m/\oz X t iter f y m g l z/\(∀s H C p,PG (inn X E o s H C p) t (gT X.K g))/\(∀s H C p,PIfs (inn X E o s H C p) b l)/\(∀s H C p,PE (inn X E o s H C p) r (tV X.K z)) /\
   ∀x,foldedSetIterable iter X.e x=pure x:=by
 unfold im at q;generalize N:j.N++nK j.N (fN t)=o at q;generalize A:P1 j.N (fN t)=y at q;generalize L:(nK j.N (fN t)).length=m at q;split at q
 .rename_i d;rw[az]at d;obtain⟨S,D,q⟩:=ao q;obtain⟨c,w,q⟩:=ao q;obtain⟨e,I,q⟩:=ao q;have B:BlockOk X E o y m:=FQ h d.1;have K:o.Nodup:=aL d.2;have i:=λs H C p=>(h.inn B K s H C p).own (j.own.filter (λx=>!(fN t).contains x))
  have W:oz X t iter f y m S c e/\∀x,foldedSetIterable iter X.e x=pure x:=by
   split at q
   .obtain⟨P,v,rfl⟩:=au q;exact⟨L7 ((G j X h iter).e P v),(ni v).fs _⟩
   .obtain⟨M,v,rfl⟩:=au q;exact⟨O1 (Jp h (G j X h) v),λx=>v_ v _ x⟩
  refine⟨o,y,m,S,c,e,B,W.1,λs H C p=>?_,λs H C p=>?_,λs H C p=>?_,W.2⟩
  .exact DC h.calm rfl K (λx F=>⟨.inl ((i s H C p).local F),.inr ((i s H C p).local F)⟩) D
  .cases b with
   |nil=>cases w;exact PIfs.none
   |cons a k=>
    cases k with
    |nil=>exact PIfs.one ((G _ _ (i s H C p) a).b c w)
    |cons _ _=>cases w
  .exact (G _ _ (i s H C p) r).v e I
 .cases q
theorem wC{j:Cn}{X:Cx}(h:XOk j X){n:Nat}(G:mR n){r t iter:Expr}{e:Ab}{E:Scope}{u:Pos}{f:EV}(q:im j (λc x=>tr c n x) r t iter e E=some f) :
  PE X (.ListComp r [⟨t,iter,e,0⟩] E u) (tV X.K f)/\∀(i:Nat){x:Str}{b a:Pos},X.N.Nodup->swapsWith (.ListComp r [⟨t,iter,e,0⟩] E u) (some (.Name x b)) a.line X.e=pure true->X.N[i]? = some x->L2.Loc X.e.scope x->(X.fn x=true\/X.e.scope.names.lookup x=some .local) ->
   PS X (.Assign [.Name x b] (.ListComp r [⟨t,iter,e,0⟩] E u) a) (i_ X.K (aZ i (eV f))):=by
 obtain⟨o,y,m,P,F,K,B,W,v,d,w,g⟩:=j6 h G q;exact⟨λp s J H Q I q=>Na B h.calm W v d w (je B I) g p s J H Q I q,λi x b a N S k z l p s J H D I q=>MX i N B h.calm W v d w (je B I) S g k z l p s J H D I q⟩
variable{r:Expr}{f:EV}
theorem sJ(h:XOk j X)(G:mR n)(q:im j (λa x=>tr a n x) r t iter i E=some f):PE X (.ListComp r [⟨t,iter,i,0⟩] E u) (tE X.K (sB f)):=by obtain⟨o,y,m,g,v,d,B,W,e,k,b,c⟩:=j6 h G q;exact λp s J H Q I q=>JY B h.calm W e k b (je B I) c p s J H Q I q
variable{x:Str}
theorem CA(h:XOk j X)(G:mR n)(q:im j (λe x=>tr e n x) r t iter k E=some f)(i:Nat)(S:swapsWith (.ListComp r [⟨t,iter,k,0⟩] E u) (some (.Name x z)) b.line X.e=pure true)
  (a:X.N[i]? = some x) (v:L2.Loc X.e.scope x) (c:X.fn x=true\/X.e.scope.names.lookup x=some .local):PS X (.Assign [.Name x z] (.ListComp r [⟨t,iter,k,0⟩] E u) b) (i_ X.K (aZ i (sB f))):=by
 obtain⟨o,y,m,P,F,K,B,W,d,w,g,l⟩:=j6 h G q;exact λp s J H D I q=>JL i h.nd B h.calm W d w g (je B I) S l a v c p s J H D I q
theorem DM{s:Ab}{a:Expr}(h:Jf s=some a):∃p,s=[a,.List [] p]:=by
 obtain⟨⟨c,b⟩,e,f⟩:=ao h;obtain⟨m,n,x⟩:=ao f;obtain⟨p,rfl⟩:=qv n;split at x
 .rename_i k;cases x;cases lH.mp k;exact⟨p,fH e⟩
 .cases x
theorem qi{j:Cn}{o:Expr}{m n:Str}{a c:Pos}(h:Ls j o m n a c=true):m=n/\wc o=true/\(a.endLine == c.line)=true:=by unfold Ls at h;simp only[az]at h;exact⟨aL h.1.1.1,h.1.2,h.2⟩
theorem cA{o:Expr}{x:Str}{env:Env}(h:wc o=true):attributeBase o x env (eval o env)=eval o env:=by
 cases o with
 |Call f a k p=>
  cases f with
  |Name x q=>cases k<;>cases h
  |_=>rfl
 |_=>rfl
theorem Iw(h:∀e ∈ s,eu e)(l:s.length < 29):methodCallForm (s.length+([]:List Keyword).length) (backTo u (starEach s env)) (backToKw u (keywordEach [] env))=true:=by
 unfold methodCallForm;have a:=js (env:=env) (u:=u) h;have n:(backTo u (starEach s env)).all (λx=>!x.1)=true:=by
  rw[bD];intro x f;cases b:x.1 with
  |false=>rfl
  |true=>have:(backTo u (starEach s env)).any (·.1)=true:=lG.mpr ⟨x,f,b⟩;rw[a]at this;cases this
 rw[n];have k:(backToKw u (keywordEach [] env))=[]:=rfl;rw[k];simp;lia
theorem uu{j:Cn}{X:Cx}(h:XOk j X){n:Nat}(g:∀x,Good X x (tr j n x)){o:Expr}{m:Str}{r:Ab}{p k:Pos}:Good X (.Call (.Attribute o m p) r [] k) (Ms j (tr j n o).e o m (r.map λx=>(tr j n x).e) p k):=by
 unfold Ms;split
 .rename_i c;simp only[az]at c;have l:r.length < 29:=by have:=aL c.2;rwa [bv]at this
  refine .ofE (λf q=>?_) λ_ _=>rfl;obtain⟨x,t,q⟩:=ao q;obtain⟨a,v,rfl⟩:=au q;obtain⟨d,s⟩:=lT (λe _=>g e) v;have b:=Lv (o:=o) (y:=m) (j:=p) (N:=k) (v:=r) (r:=X.e) (cA c.1.1) (Iw s l) c.1.2;cases r with
  |nil=>cases v;exact JQ h.meths ((g o).e x t) b
  |cons e i=>exact M7 h.meths ((g o).e x t) d (s e aJ _ _) (js λy w=>s y (aN _ w)) b
 .exact .no
theorem HU{j:Cn}{X:Cx}(h:XOk j X){f:Str}{g:GF}{a:Expr}{s:Ab}{x:sS}{w u:Pos}(l:j.I f=some g)(hk:bO j.ks f [.globalImplicit]=true)(r:iq f=true)(c:PA X (a::s) (wU X.K x))(v:∀e ∈ a::s,eu e) :
  PE X (.Call (.Name f w) (a::s) [] u) (tE X.K (gb (if F_.contains f=true then gD g else g) f x)):=by
 obtain⟨C,k,y,z,o,n,m,mk,G,t,b⟩:=h.mks f g l;have p:=v a aJ s X.e;have q:=js (env:=X.e) (u:=u) λe i=>v e (aN _ i);by_cases d:F_.contains f=true
 .rw [ag d]at b ⊢;exact JR mk G t (h.gl hk) m n b c (cQ r).1 p q
 .rw [aj d]at b ⊢;exact M8 mk G t (h.gl hk) m n b c (cQ r).1 p q
theorem yh{g:List Comprehension}{t iter:Expr}{i:Ab}(h:ML g=some (t,iter,i)):g=[⟨t,iter,i,0⟩]:=by
 obtain⟨⟨a,b,c,d⟩,x,p⟩:=ao h;split at p
 .rename_i e;cases p;cases (show d=0 from e);exact dh x
 .cases p
section
variable{j:Cn}{X:Cx}(h:XOk j X){n:Nat}(g:∀x,Good X x (tr j n x))
include h g
theorem Kh{f:Str}{P:Ab}{fp V:Pos}:Good X (.Call (.Name f fp) P [] V) (RT j (λx=>tr j n x) f P):=by
 refine .ite (λk=>?_) (.ite (λk=>.el (λa d=>?_) λ_=>.no) .no);rotate_left
 .rw [az]at k;cases dh d;refine .ofV (λf2 q=>?_) λ_ _=>rfl;obtain⟨gl,q0,q⟩:=ao q;obtain⟨i,s,q⟩:=ao q;obtain⟨x,m,rfl⟩:=au q;have hv:IX X.e.scope f:=by
   unfold IX;rw[h.ks];have k:=k.1;unfold bO at k;split at k
   .rename_i kk Z;rw[Z];cases kk<;>first|exact .inl rfl|cases k
   .cases k
  exact J2 (h.lmf gl q0) (M5 i (h.get s) hv (cQ k.2).1 (cQ k.2).2) ((g _).v x m) ((dQ m).st _ _)
 simp only[az,kr]at k;cases P with
 |nil=>cases k.2
 |cons a P=>
 refine .el (λgf A=>?_) λ_=>.el (λgf A=>.ite (λ_=>?_) ?_) λ_=>.el (λC d=>?_) λ_=>.el (λ⟨C,t⟩ d=>?_) λ_=>.el (λ⟨C,t,u⟩ d=>?_) λ_=>.no
 .refine .ofE (λf q=>?_) λ_ _=>rfl;obtain⟨x,s,rfl⟩:=au q;obtain⟨p,v⟩:=lT (λe _=>g e) s;exact HU h A k.1.1 k.1.2 p v
 .refine .ofV (λf q=>?_) λ_ _=>rfl;obtain⟨x,s,rfl⟩:=au q;obtain⟨p,v⟩:=lT (λe _=>g e) s;exact(wK h A k.1.1 k.1.2 p v).1
 .refine .ofV (λf q=>?_) λ_ _=>rfl;obtain⟨x,s,rfl⟩:=au q;obtain⟨p,v⟩:=gx (λe _=>g e) s;exact IN h A k.1.1 k.1.2 p v
 .cases dh d;refine .ite (λE=>?_) (.ite (λE=>?_) (.el (λb K=>?_) λ_=>.el (λ⟨b,c⟩ K=>?_) λ_=>?_))
  .subst E;refine .el (λb K=>?_) λ_=>?_
   .obtain⟨⟨r,L⟩,S,H⟩:=ao K;obtain⟨C,F,l⟩:=ao H;split at l
    .rename_i D;cases l;obtain⟨fp2,W,rfl⟩:=eX S;cases dh F;obtain⟨rfl,hs⟩:=gA D;refine .ofV (λf q=>?_) λ_ _=>rfl
     obtain⟨x,s,rfl⟩:=au q;exact G0 h.calm h.hu (h.gl k.1.1) (h.blt _ (by decide)) (h.gl hs) (h.blt _ (by decide)) ((g _).v x s) ((dQ s).st _ _)
    .cases l
   refine .ofV (λf q=>?_) λ_ _=>rfl;obtain⟨x,s,rfl⟩:=au q;exact Qs (h.gl k.1.1) (h.blt _ (by decide)) ((g _).e x s) ((ni s).st _ _)
  .subst E;refine .ofV (λf q=>?_) λ_ _=>rfl
   obtain⟨x,s,rfl⟩:=au q;exact Dn (h.gl k.1.1) (h.blt _ (by decide)) ((g _).e x s) ((ni s).st _ _)
  .obtain⟨rfl,r,B,R,rfl,z⟩:=Er K;refine .ofV (λf q=>?_) λ_ _=>rfl;obtain⟨x,s,rfl⟩:=au q;obtain⟨rfl,z⟩:=gA z;exact GX h.calm (h.gl k.1.1) (h.blt _ (by decide)) (h.gl z) (h.blt _ (by decide)) ((g _).v x s) ((dQ s).st _ _)
  .obtain⟨rfl,r,B,R,rfl,z⟩:=BS K;refine .ofE (λf q=>?_) λ_ _=>rfl;obtain⟨x,s,q⟩:=ao q;obtain⟨y,m,rfl⟩:=au q;obtain⟨rfl,z⟩:=gA z;have I:starEach [c] X.e=[(false,eval c X.e)]:=(dQ m).st _ _;exact JU h.calm (h.gl k.1.1) (h.blt _ (by decide)) (h.gl z) (h.blt _ (by decide)) ((g _).v x s) ((g _).v y m) (by rw[(dQ s).st,I]) I yU
  .refine .ofV (λf q=>?_) λ_ _=>rfl;obtain⟨o,s,q⟩:=ao q;obtain⟨x,m,rfl⟩:=au q;obtain⟨p,v⟩:=gx (s:=[a]) (λe _=>g e) m;exact Me h s k.1.1 p v
 .refine .ite (λw=>?_) .no;rw[az]at w;cases aL w.1;obtain⟨⟨p,v⟩,S,H⟩:=ao d;obtain⟨t',F,l⟩:=au H;cases l;obtain⟨tp,rfl⟩:=jT F;cases fH S;refine .el (λT s=>?_) λ_=>.no;refine .ofV (λf q=>?_) λ_ _=>rfl;obtain⟨x,m,rfl⟩:=au q;exact LN h s k.1.1 w.2 ((g _).e x m) (ni m).st
 .refine .ite (λw=>?_) .no;simp only[az]at w;cases aL w.1.1;obtain⟨⟨p,v⟩,S,H⟩:=ao d;obtain⟨es,F,l⟩:=ao H;obtain⟨⟨y1,y2⟩,M,B⟩:=ao l;obtain⟨t',N,G⟩:=ao B;obtain⟨u',Q,p4⟩:=au G;cases p4;clear d H l B G;obtain⟨tp,rfl⟩:=jT N;obtain⟨up,rfl⟩:=jT Q;cases fH M;obtain⟨c,p9,rfl⟩:=fM F;cases fH S;refine .el (λT s=>.el (λU9 q3=>?_) λ_=>.no) λ_=>.no;refine .ofV (λf q=>?_) λ_ _=>rfl;obtain⟨x,m,rfl⟩:=au q;exact Ik h s q3 k.1.1 w.1.2 w.2 ((g _).e x m) (ni m).st
theorem Ki{o:Expr}{m:Str}{w:Ab}{u i:Pos}:Good X (.Call (.Attribute o m u) w [] i) (RU j (λx=>tr j n x) o m u w i):=by
 have l:X.A.units+1 < cLine:=by have:=h.hu;lia
 refine .el (λa d=>?_) λ_=>?_
 .cases dh d;refine .ite (λs=>?_) (.ite (λs=>?_) (.ite (λs=>?_) (.ite (λs=>?_) (.el (λA K=>.ite (λs=>?_) (uu h g)) λ_=>uu h g))))
  .obtain⟨rfl,t,v⟩:=qi s;refine .ofE (λf q=>?_) λ_ _=>rfl;obtain⟨x,r,q⟩:=ao q;obtain⟨y,k,rfl⟩:=au q;exact G2 ((g _).e x r) ((g _).e y k) ((ni k).st _ _) (cA t) v
  .obtain⟨rfl,t,v⟩:=qi s;refine .ofE (λf q=>?_) λ_ _=>rfl;obtain⟨x,r,q⟩:=ao q;obtain⟨y,k,rfl⟩:=au q;exact G1 ((g _).e x r) ((g _).v y k) ((dQ k).st _ _) (cA t) v
  .simp only[az]at s;cases aL s.1.1;refine .ofV (λf q=>?_) λ_ _=>rfl;obtain⟨x,r,q⟩:=ao q;obtain⟨y,k,rfl⟩:=au q;exact JS h.hu ((g _).v x r) ((g _).v y k) ((dQ k).st _ _) (cA s.1.2) s.2
  .simp only[az]at s;cases aL s.1.1;refine .ofV (λf q=>?_) λ_ _=>rfl;obtain⟨x,r,q⟩:=ao q;obtain⟨y,k,rfl⟩:=au q;exact JX h.hu ((g _).v x r) ((g _).v y k) ((dQ k).st _ _) (cA s.1.2) s.2
  .obtain⟨c,p,rfl⟩:=fM K;obtain⟨rfl,t,v⟩:=qi s;refine .ofE (λf q=>?_) λ_ _=>rfl;obtain⟨x,r,q⟩:=ao q;obtain⟨y,k,rfl⟩:=au q;exact M' l ((g _).e x r) (gx (λe _=>g e) k).1 ⟨cA t,rfl,v,rfl⟩
 .refine .ite (λs=>?_) (.ite (λs=>.el (λ⟨a,b⟩ d=>?_) λ_=>.no) (.el (λa d=>.ite (λs=>?_) (uu h g)) λ_=>uu h g))
  .rw [az]at s;obtain⟨rfl,t,v⟩:=qi s.1;cases w with
   |cons _ _=>cases s.2
   |nil=>refine .ofE (λf q=>?_) λ_ _=>rfl;obtain⟨x,r,rfl⟩:=au q;exact Qm ((g _).e x r) (cA t) v
  .simp only[az]at s;cases aL s.1.1;cases fH d;refine .ofV (λf q=>?_) λ_ _=>rfl;obtain⟨x,r,q⟩:=ao q;obtain⟨y,k,q⟩:=ao q;obtain⟨z,S,rfl⟩:=au q;have P:starEach [b] X.e=[(false,eval b X.e)]:=(dQ S).st _ _;have F:starEach [a,b] X.e=[(false,eval a X.e),(false,eval b X.e)]:=by rw[(dQ k).st,P]
   exact JP l ((g _).v x r) ((g _).v y k) ((g _).v z S) ⟨cA s.1.2,by rw[F];rfl,s.2,by rw[F];rfl⟩
  .obtain⟨p,rfl⟩:=DM d;obtain⟨rfl,t,v⟩:=qi s;refine .ofE (λf q=>?_) λ_ _=>rfl;obtain⟨x,r,q⟩:=ao q;obtain⟨y,k,rfl⟩:=au q;have H:=(dQ k).st;exact GZ ((g _).e x r) ((g _).v y k) (I_ IV) ⟨cA t,by rw[H];rfl,v,by rw[H];rfl⟩
end
theorem lS:∀n,mR n
 |0=>λj X h e=>Good.no
 |n+1=>by
  have G:=lS n;intro j X h e;have g:=G j X h;cases e with
  |Constant c k p=>
   cases c with
   |int i=>exact .ofV (λf q=>by cases q;exact Qy) λ_ _=>rfl
   |bool i=>exact .ofV (λf q=>by cases q;exact Sq) λ_ _=>rfl
   |none=>exact .ofV (λf q=>by cases q;exact Qp) λ_ _=>rfl
   |str i=>exact .ofV (λf q=>by cases q;exact Qi) λ_ _=>rfl
   |_=>exact .no
  |Name x p=>
   refine .ite (λw=>?_) (.ite (λw=>?_) .no)
   .rw [az]at w;refine .ofE (λf q=>?_) λ_ _=>rfl;obtain⟨i,s,rfl⟩:=au q;exact M5 i (h.get s) (h.vis w.1) (cQ w.2).1 (cQ w.2).2
   .rw [az]at w;refine .ofV (λf q=>?_) λ_ _=>rfl;obtain⟨v,s,q⟩:=ao q;split at q
    .cases q
    .rename_i T;cases q;exact M_ (h.gl w.1) ((h.glb _ v s).1 (by simpa using T)) (cQ w.2).1
  |BinOp a H b p=>refine .ofV (λf q=>?_) λ_ _=>rfl;obtain⟨o,s,q⟩:=ao q;obtain⟨x,t,q⟩:=ao q;obtain⟨y,d,rfl⟩:=au q;exact Sl (Md h s) ((g _).v x t) ((g _).v y d)
  |UnaryOp H a p=>
   cases H with
   |USub=>refine .ofV (λf q=>?_) λ_ _=>rfl;obtain⟨x,s,rfl⟩:=au q;exact Qq ((g _).v x s)
   |Not=>
    refine .el (λ⟨b,c⟩ D=>?_) λ_=>.ofB (λf q=>?_) λf q=>?_
    .obtain⟨p3,rfl⟩:=HN D;have l:∀f,((tr j n b).v.bind λx=>(tr j n c).v.map λy=>J8 x y)=some f->PE X (.UnaryOp .Not (.BoolOp .Or [b,c] p3) p) (tV X.K f):=λf q=>by
      obtain⟨x,s,q⟩:=ao q;obtain⟨y,t,rfl⟩:=au q;exact Qo ((g _).v x s) ((g _).v y t)
     refine⟨l,λf q=>?_,λf q=>(by cases q),λf q=>?_⟩
     .obtain⟨x,s,rfl⟩:=au (show gZ eV _=some f from q);exact JT (l _ s)
     .obtain⟨x,s,rfl⟩:=au (show gZ bV _=some f from q);exact rT (l _ s)
    .obtain⟨x,s,rfl⟩:=au q;exact Qe ((g _).b x s)
    .obtain⟨x,s,rfl⟩:=au q;exact Qn ((g _).w x s)
   |_=>exact .no
  |BoolOp H P p=>exact .ofB (λf q=>(vu (λe _=>g e) q).pt) λf q=>vv (λe _=>g e) q
  |Compare a S K p=>
   refine .el (λH B=>?_) λ_=>?_
   .cases dh B;refine .el (λb R=>?_) λ_=>.no
    cases dh R;refine .el (λA s=>?_) λ_=>?_
    .have u:∀f,((tr j n a).v.bind λx=>(tr j n b).v.map λy=>aW A x y)=some f->PE X (.Compare a [H] [b] p) (tV X.K f)/\PT X (.Compare a [H] [b] p) (tQ X.K (bV f)):=λf q=>by
      obtain⟨x,t,q⟩:=ao q;obtain⟨y,d,rfl⟩:=au q;exact⟨QB (nJ s) ((g _).v x t) ((g _).v y d) ((dQ d).mr _),Qf (nJ s) ((g _).v x t) ((g _).v y d) ((dQ d).mr _)⟩
     exact .ofC (λf q=>(u f q).1) λf q=>(u f q).2
    .have u:∀f,((Fz (Il b) H).bind λg=>(tr j n a).e.bind λx=>(tr j n b).e.map λy=>a7 g x y)=some f->PE X (.Compare a [H] [b] p) (tV X.K f)/\PT X (.Compare a [H] [b] p) (tQ X.K (bV f)):=λf q=>by
      obtain⟨o,s,q⟩:=ao q;obtain⟨x,t,q⟩:=ao q;obtain⟨y,d,rfl⟩:=au q;exact⟨Nb (wB h s) ((g _).e x t) ((g _).e y d) ((ni d).mr _),MY (wB h s) ((g _).e x t) ((g _).e y d) ((ni d).mr _)⟩
     exact .ofC (λf q=>(u f q).1) λf q=>(u f q).2
   .have u:∀f,((lQ S).bind λo=>(lQ K).bind λz=>(MK o.1).bind λg=>(MK o.2).bind λA=>(tr j n a).v.bind λx=>(tr j n z.1).v.bind λy=>(tr j n z.2).v.map λz=>m5 g A x y z)=some f->PE X (.Compare a S K p) (tV X.K f)/\PT X (.Compare a S K p) (tQ X.K (bV f)):=λf q=>by
     obtain⟨⟨o1,o2⟩,M,I⟩:=ao q;obtain⟨⟨b,c⟩,N,p1⟩:=ao I;clear q I;cases fH M;cases fH N;obtain⟨o,s,q⟩:=ao p1;obtain⟨o',t,q⟩:=ao q;obtain⟨x,d,q⟩:=ao q;obtain⟨y,L,q⟩:=ao q;obtain⟨z,F,rfl⟩:=au q;exact⟨JZ (nJ s) (nJ t) ((g _).v x d) ((g _).v y L) ((g _).v z F) ((dQ F).ms _ _ _),JM (nJ s) (nJ t) ((g _).v x d) ((g _).v y L) ((g _).v z F) ((dQ F).ms _ _ _)⟩
    exact .ofC (λf q=>(u f q).1) λf q=>(u f q).2
  |IfExp c a b p=>
   refine .ite (λ_=>?_) ?_
   .have l:∀f,((tr j n c).b.bind λq=>(tr j n a).e.bind λx=>(tr j n b).e.map λy=>PM q x y)=some f->PE X (.IfExp c a b p) (tE X.K f):=λf q=>by
     obtain⟨o,s,q⟩:=ao q;obtain⟨x,t,q⟩:=ao q;obtain⟨y,d,rfl⟩:=au q;exact Qz ((g _).b o s) ((g _).e x t) ((g _).e y d)
    refine⟨λf q=>?_,l,λf q=>(by cases q),λf q=>?_⟩
    .obtain⟨x,s,rfl⟩:=au (show gZ vE _=some f from q);exact M6 (l _ s)
    .obtain⟨x,s,rfl⟩:=au (show gZ (λg=>bV (vE g)) _=some f from q);exact rT (M6 (l _ s))
   have l:∀f,((tr j n c).b.bind λq=>(tr j n a).v.bind λx=>(tr j n b).v.map λy=>QD q x y)=some f->PE X (.IfExp c a b p) (tV X.K f):=λf q=>by obtain⟨o,s,q⟩:=ao q;obtain⟨x,t,q⟩:=ao q;obtain⟨y,d,rfl⟩:=au q;exact So ((g _).b o s) ((g _).v x t) ((g _).v y d)
   refine⟨l,λf q=>?_,λf q=>(by cases q),λf q=>?_⟩
   .obtain⟨x,s,rfl⟩:=au (show gZ eV _=some f from q);exact JT (l _ s)
   .obtain⟨x,s,rfl⟩:=au (show gZ bV _=some f from q);exact rT (l _ s)
  |Tuple P c p=>refine .ofV (λf q=>?_) λ_ _=>rfl;obtain⟨x,s,rfl⟩:=au q;exact Qh (gx (λe _=>g e) s).1
  |List P p=>refine .ofV (λf q=>?_) λ_ _=>rfl;obtain⟨x,s,rfl⟩:=au q;exact Qr (gx (λe _=>g e) s).1
  |Dict ks vs p=>refine .ite (λw=>?_) .no;rw[az]at w;cases lH.mp w.1;cases lH.mp w.2;exact⟨λf q=>(by cases q;exact M6 Dq),λf q=>(by cases q;exact Dq),λf q=>(by cases q),λf q=>(by cases q)⟩
  |Subscript a i p=>
   have C:X.A.units+1 < cLine:=by have:=h.hu;lia
   refine .el (λ⟨lo,hi,st⟩ W=>?_) λ_=>.ite (λ_=>?_) (.ite (λ_=>.el (λP Q=>?_) λ_=>?_) ?_)
   .obtain⟨p,rfl⟩:=Ku W;cases st with
    |some _=>exact .no
    |none=>
     refine .ite (λ_=>.no) (.ite (λ_=>.ofV (λf q=>?_) λ_ _=>rfl) (.ofV (λf q=>?_) λ_ _=>rfl))
     .obtain⟨x,s,q⟩:=ao q;obtain⟨y,t,q⟩:=ao q;obtain⟨z,d,rfl⟩:=au q;exact Qj ((g _).e x s) (ut g t) (ut g d)
     .obtain⟨x,s,q⟩:=ao q;obtain⟨y,t,q⟩:=ao q;obtain⟨z,d,rfl⟩:=au q;exact Qk ((g _).v x s) (ut g t) (ut g d)
   .refine .ofE (λf q=>?_) λ_ _=>rfl;obtain⟨x,s,q⟩:=ao q;obtain⟨y,t,rfl⟩:=au q;exact Qu (by have:=h.hu;lia) ((g _).e x s) ((g _).v y t) (dQ t).ix
   .obtain⟨c,p,rfl⟩:=fM Q;refine .ofE (λf q=>?_) λ_ _=>rfl;obtain⟨x,s,q⟩:=ao q;obtain⟨y,t,rfl⟩:=au q;exact Qt C ((g _).e x s) (gx (λe _=>g e) t).1 λ_ _=>rfl
   .refine .ofE (λf q=>?_) λ_ _=>rfl;obtain⟨x,s,q⟩:=ao q;obtain⟨y,t,rfl⟩:=au q;exact Qv C ((g _).e x s) ((g _).v y t) (dQ t).ix
   .refine .ofV (λf q=>?_) λ_ _=>rfl;obtain⟨x,s,q⟩:=ao q;obtain⟨y,t,rfl⟩:=au q;exact Sm C ((g _).v x s) ((g _).v y t) (dQ t).ix
  |Call fn as ks cp=>
   refine .ite (λhk=>?_) .no;cases lH.mp hk;refine .el (λf V=>?_) λ_=>.el (λ⟨o,m,ap⟩ B=>?_) λ_=>.no
   .obtain⟨fp,rfl⟩:=jT V;exact Kh h g
   .cases FY B;exact Ki h g
  |Attribute o f p=>refine .ite (λw=>?_) .no;refine .ofE (λf q=>?_) λ_ _=>rfl;obtain⟨x,s,rfl⟩:=au q;exact QA h.attrs ((g _).e x s) (cA w)
  |ListComp r gs E p=>refine .el (λ⟨tg,iter,Z⟩ D=>?_) λ_=>.no;cases yh D;exact .ofV (λf q=>(wC h G q).1) λ_ _=>rfl
  |_=>exact .no
theorem AV:∀{e:Expr}{s:Ab}{a:j'},(∀x ∈ e::s,Good X x (tr j n x))->oC ((e::s).map λx=>(tr j n x).v)=some a->PVs X (e::s) a/\(∀k,starEach (e::s++[gW k]) X.e=(e::s++[gW k]).map λe=>(false,eval e X.e))/\∀k,starEach (s++[gW k]) X.e=(s++[gW k]).map λe=>(false,eval e X.e)
 |e,[],a,g,q=>by obtain⟨f,h,q⟩:=ao q;obtain⟨r,b,rfl⟩:=au q;cases b;have m:∀k,starEach ([]++[gW k]) X.e=([]++[gW k]).map λe=>(false,eval e X.e):=λk=>rfl;exact⟨.cons ((g _ aJ).v f h) .nil,λk=>by rw[show[e]++[gW k]=e::([]++[gW k]) from rfl,(dQ h).st,m];rfl,m⟩
 |e,d::s,a,g,q=>by obtain⟨f,h,q⟩:=ao q;obtain⟨r,b,rfl⟩:=au q;obtain⟨t,c,v⟩:=AV (λx p=>g x (aN _ p)) b;exact⟨.cons ((g _ aJ).v f h) t,λk=>by rw[show e::d::s++[gW k]=e::(d::s++[gW k]) from rfl,(dQ h).st,c];rfl,c⟩
theorem FD(h:XOk j X):∀{a:LS}{s:List Nat},(∀x ∈ a,bO j.ks x [.cell]=true)->Rn j.N a=some s->BO X a s
 | [],s,_,q=>by cases q;exact .nil
 |x::a,s,hk,q=>by
  obtain⟨i,f,q⟩:=ao q;obtain⟨r,b,rfl⟩:=au q;refine .cons ⟨h.get f,?_⟩ (FD h (λy n=>hk y (aN _ n)) b);rw[h.ks];have z:=hk x aJ;unfold bO at z;split at z
  .rename_i k e;rw[e];cases k<;>first|rfl|cases z
  .cases z
theorem uv{j:Cn}{X:Cx}(h:XOk j X){n k:Nat}{e:Expr}{f:EE}(q:G_ j n k e=some f):PE X e (tE X.K f)/\(fx e=false->∀t l env,swapsWith e t l env=pure false)/\eu e:=by
 have g:=lS n j X h;have o:∀{e},(tr j n e).e=some f->PE X e (tE X.K f)/\(fx e=false->∀t l env,swapsWith e t l env=pure false)/\eu e:=λq=>⟨(g _).e f q,(ni q).sw,(ni q).st⟩;have Q:=fh q;clear q;rcases Q with ⟨⟨D,r⟩,N,q⟩|⟨_,q⟩
 .obtain⟨E,C,rfl⟩:=eX N;dsimp only at q;split at q
  .rename_i c;simp only[az,kr]at c;rcases fh q with ⟨F,P,q⟩|⟨_,q⟩
   .refine⟨?_,(λ_ _ _ _=>rfl),λ_ _=>rfl⟩;cases r with
    |nil=>cases c.1.2
    |cons a s=>
     have w:∀k b,xT j k (a::s)=some b->Kf j n F k b=some f->PE X (.Call (.Name D E) (a::s) [] C) (tE X.K f):=λk b m z=>by
      obtain⟨l',H,p⟩:=ao m;split at p
      .rename_i y;cases p;simp only[az,kr]at y;obtain⟨is,V,z⟩:=ao z;obtain⟨x,v,rfl⟩:=au z;obtain⟨k',W,Z,ps,G,M,L,hk,I⟩:=h.fns _ F P;obtain⟨w,i⟩:=h.lam k y.1.1.2;have u:a::s=(a::s).dropLast++[gW k]:=by
        rw[List.getLast?_eq_some_getLast (zh a s)]at H;have K:=zD (zh a s);rw[d8 H,Ib y.1.1.1]at K;exact K.symm
       revert v y u;generalize (a::s).dropLast=S;intro y v u;cases S with
       |nil=>cases y.2
       |cons d S=>rw[u];obtain⟨p,R,T⟩:=AV (λe _=>g e) v;exact J1 G M (h.gl c.1.1.1) L hk I w (FD h (by simpa using y.1.2) V) i p (cQ c.1.1.2).1 (R k) (T k)
      .cases p
     rcases fh q with ⟨b,m,z⟩|⟨_,q⟩
     .exact w _ b m z
     rcases fh q with ⟨b,m,z⟩|⟨_,q⟩
     .exact w _ b m z
     .obtain⟨x,v,rfl⟩:=au q;obtain⟨A,B⟩:=lT (λe _=>g e) v;exact(wK h P c.1.1.1 c.1.1.2 A B).2
   .exact o q
  .exact o q
 .exact o q
theorem vH(h:XOk j X):∀{a:Ab}{s:sS},vI (a.map λx=>G_ j n k x)=some s->PA X a (wU X.K s)
 | [],s,q=>by cases q;exact Jz
 |e::a,s,q=>by obtain⟨f,c,m⟩:=ao q;obtain⟨r,t,rfl⟩:=au m;obtain⟨p,_,b⟩:=uv h c;exact Fv p (vH h t) (b _ _)
theorem pZ{j:Cn}{X:Cx}(h:XOk j X){n k:Nat}{e:Expr}{f:EE}(q:Po j n k e=some f):PE X e (tE X.K f)/\(fx e=false->∀t l env,swapsWith e t l env=pure false):=by
 have a:=fh q;clear q;rcases a with ⟨b,x,q⟩|⟨_,q⟩
 .obtain⟨p,rfl⟩:=qv x;obtain⟨c,s,rfl⟩:=au q;exact⟨M9 (vH h s),λ_ _ _ _=>rfl⟩
 .exact⟨(uv h q).1,(uv h q).2.1⟩
def xy(T:Stmt->Option ES):List Stmt->ES
 | []=>eD
 | [s]=>(T s).getD da
 |s::r=>aA ((T s).getD da) (xy T r)
noncomputable def Ip(e:Expr):Option Unit:=if h:e.ctorIdx=6 then Expr.Dict.elim e h λk v _=>if (k.isEmpty && v.isEmpty)=true then some () else none else none
theorem uN{e:Expr}{u:Unit}(h:Ip e=some u):∃p,e=.Dict [] [] p:=by
 have c:=Fu h;revert h;exact Expr.Dict.elim e c λk v p h=>by
  cases k with
  |cons _ _=>cases h
  |nil=>
   cases v with
   |cons _ _=>cases h
   |nil=>exact⟨p,rfl⟩
def Te(j:Cn)(e:Expr):Option Expr:=(mI e).bind λz=>(lp z.2).bind λa=>if oD j z.1 "dict"=true then some a else none
def OX(j:Cn)(e:Expr):Option Expr:=(mI e).bind λz=>(lp z.2).bind λa=>if oD j z.1 "list"=true then some a else none
def RS(j:Cn)(n:Nat)(t v:Expr):Option ES:=
 (Bc t).elim ((Pr t).elim ((MN t).elim ((ju t).bind fun _=>if (ju v).isSome=true then none else (G8 j.N j.ks [.local,.cell] t).bind fun g=>(tr j n v).v.map fun z=>nh g z)
   λz=>if ((Ip v).isSome && Of.contains z.2.1)=true then (tr j n z.1).e.map λx=>dt j.A x z.2.1 qH else if ((Ip v).isSome && j.deep.contains z.2.1)=true then (tr j n z.1).e.map λx=>dt j.A x z.2.1 u0 else (tr j n z.1).e.bind λx=>(Po j n 5 v).map λy=>dt j.A x z.2.1 y)
  λz=>if fx v=true then none else (tr j n z.1).e.bind λx=>(tr j n v).v.bind λw=>if Il z.1=true then (tr j n z.2).v.map λy=>nT x y w else (ju z.2).elim ((tr j n z.2).v.map λy=>nU x y w) λe=>(oC (e.map λz=>(tr j n z).v)).map λy=>DN x y w)
 λx=>if bO j.ks x [.local,.cell]=true then (jX j.N x).bind λi=>(if Of.contains x=true then Te j v else none).elim ((if Of.contains x=true then Ip v else none).elim (if (j.deep.contains x && !fx v)=true then (Po j n 5 v).map (aZ i) else (if j.own.contains x=true then OX j v else none).elim ((if j.own.contains x=true then Bt v else none).elim (if (j.own.contains x && fx v)=true then (tr j n v).v.map λf=>aZ i (sB f) else (tr j n v).e.map (aZ i)) λe=>(oC (e.map λy=>(tr j n y).v)).map λa=>aZ i (fj a)) λa=>(tr j n a).v.map λf=>aZ i (Fm f)) λ_=>some (aZ i qH)) λa=>(tr j n a).v.map λf=>aZ i (yc f)
  else none
noncomputable def Oj(e:Expr):Option (Expr×Expr):=if h:e.ctorIdx=2 then Expr.BinOp.elim e h λa o b _=>if o.ctorIdx=Operator.Mult.ctorIdx then some (a,b) else none else none
theorem HR(h:Oj e=some (a,b)):∃p,e=.BinOp a .Mult b p:=by
 have c:=Fu h;revert h;exact Expr.BinOp.elim e c λx o s p h=>by
  cases o with
  |Mult=>cases h;exact⟨p,rfl⟩
  |_=>cases h
def QG(j:Cn)(n:Nat)(e:Expr):Option ES:=if fx e=true then (tr j n e).v.map λf=>aO (sB f) else
 (Oj e).elim ((OX j e).elim ((Po j n 5 e).map aO) λa=>(tr j n a).v.map λf=>aO (Fm f)) λz=>(tr j n z.1).v.bind λx=>(tr j n z.2).v.map λy=>aO (OM x y)
def Mr(j:Cn):Nat->Stmt->Option ES
 |0,_=>none
 |n+1,st=>match st with
  | .Assign y v _=>(lp y).bind λt=>RS j n t v
  | .Return r _=>r.bind λe=>if j.own.contains ("return":Str)=true then QG j n e else (tr j n e).e.map aO
  | .AugAssign t p v _=>(Bc t).bind λx=>if (bO j.ks x [.local,.cell] && decide (p.ctorIdx=Operator.Add.ctorIdx))=true then (jX j.N x).bind λi=>(tr j n v).v.map (DP i) else none
  | .Break _=>some RY
  | .Continue _=>some RX
  | .Raise ..=>some da
  | .Expr e _=>if fx e=true then none else (tr j n e).e.map c_
  | .If c a b _=>(tr j n c).b.map λq=>cZ q (xy (Mr j n) a) (xy (Mr j n) b)
  | .While c o l _=>if l.isEmpty=false then none else (tr j n c).b.map λq=>uD 1000 q (xy (Mr j n) o)
  | .For s iter o l _=>if l.isEmpty=false then none else (G8 j.N j.ks [.local,.cell] s).bind λg=>(G9 j (λh=>tr j n h) s iter).map λk=>cT k g (xy (Mr j n) o)
  |_=>none
theorem Ek{e:Ab}{c:Nat}{p:Pos}{v:Expr}{env:Env}(h:¬(ju v).isSome=true):swappedStores [.Tuple e c p] v env=pure none:=by cases v<;>first|rfl|exact absurd rfl h
theorem G7{j:Cn}{n:Nat}{r:Expr}{g:List Comprehension}{E:Scope}{u:Pos}{f:EE}(h:(tr j n (.ListComp r g E u)).e=some f) :
  ∃k t iter i s,n=k+1/\g=[⟨t,iter,i,0⟩]/\im j (λa x=>tr a k x) r t iter i E=some s/\f=eV s:=by
 cases n with
 |zero=>cases h
 |succ n=>
  replace h:((ML g).elim {} λz=>Tr.ofV (im j (λa x=>tr a n x) r z.1 z.2.1 z.2.2 E)).e=some f:=h;cases e:ML g with
  |none=>rw[e]at h;cases h
  |some z=>rw[e]at h;obtain⟨x,q,rfl⟩:=au (show gZ eV _=some f from h);exact⟨n,_,_,_,x,rfl,yh e,q,rfl⟩
theorem Bw{X:Cx}{T:Stmt->Option ES}(h:∀st f,T st=some f->PS X st (i_ X.K f))(st:Stmt):PS X st (i_ X.K ((T st).getD da)):=by
 cases q:T st with
 |none=>exact vQ.imp' λD J H z=>by obtain⟨F,m,L,S,e,x,a,r,l,q,k⟩:=z;cases q
 |some f=>exact h st f q
theorem ku{X:Cx}{T:Stmt->Option ES}(h:∀st f,T st=some f->PS X st (i_ X.K f)):∀{cU:List Stmt},oy X cU (i_ X.K (xy T cU))
 | []=>Qa
 | [s]=>P' (Bw h s)
 |s::t::r=>MW (Bw h s) (ku h)
theorem vG(h:(tr j n (.ListComp r s E u)).v=some f) :
  ∃k t iter i,n=k+1/\s=[⟨t,iter,i,0⟩]/\im j (λa x=>tr a k x) r t iter i E=some f:=by
 cases n with
 |zero=>cases h
 |succ n=>
  replace h:((ML s).elim {} λz=>Tr.ofV (im j (λa x=>tr a n x) r z.1 z.2.1 z.2.2 E)).v=some f:=h;cases e:ML s with
  |none=>rw[e]at h;cases h
  |some z=>rw[e]at h;exact⟨n,_,_,_,rfl,yh e,h⟩
theorem Kc{j:Cn}{X:Cx}(h:XOk j X){n:Nat}{e:Expr}{p:Pos}{f:ES}(q:QG j n e=some f):PS X (.Return (some e) p) (i_ X.K f):=by
 have g:=lS n j X h;unfold QG at q;split at q
 .rename_i l;have c:e.ctorIdx=8:=eq_of_beq l;obtain⟨P,s,rfl⟩:=au q;clear q l;revert s;refine Expr.ListComp.elim e c λa B c d s=>?_
  obtain⟨k,D,iter,H,rfl,rfl,u⟩:=vG s;exact Dl (sJ h (lS k) u)
 .have w:=fh q;clear q;rcases w with ⟨⟨a,b⟩,m,q⟩|⟨_,q⟩
  .obtain⟨C,rfl⟩:=HR m;obtain⟨x,s,q⟩:=ao q;obtain⟨y,u,rfl⟩:=au q;exact Dl (Ql ((g _).v x s) ((g _).v y u))
  .have w:=fh q;clear q;rcases w with ⟨a,m,q⟩|⟨_,q⟩
   .obtain⟨⟨r,F⟩,z,i⟩:=ao m;obtain⟨S,o,v⟩:=ao i;clear m i;obtain⟨A,K,rfl⟩:=eX z;cases dh o;split at v
    .rename_i t;cases v;obtain⟨rfl,t⟩:=gA t;obtain⟨x,s,rfl⟩:=au q;exact Dl (Do (h.gl t) (h.blt ("list":Str) (by decide)) ((g _).v x s) ((dQ s).st _ _))
    .cases v
   .obtain⟨x,s,rfl⟩:=au q;exact Dl (pZ h s).1
theorem Kg{j:Cn}{X:Cx}(h:XOk j X)(H:∀x,X.fn x=true){n:Nat}{t l:Expr}{V:Pos}{f:ES}(q:RS j n t l=some f):PS X (.Assign [t] l V) (i_ X.K f):=by
 have g:=lS n j X h;have R:X.A.units+1 < cLine:=by have:=h.hu;lia
 rcases fh q with ⟨x,hx,C⟩|⟨_,C⟩
 .clear q;obtain⟨T,rfl⟩:=jT hx;split at C
  .rename_i hk;obtain⟨i,G,q⟩:=ao C;have Z:=fh q;clear q C;rcases Z with ⟨a,A,q⟩|⟨_,C⟩
   .split at A
    .obtain⟨⟨r,as⟩,b1,S⟩:=ao A;obtain⟨a',b2,S⟩:=ao S;clear A;obtain⟨fp,cp,rfl⟩:=eX b1;cases dh b2;split at S
     .rename_i N;cases S;obtain⟨rfl,N⟩:=gA N;obtain⟨z,m,rfl⟩:=au q;exact vt i h.nd (JW h.calm (by have:=h.hu;lia) (h.gl N) (h.blt ("dict":Str) (by decide)) ((g _).v z m) ((dQ m).st _ _)) (h.get G) (h.loc hk) rfl (.inl (H x))
     .cases S
    .cases A
   have Z:=fh C;clear C;rcases Z with ⟨s,A,q⟩|⟨_,q⟩
   .split at A
    .obtain⟨p,rfl⟩:=uN A;cases q;exact vt i h.nd Dp (h.get G) (h.loc hk) rfl (.inl (H x))
    .cases A
   split at q
   .rename_i L;rw[az]at L;obtain⟨fe,m,rfl⟩:=au q;exact vt i h.nd (pZ h m).1 (h.get G) (h.loc hk) ((pZ h m).2 (by simpa using L.2) _ _ _) (.inl (H x))
   .have Z:=fh q;clear q;rcases Z with ⟨a,A,q⟩|⟨_,q⟩
    .split at A
     .obtain⟨⟨r,as⟩,b1,S⟩:=ao A;obtain⟨a',b2,S⟩:=ao S;clear A;obtain⟨fp,cp,rfl⟩:=eX b1;cases dh b2;split at S
      .rename_i N;cases S;obtain⟨rfl,N⟩:=gA N;obtain⟨z,m,rfl⟩:=au q;exact vt i h.nd (Do (h.gl N) (h.blt ("list":Str) (by decide)) ((g _).v z m) ((dQ m).st _ _)) (h.get G) (h.loc hk) rfl (.inl (H x))
      .cases S
     .cases A
    rcases fh q with ⟨es,E,q⟩|⟨_,q⟩
    .split at E
     .obtain⟨a,m,rfl⟩:=au q;obtain⟨p,rfl⟩:=qv E;exact vt i h.nd (I_ (gx (λe _=>g e) m).1) (h.get G) (h.loc hk) rfl (.inl (H x))
     .cases E
    split at q
    .rename_i F;rw[az]at F;have F:=F.2;obtain⟨fe,m,rfl⟩:=au q;have c:l.ctorIdx=8:=eq_of_beq F;clear q F;revert m;refine Expr.ListComp.elim l c λa gs c d m=>?_
     obtain⟨k,Q,iter,K,rfl,rfl,P⟩:=vG m;have B:swapsWith (.ListComp a [⟨Q,iter,K,0⟩] c d) (some (.Name x T)) V.line X.e=pure (X.e.blockKind == .function && X.e.kindOf x == some .local && T.line == (Expr.ListComp a [⟨Q,iter,K,0⟩] c d).pos.line
       && !(c.names.any λ(n,k)=>n == x && (k == .local ||k == .cell))):=rfl
     revert B;generalize (X.e.blockKind == .function && X.e.kindOf x == some .local && T.line == (Expr.ListComp a [⟨Q,iter,K,0⟩] c d).pos.line && !(c.names.any λ(n,k)=>n == x && (k == .local ||k == .cell)))=b;intro B;cases b with
     |true=>exact CA h (lS k) P i B (h.get G) (h.loc hk) (.inl (H x))
     |false=>exact vt i h.nd (sJ h (lS k) P) (h.get G) (h.loc hk) B (.inl (H x))
    .obtain⟨fe,m,rfl⟩:=au q;cases F:fx l with
     |false=>exact vt i h.nd ((g l).e fe m) (h.get G) (h.loc hk) ((ni m).sw F _ _ _) (.inl (H x))
     |true=>
      have c:l.ctorIdx=8:=eq_of_beq F;clear q F;revert m;refine Expr.ListComp.elim l c fun a gs c d m=>?_;obtain⟨k,Q,iter,K,f',rfl,rfl,P,rfl⟩:=G7 m;have cu:=wC (u:=d) h (lS k) P;have B:swapsWith (.ListComp a [⟨Q,iter,K,0⟩] c d) (some (.Name x T)) V.line X.e=pure (X.e.blockKind == .function && X.e.kindOf x == some .local && T.line == (Expr.ListComp a [⟨Q,iter,K,0⟩] c d).pos.line
       && !(c.names.any λ(n,k)=>n == x && (k == .local ||k == .cell))):=rfl
      revert B;generalize (X.e.blockKind == .function && X.e.kindOf x == some .local && T.line == (Expr.ListComp a [⟨Q,iter,K,0⟩] c d).pos.line && !(c.names.any λ(n,k)=>n == x && (k == .local ||k == .cell)))=b;intro B;cases b with
      |true=>exact cu.2 i h.nd B (h.get G) (h.loc hk) (.inl (H x))
      |false=>exact vt i h.nd (JT cu.1) (h.get G) (h.loc hk) B (.inl (H x))
  .cases C
 rcases fh C with ⟨⟨o,i⟩,hz,S⟩|⟨_,S⟩
 .clear q C;obtain⟨p,rfl⟩:=KC hz;split at S
  .cases S
  rename_i hne;obtain⟨x,m,D⟩:=ao S;obtain⟨w,M,I⟩:=ao D;have B:=(dQ M).sw (by simpa using hne);clear S D;split at I
  .obtain⟨y,P,rfl⟩:=au I;exact MS (by have:=h.hu;lia) ((g o).e x m) ((g i).v y P) ((g l).v w M) (B _ _ _)
  have q0:=fh I;clear I;rcases q0 with ⟨es,et,q⟩|⟨_,q⟩
  .obtain⟨c,p,rfl⟩:=fM et;obtain⟨y,P,rfl⟩:=au q;exact MR R ((g o).e x m) (gx (λe _=>g e) P).1 ((g l).v w M) (B _ _ _)
  .obtain⟨y,P,rfl⟩:=au q;exact MU R ((g o).e x m) ((g i).v y P) ((g l).v w M) (B _ _ _) rfl (dQ P).ps
 rcases fh S with ⟨⟨o,f,ap⟩,hz,D⟩|⟨_,D⟩
 .clear q C S;cases FY hz;split at D
  .rename_i L;rw[az]at L;obtain⟨s,R⟩:=lC.mp L.1;obtain⟨p,rfl⟩:=uN R;obtain⟨x,m,rfl⟩:=au D;exact JK h.attrs ((g o).e x m) Dp rfl
  split at D
  .rename_i L;rw[az]at L;obtain⟨s,R⟩:=lC.mp L.1;obtain⟨p,rfl⟩:=uN R;obtain⟨x,m,rfl⟩:=au D;exact JK h.attrs ((g o).e x m) JV rfl
  obtain⟨x,m,q⟩:=ao D;obtain⟨z,P,rfl⟩:=au q;refine JK h.attrs ((g o).e x m) (pZ h P).1 ?_;cases F:fx l with
  |false=>exact(pZ h P).2 F _ _ _
  |true=>have c:l.ctorIdx=8:=eq_of_beq F;clear q P D F;exact Expr.ListComp.elim (motive_1:=λv=>swapsWith v (some (.Attribute o f ap)) V.line X.e=pure false) l c λ_ _ _ _=>rfl
 .clear q C S;obtain⟨es,E,I⟩:=ao D;clear D;obtain⟨c,p,rfl⟩:=fM E;split at I
  .cases I
  .rename_i W;obtain⟨gg,m,q⟩:=ao I;obtain⟨z,M,rfl⟩:=au q;exact P9 ((g l).v z M) (DC h.calm h.hN h.nd (fun x hx=>⟨h.loc hx,.inl (H x)⟩) m) (show swapsWith l (some (.Tuple es c p)) V.line X.e=pure false from by
    cases F:fx l with
    |false=>exact(dQ M).sw F _ _ _
    |true=>have cc:l.ctorIdx=8:=eq_of_beq F;clear q M I F W;exact Expr.ListComp.elim (motive_1:=λv=>swapsWith v (some (.Tuple es c p)) V.line X.e=pure false) l cc λ_ _ _ _=>rfl) (Ek W) rfl
theorem DA{j:Cn}{X:Cx}(h:XOk j X)(k:∀x,X.fn x=true)(H:PassesOwn (model X.p X.w) X.A X.e X.xe):∀n (st:Stmt) (f:ES),Mr j n st=some f->PS X st (i_ X.K f)
 |0,st,f,q=>by cases q
 |n+1,st,f,q=>by
  have w:=DA h k H n;have g:=lS n j X h;cases st with
  |Assign y v G=>obtain⟨t,d,m⟩:=ao q;clear q;cases dh d;exact Kg h k m
  |Return r p=>
   obtain⟨e,d,m⟩:=ao q;cases (show r=some e from d);clear q d;split at m
   .exact Kc h m
   .obtain⟨x,s,rfl⟩:=au m;exact Dl ((g _).e x s)
  |AugAssign t K v p=>
   obtain⟨x,d,m⟩:=ao q;clear q;obtain⟨E,rfl⟩:=jT d;split at m
   .rename_i u;rw[az]at u;obtain⟨i,B,P⟩:=ao m;obtain⟨S,s,rfl⟩:=au P;cases K with
    |Add=>exact Qc i h.nd ((g _).v S s) (h.get B) (h.loc u.1) (.inl (k x))
    |_=>cases aL u.2
   .cases m
  |Break p=>cases q;exact Si
  |Continue p=>cases q;exact Sh
  |Raise a b p=>cases q;exact JJ
  |Expr e p=>
   replace q:(if fx e=true then none else (tr j n e).e.map c_)=some f:=q;split at q
   .cases q
   .rename_i z;obtain⟨x,s,rfl⟩:=au q;exact MV ((g _).e x s) ((ni s).sw (by simpa using z) _ _ _)
  |If c a b p=>obtain⟨c,s,rfl⟩:=au q;exact Sg ((g _).b c s) (ku w) (ku w)
  |While c o l p=>
   cases l with
   |cons _ _=>cases q
   |nil=>obtain⟨c,s,rfl⟩:=au q;exact JI H ((g _).b c s) (ku w)
  |For I iter o l p=>
   cases l with
   |cons _ _=>cases q
   |nil=>obtain⟨C,A,q⟩:=ao q;obtain⟨D,s,rfl⟩:=au q;exact Qb H h.calm (Jp h g s) (DC h.calm h.hN h.nd (λx F=>⟨h.loc F,.inl (k x)⟩) A) (ku w) λx=>v_ s _ x
  |_=>cases q
structure Df where
 name:Str
 short:Str
 cls:Str
 st:Stmt
 N:LS
 ps:LS
 own:LS
 deep:LS
 refs:LS
noncomputable abbrev At:=List (Str×LS)
noncomputable def aT(T:At)(c f:Str):Bool:=T.any λx=>decide (x.1=c) && x.2.contains f
noncomputable def fT(D:List Df)(h:Str->GF)(x:Str):Option GF:=if (D.any λd=>decide (d.name=x) && d.cls.cps.isEmpty)=true then some (h x) else none
noncomputable def PC(c m:Str)(d:Df):Bool:=decide (d.cls=c) && decide (d.short=m) && !d.cls.cps.isEmpty
def mT(D:List Df)(h:Str->GF)(c m:Str):Option GF:=if m=("__init__":Str) then none else (D.find? (PC c m)).map λd=>h d.name
def Rr(D:List Df)(h:Str->GF)(c:Str):Option GF:=(D.find? (PC c "__init__")).map λd=>h d.name
noncomputable abbrev P3:=(Str->GF)×(Str->Option GF)×Option (Str->Str->Option GF)
def R4(G:Str->Option P)(T:At)(D:List Df)(p:P3)(d:Df):Cn:=⟨d.N,d.own,d.deep,d.refs,(bf d.st).names,fT D p.1,G,aT T,mT D p.1,p.2.1,p.2.2⟩
def yo(G:Str->Option P)(T:At)(D:List Df)(p:P3)(d:Df):ES:=xy (Mr (R4 G T D p d) 60) (eU d.st)
noncomputable def stays(n:Nat)(x:Str):Bool:=(decide (x=("ends_on":Str)) && Nat.ble 14 n) ||((decide (x=("hand_ends":Str)) ||decide (x=("flaw_ends":Str))) && Nat.ble 13 n)
def oP(G:Str->Option P)(T:At)(D:List Df):Nat->P3
 |0=>(λ_ _ _=>none,λ_=>none,none)
 | n+1=>(fun x=>cond (stays n x) ((oP G T D n).1 x) (match D.find? fun d=>decide (d.name=x) with
  |some d=>fg d.ps.length d.N.length (yo G T D (oP G T D n) d)
  |none=>λ_ _=>none),Rr D (oP G T D n).1,some (mT D (oP G T D n).1))
noncomputable def IY(G:Str->Option P)(T:At)(D:List Df)(n:Nat):Str->GF:=(oP G T D n).1
theorem B6{G:Str->Option P}{T:At}{D:List Df}{n:Nat}{x:Str}(h:stays n x=true):IY G T D (n+1) x=IY G T D n x:=by show cond (stays n x) _ _=_;rw[h];rfl
theorem IJ{B:Type}{c:Bool}{a b:B}{p:B->Prop}(h:p b)(x:p a):p (cond c a b):=by cases c<;>assumption
def Pq(d:Df):Bool:=decide ((bf d.st).kind=.function) && !(bf d.st).isCoroutine && !(bf d.st).isGenerator && decide d.N.Nodup && decide (d.N.take d.ps.length=d.ps)
 && d.ps.all (λx=>(bf d.st).names.lookup x == some .local ||(bf d.st).names.lookup x == some .cell) && (bf d.st).names.all (λy=>y.2 != .free)
theorem KA{d:Df}(h:Pq d=true):FnScope d.N d.ps (bf d.st):=by
 unfold Pq at h;simp only[az]at h;obtain⟨⟨⟨⟨⟨⟨a,e⟩,s⟩,n⟩,k⟩,f⟩,b⟩:=h;refine⟨aL a,by simpa using e,by simpa using s,aL n,aL k,λx c=>?_,λy m=>?_⟩
 .have:=bD.mp f x c;simpa using this
 .have:=bD.mp b y m;simpa using this
structure DOk(K:FG)(mg:SV)(d:Df)(f:Addr)(fd:FuncData):Prop where
 fn:Fun K d.short d.name d.st f fd
 bd:Binds K fd d.ps []
 pl:d.cls.cps.isEmpty=true->∃kV doc pm an cdv ct,fd=ij d.short d.name (gB d.st) (eU d.st) (bf d.st) .none kV doc pm an cdv ct
 bn:d.short=("__init__":Str)->F_.contains d.cls=true->Binds K fd d.ps [.none]
 gl:d.cls.cps.isEmpty=true->mg d.name=some (.ref f)
 cl:d.cls.cps.isEmpty=false->∃C,gn K d.cls C/\mg d.cls=some (.ref C)/\Cls K C/\(d.short=("__init__":Str)->Mk K C f)/\(d.short≠("__init__":Str)->Meth K C d.short f)
def qw(o:Obj):Bool:=match o.data with
 | .fields v=>(match v.toList with|_::.str n _::_=>n == xS false ||n == xS true|_=>false)
 |_=>false
def Bq(K:FG):Bool:=K.all λp=>!qw p.2 ||(match DD p with|some P=>xl K p.1 P|none=>false)
theorem EA(h:Bq K=true)(x:ik K d (xS k)=true):∃c P,d=.ref c/\xl K c P=true/\P ∈ bR K:=by
 unfold ik at x;split at x
 .rename_i c;split at x
  .rename_i s i v f hk;have m:=De hk;have e:=bD.mp h _ m;have n:qw ⟨s,i,.fields v,f⟩=true:=by
    unfold qw;dsimp only;revert x;cases v.toList with
    |nil=>exact λz=>z
    |cons a l=>
     cases l with
     |nil=>exact λz=>z
     |cons b l=>cases b<;>first|(intro z;revert z;dsimp only;intro z;cases k<;>simp[z])|exact λz=>z
   rw[n]at e;simp only[pa,kq]at e;split at e
   .rename_i P hP;exact⟨c,P,rfl,e,km.mpr ⟨_,m,hP⟩⟩
   .cases e
  .cases x
 .cases x
structure TOk(w:World)(G:Str->Option P)(T:At)(D:List Df)(K:FG)(mg:SV):Prop where
 fn:∀d ∈ D,∃f fd,DOk K mg d f fd
 sc:D.all Pq=true
 un:(D.map (·.name)).Nodup
 z:∀x ∈ FP,mg x=none
 gl:∀x v,G x=some v->mQ w K mg x v
 at':P8 K (aT T)
 lam:Bq K=true
 lm:∀d ∈ D,∀k,d.deep.contains (rn k)=true->d.name=xS k
theorem qB:∀{D:List Df}{d:Df},(D.map (·.name)).Nodup->d ∈ D->(D.find? λe=>decide (e.name=d.name))=some d
 | [],_,_,h=>by cases h
 |a::r,d,x,h=>by
  rw[aD,bL]at x;rcases aM.mp h with h|h
  .subst h;simp
  .have n:¬a.name=d.name:=λz=>x.1 (by rw[z];exact eJ.mpr ⟨d,h,rfl⟩);rw[tS (by simpa using n)];exact qB x.2 h
theorem F0{D:List Df}{x:Str}{a:Str->GF}{g:GF}(h:fT D a x=some g):∃d ∈ D,d.name=x/\d.cls.cps.isEmpty=true/\g=a x:=by
 unfold fT at h;split at h
 .rename_i c;cases h;obtain⟨d,s,e⟩:=lG.mp c;rw[az]at e;exact⟨d,s,aL e.1,e.2,rfl⟩
 .cases h
theorem EJ(h:PC c m d=true):d.cls=c/\d.short=m/\d.cls.cps.isEmpty=false:=by unfold PC at h;simp only[az]at h;exact⟨aL h.1.1,aL h.1.2,by simpa using h.2⟩
theorem wQ{D:List Df}{x:Str->GF}{c m:Str}{g:GF}(h:mT D x c m=some g):m≠("__init__":Str)/\∃d ∈ D,d.cls=c/\d.short=m/\d.cls.cps.isEmpty=false/\g=x d.name:=by
 unfold mT at h;split at h
 .cases h
 .rename_i n;obtain⟨d,q,rfl⟩:=au h;obtain⟨a,e,s⟩:=EJ (zf q);exact⟨n,d,zB q,a,e,s,rfl⟩
theorem F5{D:List Df}{x:Str->GF}{c:Str}{g:GF}(h:Rr D x c=some g):∃d ∈ D,d.cls=c/\d.short=("__init__":Str)/\d.cls.cps.isEmpty=false/\g=x d.name:=by unfold Rr at h;obtain⟨d,q,rfl⟩:=au h;obtain⟨a,e,s⟩:=EJ (zf q);exact⟨d,zB q,a,e,s,rfl⟩
theorem BE {G:Str->Option P}{T:At}{D:List Df}{Pg:Program}{w:World}{K:FG}{mg:SV}{base:Heap} (Tk:TOk w G T D K mg):∀n,(∀d ∈ D,
  ∀f fd,Fun K d.short d.name d.st f fd->FnOk Pg w K mg base nR n f fd d.ps (nc K (IY G T D n d.name))) /\
  (∀c g,(oP G T D n).2.1 c=some g->∃m,n=m+1/\∃C f fd ps,gn K c C/\mg c=some (.ref C)/\Mk K C f/\FnOk Pg w K mg base nR m f fd ps (nc K g)/\Binds K fd ps (if F_.contains c=true then [.none] else [])) /\
  ∀M,(oP G T D n).2.2=some M->∃m,n=m+1/\∀c mn g,M c mn=some g->∃C f fd ps,gn K c C/\Cls K C/\Meth K C mn f/\FnOk Pg w K mg base nR m f fd ps (nc K g)/\Binds K fd ps []
 |0=>⟨λd hd f fd hF=>E7,λc g h=>(by cases (show(none:Option GF)=some g from h)),λM h=>(by cases (show(none:Option (Str->Str->Option GF))=some M from h))⟩
 |n+1=>by
  have ih:=BE (Pg:=Pg) (w:=w) (base:=base) Tk n;refine⟨λd hd f fd hF=>?_,λc g h=>?_,λg h=>?_⟩
  .have e:IY G T D (n+1) d.name=cond (stays n d.name) (IY G T D n d.name) (fg d.ps.length d.N.length (yo G T D (oP G T D n) d)):=by
    show cond _ _ (match D.find? λd'=>decide (d'.name=d.name) with|some d=>fg d.ps.length d.N.length (yo G T D (oP G T D n) d)|none=>λ_ _=>none)=_;rw[qB Tk.un hd];rfl
   rw[e];have hsc:=KA (bD.mp Tk.sc d hd);have XO:∀(cdv:Value),ik K cdv d.name=true->∀(A:Around)(outer:List Env)(s:Shared)(H:Hp)(E':XK),Room n (A.deeper (envOfC d.name (bf d.st) s.heap.objs.size f cdv)) ->
     XOk (R4 G T D (oP G T D n) d) (wy nR Pg w K mg base d.N d.name (bf d.st) f cdv A outer s H E').nox:=fun cdv hcd A outer s H E' hr=>{
    hN:=rfl
    nd:=hsc.nd
    ks:=rfl
    kd:=hsc.kind
    calm:=rfl
    hu:=by have:=hr.un;show(A.deeper (envOfC d.name (bf d.st) s.heap.objs.size f cdv)).units+64 < _;lia
    fns:=λx g hg=>by obtain⟨d',hd',hn,hc,rfl⟩:=F0 hg;obtain⟨f',fd',h1⟩:=Tk.fn d' hd';subst hn;exact⟨n,f',fd',d'.ps,(ih.1 d' hd' f' fd' h1.fn),hr,h1.gl hc,h1.fn.kp,h1.bd⟩
    blt:=Tk.z
    glb:=Tk.gl
    attrs:=Tk.at'
    meths:=λc m g hg=>by obtain⟨hm,d',hd',rfl,rfl,hc,rfl⟩:=wQ hg;obtain⟨f',fd',h1⟩:=Tk.fn d' hd';obtain⟨C,c1,c2,c3,c4,c5⟩:=h1.cl hc;exact⟨C,n,f',fd',d'.ps,c1,c3,c5 hm,(ih.1 d' hd' f' fd' h1.fn),hr,h1.bd⟩
    mks:=λc g hg=>by obtain⟨m,rfl,C,f',fd',ps,c1,c2,c3,c4,c5⟩:=ih.2.1 c g hg;exact⟨C,m,f',fd',ps,c1,c2,c3,c4,hr,c5⟩
    lam:=λk z=>by have hn:=Tk.lm d hd k z;rw[hn]at hcd;obtain⟨c,P,e1,e2,e3⟩:=EA Tk.lam hcd;exact⟨⟨by show d.name++Str.ofString ".<locals>."++Str.ofString "<lambda>"=rn k;rw[hn];cases k<;>decide,c,P,e1,e2,e3⟩,λ_=>rfl⟩
    lmf:=λM hM c mn g hg=>by obtain⟨m,rfl,q⟩:=ih.2.2 M hM;obtain⟨C,f',fd',ps,c1,c2,c3,c4,c5⟩:=q c mn g hg;exact⟨C,m,f',fd',ps,c1,c2,c3,c4,hr,c5⟩ }
   refine IJ (p:=λg=>FnOk Pg w K mg base nR (n+1) f fd d.ps (nc K g)) (L0 (N:=d.N) hF hsc λcdv hcd A outer s H E' hr=>?_) ((ih.1 d hd f fd hF).mono (iV n));have X:=XO cdv hcd A outer s H E' hr;exact ku λst f q=>DA X (λ_=>rfl) PassesOwn.never 60 st f q
  .obtain⟨d,hd,rfl,hs,hc,rfl⟩:=F5 (x:=(oP G T D n).1) h;obtain⟨f,fd,h1⟩:=Tk.fn d hd;obtain⟨C,c1,c2,c3,c4,c5⟩:=h1.cl hc;refine⟨n,rfl,C,f,fd,d.ps,c1,c2,c4 hs,(ih.1 d hd f fd h1.fn),?_⟩;by_cases hn:F_.contains d.cls=true
   .rw [ag hn];exact h1.bn hs hn
   .rw [aj hn];exact h1.bd
  .cases (show some (mT D (oP G T D n).1)=some g from h);refine⟨n,rfl,λc m g hg=>?_⟩;obtain⟨hm,d',hd',rfl,rfl,hc,rfl⟩:=wQ hg;obtain⟨f',fd',h1⟩:=Tk.fn d' hd';obtain⟨C,c1,c2,c3,c4,c5⟩:=h1.cl hc;exact⟨C,f',fd',d'.ps,c1,c3,c5 hm,ih.1 d' hd' f' fd' h1.fn,h1.bd⟩
theorem wd:∀s:List Int,bB K F H (s.map .int) (s.map V.int)
 | []=>rfl
 |n::r=>⟨_,_,rfl,rfl,wd r⟩
theorem Lz{K:FG}{H:Hp}{a:Addr}{n:List Int}{g:GF}{E:XK}(e:CO H)(S:fq K H a (n.map V.int))(h:pureOf g [.ro (n.map .int)]=some (.bl true)):nc K g [.ref a] H (λv _=>v=.bl true) E:=by
 refine p7 ⟨λb=>b=a/\H a≠none,[.ro (n.map .int)],.bl true,λb x=>(by rw[x.1];exact x.2),⟨_,_,rfl,⟨a,_,rfl,?_,wd n⟩,rfl⟩,h,λv F k _ r=>r⟩;rcases S with S|S
 .rcases e a with z|z|⟨o,f,z⟩
  .rcases S with S|⟨o,S⟩<;>rw[z]at S<;>cases S
  .rcases S with S|⟨o,S⟩<;>rw[z]at S<;>cases S
  .rcases S with S|⟨s,S⟩
   .rw [z]at S;cases S
   .exact .inl ⟨⟨rfl,by rw[z];exact λq=>nomatch q⟩,s,S⟩
 .exact .inr (.inr S)
open PySem L2
section
variable(L:Lc)(S:aE)
@[simp] theorem PL(i:Nat):U i L S=match L[i]? with|some (some d)=>some (d,S)|_=>none:=rfl
@[simp] theorem Pm(r:EE):cH r L S=bw (r L S) λd h=>match kI d h with|some n=>some (.int (n:Int),h)|none=>none:=by
 unfold cH;cases r L S with
 |none=>rfl
 |some z=>obtain⟨d,h⟩:=z;rw[ac,ac];cases kI d h<;>rfl
@[simp] theorem PF(i:Nat)(v:P):aK i v L=some (L.set i (some (.p v))):=rfl
end
@[simp] theorem Fa(x:List B):(few x=true)=(x.length≤1000000):=by unfold few;simp
@[simp] theorem mH(n:Nat):(gO n=true)=(n≤1000000):=by unfold gO;simp
theorem cS{B:Type}{s:List B}{i:Int}{x:B}(a:0≤i)(h:s[i.toNat]? = some x):L2.atI s i=some x:=by have l:=(bg.mp h).1;unfold L2.atI L2.CS;rw[ag a,ag (by lia)];exact h
@[simp] theorem O_(x:B)(s:List B):L2.atI (x::s) 0=some x:=cS (by lia) rfl
@[simp] theorem P4(x y:B)(s:List B):L2.atI (x::y::s) 1=some y:=cS (by lia) rfl
@[simp] theorem P2(x y z:B)(s:List B):L2.atI (x::y::z::s) 2=some z:=cS (by lia) rfl
@[simp] theorem MM(x y z w:B)(s:List B):L2.atI (x::y::z::w::s) 3=some w:=cS (by lia) rfl
@[simp] theorem PV(x:List P)(i:Int):bj (.tup x) (.int i)=L2.atI x i:=rfl
@[simp] theorem PX(x:List P)(i:Int):bj (.lst x) (.int i)=L2.atI x i:=rfl
@[simp] theorem RB(x:List P)(i:Int):bj (.ro x) (.int i)=L2.atI x i:=rfl
@[simp] theorem PY(k:List dj)(v:List P)(x:Str):bj (.dct k v) (.str x)=gi (.inr x) k v:=rfl
@[simp] theorem OU(i j:Int):u6 (.int i) (.int j)=some (.bl (decide (i=j))):=rfl
@[simp] theorem OT(i j:Str):u6 (.str i) (.str j)=some (.bl (decide (i=j))):=rfl
@[simp] theorem P0(i j:Bool):u6 (.bl i) (.bl j)=some (.bl (decide (i=j))):=rfl
@[simp] theorem PR(i j:Int):MD (.int i) (.int j)=some (.bl (!decide (i=j))):=rfl
@[simp] theorem PQ(i j:Str):MD (.str i) (.str j)=some (.bl (!decide (i=j))):=rfl
@[simp] theorem RA(i j:Bool):MD (.bl i) (.bl j)=some (.bl (!decide (i=j))):=rfl
@[simp] theorem OW(i j:Int):u7 (.int i) (.int j)=some (.int (i+j)):=rfl
@[simp] theorem OQ(i j:Int):u4 (.int i) (.int j)=if jU i j=true then some (.int (i * j)) else none:=rfl
@[simp] theorem ME(x:List P)(n:Int):dU (.tup x) (.int n)=if (gO (x.length * n.toNat) && decide (n.natAbs < 1000000))=true then some (.tup (List.replicate n.toNat x).flatten) else none:=rfl
@[simp] theorem MF(x:Str)(n:Int):dU (.str x) (.int n)=u4 (.str x) (.int n):=rfl
@[simp] theorem OP(i:Int):jJ (.int i)=some (.int (-i)):=rfl
theorem bZ(a n:Nat)(b:ES)(s:List P):pureOf (fg a n b) s=if s.length=a then match b (s.map (λp=>some (.p p))++List.replicate (n-s.length) none) [] with
 |some (.rt d,_,S)=>(toP 9 d S).map (·.1)
 |some (.nx,_,_)=>some .non
 |_=>none else none:=by
 unfold pureOf fg;rw[bv,g9];by_cases h:s.length=a
 .rw [ag h,ag h];show (match db (b (s.map (fun p=>some (D.p p))++List.replicate (n-s.length) none) []) with
   |some (d,S)=>(toP 9 d S).map (λ(x:P×aE)=>x.1)
   |none=>none)=_
  cases b (s.map (λp=>some (D.p p))++List.replicate (n-s.length) none) [] with
  |none=>rfl
  |some z=>obtain⟨f,L,S⟩:=z;cases f<;>simp[db]
 .rw [aj h,aj h]
theorem cj{g:kE}{b:ES}{v:P}{r:List P}{L h L2:Lc}{S x:aE}(a:g v L=some h)(e:b h S=some (.nx,L2,x)):cP g b (v::r) L S=cP g b r L2 x:=by simp[cP,a,e]
section
variable(L:Lc)(S:aE)
@[simp] theorem Pz(a:EV):iH a L S=bw (a L S) λx h=>match x with | .int n=>if (decide (n.natAbs < 1000000))=true then some (intsFrom 0 n.toNat,h) else none|_=>none:=by
 unfold iH;cases a L S with
 |none=>rfl
 |some z=>obtain⟨x,h⟩:=z;cases x<;>first|rfl|simp
@[simp] theorem OD(g:List kE)(v:List P):ci g (.tup v) L=l7 g v L:=rfl
@[simp] theorem MC(g:List kE)(v:List P):ci g (.lst v) L=l7 g v L:=rfl
@[simp] theorem OB:l7 [] [] L=some L:=rfl
@[simp] theorem MB(g:kE)(s:List kE)(v:P)(h:List P):l7 (g::s) (v::h) L=match g v L with|some k=>l7 s h k|none=>none:=rfl
@[simp] theorem QE(v:P):oA (.p v) S=kH v:=rfl
@[simp] theorem Pn(b:Bool):kH (.bl b)=some b:=rfl
@[simp] theorem Nl(i:Int):kH (.int i)=some (i != 0):=rfl
@[simp] theorem R6(x y:P):fS (.p x) (.p y) S=(Cr x y).map .bl:=rfl
@[simp] theorem R5(x y:P):Iu (.p x) (.p y) S=(Lq x y).map .bl:=rfl
end
@[simp] theorem PK(i j:Int):Cr (.int i) (.int j)=some (decide (i=j)):=rfl
@[simp] theorem PJ(i j:Str):Cr (.str i) (.str j)=some (decide (i=j)):=rfl
@[simp] theorem Ry(i j:Bool):Cr (.bl i) (.bl j)=some (decide (i=j)):=rfl
@[simp] theorem Pu(i j:Int):Lq (.int i) (.int j)=some (!decide (i=j)):=rfl
@[simp] theorem Pt(i j:Str):Lq (.str i) (.str j)=some (!decide (i=j)):=rfl
@[simp] theorem Rg(i j:Bool):Lq (.bl i) (.bl j)=some (!decide (i=j)):=rfl
@[simp] theorem MJ(i j:Int):gj (.int i) (.int j)=some (.int (i+j)):=rfl
@[simp] theorem MH(x y:Str):gj (.str x) (.str y)=u7 (.str x) (.str y):=rfl
@[simp] theorem MI(x y:List P):gj (.lst x) (.lst y)=if gO (x.length+y.length)=true then some (.lst (x++y)) else none:=rfl
@[simp] theorem MG(i j:Int):dU (.int i) (.int j)=if jU i j=true then some (.int (i * j)) else none:=rfl
@[simp] theorem Cy(x:List P)(n:Int):dU (.lst x) (.int n)=if (gO (x.length * n.toNat) && decide (n.natAbs < 1000000))=true then some (.lst (List.replicate n.toNat x).flatten) else none:=rfl
section
variable{L:Lc}{S:aE}
@[simp high] theorem Td(d:D):U 0 (some d::L) S=some (d,S):=rfl
@[simp high] theorem Tc(a:Option D)(i:Nat):U (i+1) (a::L) S=U i L S:=rfl
@[simp ↓ high] theorem S_(x y:s):(if few ([]:List B)=true then x else y)=x:=rfl
@[simp ↓ high] theorem S7(a:B)(x y:s):(if few ([a]:List B)=true then x else y)=x:=rfl
@[simp ↓ high] theorem S6(a h:B)(x y:s):(if few ([a,h]:List B)=true then x else y)=x:=rfl
@[simp ↓ high] theorem S4(a h e:B)(x y:s):(if few ([a,h,e]:List B)=true then x else y)=x:=rfl
@[simp ↓ high] theorem S0(a h e s:B)(x y:k):(if few ([a,h,e,s]:List B)=true then x else y)=x:=rfl
@[simp ↓ high] theorem SY(a h e s n:B)(x y:k):(if few ([a,h,e,s,n]:List B)=true then x else y)=x:=rfl
@[simp ↓ high] theorem SX(a h e s n k:B)(x y:b):(if few ([a,h,e,s,n,k]:List B)=true then x else y)=x:=rfl
@[simp ↓ high] theorem SW(a h e s n k f:B)(x y:b):(if few ([a,h,e,s,n,k,f]:List B)=true then x else y)=x:=rfl
@[simp high] theorem Tl(v:P)(S:aE):toP 9 (.p v) S=some (v,S):=rfl
@[simp ↓ high] theorem R_(x:Option (B×aE))(f:B->aE->Option s):bw x f=match x with|some (a,S)=>f a S|none=>none:=rfl
@[simp ↓ high] theorem SM(x y:s):(if true=true then x else y)=x:=rfl
@[simp ↓ high] theorem SN(x y:s):(if false=true then x else y)=y:=rfl
end
@[simp] theorem Q8(a b:String):(Str.ofString a=Str.ofString b)=(a=b):=by rw[yD,yD];exact propext ⟨λh=>String.toList_inj.mp ((zp λ_ _=>Char.toNat_inj.mp).mp (by simpa using h)),λh=>by rw[h]⟩
end Ev
set_option tactic.hygienic false
namespace My
open PySem L2 Ev
noncomputable def BZ(i:Nat):Stmt:=PySem.Challenge.pw_roadsall_k89_whole_judge_beyond_two_thou.main.body.getD i (.Pass ⟨0,0,0,0⟩)
noncomputable def Gv(x:Str):Option P:=if x=("HAND_PARTS":Str) then some (.tup [.str "some",.str "all",.str "many"]) else if x=("KNOWING":Str) then some (.tup [.str "some knows",.str "each knows"]) else if x=("LASTING":Str) then some (.tup [.str "at last",.str "whenever"]) else if x=("NOBODY":Str) then some (.int (-1)) else if x=("SAFETY":Str) then some (.tup [.str "never",.str "always",.str "ahead"]) else none
noncomputable def KG:LS:=["flaw_ends","Board.family_of","takeable","sendings","step_ends","hand_ends","ends_on","Board.__init__","Court.__init__","Court.ends_of","run_from","is_closed","fitting_numbers","hand_truths","truths_in","Scene.__init__","Court.truths_at","is_own","is_standing","are_standings","is_shut","is_can_paper","bad_and_final_at","is_bad_run","is_safety_paper","is_paper"]
def f_(x:Str)(t k:Nat)(N o d:LS):Df:=⟨x,x,"",BZ t,N,N.take k,o,d,KG⟩
def jz:Df:=f_ "_law_cell_at" 120 2 ["_law_script","_law_k"] [] []
def jD:Df:=f_ "families_of" 12 1 ["plan","homes","place","family"] ["homes"] []
def mx:Df:=f_ "pairs_of" 13 1 ["plan","names","pairs","road","one","name","others"] ["pairs"] []
def sH:Df:=f_ "begin" 14 1 ["plan","hands","place","cells","whos"] ["hands"] []
def mv:Df:=f_ "replaced" 31 3 ["row","place","thing"] [] []
def lc:Df:=f_ "flaw_ends" 27 3 ["board","standing","word","ends","place","pair","road","one","other","letters","spot","roads"] ["board","ends"] []
def kN:Df:=⟨"Board.family_of","family_of","Board",(L2.ej (BZ 11) 1),["self","hand"],["self","hand"],["self"],[],KG⟩
def k4:Df:=f_ "values_of" 18 2 ["family","cells"] [] []
def mE:Df:=f_ "compared" 7 3 ["word","one","other"] [] []
def ml:Df:=f_ "value_of" 5 2 ["tree","values","kind","one","other"] [] []
def sG:Df:=f_ "holds" 6 2 ["condition","values","kind"] [] []
def mo:Df:=f_ "takeable" 19 4 ["board","roads","hand","take","found","sender","place","kind","letters","spots"] ["board","found"] []
def iM:Df:=f_ "cells_behind" 22 4 ["family","cells","step","values","given","name","amount","numbers","place","cell","number"] ["given","numbers"] []
def jy:Df:=f_ "whos_behind" 23 4 ["family","whos","take","letter"] [] []
def mq:Df:=f_ "sendings" 24 6 ["board","hand","sends","values","roads","whos","ways","mark","amount","way","name","letter","further","chosen","sent","added","targets","roads_behind"] ["board","further"] []
def k6:Df:=f_ "step_ends" 21 5 ["board","standing","hand","step","letter","family","room","cells","whos","roads","values","place","hands","ends","chosen","roads_behind"] ["board","ends","values"] ["values","values_of"]
def k_:Df:=f_ "hand_ends" 17 3 ["board","standing","hand","family","room","cells","whos","values","ends","step","letter"] ["board","ends"] []
def oq:Df:=f_ "ends_on" 16 2 ["board","standing","ends","hand"] ["board","ends"] []
def qO:Df:=⟨"Board.__init__","__init__","Board",(L2.ej (BZ 11) 0),["self","plan","place","pair","hand"],["self","plan"],["self"],["families_of","pairs_of","places","self"],KG⟩
def lf:Df:=f_ "ends_from" 15 2 ["plan","standing"] [] []
def k7:Df:=f_ "_law_drawn" 121 2 ["_law_cell","_law_k","_law_turn","_law_number"] [] []
def om:Df:=f_ "_law_run" 123 3 ["_law_plan","_law_cell","_law_many","_law_run_here","_law_did","_law_k","_law_some","_law_deed","_law_end"] ["_law_did","_law_run_here"] []
def mw:Df:=f_ "parts_of" 46 1 ["fact","kind"] [] []
def j5:Df:=f_ "hand_parts" 59 1 ["facts","found","fact"] ["found"] []
def qN:Df:=⟨"Court.__init__","__init__","Court",(L2.ej (BZ 61) 0),["self","plan","saying"],["self","plan","saying"],["self"],[],KG⟩
def fm:Df:=f_ "speaks_of_knowing" 47 1 ["saying","parts","fact"] ["parts"] []
def jA:Df:=f_ "is_tuple_of" 63 2 ["thing","length"] [] []
def k9:Df:=f_ "is_called" 91 3 ["paper","word","length"] [] []
def mF:Df:=⟨"Court.ends_of","ends_of","Court",(L2.ej (BZ 61) 1),["self","standing"],["self","standing"],["self"],["self"],KG⟩
def mu:Df:=f_ "run_from" 72 3 ["court","standing","deeds","standings","deed","ends"] ["court","standings"] []
def iK:Df:=f_ "is_closed_by" 95 3 ["standings","finals","ends_by","listed","standing","final"] [] []
def k8:Df:=f_ "is_closed" 94 3 ["court","standings","finals"] ["court","return"] ["is_closed.<locals>.<lambda>","is_closed_by"]
def wu:Df:=f_ "fits" 41 4 ["family","own","room","condition"] [] []
def gh:Df:=f_ "fitting_numbers" 40 4 ["scene","members","room","condition","family","known","numbers","standing","number","hand","own"] ["known","members","numbers","scene"] []
def jC:Df:=f_ "hand_truths" 39 2 ["scene","fact","kind","name","room","condition","members","numbers"] ["members","scene"] []
def k5:Df:=f_ "truths_in" 36 2 ["scene","fact","kind"] ["scene"] []
def qM:Df:=⟨"Scene.__init__","__init__","Scene",(L2.ej (BZ 35) 0),["self","plan","standings","around"],["self","plan","standings","around"],["self"],[],KG⟩
def kM:Df:=⟨"Court.truths_at","truths_at","Court",(L2.ej (BZ 61) 2),["self","fact","standings"],["self","fact","standings"],["self"],[],KG⟩
def jE:Df:=f_ "are_letters" 69 2 ["road","letters"] [] []
def oo:Df:=f_ "is_from" 65 3 ["thing","low","high"] [] []
def qL:Df:=f_ "is_own" 68 3 ["board","family","own","room","cells","whos"] ["board"] []
def jB:Df:=f_ "is_standing" 67 2 ["board","thing","hands","roads"] ["board"] []
def ie:Df:=f_ "are_standings" 71 2 ["board","things"] ["board"] []
def on:Df:=f_ "is_shut" 118 3 ["court","deeds","standings","run"] ["court"] []
def iL:Df:=f_ "is_can_paper" 116 3 ["court","answer","paper"] ["court"] []
def ib:Df:=f_ "bad_and_final" 86 2 ["saying","truths_by","ones","others"] [] []
def fQ:Df:=f_ "bad_and_final_at" 98 2 ["court","standings"] ["court","return"] ["bad_and_final","bad_and_final_at.<locals>.<lambda>"]
def j4:Df:=f_ "is_bad_run" 99 2 ["court","deeds","standings","bads","finals"] ["court"] []
def gc:Df:=f_ "is_safety_paper" 97 3 ["court","answer","paper"] ["court"] []
def mD:Df:=f_ "is_paper" 96 3 ["court","answer","paper"] ["court"] []
def h_:Df:=f_ "is_told_thing" 62 1 ["thing","waiting","piece"] ["waiting"] []
def sF:Df:=f_ "judge" 89 4 ["plan","saying","answer","paper","court"] [] []
def mB:Df:=f_ "_law_held" 124 4 ["_law_plan","_law_saying","_law_paper","_law_due","_law_found"] [] []
def my:Df:=f_ "_law_name" 122 2 ["_law_cell","_law_k","_law_letters"] [] []
def pD:Df:=f_ "law" 125 1 ["_law_script","_law_cell","_law_family","_law_room","_law_own","_law_more","_law_step","_law_plan","_law_number","_law_has","_law_run_here","_law_did","_law_first","_law_saying","_law_many","_law_none","_law_last"] [] []
noncomputable def Att:At:=[("Board",["families","homes","members","pairs","places"]),("Court",["around","board","first","known","parts","plan","saying"]),("Scene",["around","board","dries","standings"])]
def MO:List Df:=[jz,jD,mx,sH,mv,lc,k4,mE,ml,sG,mo,iM,jy,mq,k6,k_,oq,lf,k7,om,mw,j5,fm,jA,k9,mu,iK,k8,wu,gh,jC,k5,jE,oo,qL,jB,ie,on,iL,ib,fQ,j4,gc,mD,h_,sF,mB,my,pD]
def Sa:List Df:=[kN,qO,qN,mF,qM,kM]
noncomputable def Tb:List Df:=MO++Sa
noncomputable def Ph(n:Nat):Str->GF:=IY Gv Att Tb n
def fY (h:Str->GF):ES:=(aA (cZ (bV (aW PU (vE (U 1)) (cH (U 0)))) (aO (eV (aW bj (vE (U 0)) (vE (U 1))))) eD)
  (aO (eV (aW gj (aW dU (vC (.int 5)) (vE (U 1))) (vC (.int 3))))))
theorem jx(n:Nat):Ph (n+2) "_law_cell_at"=fg 2 2 (fY (Ph (n+1))):=by kernel_rfl
def gQ(h:Str->GF):ES:=(c_ (c0 (U 1) (aW dU (cB (O (vE (U 2)) ah)) (aW bj (vE (U 3)) (vC (.int 1))))))
def jH (h:Str->GF):ES:=(aA (aZ 1 (fj ah))
  (aA (cT (rD (aW bj (vE (U 0)) (vC (.int 0)))) (ci [aK 2,aK 3]) (gQ h))
  (aO (U 1))))
theorem oJ(n:Nat):Ph (n+2) "families_of"=fg 1 4 (jH (Ph (n+1))):=by kernel_rfl
def nP (h:Str->GF):ES:=(aA (nh (ci [aK 6,aK 7,aK 8]) (vE (U 5)))
  (aA (aZ 9 (eV (aW bj (aW bj (vE (U 1)) (vC (.int 1))) (vE (U 4)))))
  da))
def iz (h:Str->GF):ES:=(aA (aZ 3 (fj ah))
  (aA (cT (rD (vE (a8 (aT Att) (U 0) "pairs"))) (ci [aK 4,aK 5]) (nP h))
  (aO (U 3))))
theorem rK:Ph 13 "flaw_ends"=fg 3 12 (iz (Ph 12)):=by kernel_rfl
def kO(h:Str->GF):ES:=(aO (kZ (a8 (aT Att) (U 0) "families") (vE (kZ (a8 (aT Att) (U 0) "homes") (vE (U 1))))))
theorem ga(n:Nat):Ph (n+2) "Board.family_of"=fg 2 2 (kO (Ph (n+1))):=by kernel_rfl
def mM (h:Str->GF):ES:=(aA (cZ (bV (a7 fS (U 0) (eV (vC (.str "="))))) (aO (eV (a7 fS (U 1) (U 2)))) eD)
  (aA (cZ (bV (a7 fS (U 0) (eV (vC (.str "!="))))) (aO (eV (a7 Iu (U 1) (U 2)))) eD)
  (aA (cZ (bV (a7 fS (U 0) (eV (vC (.str "<"))))) (aO (eV (aW PU (vE (U 1)) (vE (U 2))))) eD)
  (aA (cZ (bV (a7 fS (U 0) (eV (vC (.str "<="))))) (aO (eV (aW OR (vE (U 1)) (vE (U 2))))) eD)
  (aA (cZ (bV (a7 fS (U 0) (eV (vC (.str ">"))))) (aO (eV (aW OS (vE (U 1)) (vE (U 2))))) eD)
  (aO (eV (aW PZ (vE (U 1)) (vE (U 2))))))))))
theorem uY(n:Nat):Ph (n+2) "compared"=fg 3 3 (mM (Ph (n+1))):=by kernel_rfl
def ji (h:Str->GF):ES:=(aA (aZ 2 (eV (aW bj (vE (U 0)) (vC (.int 0)))))
  (aA (cZ (bV (a7 fS (U 2) (eV (vC (.str "number"))))) (aO (eV (aW bj (vE (U 0)) (vC (.int 1))))) eD)
  (aA (cZ (bV (a7 fS (U 2) (eV (vC (.str "name"))))) (aO (eV (aW bj (vE (U 1)) (aW bj (vE (U 0)) (vC (.int 1)))))) eD)
  (aA (aZ 3 (eV (aG (pureOf (h "value_of")) (O (aW bj (vE (U 0)) (vC (.int 1))) (O (vE (U 1)) ah)))))
  (aA (aZ 4 (eV (aG (pureOf (h "value_of")) (O (aW bj (vE (U 0)) (vC (.int 2))) (O (vE (U 1)) ah)))))
  (aA (cZ (bV (a7 fS (U 2) (eV (vC (.str "plus"))))) (aO (eV (aW gj (vE (U 3)) (vE (U 4))))) eD)
  (aA (cZ (bV (a7 fS (U 2) (eV (vC (.str "minus"))))) (aO (eV (aW wv (vE (U 3)) (vE (U 4))))) eD)
  (aO (eV (aW dU (vE (U 3)) (vE (U 4))))))))))))
theorem ma(n:Nat):Ph (n+2) "value_of"=fg 2 5 (ji (Ph (n+1))):=by kernel_rfl
def nN (h:Str->GF):ES:=(aA (aZ 2 (eV (aW bj (vE (U 0)) (vC (.int 0)))))
  (aA (cZ (bV (a7 fS (U 2) (eV (vC (.str "true"))))) (aO (eV (vC (.bl true)))) eD)
  (aA (cZ (bV (a7 fS (U 2) (eV (vC (.str "not"))))) (aO (eV (vB (dB (bV (aG (pureOf (h "holds")) (O (aW bj (vE (U 0)) (vC (.int 1))) (O (vE (U 1)) ah)))))))) eD)
  (aA (cZ (bV (a7 fS (U 2) (eV (vC (.str "and"))))) (aO (eV (vB (f8 (bV (aG (pureOf (h "holds")) (O (aW bj (vE (U 0)) (vC (.int 1))) (O (vE (U 1)) ah)))) (bV (aG (pureOf (h "holds")) (O (aW bj (vE (U 0)) (vC (.int 2))) (O (vE (U 1)) ah)))))))) eD)
  (aA (cZ (bV (a7 fS (U 2) (eV (vC (.str "or"))))) (aO (eV (vB (FU (bV (aG (pureOf (h "holds")) (O (aW bj (vE (U 0)) (vC (.int 1))) (O (vE (U 1)) ah)))) (bV (aG (pureOf (h "holds")) (O (aW bj (vE (U 0)) (vC (.int 2))) (O (vE (U 1)) ah)))))))) eD)
  (aO (eV (aG (pureOf (h "compared")) (O (aW bj (vE (U 0)) (vC (.int 1))) (O (aG (pureOf (h "value_of")) (O (aW bj (vE (U 0)) (vC (.int 2))) (O (vE (U 1)) ah))) (O (aG (pureOf (h "value_of")) (O (aW bj (vE (U 0)) (vC (.int 3))) (O (vE (U 1)) ah))) ah)))))))))))
theorem sv(n:Nat):Ph (n+2) "holds"=fg 2 3 (nN (Ph (n+1))):=by kernel_rfl
def oK (h:Str->GF):ES:=(aA (aZ 6 (IF (a8 (aT Att) (U 0) "places") (O (vE (U 5)) (O (vE (U 2)) ah))))
  (aA (aZ 7 (kZ (kZ (kZ (a8 (aT Att) (U 0) "pairs") (vE (U 6))) (vC (.int 0))) (vC (.int 2))))
  (aA (aZ 8 (eV (aW bj (vE (U 1)) (vE (U 6)))))
  (aA da
  (c_ (c0 (U 4) (bH (gF (vE (U 9))) [] 1 (aK 10) (bV (a7 fS (eV (aW bj (aW bj (vE (U 8)) (vE (U 10))) (vC (.int 0)))) (eV (aW bj (vE (U 3)) (vC (.int 0)))))) (aS (O (vE (U 5)) (O (vE (U 10)) ah))))))))))
def mJ (h:Str->GF):ES:=(aA (cZ (bV (a7 x6 (U 3) (eV (vC (.non))))) (aO (eV (cB (O (vC (.non)) ah)))) eD)
  (aA (aZ 4 (fj ah))
  (aA (cT (gF (vE (cz (mT Tb h) (U 0) "hands_beside" (af (U 2) (af (eV (aW bj (vE (U 3)) (vC (.int 1)))) aI))))) (aK 5) (oK h))
  (aO (U 4)))))
theorem uT(n:Nat):Ph (n+2) "takeable"=fg 4 10 (mJ (Ph (n+1))):=by kernel_rfl
def gm(h:Str->GF):ES:=(nU (U 4) (vE (U 5)) (aG (pureOf (h "value_of")) (O (vE (U 6)) (O (vE (U 3)) ah))))
def gk (h:Str->GF):ES:=(aA (aZ 10 (eV (Dt (vE (U 4)) (aW bj (vE (U 9)) (vC (.int 0))) (aW bj (vE (U 1)) (vE (U 8))))))
  (aA (cZ (f8 (bV (a7 ls (eV (aW bj (vE (U 9)) (vC (.int 0)))) (U 4))) (dB (bV (m5 OR OR (aW bj (vE (U 9)) (vC (.int 1))) (vE (U 10)) (aW bj (vE (U 9)) (vC (.int 2))))))) (aO (eV (vC (.non)))) eD)
  (c_ (eT (U 7) (U 10)))))
def iQ (h:Str->GF):ES:=(aA (aZ 4 qI)
  (aA (cT (gF (aW bj (vE (U 2)) (vC (.int 4)))) (ci [aK 5,aK 6]) (gm h))
  (aA (cZ (f8 (bV (a7 lr (eV (aW bj (vE (U 2)) (vC (.int 3)))) (eV (vC (.non))))) (bV (a7 Iu (eV (aW bj (aW bj (vE (U 2)) (vC (.int 3))) (vC (.int 2)))) (eV (vC (.str "")))))) (nU (U 4) (aW bj (aW bj (vE (U 2)) (vC (.int 3))) (vC (.int 2))) (aW bj (vE (U 3)) (vC (.str "it")))) eD)
  (aA (aZ 7 (fj ah))
  (aA (cT (rD (aW bj (vE (U 0)) (vC (.int 3)))) (ci [aK 8,aK 9]) (gk h))
  (aO (eV (aG kD (O (vE (U 7)) ah)))))))))
theorem nE(n:Nat):Ph (n+2) "cells_behind"=fg 4 11 (iQ (Ph (n+1))):=by kernel_rfl
def oN(h:Str->GF):ES:=da
def oM (h:Str->GF):ES:=(aA (aZ 11 (eV (aS (O (vE (U 7)) (O (aG (pureOf (h "value_of")) (O (vE (U 8)) (O (vE (U 3)) ah))) ah)))))
  (aA (aZ 12 (fj ah))
  (aA (cT (gF (vE (U 6))) (ci [aK 13,aK 14]) (oN h))
  (aZ 6 (U 12)))))
def mK (h:Str->GF):ES:=(aA (aZ 6 (eV (cB (O (aS (O (aS ah) (O (vE (U 4)) ah))) ah))))
  (aA (cT (gF (vE (U 2))) (ci [aK 7,aK 8,aK 9,aK 10]) (oM h))
  (aO (U 6))))
theorem uU(n:Nat):Ph (n+2) "sendings"=fg 6 18 (mK (Ph (n+1))):=by kernel_rfl
def iN(h:Str->GF):ES:=(c_ (eT (U 13) (eV (aS (O (aS (O (vC (.str "step")) (O (vE (U 2)) (O (aW bj (vE (U 3)) (vC (.int 0))) (O (vE (U 4)) (O (vE (U 14)) ah)))))) (O (aS (O (vE (U 12)) (O (vE (U 15)) ah))) ah))))))
def iu (h:Str->GF):ES:=(aA (aZ 5 (cz (mT Tb h) (U 0) "family_of" (af (U 2) aI)))
  (aA (nh (ci [aK 6,aK 7,aK 8]) (aW bj (aW bj (vE (U 1)) (vC (.int 0))) (vE (U 2))))
  (aA (aZ 9 (eV (aW bj (vE (U 1)) (vC (.int 1)))))
  (aA (aZ 10 (nG (h "values_of") (af (U 5) (af (U 7) aI))))
  (aA (cZ (bV (a7 lr (U 4) (eV (vC (.non))))) (aA (aZ 11 (IF (a8 (aT Att) (U 0) "places") (O (aW bj (vE (U 4)) (vC (.int 0))) (O (vE (U 2)) ah))))
  (aA (nU (U 10) (vC (.str "it")) (aW bj (aW bj (aW bj (vE (U 9)) (vE (U 11))) (aW bj (vE (U 4)) (vC (.int 1)))) (vC (.int 1))))
  da)) eD)
  (aA (aZ 7 (eV (aG (pureOf (h "cells_behind")) (O (vE (U 5)) (O (vE (U 7)) (O (vE (U 3)) (O (vE (U 10)) ah)))))))
  (aA (cZ (bV (a7 x6 (U 7) (eV (vC (.non))))) (aO (eV (cB ah))) eD)
  (aA (aZ 8 (eV (aG (pureOf (h "whos_behind")) (O (vE (U 5)) (O (vE (U 8)) (O (aW bj (vE (U 3)) (vC (.int 3))) (O (vE (U 4)) ah)))))))
  (aA (aZ 12 (eV (aG (pureOf (h "replaced")) (O (aW bj (vE (U 1)) (vC (.int 0))) (O (vE (U 2)) (O (aS (O (J_ (aW bj (vE (U 5)) (vC (.int 2))) (aW bj (vE (U 3)) (vC (.int 6)))) (O (vE (U 7)) (O (vE (U 8)) ah)))) ah))))))
  (aA (aZ 13 (fj ah))
  (aA (cT (gF (aP (h "sendings") (af (U 0) (af (U 2) (af (eV (aW bj (vE (U 3)) (vC (.int 5)))) (af (U 10) (af (U 9) (af (U 8) aI)))))))) (ci [aK 14,aK 15]) (iN h))
  (aO (U 13)))))))))))))
theorem rG(n:Nat):Ph (n+2) "step_ends"=fg 5 16 (iu (Ph (n+1))):=by kernel_rfl
def nO(h:Str->GF):ES:=(c_ (c0 (U 8) (aP (h "step_ends") (af (U 0) (af (U 1) (af (U 2) (af (U 9) (af (U 10) aI))))))))
def dF(h:Str->GF):ES:=(cZ (f8 (bV (a7 fS (eV (aW bj (vE (U 9)) (vC (.int 1)))) (eV (aW bj (aW bj (vE (U 3)) (vC (.int 2))) (vE (U 4)))))) (bT (eV (aG (pureOf (h "holds")) (O (aW bj (vE (U 9)) (vC (.int 2))) (O (vE (U 7)) ah)))))) (cT (gF (aP (h "takeable") (af (U 0) (af (eV (aW bj (vE (U 1)) (vC (.int 1)))) (af (U 2) (af (eV (aW bj (vE (U 9)) (vC (.int 3)))) aI)))))) (aK 10) (nO h)) eD)
def iy (h:Str->GF):ES:=(aA (aZ 3 (cz (mT Tb h) (U 0) "family_of" (af (U 2) aI)))
  (aA (nh (ci [aK 4,aK 5,aK 6]) (aW bj (aW bj (vE (U 1)) (vC (.int 0))) (vE (U 2))))
  (aA (aZ 7 (eV (aG (pureOf (h "values_of")) (O (vE (U 3)) (O (vE (U 5)) ah)))))
  (aA (aZ 8 (fj ah))
  (aA (cT (gF (aW bj (vE (U 3)) (vC (.int 5)))) (aK 9) (dF h))
  (aO (U 8)))))))
theorem rJ:Ph 13 "hand_ends"=fg 3 11 (iy (Ph 12)):=by kernel_rfl
def j9(h:Str->GF):ES:=(c_ (c0 (U 2) (aP (h "hand_ends") (af (U 0) (af (U 1) (af (U 3) aI))))))
def j_ (h:Str->GF):ES:=(aA (aZ 2 (fj ah))
  (aA (cT (iH (cH (a8 (aT Att) (U 0) "homes"))) (aK 3) (j9 h))
  (aA (c_ (c0 (U 2) (aP (h "flaw_ends") (af (U 0) (af (U 1) (af (eV (vC (.str "lose"))) aI))))))
  (aA (c_ (c0 (U 2) (aP (h "flaw_ends") (af (U 0) (af (U 1) (af (eV (vC (.str "double"))) aI))))))
  (aO (U 2))))))
theorem wt:Ph 14 "ends_on"=fg 2 4 (j_ (Ph 13)):=by kernel_rfl
def cL(h:Str->GF):ES:=(c_ (eT (uZ (a8 (aT Att) (U 0) "members") (aW bj (vE (cz (mT Tb h) (U 0) "family_of" (af (U 4) aI))) (vC (.int 0))) (fj ah)) (U 4)))
def mN(h:Str->GF):ES:=(DN (a8 (aT Att) (U 0) "places") (O (aW bj (vE (U 3)) (vC (.int 1))) (O (aW bj (vE (U 3)) (vC (.int 2))) ah)) (vE (U 2)))
def gU (h:Str->GF):ES:=(aA (dt (aT Att) (U 0) "families" (eV (aW bj (vE (U 1)) (vC (.int 0)))))
  (aA (dt (aT Att) (U 0) "homes" (nG (h "families_of") (af (U 1) aI)))
  (aA (dt (aT Att) (U 0) "pairs" (nG (h "pairs_of") (af (U 1) aI)))
  (aA (dt (aT Att) (U 0) "places" u0)
  (aA (cT (rD (vE (a8 (aT Att) (U 0) "pairs"))) (ci [aK 2,aK 3]) (mN h))
  (aA (dt (aT Att) (U 0) "members" qI)
  (cT (iH (cH (a8 (aT Att) (U 0) "homes"))) (aK 4) (cL h))))))))
theorem qG(n:Nat):Ph (n+2) "Board.__init__"=fg 2 5 (gU (Ph (n+1))):=by kernel_rfl
def iA(x h:Str->GF):ES:=(aO (eV (aP (x "ends_on") (af (gb (h "Board.__init__") "Board" (af (U 0) aI)) (af (U 1) aI)))))
theorem rL(n:Nat):Ph (n+2) "ends_from"=fg 2 2 (iA (Ph (n+1)) (Ph n)):=by kernel_rfl
def fA(h:Str->GF):ES:=(aZ 0 (eV (aW u5 (vE (U 0)) (vC (.int 1000)))))
def iv (h:Str->GF):ES:=(aA (cZ (bV (aW PZ (vE (U 0)) (aW IG (vC (.int 10)) (vC (.int 18))))) (aA (cT (iH (vE (U 1))) (aK 2) (fA h))
  (aO (eV (aW qP (vE (U 0)) (vC (.int 1000)))))) eD)
  (aA (aZ 3 (eV (aW qP (aW dU (aW gj (aW gj (aW qP (vE (U 0)) (vC (.int 1000003))) (aW dU (vE (U 1)) (vC (.int 7919)))) (vC (.int 1))) (vC (.int 48271))) (vC (.int 2147483629)))))
  (aA (aZ 3 (eV (aW qP (aW dU (vE (U 3)) (aW gj (vE (U 3)) (vE (U 1)))) (vC (.int 2147483587)))))
  (aO (eV (aW u5 (aW qP (aW dU (vE (U 3)) (aW gj (vE (U 3)) (vC (.int 2)))) (vC (.int 2147483579))) (vC (.int 7))))))))
theorem kY(n:Nat):Ph (n+2) "_law_drawn"=fg 2 4 (iv (Ph (n+1))):=by kernel_rfl
def eY (h:Str->GF):ES:=(aA (aZ 6 (eV (aG (pureOf (h "ends_from")) (O (vE (U 0)) (O (vE (kZ (U 3) (aW wv (cH (U 3)) (vC (.int 1))))) ah)))))
  (aA (cZ (bV (a7 fS (U 6) (eV (cB ah)))) (aO (eV (aS (O (vE (U 3)) (O (vE (U 4)) ah))))) eD)
  (aA (nh (ci [aK 7,aK 8]) (aW bj (vE (U 6)) (aW qP (aG (pureOf (h "_law_drawn")) (O (vE (U 1)) (O (vE (U 5)) ah))) (cH (U 6)))))
  (aA (c_ (eT (U 4) (U 7)))
  (c_ (eT (U 3) (U 8)))))))
def j8 (h:Str->GF):ES:=(aA (aZ 3 (fj (O (aG (pureOf (h "begin")) (O (vE (U 0)) ah)) ah)))
  (aA (aZ 4 (fj ah))
  (aA (cT (iH (vE (U 2))) (aK 5) (eY h))
  (aO (eV (aS (O (vE (U 3)) (O (vE (U 4)) ah))))))))
theorem wr(n:Nat):Ph (n+2) "_law_run"=fg 3 9 (j8 (Ph (n+1))):=by kernel_rfl
def gS (h x:Str->GF):ES:=(aA (dt (aT Att) (U 0) "plan" (U 1))
  (aA (dt (aT Att) (U 0) "saying" (U 2))
  (aA (dt (aT Att) (U 0) "parts" (eV (aG (pureOf (h "hand_parts")) (O (i8 (vE (U 2)) (ew (vC (.int 1))) eR) ah))))
  (aA (dt (aT Att) (U 0) "board" (gb (x "Board.__init__") "Board" (af (U 1) aI)))
  (aA (dt (aT Att) (U 0) "first" (eV (aG (pureOf (h "begin")) (O (vE (U 1)) ah))))
  (aA (dt (aT Att) (U 0) "known" qH)
  (dt (aT Att) (U 0) "around" (eV (vC (.non))))))))))
theorem qF(n:Nat):Ph (n+2) "Court.__init__"=fg 3 3 (gS (Ph (n+1)) (Ph n)):=by kernel_rfl
def dX(h:Str->GF):ES:=(c_ (c0 (U 1) (aG (pureOf (h "parts_of")) (O (vE (U 2)) ah))))
def de (h:Str->GF):ES:=(aA (aZ 1 (fj ah))
  (aA (cT (gF (i8 (vE (U 0)) (ew (vC (.int 1))) eR)) (aK 2) (dX h))
  (aO (eV (aG dw (O (pX (U 1) [] 1 (aK 3) dG (a7 ls (eV (aW bj (vE (U 3)) (vC (.int 0)))) (eV (vC (.tup [.str "some knows",.str "each knows"]))))) ah))))))
theorem jI(n:Nat):Ph (n+2) "speaks_of_knowing"=fg 1 3 (de (Ph (n+1))):=by kernel_rfl
def jG(h:Str->GF):ES:=(aO (eV (vB (f8 (bV (AT ["tuple"] (U 0))) (bV (a7 fS (eV (cH (U 0))) (U 1)))))))
theorem oG(n:Nat):Ph (n+2) "is_tuple_of"=fg 2 2 (jG (Ph (n+1))):=by kernel_rfl
def cK (h:Str->GF):ES:=(aA (cZ (bV (a7 eS (U 1) (a8 (aT Att) (U 0) "known"))) (nT (a8 (aT Att) (U 0) "known") (vE (U 1)) (aP (h "ends_on") (af (a8 (aT Att) (U 0) "board") (af (U 1) aI)))) eD)
  (aO (rM (a8 (aT Att) (U 0) "known") (vE (U 1)))))
theorem hY(n:Nat):Ph (n+2) "Court.ends_of"=fg 2 2 (cK (Ph (n+1))):=by kernel_rfl
def em (h:Str->GF):ES:=(aA (aZ 5 (eV (bH (gF (vE (cz (mT Tb h) (U 0) "ends_of" (af (kZ (U 3) (vA jJ (vC (.int 1)))) aI)))) [] 2 (ci [aK 6,aK 7]) (bV (a7 fS (U 6) (U 4))) (vE (U 7)))))
  (aA (cZ (bV (a7 fS (eV (cH (U 5))) (eV (vC (.int 0))))) (aO (eV (vC (.non)))) eD)
  (c_ (eT (U 3) (eV (aW bj (vE (U 5)) (vC (.int 0))))))))
def jn (h:Str->GF):ES:=(aA (cZ (dB (bT (eV (AT ["list"] (U 2))))) (aO (eV (vC (.non)))) eD)
  (aA (aZ 3 (fj (O (vE (U 1)) ah)))
  (aA (cT (gF (vE (U 2))) (aK 4) (em h))
  (aO (U 3)))))
theorem uV(n:Nat):Ph (n+2) "run_from"=fg 3 6 (jn (Ph (n+1))):=by kernel_rfl
def dL(x h:Str->GF):ES:=(cZ (f8 (dB (bT (U 5))) (dB (bT (eV (aG j7 (O (bH (gF (il (mT Tb h) 2 (vE (U 4)))) [] 2 (ci [aK 6,aK 7]) dG (a7 E5 (U 7) (U 3))) ah)))))) (aO (eV (vC (.bl false)))) eD)
def fB (x h:Str->GF):ES:=(aA (aZ 3 (yc (bH (gF (vE (U 0))) [4] 0 (aK 4) dG (aS (O (vE (U 4)) (O (vC (.bl true)) ah))))))
  (aA (cT (Jq (vE (U 0)) (vE (U 1))) (ci [aK 4,aK 5]) (dL x h))
  (aO (eV (vC (.bl true))))))
theorem nC(n:Nat):Ph (n+2) "is_closed_by"=fg 3 6 (fB (Ph (n+1)) (Ph n)):=by kernel_rfl
def iw(h:Str->GF):ES:=(aO (nH (h "is_closed_by") false [0] (O (vE (U 1)) (O (vE (U 2)) ah))))
theorem rH(n:Nat):Ph (n+2) "is_closed"=fg 3 3 (iw (Ph (n+1))):=by kernel_rfl
def qW (h:Str->GF):ES:=(aA (cZ (f8 (bV (a7 Iu (U 2) (eV (vC (.str ""))))) (bV (a7 Iu (eV (aW bj (aW bj (vE (U 0)) (vC (.int 2))) (aW bj (vE (U 1)) (vC (.int 0))))) (U 2)))) (aO (eV (vC (.bl false)))) eD)
  (aO (eV (aG (pureOf (h "holds")) (O (vE (U 3)) (O (aG (pureOf (h "values_of")) (O (vE (U 0)) (O (aW bj (vE (U 1)) (vC (.int 1))) ah))) ah))))))
theorem Fi(n:Nat):Ph (n+2) "fits"=fg 4 4 (qW (Ph (n+1))):=by kernel_rfl
def cx (h:Str->GF):ES:=(aA (aZ 10 (eV (i8 (aW bj (aW bj (vE (U 7)) (vC (.int 0))) (vE (U 9))) eR (ew (vC (.int 2))))))
  (aA (cZ (bV (a7 eS (U 10) (U 5))) (nT (U 5) (vE (U 10)) (aG (pureOf (h "fits")) (O (vE (U 4)) (O (vE (U 10)) (O (vE (U 2)) (O (vE (U 3)) ah)))))) eD)
  (cZ (bT (rM (U 5) (vE (U 10)))) (DP 8 (vC (.int 1))) eD)))
def cw (h:Str->GF):ES:=(aA (aZ 8 (eV (vC (.int 0))))
  (aA (cT (gF (vE (U 1))) (aK 9) (cx h))
  (c_ (eT (U 6) (U 8)))))
def dM (h:Str->GF):ES:=(aA (aZ 4 (cz (mT Tb h) (a8 (aT Att) (U 0) "board") "family_of" (af (kZ (U 1) (vC (.int 0))) aI)))
  (aA (aZ 5 qH)
  (aA (aZ 6 (fj ah))
  (aA (cT (gF (vE (a8 (aT Att) (U 0) "standings"))) (aK 7) (cw h))
  (aO (U 6))))))
theorem kK(n:Nat):Ph (n+2) "fitting_numbers"=fg 4 11 (dM (Ph (n+1))):=by kernel_rfl
def f6 (h:Str->GF):ES:=(aA (nh (ci [aK 2,aK 3,aK 4,aK 5]) (i8 (vE (U 1)) eR (ew (vC (.int 4)))))
  (aA (aZ 6 (kZ (a8 (aT Att) (a8 (aT Att) (U 0) "board") "members") (vE (U 3))))
  (aA (aZ 7 (eV (aP (h "fitting_numbers") (af (U 0) (af (U 6) (af (U 4) (af (U 5) aI)))))))
  (aA (cZ (bV (a7 fS (U 2) (eV (vC (.str "some"))))) (aO (eV (bH (gF (vE (U 7))) [] 1 (aK 8) dG (aW OS (vE (U 8)) (vC (.int 0)))))) eD)
  (aA (cZ (bV (a7 fS (U 2) (eV (vC (.str "all"))))) (aO (eV (bH (gF (vE (U 7))) [] 1 (aK 8) dG (a7 fS (U 8) (eV (cH (U 6))))))) eD)
  (aO (eV (bH (gF (vE (U 7))) [] 1 (aK 8) dG (aG (pureOf (h "compared")) (O (aW bj (vE (U 1)) (vC (.int 4))) (O (vE (U 8)) (O (aW bj (vE (U 1)) (vC (.int 5))) ah))))))))))))
theorem oI(n:Nat):Ph (n+2) "hand_truths"=fg 2 8 (f6 (Ph (n+1))):=by kernel_rfl
def dW (h:Str->GF):ES:=(aA (aZ 2 (eV (aW bj (vE (U 1)) (vC (.int 0)))))
  (aA (cZ (bV (a7 fS (U 2) (eV (vC (.str "true"))))) (aO (eV (aW dU (cB (O (vC (.bl true)) ah)) (cH (a8 (aT Att) (U 0) "standings"))))) eD)
  (aA (cZ (bV (a7 fS (U 2) (eV (vC (.str "not"))))) (aO (eV (bH (gF (aP (h "truths_in") (af (U 0) (af (eV (aW bj (vE (U 1)) (vC (.int 1)))) aI)))) [] 1 (aK 3) dG (vB (dB (bV (vE (U 3)))))))) eD)
  (aA (cZ (bV (a7 ls (U 2) (eV (aS (O (vC (.str "and")) (O (vC (.str "or")) ah)))))) da eD)
  (aA (cZ (bV (a7 ls (U 2) (eV (vC (.tup [.str "some",.str "all",.str "many"]))))) (aO (eV (aP (h "hand_truths") (af (U 0) (af (U 1) aI))))) eD)
  (aA (cZ (bV (a7 fS (U 2) (eV (vC (.str "letters"))))) da eD)
  (aA (cZ (bV (a7 fS (U 2) (eV (vC (.str "dry"))))) (aO (cz (mT Tb h) (U 0) "dry_truths" aI)) eD)
  da)))))))
theorem kX(n:Nat):Ph (n+2) "truths_in"=fg 2 3 (dW (Ph (n+1))):=by kernel_rfl
def gR (x h:Str->GF):ES:=(aA (dt (aT Att) (U 0) "board" (gb (h "Board.__init__") "Board" (af (U 1) aI)))
  (aA (dt (aT Att) (U 0) "standings" (U 2))
  (aA (dt (aT Att) (U 0) "around" (PM (bV (a7 x6 (U 3) (eV (vC (.non))))) (U 0) (U 3)))
  (dt (aT Att) (U 0) "dries" (eV (vC (.non)))))))
theorem qE(n:Nat):Ph (n+2) "Scene.__init__"=fg 4 4 (gR (Ph (n+1)) (Ph n)):=by kernel_rfl
def dO(x h:Str->GF):ES:=(aO (eV (aP (x "truths_in") (af (gb (h "Scene.__init__") "Scene" (af (a8 (aT Att) (U 0) "plan") (af (U 2) (af (a8 (aT Att) (U 0) "around") aI)))) (af (U 1) aI)))))
theorem kL(n:Nat):Ph (n+2) "Court.truths_at"=fg 3 3 (dO (Ph (n+1)) (Ph n)):=by kernel_rfl
def fZ (h:Str->GF):ES:=(aA (cZ (dB (bT (eV (aG (pureOf (h "is_tuple_of")) (O (vE (U 1)) (O (vC (.int 2)) ah)))))) (aO (eV (vC (.bl false)))) eD)
  (aA (nh (ci [aK 2,aK 3]) (vE (U 1)))
  (aA (cZ (dB (f8 (bT (eV (aG (pureOf (h "is_tuple_of")) (O (vE (U 2)) (O (cH (a8 (aT Att) (U 0) "homes")) ah))))) (bT (eV (aG (pureOf (h "is_tuple_of")) (O (vE (U 3)) (O (cH (a8 (aT Att) (U 0) "pairs")) ah))))))) (aO (eV (vC (.bl false)))) eD)
  (aA (cZ (dB (bT (eV (aG j7 (O (bH (rD (vE (U 2))) [] 2 (ci [aK 4,aK 5]) dG (aP (h "is_own") (af (U 0) (af (cz (mT Tb h) (U 0) "family_of" (af (U 4) aI)) (af (U 5) aI))))) ah))))) (aO (eV (vC (.bl false)))) eD)
  (aO (eV (aG j7 (O (bH (Jq (vE (a8 (aT Att) (U 0) "pairs")) (vE (U 3))) [] 2 (ci [aK 4,aK 5]) dG (aG (pureOf (h "are_letters")) (O (aW bj (vE (U 4)) (vC (.int 0))) (O (vE (U 5)) ah)))) ah))))))))
theorem oH(n:Nat):Ph (n+2) "is_standing"=fg 2 4 (fZ (Ph (n+1))):=by kernel_rfl
def ff (h:Str->GF):ES:=(aA (cZ (dB (f8 (bT (eV (AT ["list"] (U 1)))) (bT (eV (aG j7 (O (bH (gF (vE (U 1))) [] 1 (aK 2) dG (aP (h "is_standing") (af (U 0) (af (U 2) aI)))) ah)))))) (aO (eV (vC (.bl false)))) eD)
  (aO (eV (a7 fS (eV (lP (vE (U 1)))) (eV (cH (U 1)))))))
theorem mj(n:Nat):Ph (n+2) "are_standings"=fg 2 2 (ff (Ph (n+1))):=by kernel_rfl
def fR (h:Str->GF):ES:=(aA (aZ 3 (eV (aP (h "run_from") (af (U 0) (af (a8 (aT Att) (U 0) "first") (af (U 1) aI))))))
  (aA (cZ (FU (bV (a7 x6 (U 3) (eV (vC (.non))))) (FU (dB (bT (eV (aP (h "are_standings") (af (a8 (aT Att) (U 0) "board") (af (U 2) aI)))))) (bV (a7 jY (eV (aW bj (vE (U 3)) (vA jJ (vC (.int 1))))) (U 2))))) (aO (eV (vC (.bl false)))) eD)
  (aA (cZ (bT (eV (aG dw (O (vE (cz (mT Tb h) (U 0) "truths_at" (af (kZ (a8 (aT Att) (U 0) "saying") (vC (.int 1))) (af (U 2) aI)))) ah)))) (aO (eV (vC (.bl false)))) eD)
  (aO (eV (aP (h "is_closed") (af (U 0) (af (U 2) (af (eV (aW dU (cB (O (vC (.bl false)) ah)) (cH (U 2)))) aI)))))))))
theorem og(n:Nat):Ph (n+2) "is_shut"=fg 3 4 (fR (Ph (n+1))):=by kernel_rfl
def fC (h:Str->GF):ES:=(aA (cZ (bV (a7 fS (U 1) (eV (vC (.str "yes"))))) da eD)
  (aO (eV (vB (f8 (bV (a7 fS (U 1) (eV (vC (.str "no"))))) (f8 (bV (aG (pureOf (h "is_called")) (O (vE (U 2)) (O (vC (.str "shut")) (O (vC (.int 3)) ah))))) (bV (aP (h "is_shut") (af (U 0) (af (eV (aW bj (vE (U 2)) (vC (.int 1)))) (af (eV (aW bj (vE (U 2)) (vC (.int 2)))) aI)))))))))))
theorem nD(n:Nat):Ph (n+2) "is_can_paper"=fg 3 3 (fC (Ph (n+1))):=by kernel_rfl
def e_ (x h:Str->GF):ES:=(aA (aZ 2 (eV (il (mT Tb h) 1 (aW bj (vE (U 0)) (vC (.int 1))))))
  (aA (cZ (bV (a7 fS (eV (aW bj (vE (U 0)) (vC (.int 0)))) (eV (vC (.str "never"))))) (aO (eV (aS (O (vE (U 2)) (O (aW dU (cB (O (vC (.bl false)) ah)) (cH (U 2))) ah))))) eD)
  (aA (cZ (bV (a7 fS (eV (aW bj (vE (U 0)) (vC (.int 0)))) (eV (vC (.str "always"))))) (aO (eV (aS (O (bH (gF (vE (U 2))) [] 1 (aK 4) dG (vB (dB (bV (vE (U 4)))))) (O (aW dU (cB (O (vC (.bl false)) ah)) (cH (U 2))) ah))))) eD)
  (aA (aZ 3 (eV (il (mT Tb h) 1 (aW bj (vE (U 0)) (vC (.int 2))))))
  (aO (eV (aS (O (bH (Jq (vE (U 2)) (vE (U 3))) [] 2 (ci [aK 4,aK 5]) dG (vB (f8 (bV (vE (U 5))) (dB (bV (vE (U 4))))))) (O (vE (U 2)) ah)))))))))
theorem mi(n:Nat):Ph (n+2) "bad_and_final"=fg 2 4 (e_ (Ph (n+1)) (Ph n)):=by kernel_rfl
def dA(h:Str->GF):ES:=(aO (nH (h "bad_and_final") true [0,1] (O (vE (a8 (aT Att) (U 0) "saying")) ah)))
theorem j3(n:Nat):Ph (n+2) "bad_and_final_at"=fg 2 2 (dA (Ph (n+1))):=by kernel_rfl
def gP (h:Str->GF):ES:=(aA (aZ 2 (eV (aP (h "run_from") (af (U 0) (af (a8 (aT Att) (U 0) "first") (af (U 1) aI))))))
  (aA (cZ (bV (a7 x6 (U 2) (eV (vC (.non))))) (aO (eV (vC (.bl false)))) eD)
  (aA (nh (ci [aK 3,aK 4]) (aP (h "bad_and_final_at") (af (U 0) (af (U 2) aI))))
  (aO (eV (vB (f8 (bV (aW bj (vE (U 3)) (vA jJ (vC (.int 1))))) (f8 (dB (bV (aG dw (O (i8 (vE (U 3)) eR (ew (vA jJ (vC (.int 1))))) ah)))) (dB (bV (aG dw (O (vE (U 4)) ah))))))))))))
theorem qD(n:Nat):Ph (n+2) "is_bad_run"=fg 2 5 (gP (Ph (n+1))):=by kernel_rfl
def dJ (h:Str->GF):ES:=(aA (cZ (bV (a7 fS (U 1) (eV (vC (.str "no"))))) (aO (eV (vB (f8 (bV (aG (pureOf (h "is_called")) (O (vE (U 2)) (O (vC (.str "run")) (O (vC (.int 2)) ah))))) (bV (aP (h "is_bad_run") (af (U 0) (af (eV (aW bj (vE (U 2)) (vC (.int 1)))) aI)))))))) eD)
  (aA (cZ (bV (a7 Iu (U 1) (eV (vC (.str "yes"))))) (aO (eV (vC (.bl false)))) eD)
  (aA (cZ (bT (eV (aG (pureOf (h "is_called")) (O (vE (U 2)) (O (vC (.str "all")) (O (vC (.int 2)) ah)))))) da eD)
  (aA (cZ (f8 (bT (eV (aG (pureOf (h "is_called")) (O (vE (U 2)) (O (vC (.str "folded")) (O (vC (.int 2)) ah)))))) (dB (bT (eV (aG (pureOf (h "speaks_of_knowing")) (O (vE (a8 (aT Att) (U 0) "saying")) ah)))))) da eD)
  (aA da
  (aO (eV (vC (.bl false)))))))))
theorem kJ(n:Nat):Ph (n+2) "is_safety_paper"=fg 3 3 (dJ (Ph (n+1))):=by kernel_rfl
def e7 (h:Str->GF):ES:=(aA (cZ (bV (a7 ls (kZ (a8 (aT Att) (U 0) "saying") (vC (.int 0))) (eV (vC (.tup [.str "never",.str "always",.str "ahead"]))))) (aO (eV (aP (h "is_safety_paper") (af (U 0) (af (U 1) (af (U 2) aI)))))) eD)
  (aA (cZ (bV (a7 ls (kZ (a8 (aT Att) (U 0) "saying") (vC (.int 0))) (eV (vC (.tup [.str "at last",.str "whenever"]))))) da eD)
  (aO (eV (aP (h "is_can_paper") (af (U 0) (af (U 1) (af (U 2) aI))))))))
theorem mh(n:Nat):Ph (n+2) "is_paper"=fg 3 3 (e7 (Ph (n+1))):=by kernel_rfl
def aV (h:Str->GF):ES:=(aA (aZ 2 (Fj (U 1)))
  (cZ (bT (eV (AT ["list","tuple"] (U 2)))) (c_ (c0 (U 1) (vE (U 2)))) (cZ (FU (bT (eV (AT ["bool"] (U 2)))) (dB (FU (bV (a7 x6 (U 2) (eV (vC (.non))))) (bT (eV (AT ["int","str"] (U 2))))))) (aO (eV (vC (.bl false)))) eD)))
def eZ (h:Str->GF):ES:=(aA (aZ 1 (fj (O (vE (U 0)) ah)))
  (aA (uD 1000 (bT (U 1)) (aV h))
  (aO (eV (vC (.bl true))))))
theorem mf(n:Nat):Ph (n+2) "is_told_thing"=fg 1 3 (eZ (Ph (n+1))):=by kernel_rfl
def iP (h x:Str->GF):ES:=(aA (cZ (dB (bT (eV (aG (pureOf (h "is_told_thing")) (O (vE (U 3)) ah))))) (aO (eV (vC (.bl false)))) eD)
  (aA (aZ 4 (gb (x "Court.__init__") "Court" (af (U 0) (af (U 1) aI))))
  (aA (cZ (bT (eV (aG (pureOf (h "speaks_of_knowing")) (O (vE (U 1)) ah)))) da eD)
  (aO (eV (aP (h "is_paper") (af (U 4) (af (U 2) (af (U 3) aI)))))))))
theorem su(n:Nat):Ph (n+2) "judge"=fg 4 5 (iP (Ph (n+1)) (Ph n)):=by kernel_rfl
def jo (h:Str->GF):ES:=(aA (aZ 4 (eV (aG (pureOf (h "judge")) (O (vE (U 0)) (O (vE (U 1)) (O (vC (.str "no")) (O (vE (U 2)) ah)))))))
  (aO (eV (vB (f8 (bV (AT ["bool"] (U 4))) (bV (a7 fS (U 4) (U 3))))))))
theorem uX(n:Nat):Ph (n+2) "_law_held"=fg 4 5 (jo (Ph (n+1))):=by kernel_rfl
def mL (h:Str->GF):ES:=(aA (aZ 2 (eV (vC (.str "abcdefghijklmnopqrstuvwxyz"))))
  (aO (eV (aW gj (aW bj (vC (.str "qrs")) (vE (U 1))) (aW dU (aW bj (vE (U 2)) (aW qP (aG (pureOf (h "_law_drawn")) (O (vE (U 0)) (O (vE (U 1)) ah))) (vC (.int 26)))) (aW gj (vC (.int 1)) (aW qP (aG (pureOf (h "_law_drawn")) (O (vE (U 0)) (O (aW gj (vC (.int 3)) (vE (U 1))) ah))) (vC (.int 9)))))))))
theorem uW(n:Nat):Ph (n+2) "_law_name"=fg 2 3 (mL (Ph (n+1))):=by kernel_rfl
def jr(h:Str->GF):ES:=(cZ (dB (bT (eV (aG (pureOf (h "_law_held")) (O (vE (U 7)) (O (vE (U 13)) (O (aS (O (vC (.str "run")) (O (i8 (vE (U 11)) eR (ew (vE (U 14)))) ah))) (O (a7 fS (U 14) (U 12)) ah)))))))) (aO (eV (vC (.bl false)))) eD)
def jq(h:Str->GF):ES:=(cT (iH (cH (U 10))) (aK 14) (jr h))
def vh (h:Str->GF):ES:=(aA (aZ 1 (eV (aG (pureOf (h "_law_cell_at")) (O (vE (U 0)) (O (vC (.int 0)) ah)))))
  (aA (nh (ci [aK 2,aK 3,aK 4]) (bH (iH (vC (.int 3))) [] 1 (aK 17) dG (aG (pureOf (h "_law_name")) (O (vE (U 1)) (O (vE (U 17)) ah)))))
  (aA (aZ 5 (eV (aS (O (vC (.str "is")) (O (vC (.str "<")) (O (aS (O (vC (.str "name")) (O (vE (U 4)) ah))) (O (aS (O (vC (.str "number")) (O (vC (.int 9)) ah))) ah)))))))
  (aA (aZ 6 (eV (aS (O (vC (.str "step")) (O (vE (U 3)) (O (vE (U 5)) (O (vC (.non)) (O (cB (O (aS (O (vE (U 4)) (O (aS (O (vC (.str "plus")) (O (aS (O (vC (.str "name")) (O (vE (U 4)) ah))) (O (aS (O (vC (.str "number")) (O (vC (.int 1)) ah))) ah)))) ah))) ah)) (O (cB ah) (O (vE (U 3)) ah))))))))))
  (aA (aZ 7 (eV (aS (O (cB (O (aS (O (vE (U 2)) (O (vC (.int 4)) (O (cB (O (vE (U 3)) ah)) (O (cB (O (aS (O (vE (U 4)) (O (vC (.int 0)) (O (vC (.int 9)) (O (vC (.int 0)) ah))))) ah)) (O (cB ah) (O (cB (O (vE (U 6)) ah)) ah))))))) ah)) (O (cB ah) (O (cB ah) ah))))))
  (aA (aZ 8 (eV (aW gj (vC (.int 1)) (aW qP (aG (pureOf (h "_law_cell_at")) (O (vE (U 0)) (O (vC (.int 1)) ah))) (vC (.int 9))))))
  (aA (aZ 9 (eV (aS (O (vC (.str "some")) (O (vE (U 2)) (O (vE (U 3)) (O (aS (O (vC (.str "is")) (O (vC (.str "=")) (O (aS (O (vC (.str "name")) (O (vE (U 4)) ah))) (O (aS (O (vC (.str "number")) (O (vE (U 8)) ah))) ah))))) ah)))))))
  (aA (nh (ci [aK 10,aK 11]) (aG (pureOf (h "_law_run")) (O (vE (U 7)) (O (aG (pureOf (h "_law_cell_at")) (O (vE (U 0)) (O (vC (.int 2)) ah))) (O (vC (.int 36)) ah)))))
  (aA (aZ 12 (eV (aW bj (bH (iH (cH (U 10))) [] 1 (aK 17) (bT (eV (aG dw (O (bH (gF (aW bj (aW bj (vE (U 10)) (vE (U 17))) (vC (.int 0)))) [] 1 (aK 18) dG (a7 fS (eV (aW bj (vE (U 18)) (vC (.int 1)))) (eV (aS (O (vE (U 8)) ah))))) ah)))) (vE (U 17))) (vC (.int 0)))))
  (aA (cT (gF (cB (O (aS (O (vC (.str "never")) (O (vE (U 9)) ah))) (O (aS (O (vC (.str "always")) (O (aS (O (vC (.str "not")) (O (vE (U 9)) ah))) ah))) ah)))) (aK 13) (jq h))
  (aA (aZ 15 (eV (aS (O (vC (.str "some")) (O (vE (U 2)) (O (vC (.str "")) (O (aS (O (vC (.str "is")) (O (vC (.str "=")) (O (aS (O (vC (.str "name")) (O (vE (U 4)) ah))) (O (aS (O (vC (.str "number")) (O (vC (.int 0)) ah))) ah))))) ah)))))))
  (aA (aZ 16 (eV (aW bj (vE (U 10)) (aW wv (cH (U 10)) (vC (.int 1))))))
  (aA (cZ (dB (bT (eV (aG (pureOf (h "_law_held")) (O (vE (U 7)) (O (aS (O (vC (.str "always can")) (O (vE (U 15)) ah))) (O (aS (O (vC (.str "shut")) (O (vE (U 11)) (O (cB (O (vE (U 16)) ah)) ah)))) (O (vC (.bl true)) ah)))))))) (aO (eV (vC (.bl false)))) eD)
  (aO (eV (aG (pureOf (h "_law_held")) (O (vE (U 7)) (O (aS (O (vC (.str "always can")) (O (vE (U 15)) ah))) (O (aS (O (vC (.str "shut")) (O (i8 (vE (U 11)) eR (ew (vA jJ (vC (.int 1))))) (O (cB (O (vE (U 16)) ah)) ah)))) (O (vC (.bl false)) ah))))))))))))))))))))
theorem IE(n:Nat):Ph (n+2) "law"=fg 1 17 (vh (Ph (n+1))):=by kernel_rfl
theorem log2_small{i:Int}(h:i.natAbs < 2 ^ 60):i.natAbs.log2 < 60:=by
 by_cases e:i.natAbs=0
 .rw [e];decide
 .exact (yZ e).mpr h
theorem fO{i j:Int}(h:i.natAbs < 2 ^ 60)(x:j.natAbs < 2 ^ 60):jU i j=true:=by unfold jU;have a:=log2_small h;have b:=log2_small x;exact df (by lia)
variable{n:Nat}{xs:List P}
theorem SE(h:∀x ∈ xs,gE n x=true):gE (n+1) (.lst xs)=true:=bD.mpr h
@[simp] theorem Bm(c:Nat):lz ⟨#[c]⟩=1:=rfl
theorem eC{g:kE}{c:EB}{e:EV}{Inv:Lc->Prop}{S:aE}{p:P->Bool}{f:P->P}:∀{xs:List P}{L:Lc},(∀v ∈ xs,∀L,Inv L->∃x,g v L=some x/\Inv x/\c x S=some (p v,S)/\(p v=true->e x S=some (f v,S)))->Inv L ->
  cR g c e xs L S=some ((xs.filter p).map f,S)
 | [],L,_,h=>rfl
 |v::r,L,b,h=>by
  obtain⟨x,s,i,a,m⟩:=b v aJ L h;have n:=eC (xs:=r) (L:=x) (λw t=>b w (aN _ t)) i;cases k:p v with
  |false=>rw[k]at a;simp[cR,s,a,n,k]
  |true=>rw[k]at a;simp[cR,s,a,n,k,m k]
noncomputable def jR(n:List Int):P:=.ro (n.map .int)
theorem am{f g:ES}{L x:Lc}{S a:aE}(h:f L S=some (.nx,x,a)):aA f g L S=g x a:=by rw[aA,h]
theorem fV{c:EB}{x y:ES}{L:Lc}{S:aE}(h:c L S=some (true,S)):cZ c x y L S=x L S:=by rw[cZ,h];rfl
theorem di{c:EB}{x y:ES}{L:Lc}{S:aE}(h:c L S=some (false,S)):cZ c x y L S=y L S:=by rw[cZ,h];rfl
theorem ig(S:aE)(x:SO):(S++[x])[S.length]? = some x:=by simp
theorem IT(f:q->k)(xs:List q)(i:Int):L2.atI (xs.map f) i=(L2.atI xs i).map f:=by
 unfold L2.atI;rw[bv];cases L2.CS xs.length i with
 |none=>rfl
 |some j=>simp
theorem yt{q:Type}{xs:List q}{p:Nat}{x:q}(h:xs[p]? = some x):L2.atI xs ((p:Nat):Int)=some x:=cS (by lia) (by simpa using h)
theorem fP(xs:List q):xs.filter (λ_=>true)=xs:=List.filter_eq_self.mpr λ_ _=>rfl
variable{S:aE}{d:D}
theorem jQ(h:f L S=some (.rt d,k,v)):aA f g L S=some (.rt d,k,v):=by rw[aA,h]
theorem fW{q:Type}{xs:List q}{i:Nat}{x:q}(h:xs[i]? = some x):i < xs.length:=(bg.mp h).1
theorem gI{S:aE}{r:Nat}{o x:SO}(h:S[r]? = some o):(S.set r x)[r]? = some x:=by rw[ee (fW h)]
theorem uS{r:EE}{a:EV}{L:Lc}{S x:aE}{k:Nat}{c y:List P}(n:r L S=some (.ref k,S))(h:S[k]? = some (.lst (c.map .p)))(s:a L S=some (.lst y,x))(e:x[k]? = some (.lst (c.map .p)))(l:c.length+y.length≤1000000):c_ (c0 r a) L S=some (.nx,L,x.set k (.lst ((c++y).map .p))):=by rw[c_,c0,n,ac];simp only[eQ,h,s,ac,e,bv];rw[ag (by rw[mH];exact l),d_];rfl
theorem pE{r a:EE}{L:Lc}{S x:aE}{k:Nat}{c:List P}{y:P}(n:r L S=some (.ref k,S))(h:S[k]? = some (.lst (c.map .p)))(s:a L S=some (.p y,x))(e:x[k]? = some (.lst (c.map .p)))(l:c.length≤1000000):c_ (eT r a) L S=some (.nx,L,x.set k (.lst ((c++[y]).map .p))):=by rw[c_,eT,n,ac];simp only[eQ,h,s,ac,e];rw[ag (by rw[Fa,bv];exact l),d_];rfl
def eE(S:aE)(j:Nat)(xs:List P):Prop:=S[j]? = some (.lst (xs.map .p))\/S[j]? = some (.fz (.lst xs))
theorem Eo(h:xs.map D.p=y.map D.p):xs=y:=(zp (f:=D.p) λ_ _ h=>D.p.inj h).mp h
variable{j:Nat}
theorem eE.lt(h:eE S j xs):j < S.length:=by rcases h with h|h<;>exact(bg.mp h).1
theorem eE.frz(h:eE S j xs):toP 9 (.ref j) S=some (.lst xs,S.set j (.fz (.lst xs))):=by
 rcases h with h|h
 .exact kx h
 .have:S.set j (.fz (.lst xs))=S:=by
   obtain⟨a,x⟩:=bg.mp h;rw[<- x,zx]
  rw[this];simp[toP,h]
theorem eE.ix(h:eE S j xs){i:Int}(x:r L S=some (.ref j,S))(hk:k L S=some (.int i,S))(e:L2.atI xs i=some v):kZ r k L S=some (.p v,S):=by
 rw[kZ,x,ac,hk,ac];rcases h with h|h
 .simp only[h];rw[IT,e];rfl
 .simp only[h];show(L2.atI xs i).map _=_;rw[e];rfl
theorem eE.len(h:eE S j xs):kI (.ref j) S=some xs.length:=by rcases h with h|h<;>simp[kI,h,ql]
structure Fr(b:Nat)(S S':aE):Prop where
 len:S.length≤S'.length
 low:∀k o,k < b->S[k]? = some o->S'[k]? = some o\/∃xs,o=.lst (xs.map .p)/\S'[k]? = some (.fz (.lst xs))
 hi:∀k o,b≤k->S[k]? = some o->S'[k]? = some o
variable{b:Nat}{x:aE}
theorem Fr.trans(h:Fr b S x)(g:Fr b x v):Fr b S v:=by
 refine⟨ba h.len g.len,λk o hk e=>?_,λk o hk e=>g.hi k o hk (h.hi k o hk e)⟩;rcases h.low k o hk e with a|⟨xs,rfl,a⟩
 .exact g.low k o hk a
 .rcases g.low k _ hk a with a|⟨y,q,_⟩
  .exact .inr ⟨xs,rfl,a⟩
  .cases q
theorem Fr.app(b:Nat)(S T:aE):Fr b S (S++T):=by
 have y:∀k o,S[k]? = some o->(S++T)[k]? = some o:=λk o e=>by rw[bE (fW e)];exact e
 exact⟨by simp,λk o _ e=>.inl (y k o e),λk o _ e=>y k o e⟩
theorem Fr.set(h:Fr b S x)(s:b≤S.length)(hk:S.length≤k)(o:SO):Fr b S (x.set k o):=by
 refine⟨by rw[bC];exact h.len,λj u a e=>?_,λj u a e=>?_⟩
 .rw [bb (by lia)];exact h.low j u a e
 .have:=fW e;rw[bb (by lia)];exact h.hi j u a e
theorem Fr.frz(x:j < b)(h:eE S j xs):Fr b S (S.set j (.fz (.lst xs))):=by
 refine⟨by simp,λk o hk e=>?_,λk o hk e=>?_⟩
 .by_cases q:j=k
  .subst q;rw[ee h.lt];rcases h with h|h<;>(rw[h]at e;cases e)
   .exact .inr ⟨xs,rfl,rfl⟩
   .exact .inl rfl
  .rw [bb q];exact .inl e
 .rw [bb (by lia)];exact e
theorem Fr.trunc(h:Fr b S x):Fr b S (trunc S.length x):=by
 unfold Ev.trunc;split
 .refine⟨by rw[cX];have:=h.len;lia,λk o hk e=>?_,λk o hk e=>?_⟩
  .rw [cY (fW e)];exact h.low k o hk e
  .rw [cY (fW e)];exact h.hi k o hk e
 .exact h
theorem eE.fr{b:Nat}{S x:aE}(h:Fr b S x){j:Nat}{xs:List P}(g:eE S j xs):eE x j xs:=by
 by_cases a:j < b
 .rcases g with g|g
  .rcases h.low j _ a g with e|⟨y,q,e⟩
   .exact .inl e
   .have:xs=y:=Eo (SO.lst.inj q);subst this;exact .inr e
  .rcases h.low j _ a g with e|⟨y,q,e⟩
   .exact .inr e
   .cases q
 .rcases g with g|g
  .exact .inl (h.hi j _ (by lia) g)
  .exact .inr (h.hi j _ (by lia) g)
def Mn(S x:aE)(d:D)(y:List P):Prop:=d=.p (.lst y)\/∃k,S.length≤k/\d=.ref k/\eE x k y
theorem Mn.toP(h:Mn S x d y)(f:Fr b S x)(e:b≤S.length):∃a,toP 9 d x=some (.lst y,a)/\Fr b S a:=by
 rcases h with rfl|⟨k,hk,rfl,h⟩
 .exact⟨x,by simp,f⟩
 .exact⟨_,h.frz,f.set e hk _⟩
theorem BK{b:Nat}{g:GF}{s:sS}{n:List D}{L:Lc}{S x:aE}{d:D}{y:List P}(k:s L S=some (n,S))(m:g n S=some (d,x))(r:Fr b S x)(c:b≤S.length)(h:Mn S x d y):∃a,aP g s L S=some (.lst y,a)/\Fr b S a:=by obtain⟨t,e,f⟩:=h.toP r c;exact⟨_,by rw[aP,k,ac,m,ac,e,ac],f.trunc⟩
section
variable{q:Type}{a b c d e f g:q}{r:List q}
@[simp] theorem Tp:L2.atI (a::b::c::d::e::r) 4=some e:=cS (by lia) rfl
@[simp] theorem To:L2.atI (a::b::c::d::e::f::r) 5=some f:=cS (by lia) rfl
@[simp] theorem Tn:L2.atI (a::b::c::d::e::f::g::r) 6=some g:=cS (by lia) rfl
end
structure NM where
 f:Str
 r:Str
 c:Str
noncomputable def sj(B:NM):P:=.tup [.str "name",.str B.c]
noncomputable def Ej(k:Int):P:=.tup [.str "number",.int k]
def mG(B:NM):P:=.tup [.str "is",.str "<",sj B,Ej 9]
def O4(B:NM):P:=.tup [.str B.c,.tup [.str "plus",sj B,Ej 1]]
def stp(B:NM):P:=.tup [.str "step",.str B.r,mG B,.non,.lst [O4 B],.lst [],.str B.r]
noncomputable def O5(B:NM):P:=.tup [.str B.c,.int 0,.int 9,.int 0]
def jw(B:NM):P:=.tup [.str B.f,.int 4,.lst [.str B.r],.lst [O5 B],.lst [],.lst [stp B]]
def a_(B:NM):P:=.tup [.lst [jw B],.lst [],.lst []]
noncomputable def hP(a:Int):P:=.tup [.int 0,.tup [.int a],.tup []]
def Y(xs:List Int):P:=.tup [.tup (xs.map hP),.tup []]
noncomputable def dd(h:Nat):P:=.tup [.str "step",.int h,.str "step",.non,.tup []]
theorem pV(B:NM)(a:Int):pureOf (Ph (n+2) "value_of") [sj B,.dct [.inr B.c] [.int a]]=some (.int a):=by rw[ma,bZ];simp[ji,sj,gi]
theorem ul(k:Int)(s:List dj)(v:List P):pureOf (Ph (n+2) "value_of") [Ej k,.dct s v]=some (.int k):=by kernel_rfl
theorem LU(B:NM)(a:Int):pureOf (Ph (n+3) "holds") [mG B,.dct [.inr B.c] [.int a]]=some (.bl (decide (a < 9))):=by
 have e:=pV (n:=n) B a;have h:=ul (n:=n) 9 [.inr B.c] [.int a];have x:pureOf (Ph (n+2) "compared") [.str "<",.int a,.int 9]=some (.bl (decide (a < 9))):=by kernel_rfl
 rw[sv,bZ];simp[nN,mG,e,h,x]
theorem Ds(B:NM)(a:Int)(S:aE):Ph (n+2) "values_of" [.p (jw B),.p (.tup [.int a])] S=some (.ref S.length,S++[.dct [.inr B.c] [.p (.int a)]]):=by kernel_rfl
theorem rV(B:NM)(a:Int):pureOf (Ph (n+2) "values_of") [jw B,.tup [.int a]]=some (.dct [.inr B.c] [.int a]):=by kernel_rfl
theorem O6{n:Nat}(B:NM){a:Int}(f:0≤a)(b:a < 9):pureOf (Ph (n+4) "cells_behind") [jw B,.tup [.int a],stp B,.dct [.inr B.c] [.int a]]=some (.tup [.int (a+1)]):=by
 have e:=pV (n:=n) B a;have h:=ul (n:=n) 1 [.inr B.c] [.int a];have x:pureOf (Ph (n+3) "value_of") [.tup [.str "plus",sj B,Ej 1],.dct [.inr B.c] [.int a]]=some (.int (a+1)):=by rw[ma,bZ];simp[ji,e,h]
 have i:L2.atI [P.int a] ((0:Nat):Int)=some (.int a):=rfl;rw[nE,bZ];have s:(0:Int)≤a+1:=by lia
 have k:a+1≤9:=by lia
 simp[iQ,qI,gm,gk,jw,stp,O4,O5,x,cP,nU,Hk,np,eA,ww,gi,lr,kU,dS,ls,PH,Rs,qQ,eQ,toP,uK,kD,s,k]
theorem Nf{n:Nat}(B:NM):pureOf (Ph (n+4) "whos_behind") [jw B,.tup [],.non,.non]=some (.tup []):=by kernel_rfl
theorem KH{n:Nat}{h:Nat}(e:h < 4)(a b c d x:P):pureOf (Ph (n+2) "replaced") [.tup [a,b,c,d],.int h,x]=some (.tup ([a,b,c,d].set h x)):=by
 match h,e with
 |0,_=>kernel_rfl
 |1,_=>kernel_rfl
 |2,_=>kernel_rfl
 |3,_=>kernel_rfl
noncomputable def fields:LS:=["families","homes","pairs","places","members"]
structure Bat(B:NM)(b i jh jp jl jm j0:Nat)(S:aE):Prop where
 ins:S[i]? = some (.ins "Board" fields [.p (.lst [jw B]),.ref jh,.ref jp,.ref jl,.ref jm])
 ho:eE S jh [.int 0,.int 0,.int 0,.int 0]
 pr:eE S jp []
 me:S[jm]? = some (.dct [.inr B.f] [.ref j0])
 m0:eE S j0 [.int 0,.int 1,.int 2,.int 3]
 bi:i < b
 bh:jh < b
 bp:jp < b
 bm:jm < b
 b0:j0 < b
 bs:b≤S.length
inductive Bd(B:NM)(b i:Nat)(S:aE):Prop
 |mk (jh jp jl jm j0:Nat):Bat B b i jh jp jl jm j0 S->Bd B b i S
theorem Bat.fr{B:NM}{b i s m u t p:Nat}{S x:aE}(h:Bat B b i s m u t p S)(f:Fr b S x):Bat B b i s m u t p x where
 ins:=by rcases f.low i _ h.bi h.ins with e|⟨_,q,_⟩;exact e;cases q
 ho:=h.ho.fr f
 pr:=h.pr.fr f
 me:=by rcases f.low t _ h.bm h.me with e|⟨_,q,_⟩;exact e;cases q
 m0:=h.m0.fr f
 bi:=h.bi
 bh:=h.bh
 bp:=h.bp
 bm:=h.bm
 b0:=h.b0
 bs:=ba h.bs f.len
theorem Bd.fr{B:NM}{b i:Nat}{S x:aE}(h:Bd B b i S)(f:Fr b S x):Bd B b i x:=by obtain⟨s,m,u,t,p,h⟩:=h;exact⟨s,m,u,t,p,h.fr f⟩
theorem Bd.le{B:NM}{b i:Nat}{S:aE}(h:Bd B b i S):b≤S.length:=by obtain⟨s,m,u,t,p,h⟩:=h;exact h.bs
theorem kP:aT Att "Board" "families"=true/\aT Att "Board" "homes"=true/\aT Att "Board" "pairs"=true/\aT Att "Board" "members"=true:=by decide +kernel
theorem Mu{a b c d e:D}:cO "families" fields [a,b,c,d,e]=some a/\cO "homes" fields [a,b,c,d,e]=some b/\cO "pairs" fields [a,b,c,d,e]=some c/\cO "members" fields [a,b,c,d,e]=some e:=by simp[fields,cO]
section
variable{B:NM}{b i s m u t p:Nat}{S:aE}(h:Bat B b i s m u t p S){L:Lc}{o:EE}(ho:o L S=some (.ref i,S))
include h ho
theorem Bat.fld(a:aT Att "Board" f=true)(x:cO f fields [.p (.lst [jw B]),.ref s,.ref m,.ref u,.ref t]=some d):a8 (aT Att) o f L S=some (d,S):=by rw[a8,ho,ac];simp only[h.ins];rw[ag a,x];rfl
theorem Bat.families:a8 (aT Att) o "families" L S=some (.p (.lst [jw B]),S):=h.fld ho kP.1 Mu.1
theorem Bat.homes:a8 (aT Att) o "homes" L S=some (.ref s,S):=h.fld ho kP.2.1 Mu.2.1
theorem Bat.pairs:a8 (aT Att) o "pairs" L S=some (.ref m,S):=h.fld ho kP.2.2.1 Mu.2.2.1
theorem Bat.meth(m:M "Board" k=some g)(n:fields.contains k=false)(a:v L S=some (w,S)):cz M o k v L S=g (.ref i::w) S:=by rw[cz,ho,ac];simp only[h.ins,m,n,a,ac];rfl
end
theorem Ol(h:Str->GF):mT Tb h "Board" "family_of"=some (h "Board.family_of"):=by kernel_rfl
theorem OI:fields.contains "family_of"=false:=by decide +kernel
theorem x'{n:Nat}{B:NM}{b i:Nat}{S:aE}(h:Bd B b i S){k:Nat}(hk:k < 4):Ph (n+2) "Board.family_of" [.ref i,.p (.int k)] S=some (.p (jw B),S):=by
 obtain⟨s,m,u,t,p,h⟩:=h;have e:kZ (a8 (aT Att) (U 0) "homes") (vE (U 1)) [some (.ref i),some (.p (.int k))] S=some (.p (.int 0),S):=h.ho.ix (h.homes rfl) rfl (by
  match k,hk with
  |0,_=>rfl
  |1,_=>rfl
  |2,_=>rfl
  |3,_=>rfl)
 have x:a8 (aT Att) (U 0) "families" [some (.ref i),some (.p (.int k))] S=some (.p (.lst [jw B]),S):=h.families rfl;rw[ga];show db (aO _ [some (.ref i),some (.p (.int k))] S)=_;rw[aO,kZ,x,ac,vE,e];rfl
theorem G'{n:Nat}(i:Nat)(r h:P)(S:aE):Ph (n+2) "takeable" [.ref i,.p r,.p h,.p .non] S=some (.p (.lst [.non]),S):=by rw[uT];simp[fg,mJ,x6,kU]
theorem Hj(i:Nat)(h v r w:P)(d:D)(S:aE):Ph (n+2) "sendings" [.ref i,.p h,.p (.lst []),d,.p r,.p w] S=some (.p (.lst [.tup [.tup [],r]]),S):=by rw[uU];simp[fg,mK,cP]
theorem ln(S:aE):trunc S.length S=S:=by
 unfold trunc;split
 .simp
 .rfl
theorem Kb(S:aE)(x y:SO):trunc (S.length+2) (S++[x,y])=S++[x,y]:=by have:=ln (S++[x,y]);rwa [bc]at this
theorem wP(S:aE)(x y:SO):(S++[x,y])[S.length+1]? = some y:=by simp
theorem FZ(S:aE)(x y z:SO):(S++[x,y]).set (S.length+1) z=S++[x,z]:=by simp
theorem QY{n:Nat}{h:Nat}{s:List P}(l:s.length=4)(e:h < 4)(x:P):pureOf (Ph (n+2) "replaced") [.tup s,.int h,x]=some (.tup (s.set h x)):=by
 obtain⟨a,b,c,d,rfl⟩:∃a b c d,s=[a,b,c,d]:=by
  match s,l with
  | [a,b,c,d],_=>exact⟨a,b,c,d,rfl⟩
 exact KH e a b c d x
theorem map_set(xs:List Int)(k:Nat)(a:Int):(xs.map hP).set k (hP a)=(xs.set k a).map hP:=by rw[List.map_set]
def vk(xs:List Int)(k:Nat):P:=.tup [dd k,Y (xs.set k (xs.getD k 0+1))]
theorem FW{xs:List Int}{k:Nat}{a:Int}(h:xs[k]? = some a):L2.atI (xs.map hP) (k:Int)=some (hP a):=yt (by simp[h])
structure NW(B:NM):Prop where
 f:rR B.f=true
 r:rR B.r=true
 c:rR B.c=true
 r0:B.r≠""
theorem Ov(h:rR r=true):oF [.str r] (.str r)=some 0:=by simp[oF,gE,gJ,pd,bQ,h]
theorem Hd{n:Nat}{B:NM}(W:NW B){b i:Nat}{S:aE}(x:Bd B b i S){xs:List Int}(z:xs.length=4){k:Nat}{a:Int}(hk:xs[k]? = some a)(j:0≤a)(l:a < 9) :
  Ph (n+6) "step_ends" [.ref i,.p (Y xs),.p (.int k),.p (stp B),.p .non] S=some (.ref (S.length+1),S++[.fz (.dct [.inr B.c] [.int a]),.lst [.p (vk xs k)]]):=by
 have h:k < 4:=by have:=fW hk;lia
 have e:=x' (n:=n+3) x h;have f:=Ds (n:=n+3) B a S;have c:=O6 (n:=n+1) B j l;have r:=Nf (n:=n+1) B;have q:pureOf (Ph (n+3+2) "replaced") [.tup (xs.map hP),.int k,.tup [.int 0,.tup [.int (a+1)],.tup []]]=some (.tup ((xs.set k (a+1)).map hP)):=by rw[<- map_set];exact QY (n:=n+3) (s:=xs.map hP) (by simpa using z) h (hP (a+1))
 have v:=FW hk;have d:=Ov W.r;obtain⟨s,m,u,t,p,y⟩:=x;have g:∀L:Lc,L[0]? = some (some (.ref i))->L[2]? = some (some (.p (.int k)))->cz (mT Tb (Ph (n+5))) (U 0) "family_of" (af (U 2) aI) L S=some (.p (jw B),S):=λL o H=>by rw[y.meth (by simp[o]) (Ol _) OI (w:=[.p (.int k)]) (by simp[H]),e]
 rw[rG];show db (iu _ [some (.ref i),some (.p (Y xs)),some (.p (.int k)),some (.p (stp B)),some (.p .non),none,none,none,none,none,none,none,none,none,none,none] S)=_;unfold iu;rw[am (by rw[aZ,g _ rfl rfl];rfl)];rw[am (by simp[Y,v,hP];exact⟨rfl,rfl⟩)];rw[am (by simp[Y];exact⟨rfl,rfl⟩)];rw[am (by simp[f];exact⟨rfl,rfl⟩)];rw[am (by simp[lr,kU];exact⟨rfl,rfl⟩)];rw[am (by simp[c,toP,uK];exact⟨rfl,rfl⟩)];rw[am (by simp[x6,kU];exact⟨rfl,rfl⟩)];rw[am (by simp[stp,r];exact⟨rfl,rfl⟩)];rw[am (by simp[Y,jw,d];rw[q];exact rfl)];rw[am (by simp;exact⟨rfl,rfl⟩)];have w:=λT=>Hj (n:=n+3) i (.int k) .non (.tup []) (.tup []) (.ref S.length) T;rw[am (by simp[w,Kb,cP,iN,eQ,wP,FZ];exact⟨rfl,rfl⟩)]
 simp[vk,Y,dd,hk]
def eL(xs:List Int)(k:Nat):List P:=if xs.getD k 0 < 9 then [vk xs k] else []
abbrev HL(B:NM)(i j:Nat)(xs:List Int)(k:Nat)(a:Int)(h q:Option D):Lc:=[some (.ref i),some (.p (Y xs)),some (.p (.int k)),some (.p (jw B)),some (.p (.int 0)),some (.p (.tup [.int a])),some (.p (.tup [])),some (.p (.dct [.inr B.c] [.int a])),some (.ref j),h,q]
theorem Iq{B:NM}(W:NW B){b i:Nat}{S:aE}(c:Bd B b i S){xs:List Int}(T:xs.length=4){k:Nat}{a:Int}(hk:xs[k]? = some a)(Q:0≤a) :
  ∃x,Ph 13 "hand_ends" [.ref i,.p (Y xs),.p (.int k)] S=some (.ref S.length,x)/\Fr b S x/\x[S.length]? = some (.lst ((eL xs k).map .p)):=by
 have l:k < 4:=by have:=fW hk;lia
 have F:=x' (n:=10) c l;have K:=rV (n:=10) B a;have C:=FW hk;have D:=LU (n:=9) B a;have H:xs.getD k 0=a:=by simp[hk]
 have f:=c.le;have e:Bd B b i (S++[.lst []]):=c.fr (Fr.app b S _);have go:∃q x,cP (aK 9) (dF (Ph 12)) [stp B] (HL B i S.length xs k a none none) (S++[.lst []])=some (.nx,HL B i S.length xs k a (some (.p (stp B))) q,x)/\Fr b S x/\x[S.length]? = some (.lst ((eL xs k).map .p)):=by
  have o:(f8 (bV (a7 fS (eV (aW bj (vE (U 9)) (vC (.int 1)))) (eV (aW bj (aW bj (vE (U 3)) (vC (.int 2))) (vE (U 4)))))) (bT (eV (aG (pureOf (Ph 12 "holds")) (O (aW bj (vE (U 9)) (vC (.int 2))) (O (vE (U 7)) ah)))))) (HL B i S.length xs k a (some (.p (stp B))) none) (S++[.lst []])=some (decide (a < 9),S++[.lst []]):=by simp[stp,jw,D]
  by_cases h:a < 9
  .have j:eL xs k=[vk xs k]:=by unfold eL;rw[H,ag h]
   have E:=Hd (n:=6) W e T hk Q h;obtain⟨d,G,y⟩:=BK (b:=b) (y:=[vk xs k]) (g:=Ph 12 "step_ends") (s:=af (U 0) (af (U 1) (af (U 2) (af (U 9) (af (U 10) aI))))) (L:=HL B i S.length xs k a (some (.p (stp B))) (some (.p .non))) (S:=S++[.lst []]) (n:=[.ref i,.p (Y xs),.p (.int k),.p (stp B),.p .non]) rfl E (Fr.app _ _ _) e.le (.inr ⟨_,by simp,rfl,.inl (wP ..)⟩);have z:d[S.length]? = some (.lst (([]:List P).map .p)):=y.hi _ _ f (ig ..);have A:=G' (n:=10) i (.tup []) (.int k) (S++[.lst []]);have tr:trunc (S.length+1) (S++[.lst []])=S++[.lst []]:=by have:=ln (S++[.lst []]);rwa [bc]at this
   refine⟨some (.p .non),d.set S.length (.lst ((eL xs k).map .p)),?_,((Fr.app b S _).trans y).set f (al _) _,gI z⟩;refine(cj (h:=HL B i S.length xs k a (some (.p (stp B))) none) rfl (?_:_=some (Fl.nx,HL B i S.length xs k a (some (.p (stp B))) (some (.p .non)),d.set S.length (.lst ((eL xs k).map .p))))).trans rfl;unfold dF;rw[cZ,o,df h,ac,ag rfl,cT,gF,show(aP (Ph 12 "takeable") (af (U 0) (af (eV (aW bj (vE (U 1)) (vC (.int 1)))) (af (U 2) (af (eV (aW bj (vE (U 9)) (vC (.int 3)))) aI))))) (HL B i S.length xs k a (some (.p (stp B))) none) (S++[.lst []])=some (.lst [.non],S++[.lst []]) by simp[Y,stp,A,tr]];have w:=uS (r:=U 8) (a:=aP (Ph 12 "step_ends") (af (U 0) (af (U 1) (af (U 2) (af (U 9) (af (U 10) aI)))))) (L:=HL B i S.length xs k a (some (.p (stp B))) (some (.p .non))) (S:=S++[.lst []]) (k:=S.length) (c:=[]) rfl (ig ..) G z (by simp);rw[j];exact(cj (g:=aK 10) (v:=.non) (r:=[]) (L:=HL B i S.length xs k a (some (.p (stp B))) none) (h:=HL B i S.length xs k a (some (.p (stp B))) (some (.p .non))) rfl w).trans rfl
  .have j:eL xs k=[]:=by unfold eL;rw[H,aj h]
   refine⟨none,S++[.lst []],?_,Fr.app _ _ _,by rw[j];exact ig ..⟩;refine(cj (h:=HL B i S.length xs k a (some (.p (stp B))) none) rfl (?_:_=some (Fl.nx,HL B i S.length xs k a (some (.p (stp B))) none,S++[.lst []]))).trans rfl;unfold dF;rw[cZ,o,aX h];rfl
 obtain⟨q,x,I,M,N⟩:=go;refine⟨x,?_,M,N⟩;obtain⟨s,m,u,t,p,R⟩:=c;rw[rJ];show db (iy _ [some (.ref i),some (.p (Y xs)),some (.p (.int k)),none,none,none,none,none,none,none,none] S)=_;unfold iy;rw[am (by rw[aZ,R.meth rfl (Ol _) OI (w:=[.p (.int k)]) rfl,F];rfl)];rw[am (x:=[some (.ref i),some (.p (Y xs)),some (.p (.int k)),some (.p (jw B)),some (.p (.int 0)),some (.p (.tup [.int a])),some (.p (.tup [])),none,none,none,none]) (a:=S) (by simp[Y,C,hP])];rw[am (by simp[K];exact⟨rfl,rfl⟩)];rw[am (by simp;exact⟨rfl,rfl⟩)];rw[am (by rw[cT,gF,show(aW bj (vE (U 3)) (vC (.int 5))) (HL B i S.length xs k a none none) (S++[.lst []])=some (.lst [stp B],S++[.lst []]) by simp[jw]];exact I)];rfl
theorem Iy{n:Nat}{B:NM}{b i:Nat}{S:aE}(e:Bd B b i S)(st w:P):∃x,Ph 13 "flaw_ends" [.ref i,.p st,.p w] S=some (.ref S.length,x)/\Fr b S x/\x[S.length]? = some (.lst []):=by
 have k:=e.le;obtain⟨s,m,u,t,p,a⟩:=e;have h:=a.fr (Fr.app b S [.lst []]);refine⟨_,?_,(Fr.app b S [.lst []]).trans (Fr.frz a.bp h.pr),?_⟩
 .rw [rK];show db (iz _ [some (.ref i),some (.p st),some (.p w),none,none,none,none,none,none,none,none,none] S)=_;unfold iz;rw [am (by simp;exact⟨rfl,rfl⟩)];rw [am (by
   rw[cT,rD,vE,h.pairs rfl,ac,h.pr.frz];exact rfl)]
  rfl
 .rw [bb (by have:=a.bp;lia)];exact ig ..
abbrev CW(i j:Nat)(xs:List Int)(q:Option D):Lc:=[some (.ref i),some (.p (Y xs)),some (.ref j),q]
theorem BB{B:NM}(W:NW B){b i:Nat}{h:aE}(n:Bd B b i h){xs:List Int}(l:xs.length=4)(w:∀a ∈ xs,0≤a):∀(s:List Nat)(c:List P)(S:aE)(q:Option D),(∀k ∈ s,k < 4)->Fr b h S->S[h.length]? = some (.lst (c.map .p))->c.length+s.length≤1000 ->
  ∃p x,cP (aK 3) (j9 (Ph 13)) (s.map λk:Nat=>.int k) (CW i h.length xs q) S=some (.nx,CW i h.length xs p,x)/\Fr b h x/\x[h.length]? = some (.lst ((c++s.flatMap (eL xs)).map .p))
 | [],c,S,q,_,f,m,_=>⟨q,S,rfl,f,by simpa using m⟩
 |k::s,c,S,q,hk,f,m,M=>by
  have G:=hk k aJ;have t:xs[k]? = some (xs[k]'(by lia)):=by simp
  have e:=n.fr f;obtain⟨Q,y,H,A⟩:=Iq W e l t (w _ (o8 _));obtain⟨u,F,v⟩:=BK (b:=b) (y:=eL xs k) (g:=Ph 13 "hand_ends") (s:=af (U 0) (af (U 1) (af (U 3) aI))) (L:=CW i h.length xs (some (.p (.int k)))) (S:=S) (n:=[.ref i,.p (Y xs),.p (.int k)]) rfl y H e.le (.inr ⟨_,al _,rfl,.inl A⟩);have d:=v.hi _ _ n.le m;have I:(eL xs k).length≤1:=by unfold eL;split<;>simp
  have N:c.length+(s.length+1)≤1000:=M;have z:=uS (r:=U 2) (a:=aP (Ph 13 "hand_ends") (af (U 0) (af (U 1) (af (U 3) aI)))) (L:=CW i h.length xs (some (.p (.int k)))) (S:=S) (k:=h.length) (c:=c) rfl m F d (by lia);obtain⟨p,x,o,K,C⟩:=BB W n l w s (c++eL xs k) (u.set h.length (.lst ((c++eL xs k).map .p))) (some (.p (.int k))) (λj E=>hk j (aN _ E)) ((f.trans v).set n.le (al _) _) (gI d) (by rw[bc];lia);refine⟨p,x,?_,K,by rw[C];simp⟩;exact(cj (g:=aK 3) (L:=CW i h.length xs q) (h:=CW i h.length xs (some (.p (.int k)))) rfl z).trans o
def bU(xs:List Int):List P:=[0,1,2,3].flatMap (eL xs)
theorem BC{B:NM}(W:NW B){xs:List Int}(M:xs.length=4)(R:∀a ∈ xs,0≤a){b i:Nat}{S:aE}(c:Bd B b i S):∃x,Ph 14 "ends_on" [.ref i,.p (Y xs)] S=some (.ref S.length,x)/\Fr b S x/\x[S.length]? = some (.lst ((bU xs).map .p)):=by
 have N:(bU xs).length≤4:=by unfold bU eL;simp only[tL,tH,bc];split<;>split<;>split<;>split<;>simp
 obtain⟨q,h,C,E,G⟩:=BB W c M R [0,1,2,3] [] (S++[.lst []]) none (by simp) (Fr.app b S _) (ig ..) (by simp);have o:∀(w:Str)(q:Option D)(h:aE),Fr b S h->h[S.length]? = some (.lst ((bU xs).map .p))->∃f,c_ (c0 (U 2) (aP (Ph 13 "flaw_ends") (af (U 0) (af (U 1) (af (eV (vC (.str w))) aI))))) (CW i S.length xs q) h=some (.nx,CW i S.length xs q,f)/\Fr b S f/\f[S.length]? = some (.lst ((bU xs).map .p)):=λw q h F P=>by have e:=c.fr F;obtain⟨f,v,j,y⟩:=Iy (n:=0) e (Y xs) (.str w);obtain⟨z,l,H⟩:=BK (b:=b) (y:=[]) (g:=Ph 13 "flaw_ends") (s:=af (U 0) (af (U 1) (af (eV (vC (.str w))) aI))) (L:=CW i S.length xs q) (S:=h) (n:=[.ref i,.p (Y xs),.p (.str w)]) rfl v j e.le (.inr ⟨_,al _,rfl,.inl y⟩);have K:=H.hi _ _ c.le P;have d:=uS (r:=U 2) (a:=aP (Ph 13 "flaw_ends") (af (U 0) (af (U 1) (af (eV (vC (.str w))) aI)))) (L:=CW i S.length xs q) (S:=h) (k:=S.length) (c:=bU xs) rfl P l K (by simp;lia);exact⟨_,d,(F.trans H).set c.le (al _) _,by rw[gI K];simp⟩
 obtain⟨f,v,j,y⟩:=o "lose" q h E G;obtain⟨z,d,l,I⟩:=o "double" q f j y;refine⟨z,?_,l,I⟩;have e:=c.fr (Fr.app b S [.lst []]);obtain⟨s,m,u,t,p,A⟩:=e;rw [wt];show db (j_ _ [some (.ref i),some (.p (Y xs)),none,none] S)=_;unfold j_;rw [am (by simp;exact⟨rfl,rfl⟩)];rw [am (x:=CW i S.length xs q) (a:=h) (by
  have Q:(cH (a8 (aT Att) (U 0) "homes")) (CW i S.length xs none) (S++[.lst []])=some (.int 4,S++[.lst []]):=by rw[cH,A.homes rfl,ac,A.ho.len];rfl
  rw[cT,iH,Q];exact C)]
 rw[am v,am d];rfl
end My
namespace My
open PySem L2 Ev
section
variable{B:NM}{i m:Nat}{c t p:D}{S:aE}
theorem Bz{n:Nat}(h:S[i]? = some (.ins "Board" fields [.p (.lst [jw B]),.ref m,c,t,p]))(a:eE S m [.int 0,.int 0,.int 0,.int 0]){k:Nat}(hk:k < 4):Ph (n+2) "Board.family_of" [.ref i,.p (.int k)] S=some (.p (jw B),S):=by
 have f:a8 (aT Att) (U 0) "homes" [some (.ref i),some (.p (.int k))] S=some (.ref m,S):=by rw[a8,show U 0 [some (.ref i),some (.p (.int k))] S=some (.ref i,S) from rfl,ac];simp only[h];rw[ag kP.2.1,Mu.2.1];rfl
 have e:kZ (a8 (aT Att) (U 0) "homes") (vE (U 1)) [some (.ref i),some (.p (.int k))] S=some (.p (.int 0),S):=a.ix f rfl (by
  match k,hk with
  |0,_=>rfl
  |1,_=>rfl
  |2,_=>rfl
  |3,_=>rfl)
 have x:a8 (aT Att) (U 0) "families" [some (.ref i),some (.p (.int k))] S=some (.p (.lst [jw B]),S):=by rw[a8,show U 0 [some (.ref i),some (.p (.int k))] S=some (.ref i,S) from rfl,ac];simp only[h];rw[ag kP.1,Mu.1];rfl
 rw[ga];show db (aO _ [some (.ref i),some (.p (.int k))] S)=_;rw[aO,kZ,x,ac,vE,e];rfl
end
variable{n:Nat}
theorem OF(B:NM)(S:aE):Ph (n+2) "families_of" [.p (a_ B)] S=some (.ref S.length,S++[.lst [.p (.int 0),.p (.int 0),.p (.int 0),.p (.int 0)]]):=by rw[oJ];simp[fg,jH,gQ,a_,jw,cP,dS,eQ,List.replicate]
theorem NP(B:NM)(S:aE):Ph (n+3) "pairs_of" [.p (a_ B)] S=some (.ref S.length,S++[.lst []]):=by kernel_rfl
theorem wN(B:NM):pureOf (Ph (n+4) "begin") [a_ B]=some (Y [0,0,0,0]):=by kernel_rfl
def ox(B:NM)(j:Nat):aE:=[.ins "Board" fields [.p (.lst [jw B]),.ref (j+1),.ref (j+2),.ref (j+3),.ref (j+4)],.lst [.p (.int 0),.p (.int 0),.p (.int 0),.p (.int 0)],.fz (.lst []),.dtt [] [],.dct [.inr B.f] [.ref (j+5)],.lst [.p (.int 0),.p (.int 1),.p (.int 2),.p (.int 3)],.lst [],.lst [],.lst []]
theorem CK:aT Att "Board" "places"=true:=by decide +kernel
theorem nM(B:NM)(S:aE):Ph (n+5) "Board.__init__" [.ref S.length,.p (a_ B)] (S++[.ins "Board" [] []])=some (.p .non,S++ox B S.length):=by
 have r:=λT=>OF (n:=n+2) B T;have t:=λT=>NP (n:=n+1) B T;rw[qG];show db (gU _ [some (.ref S.length),some (.p (a_ B)),none,none,none] (S++[.ins "Board" [] []]))=_;unfold gU;have v:bj (a_ B) (.int 0)=some (.lst [jw B]):=rfl;rw[am (by simp[v,kP.1,Ev.putK,Ev.ip];exact⟨rfl,rfl⟩)];rw[am (by simp[r,kP.2.1,Ev.putK,Ev.ip];exact⟨rfl,rfl⟩)];rw[am (by simp[t,kP.2.2.1,Ev.putK,Ev.ip];exact⟨rfl,rfl⟩)];rw[am (by simp[CK,Ev.putK,Ev.ip,u0];exact⟨rfl,rfl⟩)];rw[am (by simp[kP.2.2.1,cO,toP,uK,cP,dS];exact⟨rfl,rfl⟩)];rw[am (by simp[kP.2.2.2,Ev.putK,Ev.ip,qI];exact⟨rfl,rfl⟩)];have s:∀(h:Int),(∃k:Nat,k < 4/\h=k)->∀(T:aE)(q b:Option D),T[S.length]? = some (.ins "Board" fields [.p (.lst [jw B]),.ref (S.length+1),.ref (S.length+2),.ref (S.length+3),.ref (S.length+4)])->T[S.length+1]? = some (.lst [.p (.int 0),.p (.int 0),.p (.int 0),.p (.int 0)]) ->
   cz (mT Tb (Ph (n+4))) (U 0) "family_of" (af (U 4) aI) [some (.ref S.length),some (.p (a_ B)),q,b,some (.p (.int h))] T=some (.p (jw B),T):=λh hk T q b c p=>by
  obtain⟨k,hk,rfl⟩:=hk;rw[cz,show U 0 [some (.ref S.length),some (.p (a_ B)),q,b,some (.p (.int k))] T=some (.ref S.length,T) from rfl,ac];simp only[c,Ol,OI];exact Bz (n:=n+2) c (.inl p) hk
 have f:bj (jw B) (.int 0)=some (.str B.f):=rfl;rw[cT,iH,show(cH (a8 (aT Att) (U 0) "homes")) [some (.ref S.length),some (.p (a_ B)),none,none,none] (S++[SO.ins "Board" ["families","homes","pairs","places","members"] [D.p (P.lst [jw B]),D.ref (d9 S+1),D.ref (d9 S+2),D.ref (d9 S+3),D.ref (d9 S+4)],SO.lst [D.p (P.int 0),D.p (P.int 0),D.p (P.int 0),D.p (P.int 0)],SO.fz (P.lst []),SO.dtt [] [],SO.dct [] []])=some (.int 4,S++[SO.ins "Board" ["families","homes","pairs","places","members"] [D.p (P.lst [jw B]),D.ref (d9 S+1),D.ref (d9 S+2),D.ref (d9 S+3),D.ref (d9 S+4)],SO.lst [D.p (P.int 0),D.p (P.int 0),D.p (P.int 0),D.p (P.int 0)],SO.fz (P.lst []),SO.dtt [] [],SO.dct [] []]) by simp[kP.2.1,cO,kI]];show db (cP (aK 4) _ [.int 0,.int 1,.int 2,.int 3] _ _)=_;have e:=s 0 ⟨0,by decide,rfl⟩;have m:=s 1 ⟨1,by decide,rfl⟩;have x:=s 2 ⟨2,by decide,rfl⟩;have a:=s 3 ⟨3,by decide,rfl⟩;simp only[fields]at e m x a;rw[cj (h:=[some (.ref S.length),some (.p (a_ B)),none,none,some (.p (.int 0))]) rfl (by simp[cL,-cz,e,kP.2.2.2,cO,np,eA,iJ,nz,f,eQ];exact⟨rfl,rfl⟩)]
 rw[cj (h:=[some (.ref S.length),some (.p (a_ B)),none,none,some (.p (.int 1))]) rfl (by simp[cL,-cz,m,kP.2.2.2,cO,np,eA,iJ,nz,f,eQ];exact⟨rfl,rfl⟩)]
 rw[cj (h:=[some (.ref S.length),some (.p (a_ B)),none,none,some (.p (.int 2))]) rfl (by simp[cL,-cz,x,kP.2.2.2,cO,np,eA,iJ,nz,f,eQ];exact⟨rfl,rfl⟩)]
 rw[cj (h:=[some (.ref S.length),some (.p (a_ B)),none,none,some (.p (.int 3))]) rfl (by simp[cL,-cz,a,kP.2.2.2,cO,np,eA,iJ,nz,f,eQ];exact⟨rfl,rfl⟩)]
 simp[cP,ox,fields]
theorem Mh(B:NM)(S:aE):Bd B (S.length+9) S.length (S++ox B S.length):=
 ⟨S.length+1,S.length+2,S.length+3,S.length+4,S.length+5,⟨by simp[ox],.inl (by simp[ox]),.inr (by simp[ox]),by simp[ox],.inl (by simp[ox]),by lia,by lia,by lia,by lia,by lia,by simp[ox]⟩⟩
def dR(s:List Int):Prop:=s.length=4/\∀a ∈ s,0≤a
theorem Fd:∀s a:List Int,kQ (gJ (s.map hP)) (gJ (a.map hP))=decide (s=a)
 | [],[]=>rfl
 | [],_::_=>rfl
 |_::_,[]=>rfl
 |x::s,y::a=>by
  have i:=Fd s a;simp only[aD,gJ,kQ,i,hP,pd,bQ];by_cases h:x=y
  .subst h;simp
  .simp [h]
theorem yb(s y:List Int):bQ (pd (Y s)) (pd (Y y))=decide (s=y):=by simp only[Y,pd,gJ,bQ,kQ,Fd];simp
variable{s:List Int}
theorem l8(h:dR s):cg (Y s)=true:=by
 obtain⟨h,_⟩:=h;obtain⟨a,b,c,d,rfl⟩:∃a b c d,s=[a,b,c,d]:=by
  match s,h with
  | [a,b,c,d],_=>exact⟨a,b,c,d,rfl⟩
 kernel_rfl
theorem EZ{k:List (List Int)}(h:∀x ∈ k,dR x):(k.map Y).all cg=true:=by rw[tF];exact bD.mpr λx a=>l8 (h x a)
theorem x3(s:List Int):∀x:List (List Int),nw (Y s) (x.map Y)=decide (s ∈ x)
 | []=>rfl
 |k::x=>by
  have i:=x3 s x;unfold nw at i ⊢;rw[aD,cG,i,yb];by_cases h:k=s
  .subst h;simp
  .have a:¬s=k:=λz=>h z.symm;simp[h,a]
theorem Bg:∀{a:List (List Int)},s ∈ a->lX (Y s) (a.map Y) (a.map λx=>.p (.lst (bU x)))=some (.p (.lst (bU s)))
 | [],h=>nomatch h
 |k::a,h=>by
  rw[aD,aD,lX,yb];by_cases e:k=s
  .subst e;simp
  .rw [aj (by simpa using e)];exact Bg ((aM.mp h).resolve_left λz=>e z.symm)
theorem Fe:∀n,Ph (n+14) "ends_on"=Ph 14 "ends_on"
 |0=>rfl
 |n+1=>(B6 (n:=n+14) (by simp[stays])).trans (Fe n)
def cf:LS:=["plan","saying","parts","board","first","known","around"]
structure Co(B:NM)(sy pt:P)(b i:Nat)(N:Nat)(S:aE):Prop where
 ex:∃(jb jk:Nat)(ks:List (List Int)),S[i]? = some (.ins "Court" cf [.p (a_ B),.p sy,.p pt,.ref jb,.p (Y [0,0,0,0]),.ref jk,.p .non])/\Bd B b jb S/\S[jk]? = some (.dtn (ks.map Y) (ks.map λx=>.p (.lst (bU x))))/\(∀x ∈ ks,dR x)/\ks.length≤N/\i < b/\jk < b
structure Hi(b:Nat)(S S':aE):Prop where
 len:S.length≤S'.length
 hi:∀k o,b≤k->S[k]? = some o->S'[k]? = some o
theorem Hi.refl(b:Nat)(S:aE):Hi b S S:=⟨al _,λ_ _ _ h=>h⟩
variable{b:Nat}{S:aE}{T:aE}
theorem Hi.trans(h:Hi b S T)(g:Hi b T x):Hi b S x:=⟨ba h.len g.len,λk o hk e=>g.hi k o hk (h.hi k o hk e)⟩
theorem Fr.hi'(h:Fr b S T):Hi b S T:=⟨h.len,h.hi⟩
theorem Hi.app(b:Nat)(S T:aE):Hi b S (S++T):=(Fr.app b S T).hi'
theorem Hi.set (h:Hi b S T) (hk:k < b\/S.length≤k) (o:SO):Hi b S (T.set k o):=⟨by rw [bC];exact h.len,fun j u x e=>by
 rw[bb]
 .exact h.hi j u x e
 .rintro rfl;rcases hk with hk|hk
  .lia
  .have:=fW e;lia⟩
theorem Hi.trunc(h:Hi b S T):Hi b S (trunc S.length T):=by
 unfold Ev.trunc;split
 .exact⟨by rw[cX];have:=h.len;lia,λk o hk e=>by rw[cY (fW e)];exact h.hi k o hk e⟩
 .exact h
theorem jF:aT Att "Court" "plan"=true/\aT Att "Court" "saying"=true/\aT Att "Court" "board"=true/\aT Att "Court" "first"=true/\aT Att "Court" "known"=true/\aT Att "Court" "around"=true/\aT Att "Court" "parts"=true:=by decide +kernel
theorem qT{a b c d e f g:D}:cO "plan" cf [a,b,c,d,e,f,g]=some a/\cO "saying" cf [a,b,c,d,e,f,g]=some b/\cO "board" cf [a,b,c,d,e,f,g]=some d/\cO "first" cf [a,b,c,d,e,f,g]=some e/\cO "known" cf [a,b,c,d,e,f,g]=some f/\cO "around" cf [a,b,c,d,e,f,g]=some g:=by simp[cf,cO]
variable{i:Nat}
theorem qU(h:S[i]? = some (.ins "Court" cf v))(e:o L S=some (.ref i,S))(a:aT Att "Court" x=true)(f:cO x cf v=some d):a8 (aT Att) o x L S=some (d,S):=by rw[a8,e,ac];simp only[h];rw[ag a,f];rfl
variable{B:NM}{sy:P}{pt:P}{N:Nat}
theorem Co.fr(h:Co B sy pt b i N S)(f:Fr b S a):Co B sy pt b i N a:=by
 obtain⟨c,j,k,t,p,v,d,w,s,n⟩:=h;have m:a[i]? = some (.ins "Court" cf [.p (a_ B),.p sy,.p pt,.ref c,.p (Y [0,0,0,0]),.ref j,.p .non]):=by rcases f.low i _ s t with e|⟨_,q,_⟩;exact e;cases q
 have r:a[j]? = some (.dtn (k.map Y) (k.map λx=>.p (.lst (bU x)))):=by rcases f.low j _ n v with e|⟨_,q,_⟩;exact e;cases q
 exact⟨c,j,k,m,p.fr f,r,d,w,s,n⟩
theorem Co.le(h:Co B sy pt b i N S):b≤S.length:=by obtain⟨j,k,s,a,x,_⟩:=h;exact x.le
theorem Co.up(h:Co B sy pt b i N S)(m:N≤M):Co B sy pt b i M S:=by obtain⟨j,k,f,x,a,e,s,c,n⟩:=h;exact⟨j,k,f,x,a,e,s,by lia,n⟩
theorem Bat.set{B:NM}{b i m w q d r k:Nat}{S:aE}(h:Bat B b i m w q d r S){o t:SO}(hk:S[k]? = some o)(x:(∀c f p,o≠.ins c f p)/\(∀s,o≠.lst s)/\(∀v,o≠.fz v)/\∀f p,o≠.dct f p):Bat B b i m w q d r (S.set k t):=by
 have a:∀{j:Nat}{u:SO},S[j]? = some u->u≠o->(S.set k t)[j]? = some u:=λe n=>by
  rw[bb]
  .exact e
  .rintro rfl;rw[hk]at e;cases e;exact n rfl
 have l:∀{j:Nat}{s:List P},eE S j s->eE (S.set k t) j s:=λe=>e.imp (λe=>a e λz=>x.2.1 _ z.symm) λe=>a e λz=>x.2.2.1 _ z.symm;exact⟨a h.ins λz=>x.1 _ _ _ z.symm,l h.ho,l h.pr,a h.me λz=>x.2.2.2 _ _ z.symm,l h.m0,h.bi,h.bh,h.bp,h.bm,h.b0,by rw[bC];exact h.bs⟩
theorem wo{n:Nat}{B:NM}(hW:NW B){sy pt:P}{b i N:Nat}{S:aE}(hC:Co B sy pt b i N S)(hN:N≤1000){xs:List Int}(hx:dR xs) :
  ∃S',Ph (n+16) "Court.ends_of" [.ref i,.p (Y xs)] S=some (.p (.lst (bU xs)),S')/\Co B sy pt b i (N+1) S'/\Hi b S S':=by
 obtain⟨jb,jk,ks,h1,h2,h3,h4,h5,h6,h7⟩:=hC;have g1:=l8 hx;have g2:=EZ h4;have kn:∀{T:aE}{ks:List (List Int)},(T[i]? = some (.ins "Court" cf [.p (a_ B),.p sy,.p pt,.ref jb,.p (Y [0,0,0,0]),.ref jk,.p .non]))->a8 (aT Att) (U 0) "known" [some (.ref i),some (.p (Y xs))] T=some (.ref jk,T):=λe=>qU e rfl jF.2.2.2.2.1 qT.2.2.2.2.1;have dH:∀{T:aE}{ks:List (List Int)},(T[i]? = some (.ins "Court" cf [.p (a_ B),.p sy,.p pt,.ref jb,.p (Y [0,0,0,0]),.ref jk,.p .non]))->T[jk]? = some (.dtn (ks.map Y) (ks.map λx=>.p (.lst (bU x))))->(∀x ∈ ks,dR x)->xs ∈ ks ->
   aO (rM (a8 (aT Att) (U 0) "known") (vE (U 1))) [some (.ref i),some (.p (Y xs))] T=some (.rt (.p (.lst (bU xs))),[some (.ref i),some (.p (Y xs))],T):=λ{T ks} e1 e2 e3 e4=>by
  have e5:(∀a ∈ ks,cg (Y a)=true)=True:=eq_true λa ha=>l8 (e3 a ha);rw[aO,rM,kn (ks:=ks) e1,ac];simp[jS,e2,g1,Bg e4];rw[ag λa ha=>l8 (e3 a ha)]
 have tst:(bV (a7 eS (U 1) (a8 (aT Att) (U 0) "known"))) [some (.ref i),some (.p (Y xs))] S=some (!decide (xs ∈ ks),S):=by
  have:=kn (ks:=ks) h1;have e5:∀a ∈ ks,cg (Y a)=true:=λa ha=>l8 (h4 a ha);have e6:eS (.p (Y xs)) (.ref jk) S=some (.bl (!decide (xs ∈ ks))):=by unfold eS Mz jS;simp only[h3];rw[g1,g2,x3];rfl
  simp[-a8,this,e6]
 by_cases hm:xs ∈ ks
 .refine⟨S,?_,⟨jb,jk,ks,h1,h2,h3,h4,by lia,h6,h7⟩,.refl _ _⟩;rw[hY];show db (cK _ [some (.ref i),some (.p (Y xs))] S)=_;unfold cK;rw[aA,di (by rw[tst];simp[hm])];show db (aO _ _ S)=_;rw[dH h1 h3 h4 hm];rfl
 .obtain⟨S1,e1,f1,q1⟩:=BC hW hx.1 hx.2 h2;have bo:a8 (aT Att) (U 0) "board" [some (.ref i),some (.p (Y xs))] S=some (.ref jb,S):=qU h1 rfl jF.2.2.1 qT.2.2.1;obtain⟨S2,e2,f2⟩:=BK (b:=b) (y:=bU xs) (g:=Ph (n+15) "ends_on") (s:=af (a8 (aT Att) (U 0) "board") (af (U 1) aI)) (L:=[some (.ref i),some (.p (Y xs))]) (S:=S) (n:=[.ref jb,.p (Y xs)]) (by simp[-a8,bo]) (by rw[show n+15=(n+1)+14 from rfl,Fe];exact e1) f1 h2.le (.inr ⟨_,al _,rfl,.inl q1⟩);obtain⟨_,_,_,k1,k2,k3,_⟩:=Co.fr (B:=B) (sy:=sy) (pt:=pt) (i:=i) (N:=N) ⟨jb,jk,ks,h1,h2,h3,h4,h5,h6,h7⟩ f2;have k1:S2[i]? = some (.ins "Court" cf [.p (a_ B),.p sy,.p pt,.ref jb,.p (Y [0,0,0,0]),.ref jk,.p .non]):=by rcases f2.low i _ h6 h1 with e|⟨_,q,_⟩;exact e;cases q
  have k3:S2[jk]? = some (.dtn (ks.map Y) (ks.map λx=>.p (.lst (bU x)))):=by rcases f2.low jk _ h7 h3 with e|⟨_,q,_⟩;exact e;cases q
  have hne:i≠jk:=by rintro rfl;rw[k1]at k3;cases k3
  have MA:(ks++[xs]).map Y=ks.map Y++[Y xs]:=by simp
  have h4':∀x ∈ ks++[xs],dR x:=λx hx'=>by
   rcases fE.mp hx' with z|z
   .exact h4 x z
   .rw [eK.mp z];exact hx
  have put:nT (a8 (aT Att) (U 0) "known") (vE (U 1)) (aP (Ph (n+15) "ends_on") (af (a8 (aT Att) (U 0) "board") (af (U 1) aI))) [some (.ref i),some (.p (Y xs))] S=some (.nx,[some (.ref i),some (.p (Y xs))],S2.set jk (.dtn ((ks++[xs]).map Y) ((ks++[xs]).map λx=>.p (.lst (bU x))))):=by
   unfold nT;rw[e2,ac,kn (ks:=ks) k1,ac];have hf:few (ks.map Y)=true:=by simp;lia
   rw[show vE (U 1) [some (.ref i),some (.p (Y xs))] S2=some (Y xs,S2) from rfl,ac,show jS (.ref jk) S2=some (jk,ks.map Y,ks.map λx=>.p (.lst (bU x))) by unfold jS;simp only[k3]];show(if _ then _ else _)=_;rw[g1,g2,hf,x3,aX hm,ag (by decide)];simp
  have k1':(S2.set jk (.dtn ((ks++[xs]).map Y) ((ks++[xs]).map λx=>.p (.lst (bU x)))))[i]? = some (.ins "Court" cf [.p (a_ B),.p sy,.p pt,.ref jb,.p (Y [0,0,0,0]),.ref jk,.p .non]):=by rw[bb (aH hne)];exact k1
  refine⟨_,?_,⟨jb,jk,ks++[xs],k1',?_,gI k3,h4',by simp;lia,h6,h7⟩,f2.hi'.set (.inl h7) _⟩
  .rw [hY];show db (cK _ [some (.ref i),some (.p (Y xs))] S)=_;unfold cK;rw[am (show cZ _ _ _ _ _=_ from(fV (by rw[tst];simp[hm])).trans put),dH k1' (gI k3) h4' (by simp)];rfl
  .obtain⟨a1,a2,a3,a4,a5,hb⟩:=h2.fr f2;exact⟨a1,a2,a3,a4,a5,hb.set k3 ⟨(λ_ _ _ z=>nomatch z),(λ_ z=>nomatch z),(λ_ z=>nomatch z),(λ_ _ z=>nomatch z)⟩⟩
noncomputable def go(s:List Int)(h:Nat):List Int:=s.set h (s.getD h 0+1)
def MQ(s:List Int)(h:Nat):Prop:=h < 4/\s.getD h 0 < 9
def cU:List Int->List Nat->List (List Int)
 |s,[]=>[s]
 |s,h::x=>s::cU (go s h) x
def sR:List Int->List Nat->Prop
 |_,[]=>True
 |s,h::x=>MQ s h/\sR (go s h) x
theorem dR.go(x:dR s)(h:Nat):dR (go s h):=by
 refine⟨by unfold My.go;rw[bC];exact x.1,λa e=>?_⟩;unfold My.go at e;rcases zC e with z|rfl
 .exact x.2 a z
 .by_cases hk:h < s.length
  .have:=x.2 _ (o8 hk);simp[hk];lia
  .simp [hk]
theorem Jy(h:Nat):gE 20 (dd h)=true:=by kernel_rfl
theorem OO(k h:Nat)(S:aE):fS (.p (dd k)) (.p (dd h)) S=some (.bl (decide (k=h))):=by
 have e:bQ (pd (dd k)) (pd (dd h))=decide (k=h):=by
  simp only[dd,pd,gJ,bQ,kQ];by_cases q:k=h
  .subst q;simp
  .have:¬((k:Int)=h):=by lia
   simp[q,this]
 have x:Cr (dd k) (dd h)=some (decide (k=h)):=by unfold Cr;rw[Jy,Jy,show u6 (dd k) (dd h)=none from rfl,e];rfl
 show(some (dd k)).bind _=_;simp only[eG];show(some (dd h)).bind _=_;simp only[eG,x];rfl
theorem R0(h:Str->GF):mT Tb h "Court" "ends_of"=some (h "Court.ends_of"):=by kernel_rfl
theorem RZ(h:Str->GF):mT Tb h "Court" "truths_at"=some (h "Court.truths_at"):=by kernel_rfl
theorem O2:cf.contains "ends_of"=false:=by decide +kernel
theorem R8:cf.contains "truths_at"=false:=by decide +kernel
noncomputable def B2:P->P | .tup (_::a::_)=>a|x=>x
theorem v0(h:e ∈ bU s):∃k,e=vk s k:=by
 obtain⟨k,_,hk⟩:=tJ.mp h;unfold eL at hk;split at hk
 .exact⟨k,eK.mp hk⟩
 .cases hk
theorem wq(s:List Int):(bU s).length≤4:=by unfold bU eL;simp only[tL,tH,bc];split<;>split<;>split<;>split<;>simp
noncomputable def LO(h:Nat):P->Bool
 | .tup (.tup (_::.int k::_)::_)=>decide (k=(h:Int))
 |_=>false
variable{h:Nat}
theorem ID(a:MQ s h):((bU s).filter (LO h)).map B2=[Y (go s h)]:=by
 have e:∀k,(eL s k).filter (LO h)=if k=h then eL s k else []:=λk=>by
  unfold eL;by_cases q:k=h
  .subst q;rw[ag rfl];split<;>simp[LO,vk,dd]
  .have:¬((k:Int)=h):=by lia
   rw[aj q];split<;>simp[LO,vk,dd,this]
 have x:eL s h=[vk s h]:=by unfold eL;rw[ag a.2]
 unfold bU;simp only[tL,tH,cW,List.filter_append,e];obtain⟨n,_⟩:=a;match h,n,x with
 |0,_,x=>simp[x,vk,B2,go]
 |1,_,x=>simp[x,vk,B2,go]
 |2,_,x=>simp[x,vk,B2,go]
 |3,_,x=>simp[x,vk,B2,go]
theorem CB(S:aE)(a x e n f:Option D):cR (ci [aK 6,aK 7]) (bV (a7 fS (U 6) (U 4))) (vE (U 7)) (bU s) (ph [] 2 [a,x,e,n,some (.p (dd h)),f]) S=some (((bU s).filter (LO h)).map B2,S):=by
 refine eC (Inv:=λL=>∃b c,L=[a,x,e,n,some (.p (dd h)),f,b,c]) (λv p L z=>?_) ⟨none,none,rfl⟩;obtain⟨b,c,t⟩:=z;subst t;obtain⟨k,rfl⟩:=v0 p;refine⟨_,rfl,⟨_,_,rfl⟩,?_,λ_=>rfl⟩;have m:LO h (vk s k)=decide (k=h):=by
  unfold vk dd LO;by_cases q:k=h
  .subst q;simp
  .have:¬((k:Int)=h):=by lia
   simp[q,this]
 have r:=OO k h S;simp[m,r]
noncomputable abbrev F7(i r:Nat)(st d:P)(q h:Option D):Lc:=[some (.ref i),some (.p st),some (.p d),some (.ref r),q,h]
theorem JC(h:S[i]? = some (.ins "Court" cf v))(s:o L S=some (.ref i,S))(m:M "Court" x=some g)(n:cf.contains x=false)(e:a L S=some (d,S)):cz M o x a L S=g (.ref i::d) S:=by rw[cz,s,ac];simp only[h,m,n,e,ac];rfl
theorem H0(h:S[a]? = some (.lst ((k++[x]).map .p))):kZ (U 3) (vA jJ (vC (.int 1))) (F7 i a st d q v) S=some (.p x,S):=by have e:L2.atI (k++[x]) (-1)=some x:=L2.qY k x;exact eE.ix (.inl h) rfl rfl e
theorem Co.stay(h:Co B sy pt b i N S)(e:∀j,j < b->S[j]? = T[j]?)(w:b≤T.length):Co B sy pt b i N T:=by
 obtain⟨u,g,y,t,⟨k,f,c,m,r,x⟩,p,v,d,a,n⟩:=h;have l:∀{j:Nat}{s:List P},j < b->eE S j s->eE T j s:=λq z=>by unfold eE at z ⊢;rw[<- e _ q];exact z
 exact⟨u,g,y,(e _ a).symm.trans t,⟨k,f,c,m,r,⟨(e _ x.bi).symm.trans x.ins,l x.bh x.ho,l x.bp x.pr,(e _ x.bm).symm.trans x.me,l x.b0 x.m0,x.bi,x.bh,x.bp,x.bm,x.b0,w⟩⟩,(e _ n).symm.trans p,v,d,a,n⟩
theorem Hn(W:NW B)(C:Co B sy pt b i N S)(F:N≤900)(z:Hi b x S)(g:b≤x.length)(H:dR s)(y:MQ s h)(A:a.length≤900)(r:S[x.length]? = some (.lst ((a++[Y s]).map .p)))(st d:P)(q:Option D) :
  ∃c k,em (Ph (n+16)) (F7 i x.length st d (some (.p (dd h))) q) S=some (.nx,F7 i x.length st d (some (.p (dd h))) c,k)/\Co B sy pt b i (N+1) k/\Hi b x k/\k[x.length]? = some (.lst ((a++[Y s]++[Y (go s h)]).map .p)):=by
 obtain⟨e,v,m,p⟩:=wo (n:=n) W C (by lia) H;obtain⟨E,G,I,u,_⟩:=C;have f:=p.hi _ _ g r;refine⟨some (.p (.lst [Y (go s h)])),e.set x.length (.lst ((a++[Y s]++[Y (go s h)]).map .p)),?_,?_,(z.trans p).set (.inr (al _)) _,gI f⟩
 .have w:cz (mT Tb (Ph (n+16))) (U 0) "ends_of" (af (kZ (U 3) (vA jJ (vC (.int 1)))) aI) (F7 i x.length st d (some (.p (dd h))) q) S=some (.p (.lst (bU s)),e):=by
   rw[JC u rfl (R0 _) O2 (d:=[.p (Y s)]) (by rw[af,H0 r,ac];rfl)]
   exact v
  unfold em;have t:=CB (h:=h) (s:=s) e (some (.ref i)) (some (.p st)) (some (.p d)) (some (.ref x.length)) q;rw[ID y]at t;have l:few (bU s)=true:=by have:=wq s;simp;lia
  rw[am (x:=F7 i x.length st d (some (.p (dd h))) (some (.p (.lst [Y (go s h)])))) (a:=e) (by have o:toP 9 (.p (.lst (bU s))) e=some (.lst (bU s),e):=rfl;simp only[aZ,eV,bH,gF,vE,w,ac,o,ag l,t];rfl)]
  rw[am (by simp[kI,ql];exact⟨rfl,rfl⟩)];exact pE (c:=a++[Y s]) rfl f rfl f (by simp;lia)
 .refine m.stay (λj K=>?_) (by rw[bC];exact m.le);rw[bb (by lia)]
theorem A3{n:Nat}{B:NM}(W:NW B){sy pt:P}{b i:Nat}{e:aE}(j:b≤e.length)(st d:P):∀(x:List Nat)(s:List Int)(a:List P)(N:Nat)(S:aE)(k q:Option D),dR s->sR s x->N+x.length≤900->a.length+x.length≤900->Co B sy pt b i N S->Hi b e S->S[e.length]? = some (.lst ((a++[Y s]).map .p)) ->
  ∃r p f,cP (aK 4) (em (Ph (n+16))) (x.map dd) (F7 i e.length st d k q) S=some (.nx,F7 i e.length st d r p,f)/\Co B sy pt b i (N+x.length) f/\Hi b e f/\f[e.length]? = some (.lst ((a++(cU s x).map Y).map .p))
 | [],s,a,N,S,k,q,_,_,_,_,C,m,c=>⟨k,q,S,rfl,C,m,c⟩
 |h::x,s,a,N,S,k,q,z,y,u,l,C,m,c=>by have u:N+(x.length+1)≤900:=u;have l:a.length+(x.length+1)≤900:=l;obtain⟨v,o,A,F,G,M⟩:=Hn (n:=n) W C (by lia) m j z y.1 (by lia) c st d q;obtain⟨t,w,H,E,K,I,Q⟩:=A3 (n:=n) W j st d x (go s h) (a++[Y s]) (N+1) o (some (.p (dd h))) v (z.go h) y.2 (by lia) (by rw[bc];simp;lia) F G M;refine⟨t,w,H,?_,K.up (by simp;lia),I,by rw[Q];simp[cU]⟩;exact(cj (g:=aK 4) (L:=F7 i e.length st d k q) (h:=F7 i e.length st d (some (.p (dd h))) q) rfl A).trans E
theorem KE(W:NW B)(C:Co B sy pt b i N S)(f:dR s)(v:sR s x)(a:N+x.length≤900) :
  ∃h,Ph (n+17) "run_from" [.ref i,.p (Y s),.p (.lst (x.map dd))] S=some (.ref S.length,h)/\Co B sy pt b i (N+x.length) h/\Hi b S h/\h[S.length]? = some (.lst (((cU s x).map Y).map .p)):=by
 have k:=C.le;obtain⟨q,r,h,e,c,m,t⟩:=A3 (n:=n) W k (Y s) (.lst (x.map dd)) x s [] N (S++[.lst [.p (Y s)]]) none none f v a (by simp;lia) (C.fr (Fr.app b S _)) (Hi.app b S _) (ig ..);refine⟨h,?_,c,m,t⟩;rw[uV];show db (jn _ [some (.ref i),some (.p (Y s)),some (.p (.lst (x.map dd))),none,none,none] S)=_;unfold jn;rw[am (by simp[G4,Mp,wb];exact⟨rfl,rfl⟩)];rw[am (x:=F7 i S.length (Y s) (.lst (x.map dd)) none none) (a:=S++[.lst [.p (Y s)]]) (by simp)];rw[am (show cT _ _ _ _ _=some (.nx,F7 i S.length (Y s) (.lst (x.map dd)) q r,h) by rw[cT,gF];exact e)];rfl
noncomputable def sf:LS:=["board","standings","around","dries"]
def Lw:Bool->SO
 |false=>.lst [.p (.int 0),.p (.int 1),.p (.int 2),.p (.int 3)]
 |true=>.fz (.lst [.int 0,.int 1,.int 2,.int 3])
def A1(B:NM)(W:List P)(j:Nat)(z:Bool):aE:=[.ins "Scene" sf [.ref (j+1),.p (.lst W),.ref j,.p .non],.ins "Board" fields [.p (.lst [jw B]),.ref (j+2),.ref (j+3),.ref (j+4),.ref (j+5)],.lst [.p (.int 0),.p (.int 0),.p (.int 0),.p (.int 0)],.fz (.lst []),.dtt [] [],.dct [.inr B.f] [.ref (j+6)],Lw z,.lst [],.lst [],.lst []]
theorem r9:aT Att "Scene" "board"=true/\aT Att "Scene" "standings"=true/\aT Att "Scene" "around"=true/\aT Att "Scene" "dries"=true:=by decide +kernel
theorem B5(B:NM)(W:List P)(S:aE):Ph (n+7) "Scene.__init__" [.ref S.length,.p (a_ B),.p (.lst W),.p .non] (S++[.ins "Scene" [] []])=some (.p .non,S++A1 B W S.length false):=by
 have e:=nM (n:=n) B (S++[.ins "Scene" [] []]);rw[bc]at e;have m:gb (Ph (n+5) "Board.__init__") "Board" (af (U 1) aI) [some (.ref S.length),some (.p (a_ B)),some (.p (.lst W)),some (.p .non)] (S++[.ins "Scene" [] []])=some (.ref (S.length+1),S++[.ins "Scene" [] []]++ox B (S.length+1)):=by rw[gb,show af (U 1) aI [some (.ref S.length),some (.p (a_ B)),some (.p (.lst W)),some (.p .non)] (S++[.ins "Scene" [] []])=some ([.p (a_ B)],S++[.ins "Scene" [] []]) from rfl,ac,bc];simp only[tR]at e ⊢;rw[e]
 rw[qE];show db (gR _ _ [some (.ref S.length),some (.p (a_ B)),some (.p (.lst W)),some (.p .non)] (S++[.ins "Scene" [] []]))=_;unfold gR;rw[am (x:=[some (.ref S.length),some (.p (a_ B)),some (.p (.lst W)),some (.p .non)]) (a:=S++.ins "Scene" ["board"] [.ref (S.length+1)]::ox B (S.length+1)) (by rw[dt,m,ac];simp[r9.1,Ev.putK,Ev.ip])]
 rw[am (by simp[r9.2.1,Ev.putK,Ev.ip];exact⟨rfl,rfl⟩)];rw[am (by simp[r9.2.2.1,Ev.putK,Ev.ip,x6,kU];exact⟨rfl,rfl⟩)];simp[r9.2.2.2,Ev.putK,Ev.ip,A1,ox,sf,Lw]
def eB(B:NM)(N:Int):P:=.tup [.str "is",.str "=",sj B,Ej N]
def cJ(B:NM)(f:Str)(N:Int):P:=.tup [.str "some",.str B.f,.str f,eB B N]
noncomputable def ow(a:Int):P:=.tup [.int 0,.tup [.int a]]
theorem LR(B:NM)(N a:Int):pureOf (Ph (n+3) "holds") [eB B N,.dct [.inr B.c] [.int a]]=some (.bl (decide (a=N))):=by
 have e:=pV (n:=n) B a;have h:=ul (n:=n) N [.inr B.c] [.int a];have x:pureOf (Ph (n+2) "compared") [.str "=",.int a,.int N]=some (.bl (decide (a=N))):=by rw[uY,bZ];simp[mM]
 rw[sv,bZ];simp[nN,eB,e,h,x]
theorem IA(W:NW B)(r:f=B.r\/f="")(N a:Int):pureOf (Ph (n+4) "fits") [jw B,ow a,.str f,eB B N]=some (.bl (decide (a=N))):=by
 have h:=LR (n:=n) B N a;have e:=rV (n:=n+1) B a;rw[Fi,bZ];rcases r with rfl|rfl
 .have:=W.r0;simp[qW,jw,ow,this];simp[jw]at e;simp[e,h]
 .simp [qW,ow,e,h]
theorem Fc(a b:Int):bQ (pd (ow a)) (pd (ow b))=decide (a=b):=by simp only[ow,pd,gJ,bQ,kQ];by_cases h:a=b<;>simp[h]
theorem Bv(a:Int):cg (ow a)=true:=by kernel_rfl
theorem qA(k:List Int):(k.map ow).all cg=true:=by rw[tF];exact bD.mpr λx _=>Bv x
theorem x4(a:Int):∀s:List Int,nw (ow a) (s.map ow)=decide (a ∈ s)
 | []=>rfl
 |k::s=>by
  have i:=x4 a s;unfold nw at i ⊢;rw[aD,cG,i,Fc];by_cases h:k=a
  .subst h;simp
  .have x:¬a=k:=λz=>h z.symm;simp[h,x]
theorem Bh{N a:Int}:∀{s:List Int},a ∈ s->lX (ow a) (s.map ow) (s.map λx=>.p (.bl (decide (x=N))))=some (.p (.bl (decide (a=N))))
 | [],h=>nomatch h
 |k::s,h=>by
  rw[aD,aD,lX,Fc];by_cases e:k=a
  .subst e;simp
  .rw [aj (by simpa using e)];exact Bh ((aM.mp h).resolve_left λz=>e z.symm)
structure Up(S U9:aE):Prop where
 len:S.length≤U9.length
 at':∀k,k < S.length->U9[k]? = S[k]?
theorem Up.app(S T:aE):Up S (S++T):=⟨by simp,λk hk=>bE hk⟩
theorem Up.trunc(h:Up S x)(a:S.length≤n):Up S (Ev.trunc n x):=by
 unfold Ev.trunc;split
 .exact⟨by rw[cX];have:=h.len;lia,λk hk=>by rw[cY (by lia)];exact h.at' k hk⟩
 .exact h
theorem DJ{T:aE}{k:Nat}{o:SO}(h:T[k]? = some o):T.set k o=T:=by obtain⟨x,rfl⟩:=bg.mp h;exact zx x
section
variable{B:NM}{j r k1 k2:Nat}{f:Str}{N:Int}
abbrev FL(B:NM)(j r k1 k2:Nat)(f:Str)(N:Int)(h x a q:Option D):Lc:=[some (.ref j),some (.ref r),some (.p (.str f)),some (.p (eB B N)),some (.p (jw B)),some (.ref k1),some (.ref k2),h,x,a,q]
def CQ(N:Int)(k:List Int):SO:=.dtn (k.map ow) (k.map λx=>.p (.bl (decide (x=N))))
theorem Iz(W:NW B)(H:f=B.r\/f="")(hk:T[k1]? = some (CQ N k))(S:k.length≤9000){a:Int}(z:s[h]? = some a)(m:Int)(t:Option D) :
  ∃c,cx (Ph (n+4)) (FL B j r k1 k2 f N (some (.p (Y s))) (some (.p (.int m))) (some (.p (.int h))) t) T=some (.nx,FL B j r k1 k2 f N (some (.p (Y s))) (some (.p (.int (m+if a=N then 1 else 0)))) (some (.p (.int h))) (some (.p (ow a))),T.set k1 (CQ N c))/\c.length≤k.length+1:=by
 have w:=IA (n:=n) W H N a;have u:=FW z;have g:=Bv a;have y:=qA k;have p:aZ 10 (eV (i8 (aW bj (aW bj (vE (U 7)) (vC (.int 0))) (vE (U 9))) eR (ew (vC (.int 2))))) (FL B j r k1 k2 f N (some (.p (Y s))) (some (.p (.int m))) (some (.p (.int h))) t) T=some (.nx,FL B j r k1 k2 f N (some (.p (Y s))) (some (.p (.int m))) (some (.p (.int h))) (some (.p (ow a))),T):=by simp[Y,u,hP,ow,yf];rfl
 have v:∀{T:aE}{k:List Int},T[k1]? = some (CQ N k)->(bV (a7 eS (U 10) (U 5))) (FL B j r k1 k2 f N (some (.p (Y s))) (some (.p (.int m))) (some (.p (.int h))) (some (.p (ow a)))) T=some (!decide (a ∈ k),T):=λ{T k} e=>by
  have i:eS (.p (ow a)) (.ref k1) T=some (.bl (!decide (a ∈ k))):=by unfold eS Mz jS;simp only[e,CQ];rw[g,qA,x4];rfl
  simp[i]
 have dH:∀{T:aE}{k:List Int},T[k1]? = some (CQ N k)->a ∈ k->cZ (bT (rM (U 5) (vE (U 10)))) (DP 8 (vC (.int 1))) eD (FL B j r k1 k2 f N (some (.p (Y s))) (some (.p (.int m))) (some (.p (.int h))) (some (.p (ow a)))) T=some (.nx,FL B j r k1 k2 f N (some (.p (Y s))) (some (.p (.int (m+if a=N then 1 else 0)))) (some (.p (.int h))) (some (.p (ow a))),T):=λ{T k} e b=>by
  have l:rM (U 5) (vE (U 10)) (FL B j r k1 k2 f N (some (.p (Y s))) (some (.p (.int m))) (some (.p (.int h))) (some (.p (ow a)))) T=some (.p (.bl (decide (a=N))),T):=by rw[rM,show U 5 (FL B j r k1 k2 f N (some (.p (Y s))) (some (.p (.int m))) (some (.p (.int h))) (some (.p (ow a)))) T=some (.ref k1,T) from rfl,ac,show vE (U 10) (FL B j r k1 k2 f N (some (.p (Y s))) (some (.p (.int m))) (some (.p (.int h))) (some (.p (ow a)))) T=some (ow a,T) from rfl,ac];rw[show jS (.ref k1) T=some (k1,k.map ow,k.map λx=>.p (.bl (decide (x=N)))) by unfold jS;simp only[e,CQ]];show(if _ then _ else _)=_;rw[g,qA,ag (by decide),Bh b];rfl
  have d:bT (rM (U 5) (vE (U 10))) (FL B j r k1 k2 f N (some (.p (Y s))) (some (.p (.int m))) (some (.p (.int h))) (some (.p (ow a)))) T=some (decide (a=N),T):=by rw[bT,l];rfl
  by_cases q:a=N
  .rw [fV (by rw[d,df q]),ag q];rfl
  .rw [di (by rw[d,aX q]),aj q,Int.add_zero];rfl
 unfold cx;by_cases b:a ∈ k
 .refine⟨k,?_,by lia⟩;rw[am p,am (show cZ _ _ _ _ _=_ from(di (by rw[v hk];simp[b])).trans rfl),dH hk b];rw[DJ hk]
 .refine⟨k++[a],?_,by simp⟩;have put:nT (U 5) (vE (U 10)) (aG (pureOf (Ph (n+4) "fits")) (O (vE (U 4)) (O (vE (U 10)) (O (vE (U 2)) (O (vE (U 3)) ah))))) (FL B j r k1 k2 f N (some (.p (Y s))) (some (.p (.int m))) (some (.p (.int h))) (some (.p (ow a)))) T=some (.nx,FL B j r k1 k2 f N (some (.p (Y s))) (some (.p (.int m))) (some (.p (.int h))) (some (.p (ow a))),T.set k1 (CQ N (k++[a]))):=by
   unfold nT;rw[show(aG (pureOf (Ph (n+4) "fits")) (O (vE (U 4)) (O (vE (U 10)) (O (vE (U 2)) (O (vE (U 3)) ah))))) (FL B j r k1 k2 f N (some (.p (Y s))) (some (.p (.int m))) (some (.p (.int h))) (some (.p (ow a)))) T=some (.bl (decide (a=N)),T) by simp[w],ac,show U 5 (FL B j r k1 k2 f N (some (.p (Y s))) (some (.p (.int m))) (some (.p (.int h))) (some (.p (ow a)))) T=some (.ref k1,T) from rfl,ac,show vE (U 10) (FL B j r k1 k2 f N (some (.p (Y s))) (some (.p (.int m))) (some (.p (.int h))) (some (.p (ow a)))) T=some (ow a,T) from rfl,ac];rw[show jS (.ref k1) T=some (k1,k.map ow,k.map λx=>.p (.bl (decide (x=N)))) by unfold jS;simp only[hk,CQ]];have o:few (k.map ow)=true:=by simp;lia
   show(if _ then _ else _)=_;rw[g,y,o,x4,aX b,ag (by decide)];simp[CQ]
  rw[am p,am (show cZ _ _ _ _ _=_ from(fV (by rw[v hk];simp[b])).trans put),dH (gI hk) (by simp)]
end
noncomputable def cnt(N:Int)(s:List Int)(x:List Nat):Nat:=(x.filter λh=>decide (s.getD h 0=N)).length
section
variable{B:NM}{j r k1 k2:Nat}{f:Str}{N:Int}
structure FS(j0 k1 k2:Nat)(N:Int)(ks:List Int)(ns:List P)(T U9:aE):Prop where
 len:U9.length=T.length
 oth:∀k,k≠j0->k≠k1->k≠k2->U9[k]? = T[k]?
 kn:U9[k1]? = some (CQ N ks)
 nu:U9[k2]? = some (.lst (ns.map .p))
 me:eE U9 j0 [.int 0,.int 1,.int 2,.int 3]
theorem wl{n:Nat}(W:NW B)(E:f=B.r\/f="")(G:r≠k1)(I:k1≠k2){T:aE}{H:List P}{s:List Int}(hx:s.length=4):∀(e:List Nat)(p:List Int)(d:aE)(m:Int)(i x:Option D),(∀h ∈ e,h < 4)->p.length+e.length≤9000->FS r k1 k2 N p H T d ->
  ∃w F S u,cP (aK 9) (cx (Ph (n+4))) (e.map λh:Nat=>.int h) (FL B j r k1 k2 f N (some (.p (Y s))) (some (.p (.int m))) i x) d=some (.nx,FL B j r k1 k2 f N (some (.p (Y s))) (some (.p (.int (m+(cnt N s e:Nat))))) S u,F)/\FS r k1 k2 N w H T F/\w.length≤p.length+e.length
 | [],p,d,m,i,x,_,_,t=>⟨p,d,i,x,by simp[cP,cnt],t,by simp⟩
 |h::e,p,d,m,i,x,A,C,t=>by
  have h4:=A h aJ;have K:s[h]? = some (s[h]'(by lia)):=by simp
  have C:p.length+(e.length+1)≤9000:=C;obtain⟨v,R,l1⟩:=Iz (n:=n) (j:=j) (r:=r) (k2:=k2) W E t.kn (by lia) K m x;have z:FS r k1 k2 N v H T (d.set k1 (CQ N v)):=⟨by rw[bC];exact t.len,λk a b c=>by rw[bb (aH b)];exact t.oth k a b c,gI t.kn,by rw[bb I];exact t.nu,by have:=t.me;unfold eE at this ⊢;rw[bb (aH G)];exact this⟩
  obtain⟨o,M,Q,l,V,X,l2⟩:=wl (n:=n) W E G I hx e v _ (m+if s[h]'(by lia)=N then 1 else 0) (some (.p (.int h))) (some (.p (ow (s[h]'(by lia))))) (λy hy=>A y (aN _ hy)) (by lia) z;refine⟨o,M,Q,l,?_,X,by simp;lia⟩;refine((cj (g:=aK 9) (L:=FL B j r k1 k2 f N (some (.p (Y s))) (some (.p (.int m))) i x) (h:=FL B j r k1 k2 f N (some (.p (Y s))) (some (.p (.int m))) (some (.p (.int h))) x) rfl R).trans V).trans ?_;have Z:m+(cnt N s (h::e):Nat)=(m+if s[h]'(by lia)=N then 1 else 0)+(cnt N s e:Nat):=by
   have hg:s.getD h 0=s[h]'(by lia):=by simp[K]
   unfold cnt;rw[List.filter_cons,hg];by_cases q:s[h]'(by lia)=N
   .simp [q];lia
   .simp [q]
  rw[Z]
def nmP(N:Int)(s:List Int):P:=.int (cnt N s [0,1,2,3]:Nat)
theorem By{n:Nat}(Z:NW B)(hr:f=B.r\/f="")(G:r≠k1)(I:k1≠k2)(M:r≠k2){T:aE}:∀(W:List (List Int))(h:List P)(v:List Int)(m:aE)(z u t q:Option D),(∀x ∈ W,dR x)->h.length+W.length≤1000->v.length+4 * W.length≤9000->FS r k1 k2 N v h T m ->
  ∃C X Q R V l,cP (aK 7) (cw (Ph (n+4))) (W.map Y) (FL B j r k1 k2 f N z u t q) m=some (.nx,FL B j r k1 k2 f N Q R V l,X)/\FS r k1 k2 N C (h++W.map (nmP N)) T X
 | [],h,v,m,z,u,t,q,_,_,_,p=>⟨v,m,z,u,t,q,rfl,by simpa using p⟩
 |s::W,h,v,m,z,u,t,q,hg,hl,hk,p=>by
  have hl:h.length+(W.length+1)≤1000:=hl;have hk:v.length+4 * (W.length+1)≤9000:=hk;have hx:=(hg s aJ).1;have K:FS r k1 k2 N v h T (m.set r (.fz (.lst [.int 0,.int 1,.int 2,.int 3]))):=⟨by rw [bC];exact p.len,fun k a b c=>by rw [bb (aH a)];exact p.oth k a b c,by rw [bb G];exact p.kn,by rw [bb M];exact p.nu,by
   rcases p.me with e|e
   .exact .inr (gI e)
   .exact .inr (gI e)⟩
  obtain⟨i,H,S,d,e1,w,l1⟩:=wl (n:=n) (j:=j) Z hr G I hx [0,1,2,3] v _ 0 t q (by simp) (by simp;lia) K;have A:FS r k1 k2 N i (h++[nmP N s]) T (H.set k2 (.lst ((h++[nmP N s]).map .p))):=⟨by rw[bC];exact w.len,λk a b c=>by rw[bb (aH c)];exact w.oth k a b c,by rw[bb (aH I)];exact w.kn,gI w.nu,by have:=w.me;unfold eE at this ⊢;rw[bb (aH M)];exact this⟩
  have o:cw (Ph (n+4)) (FL B j r k1 k2 f N (some (.p (Y s))) u t q) m=some (.nx,FL B j r k1 k2 f N (some (.p (Y s))) (some (.p (nmP N s))) S d,H.set k2 (.lst ((h++[nmP N s]).map .p))):=by
   unfold cw;rw[am (x:=FL B j r k1 k2 f N (some (.p (Y s))) (some (.p (.int 0))) t q) (a:=m) rfl];rw[am (x:=FL B j r k1 k2 f N (some (.p (Y s))) (some (.p (nmP N s))) S d) (a:=H) (by rw[cT,gF,vE,show U 1 (FL B j r k1 k2 f N (some (.p (Y s))) (some (.p (.int 0))) t q) m=some (.ref r,m) from rfl,ac,p.me.frz];refine(show _=_ from e1).trans ?_;simp[nmP])]
   exact pE (c:=h) rfl w.nu rfl w.nu (by lia)
  obtain⟨E,U3,b7,b8,b9,F,e2,f2⟩:=By (n:=n) Z hr G I M W (h++[nmP N s]) i _ (some (.p (Y s))) (some (.p (nmP N s))) S d (λy hy=>hg y (aN _ hy)) (by simp;lia) (by simp at l1;lia) A;refine⟨E,U3,b7,b8,b9,F,?_,by simpa using f2⟩;exact(cj (g:=aK 7) (L:=FL B j r k1 k2 f N z u t q) (h:=FL B j r k1 k2 f N (some (.p (Y s))) u t q) rfl o).trans e2
end
theorem Ou{i:Nat}{S:aE}{c:Str}{f:LS}{v:List D}(h:S[i]? = some (.ins c f v)){L:Lc}{o:EE}(s:o L S=some (.ref i,S)){m:Str}{a:sS}{g:GF}{M:Str->Str->Option GF}{d:List D}(e:M c m=some g)(n:f.contains m=false)(x:a L S=some (d,S)):cz M o m a L S=g (.ref i::d) S:=by rw[cz,s,ac];simp only[h,e,n,x,ac];rfl
structure Sn(B:NM)(W:List P)(j:Nat)(T:aE):Prop where
 sc:T[j]? = some (.ins "Scene" sf [.ref (j+1),.p (.lst W),.ref j,.p .non])
 bo:T[j+1]? = some (.ins "Board" fields [.p (.lst [jw B]),.ref (j+2),.ref (j+3),.ref (j+4),.ref (j+5)])
 ho:eE T (j+2) [.int 0,.int 0,.int 0,.int 0]
 me:T[j+5]? = some (.dct [.inr B.f] [.ref (j+6)])
 m0:eE T (j+6) [.int 0,.int 1,.int 2,.int 3]
theorem Sn.lt{B:NM}{W:List P}{j:Nat}{T:aE}(h:Sn B W j T):j+6 < T.length:=h.m0.lt
theorem Sn.new(B:NM)(W:List P)(S:aE):Sn B W S.length (S++A1 B W S.length false):=⟨by simp[A1],by simp[A1],.inl (by simp[A1]),by simp[A1],.inl (by simp[A1,Lw])⟩
theorem NC{a b c d:D}:cO "board" sf [a,b,c,d]=some a/\cO "standings" sf [a,b,c,d]=some b:=by simp[sf,cO]
theorem Sn.board{B:NM}{W:List P}{j:Nat}{T:aE}(h:Sn B W j T){L:Lc}{o:EE}(x:o L T=some (.ref j,T)):a8 (aT Att) o "board" L T=some (.ref (j+1),T):=by rw[a8,x,ac];simp only[h.sc];rw[ag r9.1,NC.1];rfl
theorem Sn.members{B:NM}{W:List P}{j:Nat}{T:aE}(h:Sn B W j T){L:Lc}{o:EE}(x:o L T=some (.ref j,T)):a8 (aT Att) (a8 (aT Att) o "board") "members" L T=some (.ref (j+5),T):=by rw[a8,h.board x,ac];simp only[h.bo];rw[ag kP.2.2.2,Mu.2.2.2];rfl
theorem OG{n:Nat}{B:NM}(hW:NW B){rm:Str}(hr:rm=B.r\/rm=""){N:Int}{W:List (List Int)}(hg:∀x ∈ W,dR x)(hl:W.length≤900){j:Nat}{T:aE}(hT:Sn B (W.map Y) j T) :
  ∃U9,Ph (n+5) "fitting_numbers" [.ref j,.ref (j+6),.p (.str rm),.p (eB B N)] T=some (.ref (T.length+1),U9)/\U9[T.length+1]? = some (.lst ((W.map (nmP N)).map .p))/\T.length+2=U9.length/\∀k,k < j->U9[k]? = T[k]?:=by
 have lt:=hT.lt;have hU:FS (j+6) T.length (T.length+1) N [] [] (T++[.dtn [] [],.lst []]) (T++[.dtn [] [],.lst []]):=⟨rfl,λ_ _ _ _=>rfl,by simp[CQ],by simp,by have:=hT.m0;unfold eE at this ⊢;rw[bE lt];exact this⟩
 obtain⟨ks,U9,q7,q8,q9,q10,e1,f1⟩:=By (n:=n) (j:=j) hW hr (by lia) (by lia) (by lia) W [] [] _ none none none none hg (by simp;lia) (by simp;lia) hU;refine⟨U9,?_,f1.nu,by rw[f1.len];simp,λk hk=>by rw[f1.oth k (by lia) (by lia) (by lia),bE (by lia)]⟩;rw[kK];show db (dM _ [some (.ref j),some (.ref (j+6)),some (.p (.str rm)),some (.p (eB B N)),none,none,none,none,none,none,none] T)=_;unfold dM;have ef:=Bz (n:=n+2) hT.bo hT.ho (k:=0) (by decide);have ei:kZ (U 1) (vC (.int 0)) [some (.ref j),some (.ref (j+6)),some (.p (.str rm)),some (.p (eB B N)),none,none,none,none,none,none,none] T=some (.p (.int 0),T):=hT.m0.ix rfl rfl rfl;rw[am (x:=[some (.ref j),some (.ref (j+6)),some (.p (.str rm)),some (.p (eB B N)),some (.p (jw B)),none,none,none,none,none,none]) (a:=T) (by rw[aZ,Ou hT.bo (hT.board rfl) (Ol _) OI (d:=[.p (.int 0)]) (by rw[af,ei,ac];rfl),show Ph (n+4) "Board.family_of" [.ref (j+1),.p (.int 0)] T=_ from ef];rfl)]
 rw[am (x:=[some (.ref j),some (.ref (j+6)),some (.p (.str rm)),some (.p (eB B N)),some (.p (jw B)),some (.ref T.length),none,none,none,none,none]) (a:=T++[.dtn [] []]) rfl];rw[am (x:=FL B j (j+6) T.length (T.length+1) rm N none none none none) (a:=T++[.dtn [] [],.lst []]) (by simp)];have hs:a8 (aT Att) (U 0) "standings" (FL B j (j+6) T.length (T.length+1) rm N none none none none) (T++[.dtn [] [],.lst []])=some (.p (.lst (W.map Y)),T++[.dtn [] [],.lst []]):=by rw[a8,show U 0 (FL B j (j+6) T.length (T.length+1) rm N none none none none) (T++[.dtn [] [],.lst []])=some (.ref j,T++[.dtn [] [],.lst []]) from rfl,ac];simp only[bE (show j < T.length by lia),hT.sc];rw[ag r9.2.1,NC.2];rfl
 rw[am (show cT _ _ _ _ _=some (.nx,FL B j (j+6) T.length (T.length+1) rm N q7 q8 q9 q10,U9) by rw[cT,gF,vE,hs,ac];exact e1)]
 rfl
end My
namespace My
open PySem L2 Ev
structure Bl(j:Nat)(T U9:aE):Prop where
 le:j≤U9.length
 at':∀k,k < j->U9[k]? = T[k]?
variable{j:Nat}{n:Nat}{T:aE}{U9:aE}
theorem Bl.trunc(h:Bl j T U9)(hn:j≤n):Bl j T (Ev.trunc n U9):=by
 unfold Ev.trunc;split
 .exact⟨by rw[cX];have:=h.le;lia,λk hk=>by rw[cY (by lia)];exact h.at' k hk⟩
 .exact h
theorem Bl.set(h:Bl j T U9)(hk:j≤k)(o:SO):Bl j T (U9.set k o):=⟨by rw[bC];exact h.le,λi hi=>by rw[bb (by lia)];exact h.at' i hi⟩
variable{S:aE}
theorem Bl.up(h:Up S T)(g:Bl S.length T U9):Up S U9:=⟨g.le,λk hk=>(g.at' k hk).trans (h.at' k hk)⟩
def hasN(N:Int)(xs:List Int):Bool:=decide (0 < cnt N xs [0,1,2,3])
theorem Oz{n:Nat}{B:NM}(hW:NW B){rm:Str}(hr:rm=B.r\/rm=""){N:Int}{W:List (List Int)}(hg:∀x ∈ W,dR x)(hl:W.length≤900){j:Nat}{T:aE}(hT:Sn B (W.map Y) j T) :
  ∃U9,Ph (n+6) "hand_truths" [.ref j,.p (cJ B rm N)] T=some (.p (.lst (W.map λx=>.bl (hasN N x))),U9)/\Bl j T U9:=by
 obtain⟨U9,e1,u1,l1,b1⟩:=OG (n:=n) hW hr hg hl hT;have lt:=hT.lt;refine⟨trunc T.length (U9.set (T.length+1) (.fz (.lst (W.map (nmP N))))),?_,Bl.trunc (Bl.set ⟨by lia,b1⟩ (by lia) _) (by lia)⟩;rw[oI];show db (f6 _ [some (.ref j),some (.p (cJ B rm N)),none,none,none,none,none,none] T)=_;unfold f6;rw[am (x:=[some (.ref j),some (.p (cJ B rm N)),some (.p (.str "some")),some (.p (.str B.f)),some (.p (.str rm)),some (.p (eB B N)),none,none]) (a:=T) (by simp[cJ,yf];rfl)];rw[am (x:=[some (.ref j),some (.p (cJ B rm N)),some (.p (.str "some")),some (.p (.str B.f)),some (.p (.str rm)),some (.p (eB B N)),some (.ref (j+6)),none]) (a:=T) (by rw[aZ,kZ,hT.members rfl,ac];simp[hT.me,eA,gi])]
 rw[am (x:=[some (.ref j),some (.p (cJ B rm N)),some (.p (.str "some")),some (.p (.str B.f)),some (.p (.str rm)),some (.p (eB B N)),some (.ref (j+6)),some (.p (.lst (W.map (nmP N))))]) (a:=trunc T.length (U9.set (T.length+1) (.fz (.lst (W.map (nmP N)))))) (by rw[aZ,eV,aP,show af (U 0) (af (U 6) (af (U 4) (af (U 5) aI))) [some (.ref j),some (.p (cJ B rm N)),some (.p (.str "some")),some (.p (.str B.f)),some (.p (.str rm)),some (.p (eB B N)),some (.ref (j+6)),none] T=some ([.ref j,.ref (j+6),.p (.str rm),.p (eB B N)],T) from rfl,ac,e1,ac,kx u1,ac];rfl)]
 generalize trunc T.length (U9.set (T.length+1) (.fz (.lst (W.map (nmP N)))))=Z;have hc:cR (aK 8) dG (aW OS (vE (U 8)) (vC (.int 0))) (W.map (nmP N)) (ph [] 1 [some (.ref j),some (.p (cJ B rm N)),some (.p (.str "some")),some (.p (.str B.f)),some (.p (.str rm)),some (.p (eB B N)),some (.ref (j+6)),some (.p (.lst (W.map (nmP N))))]) Z=some (((W.map (nmP N)).filter λ_=>true).map (λv=>match v with | .int a=>.bl (decide (0 < a))|_=>.non),Z):=by refine eC (Inv:=λL=>∃q,L=[some (.ref j),some (.p (cJ B rm N)),some (.p (.str "some")),some (.p (.str B.f)),some (.p (.str rm)),some (.p (eB B N)),some (.ref (j+6)),some (.p (.lst (W.map (nmP N)))),q]) (λv hv L hz=>?_) ⟨none,rfl⟩;obtain⟨q,hL⟩:=hz;subst hL;obtain⟨x,_,rfl⟩:=eJ.mp hv;exact⟨_,rfl,⟨_,rfl⟩,rfl,λ_=>rfl⟩
 rw[fP,g9]at hc;have hd:((λv=>match v with | .int a=>P.bl (decide (0 < a))|_=>.non) ∘ nmP N)=λx=>P.bl (hasN N x):=by funext x;show P.bl (decide (0 < ((cnt N x [0,1,2,3]:Nat):Int)))=_;unfold hasN;congr 1;simp
 rw[hd]at hc;have hf:few (W.map (nmP N))=true:=by simp;lia
 rw[jQ (show cZ _ _ _ _ _=some (.rt (.p (.lst (W.map λx=>.bl (hasN N x)))),[some (.ref j),some (.p (cJ B rm N)),some (.p (.str "some")),some (.p (.str B.f)),some (.p (.str rm)),some (.p (eB B N)),some (.ref (j+6)),some (.p (.lst (W.map (nmP N))))],Z) from(fV (by rfl)).trans (by rw[aO,eV,bH,show gF (vE (U 7)) [some (.ref j),some (.p (cJ B rm N)),some (.p (.str "some")),some (.p (.str B.f)),some (.p (.str rm)),some (.p (eB B N)),some (.ref (j+6)),some (.p (.lst (W.map (nmP N))))] Z=some (W.map (nmP N),Z) from rfl,ac,ag hf,hc];rfl))]
 rfl
def gL(B:NM)(rm:Str)(N:Int):P:=.tup [.str "not",cJ B rm N]
section
variable{n:Nat}{B:NM}(hW:NW B){rm:Str}(hr:rm=B.r\/rm=""){N:Int}{W:List (List Int)}(hg:∀x ∈ W,dR x)(hl:W.length≤900)
include hW hr hg hl
theorem Jc(hT:Sn B (W.map Y) j T) :
  ∃U9,Ph (n+7) "truths_in" [.ref j,.p (cJ B rm N)] T=some (.p (.lst (W.map λx=>.bl (hasN N x))),U9)/\Bl j T U9:=by
 obtain⟨U9,e1,b1⟩:=Oz (n:=n) (N:=N) hW hr hg hl hT;have lt:=hT.lt;refine⟨trunc T.length U9,?_,b1.trunc (by lia)⟩;rw[kX];show db (dW _ [some (.ref j),some (.p (cJ B rm N)),none] T)=_;unfold dW;rw[am (x:=[some (.ref j),some (.p (cJ B rm N)),some (.p (.str "some"))]) (a:=T) rfl];rw[am (x:=[some (.ref j),some (.p (cJ B rm N)),some (.p (.str "some"))]) (a:=T) (by simp)];rw[am (x:=[some (.ref j),some (.p (cJ B rm N)),some (.p (.str "some"))]) (a:=T) (by simp)];rw[am (x:=[some (.ref j),some (.p (cJ B rm N)),some (.p (.str "some"))]) (a:=T) (by kernel_rfl)];rw[jQ (k:=[some (.ref j),some (.p (cJ B rm N)),some (.p (.str "some"))]) (v:=trunc T.length U9) (d:=.p (.lst (W.map λx=>.bl (hasN N x)))) ((fV (by kernel_rfl)).trans (by simp[e1]))]
 rfl
theorem Nn(hT:Sn B (W.map Y) j T) :
  ∃U9,Ph (n+8) "truths_in" [.ref j,.p (gL B rm N)] T=some (.p (.lst (W.map λx=>.bl (!hasN N x))),U9)/\Bl j T U9:=by
 obtain⟨U9,e1,b1⟩:=Jc (n:=n) (N:=N) hW hr hg hl hT;have lt:=hT.lt;refine⟨trunc T.length U9,?_,b1.trunc (by lia)⟩;rw[kX];show db (dW _ [some (.ref j),some (.p (gL B rm N)),none] T)=_;unfold dW;rw[am (x:=[some (.ref j),some (.p (gL B rm N)),some (.p (.str "not"))]) (a:=T) rfl];rw[am (x:=[some (.ref j),some (.p (gL B rm N)),some (.p (.str "not"))]) (a:=T) (by simp)];generalize hZ:trunc T.length U9=Z;have hc:cR (aK 3) dG (vB (dB (bV (vE (U 3))))) (W.map λx=>.bl (hasN N x)) (ph [] 1 [some (.ref j),some (.p (gL B rm N)),some (.p (.str "not"))]) Z=some (((W.map λx=>P.bl (hasN N x)).filter λ_=>true).map (λv=>match v with | .bl a=>.bl (!a)|_=>.non),Z):=by refine eC (Inv:=λL=>∃q,L=[some (.ref j),some (.p (gL B rm N)),some (.p (.str "not")),q]) (λv hv L hz=>?_) ⟨none,rfl⟩;obtain⟨q,hL⟩:=hz;subst hL;obtain⟨x,_,rfl⟩:=eJ.mp hv;exact⟨_,rfl,⟨_,rfl⟩,rfl,λ_=>rfl⟩
 rw[fP,g9]at hc;have hf:few (W.map λx=>P.bl (hasN N x))=true:=by simp;lia
 rw[jQ (k:=[some (.ref j),some (.p (gL B rm N)),some (.p (.str "not"))]) (v:=Z) (d:=.p (.lst (W.map λx=>.bl (!hasN N x)))) ((fV (by simp)).trans (by rw[aO,eV,bH,gF,aP,show af (U 0) (af (eV (aW bj (vE (U 1)) (vC (.int 1)))) aI) [some (.ref j),some (.p (gL B rm N)),some (.p (.str "not"))] T=some ([.ref j,.p (cJ B rm N)],T) from rfl,ac,e1,ac,jv,ac,hZ];simp only[ac,ag hf,hc];rfl))]
 rfl
end
def wn(B:NM)(rm:Str)(N:Int):Bool->P
 |true=>gL B rm N
 |false=>cJ B rm N
def oB(N:Int)(ng:Bool)(W:List (List Int)):List P:=W.map λx=>.bl (ng ^^ hasN N x)
variable{B:NM}{N:Int}{W:List (List Int)}{sy:P}{pt:P}{b:Nat}{i:Nat}{M:Nat}
theorem Jd(hW:NW B)(hr:rm=B.r\/rm="")(hg:∀x ∈ W,dR x)(hl:W.length≤900)(hC:Co B sy pt b i M S)(ng:Bool) :
  ∃U9,Ph (n+9) "Court.truths_at" [.ref i,.p (wn B rm N ng),.p (.lst (W.map Y))] S=some (.p (.lst (oB N ng W)),U9)/\Up S U9:=by
 have hN:=Sn.new B (W.map Y) S;have hu:Up S (S++A1 B (W.map Y) S.length false):=Up.app _ _;have key:∃U9,Ph (n+8) "truths_in" [.ref S.length,.p (wn B rm N ng)] (S++A1 B (W.map Y) S.length false)=some (.p (.lst (oB N ng W)),U9)/\Up S U9:=by
  cases ng with
  |false=>obtain⟨U9,e1,b1⟩:=Jc (n:=n+1) (N:=N) hW hr hg hl hN;exact⟨U9,by rw[show oB N false W=W.map λx=>.bl (hasN N x) by unfold oB;simp];exact e1,b1.up hu⟩
  |true=>obtain⟨U9,e1,b1⟩:=Nn (n:=n) (N:=N) hW hr hg hl hN;exact⟨U9,by rw[show oB N true W=W.map λx=>.bl (!hasN N x) by unfold oB;simp];exact e1,b1.up hu⟩
 obtain⟨U9,e1,u1⟩:=key;obtain⟨jb,jk,ks,h1,_⟩:=hC;refine⟨trunc (S++A1 B (W.map Y) S.length false).length U9,?_,u1.trunc (by simp)⟩;have hp:a8 (aT Att) (U 0) "plan" [some (.ref i),some (.p (wn B rm N ng)),some (.p (.lst (W.map Y)))] S=some (.p (a_ B),S):=qU h1 rfl jF.1 qT.1;have ha:a8 (aT Att) (U 0) "around" [some (.ref i),some (.p (wn B rm N ng)),some (.p (.lst (W.map Y)))] S=some (.p .non,S):=qU h1 rfl jF.2.2.2.2.2.1 qT.2.2.2.2.2;have hm:gb (Ph (n+7) "Scene.__init__") "Scene" (af (a8 (aT Att) (U 0) "plan") (af (U 2) (af (a8 (aT Att) (U 0) "around") aI))) [some (.ref i),some (.p (wn B rm N ng)),some (.p (.lst (W.map Y)))] S=some (.ref S.length,S++A1 B (W.map Y) S.length false):=by
  rw[gb,show af (a8 (aT Att) (U 0) "plan") (af (U 2) (af (a8 (aT Att) (U 0) "around") aI)) [some (.ref i),some (.p (wn B rm N ng)),some (.p (.lst (W.map Y)))] S=some ([.p (a_ B),.p (.lst (W.map Y)),.p .non],S) by rw[af,hp,ac,af,show U 2 [some (.ref i),some (.p (wn B rm N ng)),some (.p (.lst (W.map Y)))] S=some (.p (.lst (W.map Y)),S) from rfl,ac,af,ha,ac];rfl,ac,B5]
 rw[kL];show db (dO _ _ [some (.ref i),some (.p (wn B rm N ng)),some (.p (.lst (W.map Y)))] S)=_;unfold dO;rw[aO,eV,aP,af,hm,ac,show af (U 1) aI [some (.ref i),some (.p (wn B rm N ng)),some (.p (.lst (W.map Y)))] (S++A1 B (W.map Y) S.length false)=some ([.p (wn B rm N ng)],S++A1 B (W.map Y) S.length false) from rfl,ac,ac,e1,ac,jv,ac];rfl
def cE(B:NM)(N:Int):Bool->P
 |false=>.tup [.str "never",wn B B.r N false]
 |true=>.tup [.str "always",wn B B.r N true]
def jg(N:Int)(W:List (List Int)):List P:=W.map λx=>.bl (hasN N x)
theorem L5(h:n≤1000):dU (.lst [.bl false]) (.int n)=some (.lst (List.replicate n (.bl false))):=by
 have e:∀n:Nat,(List.replicate n [P.bl false]).flatten=List.replicate n (.bl false):=λn=>by
  induction n with
  |zero=>rfl
  |succ n ih=>rw[cn,dD,ih];rfl
 rw[Cy,ag,ke,e];simp[mH];lia
theorem Co.hi{B:NM}{sy pt:P}{b i N:Nat}{S U9:aE}(h:Co B sy pt b i N S)(u:Up S U9):Co B sy pt b i N U9:=
 h.stay (λj x=>(u.at' j (bu x h.le)).symm) (ba h.le u.len)
theorem LA(hW:NW B)(hr:rm=B.r\/rm="")(hg:∀x ∈ W,dR x)(hl:W.length≤900)(h:Co B sy pt b i M S)(ng:Bool) :
  ∃U9,Cd (mT Tb (Ph (n+9))) true [.ref i,.p (.lst (W.map Y))] (wn B rm N ng) S=some (.p (.lst (oB N ng W)),U9)/\Up S U9:=by
 obtain⟨U9,e,u⟩:=Jd (n:=n) (N:=N) hW hr hg hl h ng;obtain⟨j,k,s,a,_⟩:=h;refine⟨U9,?_,u⟩;unfold Cd;dsimp only;rw[ag (show([D.p (.lst (W.map Y))]:List D).length=(qo true).length-1 from rfl)];simp only[a];rw[show mT Tb (Ph (n+9)) "Court" (rB true)=some (Ph (n+9) "Court.truths_at") from RZ _];simp only[Option.elim];rw[show cf.contains (rB true)=false from R8];exact e
theorem O8(hW:NW B)(hg:∀x ∈ W,dR x)(hl:W.length≤900)(hC:Co B sy pt b i M S)(hf:S[f]? = some (.fn (some (true,[.ref i,.p (.lst (W.map Y))]))))(ng:Bool) :
  ∃U9,Ph (n+11) "bad_and_final" [.p (cE B N ng),.ref f] S=some (.p (.tup [.lst (jg N W),.lst (List.replicate W.length (.bl false))]),U9)/\Up S U9:=by
 obtain⟨U9,e1,u1⟩:=LA (n:=n) (N:=N) hW (.inl rfl) hg hl hC ng;refine⟨trunc S.length U9,?_,u1.trunc (al _)⟩;have e2:il (mT Tb (Ph (n+9))) 1 (aW bj (vE (U 0)) (vC (.int 1))) [some (.p (cE B N ng)),some (.ref f),none,none] S=some (.lst (oB N ng W),trunc S.length U9):=by rw[il,show U 1 [some (.p (cE B N ng)),some (.ref f),none,none] S=some (.ref f,S) from rfl,ac,show fnOf (.ref f) S=some (true,[.ref i,.p (.lst (W.map Y))]) by simp only[fnOf,hf]];rw[show(aW bj (vE (U 0)) (vC (.int 1))) [some (.p (cE B N ng)),some (.ref f),none,none] S=some (wn B B.r N ng,S) by cases ng<;>rfl];simp only[Option.elim,ac,e1,jv]
 rw[mi];show db (e_ _ _ [some (.p (cE B N ng)),some (.ref f),none,none] S)=_;unfold e_;rw[am (x:=[some (.p (cE B N ng)),some (.ref f),some (.p (.lst (oB N ng W))),none]) (a:=trunc S.length U9) (by rw[aZ,eV,e2];rfl)]
 generalize trunc S.length U9=Z;have hm:=L5 (n:=W.length) (by lia);have hlen:ql (.lst (oB N ng W))=some W.length:=by show some (oB N ng W).length=_;rw[oB,bv]
 cases ng with
 |false=>
  rw[jQ (k:=[some (.p (cE B N false)),some (.ref f),some (.p (.lst (oB N false W))),none]) (v:=Z) (d:=.p (.tup [.lst (jg N W),.lst (List.replicate W.length (.bl false))])) ((fV (by simp[cE])).trans (by simp[cH,kI,hlen,hm];simp[oB,jg]))]
  rfl
 |true=>
  have hc:cR (aK 4) dG (vB (dB (bV (vE (U 4))))) (oB N true W) (ph [] 1 [some (.p (cE B N true)),some (.ref f),some (.p (.lst (oB N true W))),none]) Z=some (((oB N true W).filter λ_=>true).map (λv=>match v with | .bl a=>.bl (!a)|_=>.non),Z):=by refine eC (Inv:=λL=>∃q,L=[some (.p (cE B N true)),some (.ref f),some (.p (.lst (oB N true W))),none,q]) (λv hv L hz=>?_) ⟨none,rfl⟩;obtain⟨q,hL⟩:=hz;subst hL;obtain⟨x,_,rfl⟩:=eJ.mp hv;exact⟨_,rfl,⟨_,rfl⟩,rfl,λ_=>rfl⟩
  have hq:(oB N true W).map (λv=>match v with | .bl a=>P.bl (!a)|_=>.non)=jg N W:=by
   unfold oB jg;rw[g9];refine zr λx _=>?_
   show P.bl (!(true ^^ hasN N x))=_;simp
  rw[fP,hq]at hc;have hf:(oB N true W).length≤1000000:=by simp[oB];lia
  rw[am (x:=[some (.p (cE B N true)),some (.ref f),some (.p (.lst (oB N true W))),none]) (a:=Z) (by simp[cE])];rw[jQ (k:=[some (.p (cE B N true)),some (.ref f),some (.p (.lst (oB N true W))),none]) (v:=Z) (d:=.p (.tup [.lst (jg N W),.lst (List.replicate W.length (.bl false))])) ((fV (by simp[cE])).trans (by simp[bH,hf,hc,cH,kI,hlen,hm]))]
  rfl
variable{ng:Bool}
theorem Mg(hW:NW B)(hg:∀x ∈ W,dR x)(hl:W.length≤900)(hC:Co B (cE B N ng) pt b i M S) :
  ∃U9,Ph (n+12) "bad_and_final_at" [.ref i,.p (.lst (W.map Y))] S=some (.p (.tup [.lst (jg N W),.lst (List.replicate W.length (.bl false))]),U9):=by
 obtain⟨U9,e1,u1⟩:=O8 (n:=n) (N:=N) (f:=S.length) hW hg hl (hC.hi (Up.app S [.fn (some (true,[.ref i,.p (.lst (W.map Y))]))])) (ig ..) ng;obtain⟨jb,jk,ks,h1,_⟩:=hC;have hp:a8 (aT Att) (U 0) "saying" [some (.ref i),some (.p (.lst (W.map Y)))] S=some (.p (cE B N ng),S):=qU h1 rfl jF.2.1 qT.2.1;refine⟨U9.map FC,?_⟩;rw[j3];show db (dA _ [some (.ref i),some (.p (.lst (W.map Y)))] S)=_;unfold dA;rw[aO,nH,show O (vE (a8 (aT Att) (U 0) "saying")) ah [some (.ref i),some (.p (.lst (W.map Y)))] S=some ([cE B N ng],S) by rw[O,vE,hp,ac,jv];rfl,ac]
 rw[show gy [0,1] [some (.ref i),some (.p (.lst (W.map Y)))]=some [.ref i,.p (.lst (W.map Y))] from rfl];simp only[Option.elim,aD,ki,g_,kl,e1,ac];rfl
theorem wz:cut (xs++[x]) none (some (-1))=xs:=by
 unfold cut;have e1:HT.dP (xs++[x]).length (xs++[x]).length (some (-1))=xs.length:=by show(if (-1:Int) < 0 then ((-1:Int)+(((xs++[x]).length:Nat):Int)).toNat else min ((-1:Int).toNat) (xs++[x]).length)=xs.length;rw[ag (by decide),bc,tR];lia
 rw[e1,HT.vM,kj,tj,List.take_left'];rfl
theorem BM(f:α->Bool):∀xs:List α,qV (xs.map λx=>.bl (f x))=some (xs.map f)
 | []=>rfl
 |x::r=>by rw[aD,qV,BM f r];rfl
theorem any_map(f:α->Bool)(xs:List α):dw [.lst (xs.map λx=>.bl (f x))]=some (.bl (xs.any f)):=by rw[dw,BM];show some (P.bl ((xs.map f).any id))=_;rw[List.any_map];rfl
theorem Pb(n:Nat):dw [.lst (List.replicate n (.bl false))]=some (.bl false):=by
 have e:List.replicate n (P.bl false)=(List.replicate n ()).map λx=>.bl ((λ_=>false) x):=by simp
 rw[e,any_map];simp
theorem ny:∀{hs:List Nat}{xs:List Int},dR xs->∀x ∈ cU xs hs,dR x
 | [],xs,h,x,hx=>by rw[eK.mp hx];exact h
 |k::hs,xs,h,x,hx=>by
  rcases aM.mp hx with rfl|q
  .exact h
  .exact ny (h.go k) x q
theorem kz:∀(hs:List Nat)(xs:List Int),(cU xs hs).length=hs.length+1
 | [],xs=>rfl
 |k::hs,xs=>by rw[cU,bz,kz hs,bz]
def dH:List Int->List Nat->List Int
 |xs,[]=>xs
 |xs,h::hs=>dH (go xs h) hs
theorem lU:∀(hs:List Nat)(x:List Int),∃W,cU x hs=W++[dH x hs]
 | [],x=>⟨[],rfl⟩
 |k::hs,x=>by obtain⟨W,e⟩:=lU hs (go x k);exact⟨x::W,by rw[cU,e];rfl⟩
def CJ(N:Int):List (List Int)->Bool
 | []=>false
 | [x]=>hasN N x
 |x::y::r=>!hasN N x && CJ N (y::r)
theorem yq(N:Int)(x:List Int):∀W,CJ N (W++[x])=(hasN N x && !W.any (hasN N))
 | []=>by simp[CJ]
 | [y]=>by simp[CJ,Bool.and_comm]
 |y::z::W=>by have:=yq N x (z::W);rw[g_]at this;rw[g_,g_,CJ,this];simp[Bool.and_left_comm]
theorem kW:dR [0,0,0,0]:=⟨rfl,by simp⟩
theorem Jg{n:Nat}{B:NM}(hW:NW B){sy pt:P}{b i N:Nat}{S:aE}(C:Co B sy pt b i N S){hs:List Nat}{x:List Int}(t:dR x)(v:sR x hs)(m:N+hs.length≤900){L:Lc}{a:sS}(r:a L S=some ([.ref i,.p (Y x),.p (.lst (hs.map dd))],S)) :
  ∃h,aP (Ph (n+17) "run_from") a L S=some (.lst ((cU x hs).map Y),h)/\Co B sy pt b i (N+hs.length) h/\Hi b S h:=by
 obtain⟨T,f,c,k,p⟩:=KE (n:=n) hW C t v m;have le:=C.le;refine⟨trunc S.length (T.set S.length (.fz (.lst ((cU x hs).map Y)))),?_,?_,?_⟩
 .rw [aP,r,ac,f,ac,kx p,ac]
 .have e:∀j,j < b->T[j]? = (T.set S.length (.fz (.lst ((cU x hs).map Y))))[j]?:=λj s=>by rw[bb (by lia)]
  have hl:=k.len;unfold Ev.trunc;split
  .exact c.stay (λj s=>by rw[cY (by lia)];exact e j s) (by rw[cX,bC];lia)
  .exact c.stay e (by rw[bC];lia)
 .exact (k.set (.inr (al _)) _).trunc
theorem Ow{n:Nat}{B:NM}(hW:NW B){N:Int}{pt:P}{b i M:Nat}{S:aE}{ng:Bool}(C:Co B (cE B N ng) pt b i M S){hs:List Nat}(l:sR [0,0,0,0] hs)(H:M+hs.length≤800) :
  ∃U9,Ph (n+18) "is_bad_run" [.ref i,.p (.lst (hs.map dd))] S=some (.p (.bl (CJ N (cU [0,0,0,0] hs))),U9):=by
 have c:=C;obtain⟨K,A,E,g,_⟩:=c;have j:a8 (aT Att) (U 0) "first" [some (.ref i),some (.p (.lst (hs.map dd))),none,none,none] S=some (.p (Y [0,0,0,0]),S):=qU g rfl jF.2.2.2.1 qT.2.2.2.1;obtain⟨h,p,t,F⟩:=Jg (n:=n) hW C kW l (by lia) (a:=af (U 0) (af (a8 (aT Att) (U 0) "first") (af (U 1) aI))) (L:=[some (.ref i),some (.p (.lst (hs.map dd))),none,none,none]) (by rw[af,show U 0 [some (.ref i),some (.p (.lst (hs.map dd))),none,none,none] S=some (.ref i,S) from rfl,ac,af,j,ac];rfl)
 obtain⟨W,e⟩:=lU hs [0,0,0,0];have hg:=ny (hs:=hs) kW;have hl:=kz hs [0,0,0,0];obtain⟨U9,d⟩:=Mg (n:=n+5) hW hg (by lia) t;refine⟨trunc h.length U9,?_⟩;rw[qD];show db (gP _ [some (.ref i),some (.p (.lst (hs.map dd))),none,none,none] S)=_;unfold gP;rw[am (x:=[some (.ref i),some (.p (.lst (hs.map dd))),some (.p (.lst ((cU [0,0,0,0] hs).map Y))),none,none]) (a:=h) (by rw[aZ,eV,p];rfl)];rw[am (x:=[some (.ref i),some (.p (.lst (hs.map dd))),some (.p (.lst ((cU [0,0,0,0] hs).map Y))),none,none]) (a:=h) (by simp[x6,kU])];rw[am (x:=[some (.ref i),some (.p (.lst (hs.map dd))),some (.p (.lst ((cU [0,0,0,0] hs).map Y))),some (.p (.lst (jg N (cU [0,0,0,0] hs)))),some (.p (.lst (List.replicate (cU [0,0,0,0] hs).length (.bl false))))]) (a:=trunc h.length U9) (by rw[nh,aP,show af (U 0) (af (U 2) aI) [some (.ref i),some (.p (.lst (hs.map dd))),some (.p (.lst ((cU [0,0,0,0] hs).map Y))),none,none] h=some ([.ref i,.p (.lst ((cU [0,0,0,0] hs).map Y))],h) from rfl,ac,d,ac,jv,ac];rfl)]
 generalize trunc h.length U9=Z;have w:jg N (cU [0,0,0,0] hs)=jg N W++[.bl (hasN N (dH [0,0,0,0] hs))]:=by rw[e,jg,d_];rfl
 have s:L2.atI (jg N W++[.bl (hasN N (dH [0,0,0,0] hs))]) (-1)=some (.bl (hasN N (dH [0,0,0,0] hs))):=L2.qY _ _;have k:dw [.lst (jg N W)]=some (.bl (W.any (hasN N))):=any_map _ _;have f:=Pb (cU [0,0,0,0] hs).length;have r:=wz (xs:=jg N W) (x:=.bl (hasN N (dH [0,0,0,0] hs)));rw[show CJ N (cU [0,0,0,0] hs)=_ by rw[e,yq]];generalize some (D.p (.lst ((cU [0,0,0,0] hs).map Y)))=a;generalize some (D.p (.lst (hs.map dd)))=q;rw[w];generalize (cU [0,0,0,0] hs).length=m at *
 generalize hasN N (dH [0,0,0,0] hs)=u at *
 generalize W.any (hasN N)=v at *
 have y:(aW bj (vE (U 3)) (vA jJ (vC (.int 1)))) [some (.ref i),q,a,some (.p (.lst (jg N W++[.bl u]))),some (.p (.lst (List.replicate m (.bl false))))] Z=some (.bl u,Z):=by show(L2.atI (jg N W++[.bl u]) (-1)).map _=_;rw[s];rfl
 have z:(aG dw (O (i8 (vE (U 3)) eR (ew (vA jJ (vC (.int 1))))) ah)) [some (.ref i),q,a,some (.p (.lst (jg N W++[.bl u]))),some (.p (.lst (List.replicate m (.bl false))))] Z=some (.bl v,Z):=by show(dw [.lst (cut (jg N W++[.bl u]) none (some (-1)))]).map _=_;rw[r,k];rfl
 have o:(aG dw (O (vE (U 4)) ah)) [some (.ref i),q,a,some (.p (.lst (jg N W++[.bl u]))),some (.p (.lst (List.replicate m (.bl false))))] Z=some (.bl false,Z):=by show(dw [.lst (List.replicate m (.bl false))]).map _=_;rw[f];rfl
 simp only[aO,eV,vB,f8,bV,dB,y,z,o,ac];cases u<;>cases v<;>rfl
theorem Mb(x:P):pureOf (Ph (n+3) "is_called") [.tup [.str "run",x],.str "run",.int 2]=some (.bl true):=by kernel_rfl
theorem IM(x y:P):pureOf (Ph (n+3) "is_called") [.tup [.str "shut",x,y],.str "shut",.int 3]=some (.bl true):=by kernel_rfl
variable{hs:List Nat}
theorem NB(hW:NW B)(C:Co B (cE B N ng) pt b i M S)(v:sR [0,0,0,0] hs)(x:M+hs.length≤800) :
  ∃U9,Ph (n+19) "is_safety_paper" [.ref i,.p (.str "no"),.p (.tup [.str "run",.lst (hs.map dd)])] S=some (.p (.bl (CJ N (cU [0,0,0,0] hs))),U9):=by
 obtain⟨U9,e⟩:=Ow (n:=n) hW C v x;have h:=Mb (n:=n+15) (.lst (hs.map dd));refine⟨trunc S.length U9,?_⟩;rw[kJ];show db (dJ _ [some (.ref i),some (.p (.str "no")),some (.p (.tup [.str "run",.lst (hs.map dd)]))] S)=_;unfold dJ;rw[jQ (k:=[some (.ref i),some (.p (.str "no")),some (.p (.tup [.str "run",.lst (hs.map dd)]))]) (v:=trunc S.length U9) (d:=.p (.bl (CJ N (cU [0,0,0,0] hs)))) ((fV (by simp)).trans (by simp[h,e]))]
 rfl
theorem NO(hW:NW B)(h:Co B (cE B N ng) pt b i M S)(v:sR [0,0,0,0] hs)(a:M+hs.length≤800) :
  ∃U9,Ph (n+20) "is_paper" [.ref i,.p (.str "no"),.p (.tup [.str "run",.lst (hs.map dd)])] S=some (.p (.bl (CJ N (cU [0,0,0,0] hs))),U9):=by
 obtain⟨U9,e⟩:=NB (n:=n) hW h v a;obtain⟨j,k,s,x,_⟩:=h;have p:a8 (aT Att) (U 0) "saying" [some (.ref i),some (.p (.str "no")),some (.p (.tup [.str "run",.lst (hs.map dd)]))] S=some (.p (cE B N ng),S):=qU x rfl jF.2.1 qT.2.1;refine⟨trunc S.length U9,?_⟩;rw [mh];show db (e7 _ [some (.ref i),some (.p (.str "no")),some (.p (.tup [.str "run",.lst (hs.map dd)]))] S)=_;unfold e7;rw [jQ (k:=[some (.ref i),some (.p (.str "no")),some (.p (.tup [.str "run",.lst (hs.map dd)]))]) (v:=trunc S.length U9) (d:=.p (.bl (CJ N (cU [0,0,0,0] hs)))) ((fV (by
  rw[bV,a7,kZ,p,ac];cases ng<;>kernel_rfl)).trans (by
  simp[e]))]
 rfl
theorem HF(B:NM)(rm:Str)(N:Int):pureOf (Ph (n+2) "parts_of") [cJ B rm N]=some (.lst [cJ B rm N]):=by kernel_rfl
theorem HE(B:NM)(rm:Str)(N:Int):pureOf (Ph (n+3) "parts_of") [gL B rm N]=some (.lst [gL B rm N,cJ B rm N]):=by kernel_rfl
def CP(B:NM)(rm:Str)(N:Int):P:=.lst [.tup [.str B.f,.str rm,eB B N]]
theorem OA(B:NM)(rm:Str)(N:Int):pureOf (Ph (n+4) "hand_parts") [.tup [cJ B rm N]]=some (CP B rm N):=by kernel_rfl
theorem Rt(B:NM)(rm:Str)(N:Int):pureOf (Ph (n+4) "hand_parts") [.tup [gL B rm N]]=some (CP B rm N):=by kernel_rfl
def CT(B:NM)(sy pt:P):aE:=.ins "Court" cf [.p (a_ B),.p sy,.p pt,.ref 1,.p (Y [0,0,0,0]),.ref 10,.p .non]::(ox B 1++[.dtn [] []])
theorem nI(x:pureOf (Ph (n+6) "hand_parts") [.tup [f]]=some pt):Ph (n+7) "Court.__init__" [.ref 0,.p (a_ B),.p (.tup [.str w,f])] [.ins "Court" [] []]=some (.p .non,CT B (.tup [.str w,f]) pt):=by
 have l:yf (.tup [.str w,f]) (some 1) none=some (.tup [f]):=rfl;have e:=nM (n:=n) B [.ins "Court" ["plan","saying","parts"] [.p (a_ B),.p (.tup [.str w,f]),.p pt]];have h:=wN (n:=n+2) B;generalize s:P.tup [.str w,f]=sy at *
 rw[qF];show db (gS _ _ [some (.ref 0),some (.p (a_ B)),some (.p sy)] [.ins "Court" [] []])=_;unfold gS;have a:=jF;rw[am (x:=[some (.ref 0),some (.p (a_ B)),some (.p sy)]) (a:=[.ins "Court" ["plan"] [.p (a_ B)]]) (by simp[a.1,Ev.putK,Ev.ip])];rw[am (x:=[some (.ref 0),some (.p (a_ B)),some (.p sy)]) (a:=[.ins "Court" ["plan","saying"] [.p (a_ B),.p sy]]) (by simp[a.2.1,Ev.putK,Ev.ip])];have v:(i8 (vE (U 2)) (ew (vC (.int 1))) eR) [some (.ref 0),some (.p (a_ B)),some (.p sy)] [.ins "Court" ["plan","saying"] [.p (a_ B),.p sy]]=some (.tup [f],[.ins "Court" ["plan","saying"] [.p (a_ B),.p sy]]):=by show(yf sy (some 1) none).map _=_;rw[l];rfl
 rw[am (x:=[some (.ref 0),some (.p (a_ B)),some (.p sy)]) (a:=[.ins "Court" ["plan","saying","parts"] [.p (a_ B),.p sy,.p pt]]) (by rw[dt,eV,aG,O,v,ac,show ah [some (.ref 0),some (.p (a_ B)),some (.p sy)] [.ins "Court" ["plan","saying"] [.p (a_ B),.p sy]]=some ([],[.ins "Court" ["plan","saying"] [.p (a_ B),.p sy]]) from rfl,ac,ac,x];simp[a.2.2.2.2.2.2,Ev.putK,Ev.ip])]
 rw[am (x:=[some (.ref 0),some (.p (a_ B)),some (.p sy)]) (a:=.ins "Court" ["plan","saying","parts","board"] [.p (a_ B),.p sy,.p pt,.ref 1]::ox B 1) (by rw[dt,gb,show af (U 1) aI [some (.ref 0),some (.p (a_ B)),some (.p sy)] [.ins "Court" ["plan","saying","parts"] [.p (a_ B),.p sy,.p pt]]=some ([.p (a_ B)],[.ins "Court" ["plan","saying","parts"] [.p (a_ B),.p sy,.p pt]]) from rfl,ac,e,ac];simp[a.2.2.1,Ev.putK,Ev.ip])]
 rw[am (x:=[some (.ref 0),some (.p (a_ B)),some (.p sy)]) (a:=.ins "Court" ["plan","saying","parts","board","first"] [.p (a_ B),.p sy,.p pt,.ref 1,.p (Y [0,0,0,0])]::ox B 1) (by simp[h,a.2.2.2.1,Ev.putK,Ev.ip])]
 rw[am (x:=[some (.ref 0),some (.p (a_ B)),some (.p sy)]) (a:=.ins "Court" ["plan","saying","parts","board","first","known"] [.p (a_ B),.p sy,.p pt,.ref 1,.p (Y [0,0,0,0]),.ref 10]::(ox B 1++[.dtn [] []])) (by simp[a.2.2.2.2.1,Ev.putK,Ev.ip,ox])]
 simp[a.2.2.2.2.2.1,Ev.putK,Ev.ip,CT,cf]
theorem FA(B:NM)(sy pt:P):Co B sy pt 11 0 0 (CT B sy pt):=by refine⟨1,10,[],rfl,⟨2,3,4,5,6,⟨?_,.inl ?_,.inr ?_,?_,.inl ?_,?_,?_,?_,?_,?_,?_⟩⟩,?_,?_,?_,?_,?_⟩<;>simp[CT,ox]
theorem hR{x n:Nat}{b:ES}{s:List P}{v:P}{L:Lc}{S:aE}(a:s.length=x)(h:b (s.map (λp=>some (.p p))++List.replicate (n-s.length) none) []=some (.rt (.p v),L,S)):pureOf (fg x n b) s=some v:=by rw[bZ,ag a,h];simp
theorem sK{ok:aE->Prop}{g:kE}{c:EB}{e:EV}{Inv:Lc->Prop}{S:aE}(s:ok S){p:P->Bool}{f:P->P}:∀{n:List P}{L:Lc},(∀v ∈ n,∀L,Inv L->∃x,g v L=some x/\Inv x/\c x S=some (p v,S)/\(p v=true->e x S=some (f v,S)))->Inv L ->
  eW ok g c e n L S=some ((n.filter p).map f,S)
 | [],L,_,h=>by rw[eW,ag s];rfl
 |v::r,L,hs,h=>by
  obtain⟨x,b,i,a,t⟩:=hs v aJ L h;have m:=sK s (n:=r) (L:=x) (λw q=>hs w (aN _ q)) i;rw[eW,ag s];cases k:p v with
  |false=>rw[k]at a;simp[b,a,m,k]
  |true=>rw[k]at a;simp[b,a,m,k,t k]
theorem vP:∀s:List P,DX (s.map .p)=some s
 | []=>rfl
 |p::r=>by rw[aD,DX,vP r];rfl
theorem Je{n:Nat}{w:Str}{h:P}{s:List P}(hl:s.length≤9)(m:pureOf (Ph (n+3) "parts_of") [h]=some (.lst s))(r:∀p ∈ s,∀(a b c:Option D) S,a7 ls (eV (aW bj (vE (U 3)) (vC (.int 0)))) (eV (vC (.tup [.str "some knows",.str "each knows"]))) [a,b,c,some (.p p)] S=some (.bl false,S)):pureOf (Ph (n+4) "speaks_of_knowing") [.tup [.str w,h]]=some (.bl false):=by
 have l:yf (.tup [.str w,h]) (some 1) none=some (.tup [h]):=rfl;rw[jI];generalize P.tup [.str w,h]=sy at *
 refine hR (L:=[some (.p sy),some (.ref 0),some (.p h)]) (S:=[.lst (s.map .p)]) rfl ?_;show de _ [some (.p sy),none,none] []=_;unfold de;rw [am (x:=[some (.p sy),some (.ref 0),none]) (a:=[.lst []]) rfl];rw [am (x:=[some (.p sy),some (.ref 0),some (.p h)]) (a:=[.lst (s.map .p)]) (by
  rw[cT,gF,show(i8 (vE (U 0)) (ew (vC (.int 1))) eR) [some (.p sy),some (.ref 0),none] [.lst []]=(yf sy (some 1) none).map (λv=>(v,[.lst []])) from rfl,l];have hl:s.length≤1000000:=by lia
  simp[cP,dX,m,eQ,hl])]
 have k:pX (U 1) [] 1 (aK 3) dG (a7 ls (eV (aW bj (vE (U 3)) (vC (.int 0)))) (eV (vC (.tup [.str "some knows",.str "each knows"])))) [some (.p sy),some (.ref 0),some (.p h)] [.lst (s.map .p)]=some (.lst ((s.filter λ_=>true).map λ_=>.bl false),[.lst (s.map .p)]):=by
  unfold pX;rw[show U 1 [some (.p sy),some (.ref 0),some (.p h)] [.lst (s.map .p)]=some (.ref 0,[.lst (s.map .p)]) from rfl,ac,show A_ (.ref 0) [.lst (s.map .p)]=some (0,s) by simp[A_,eQ,vP],eG,ag (by simp;lia)];dsimp only;have e:eW (λx=>x[0]? = some (SO.lst (zb D.p s))) (aK 3) dG (a7 ls (eV (aW bj (vE (U 3)) (vC (.int 0)))) (eV (vC (.tup [.str "some knows",.str "each knows"])))) s (ph [] 1 [some (.p sy),some (.ref 0),some (.p h)]) [.lst (s.map .p)]=some ((s.filter λ_=>true).map (λ_=>.bl false),[.lst (s.map .p)]):=by refine sK (ok:=λx=>x[0]? = some (SO.lst (zb D.p s))) (Inv:=λL=>∃q,L=[some (.p sy),some (.ref 0),some (.p h),q]) (p:=λ_=>true) (f:=λ_=>.bl false) rfl (λv u L z=>?_) ⟨none,rfl⟩;obtain⟨q,t⟩:=z;subst t;exact⟨[some (.p sy),some (.ref 0),some (.p h),some (.p v)],rfl,⟨_,rfl⟩,rfl,λ_=>r v u _ _ _ _⟩
  rw[e];rfl
 rw[fP]at k;have d:dw [.lst (s.map λ_=>.bl false)]=some (.bl false):=by rw[any_map (λ_=>false)];simp
 simp[k,d]
theorem Oo(B:NM)(rm:Str)(N:Int)(a b c:Option D)(S:aE):a7 ls (eV (aW bj (vE (U 3)) (vC (.int 0)))) (eV (vC (.tup [.str "some knows",.str "each knows"]))) [a,b,c,some (.p (cJ B rm N))] S=some (.bl false,S):=by kernel_rfl
theorem Rl(B:NM)(rm:Str)(N:Int)(a b c:Option D)(S:aE):a7 ls (eV (aW bj (vE (U 3)) (vC (.int 0)))) (eV (vC (.tup [.str "some knows",.str "each knows"]))) [a,b,c,some (.p (gL B rm N))] S=some (.bl false,S):=by kernel_rfl
theorem ND(B:NM)(rm w:Str)(N:Int):pureOf (Ph (n+4) "speaks_of_knowing") [.tup [.str w,cJ B rm N]]=some (.bl false):=
 Je (s:=[cJ B rm N]) (by simp) (HF B rm N) λp h a b c S=>by rw[eK.mp h];exact Oo B rm N a b c S
theorem QV(B:NM)(rm w:Str)(N:Int):pureOf (Ph (n+4) "speaks_of_knowing") [.tup [.str w,gL B rm N]]=some (.bl false):=
 Je (s:=[gL B rm N,cJ B rm N]) (by simp) (HE B rm N) λp h a b c S=>by
  rcases aM.mp h with rfl|h
  .exact Rl B rm N a b c S
  .rw [eK.mp h];exact Oo B rm N a b c S
mutual
noncomputable def wV:P->Nat
 | .tup xs=>nS xs+1
 | .lst xs=>nS xs+1
 | .non=>1
 | .int _=>1
 | .str _=>1
 |_=>5000
noncomputable def nS:List P->Nat
 | []=>0
 |x::r=>wV x+nS r
end
theorem pj:∀s y,nS (s++y)=nS s+nS y
 | [],y=>by rw[kl,nS,Nat.zero_add]
 |x::r,y=>by rw[g_,nS,nS,pj r y];lia
theorem Hc(x:P):1≤wV x:=by cases x<;>simp[wV]
theorem qk:∀s,s.length≤nS s
 | []=>al _
 |x::r=>by have:=Hc x;have:=qk r;rw[nS,bz];lia
theorem AX(q:Option D):∀(k:Nat)(W:List P)(c:Option D),nS W < k->k≤1000->∃f,hG (bT (U 1)) (aV (Ph n)) k [q,some (.ref 0),c] [.lst (W.map .p)]=some (.nx,[q,some (.ref 0),f],[.lst []])
 |0,W,c,h,_=>by lia
 |k+1,W,c,h,hk=>by
  rcases List.eq_nil_or_concat W with rfl|⟨s,x,rfl⟩
  .exact⟨c,rfl⟩
  rw[List.concat_eq_append] at *
  rw[pj,nS,nS]at h;have p:aZ 2 (Fj (U 1)) [q,some (.ref 0),c] [.lst ((s++[x]).map .p)]=some (.nx,[q,some (.ref 0),some (.p x)],[.lst (s.map .p)]):=by rw[aZ,Fj,show U 1 [q,some (.ref 0),c] [.lst ((s++[x]).map .p)]=some (.ref 0,[.lst ((s++[x]).map .p)]) from rfl,ac];simp[eQ]
  have g:bT (U 1) [q,some (.ref 0),c] [.lst ((s++[x]).map .p)]=some (true,[.lst ((s++[x]).map .p)]):=by simp[oA]
  have step:∀(m:List P),nS m < k->aV (Ph n) [q,some (.ref 0),c] [.lst ((s++[x]).map .p)]=some (.nx,[q,some (.ref 0),some (.p x)],[.lst (m.map .p)])->∃f,hG (bT (U 1)) (aV (Ph n)) (k+1) [q,some (.ref 0),c] [.lst ((s++[x]).map .p)]=some (.nx,[q,some (.ref 0),f],[.lst []]):=λm u e=>by obtain⟨f,w⟩:=AX q k m (some (.p x)) u (by lia);refine⟨f,?_⟩;rw[hG,g,ac,ag rfl,e];exact w
  have ext:∀y:List P,nS s+nS y < k->c_ (c0 (U 1) (vC (.tup y))) [q,some (.ref 0),some (.p x)] [.lst (s.map .p)]=some (.nx,[q,some (.ref 0),some (.p x)],[.lst ((s++y).map .p)]):=λy i=>by
   have v:=qk s;have d:=qk y;have r:s.length+y.length≤1000000:=by lia
   simp[eQ,r]
  have t:∀y:List P,nS s+nS y < k->c_ (c0 (U 1) (vC (.lst y))) [q,some (.ref 0),some (.p x)] [.lst (s.map .p)]=some (.nx,[q,some (.ref 0),some (.p x)],[.lst ((s++y).map .p)]):=λy i=>by
   have v:=qk s;have d:=qk y;have r:s.length+y.length≤1000000:=by lia
   simp[eQ,r]
  cases x with
  |tup y=>rw[wV]at h;refine step (s++y) (by rw[pj];lia) ?_;unfold aV;rw[am p,fV (by kernel_rfl)];exact ext y (by lia)
  |lst y=>rw[wV]at h;refine step (s++y) (by rw[pj];lia) ?_;unfold aV;rw[am p,fV (by kernel_rfl)];exact t y (by lia)
  |non=>rw[wV]at h;refine step (s) (by lia) ?_;unfold aV;rw[am p,di (by kernel_rfl),di (by kernel_rfl)];rfl
  |int a=>rw[wV]at h;refine step (s) (by lia) ?_;unfold aV;rw[am p,di (by kernel_rfl),di (by kernel_rfl)];rfl
  |str a=>rw[wV]at h;refine step (s) (by lia) ?_;unfold aV;rw[am p,di (by kernel_rfl),di (by kernel_rfl)];rfl
  |bl a=>simp[wV]at h;lia
  |ro a=>simp[wV]at h;lia
  |dct a b=>simp[wV]at h;lia
theorem AW{n:Nat}{x:P}(h:wV x < 1000):pureOf (Ph (n+2) "is_told_thing") [x]=some (.bl true):=by obtain⟨q,e⟩:=AX (n:=n+1) (some (.p x)) 1000 [x] none (by rw[nS,nS];lia) (al _);rw[mf];refine hR (L:=[some (.p x),some (.ref 0),q]) (S:=[.lst []]) rfl ?_;show eZ _ [some (.p x),none,none] []=_;unfold eZ;rw[am (x:=[some (.p x),some (.ref 0),none]) (a:=[.lst [.p x]]) rfl];exact am (f:=uD 1000 (bT (U 1)) (aV (Ph (n+1)))) (g:=aO (eV (vC (.bl true)))) (S:=[.lst [.p x]]) e
theorem xB:∀hs:List Nat,nS (hs.map dd)=6 * hs.length
 | []=>rfl
 |h::hs=>by rw[aD,nS,xB hs,bz,show wV (dd h)=6 by simp[dd,wV,nS]];lia
theorem Cg{n:Nat}{B:NM}(hW:NW B){N:Int}{hs:List Nat}(v:sR [0,0,0,0] hs)(s:hs.length≤100)(ng:Bool) :
  pureOf (Ph (n+21) "judge") [a_ B,cE B N ng,.str "no",.tup [.str "run",.lst (hs.map dd)]]=some (.bl (CJ N (cU [0,0,0,0] hs))):=by
 have e:pureOf (Ph (n+20) "is_told_thing") [.tup [.str "run",.lst (hs.map dd)]]=some (.bl true):=AW (n:=n+18) (by simp[wV,nS,xB];lia);have h:Ph (n+19) "Court.__init__" [.ref 0,.p (a_ B),.p (cE B N ng)] [.ins "Court" [] []]=some (.p .non,CT B (cE B N ng) (CP B B.r N)):=by
  cases ng with
  |false=>exact nI (n:=n+12) (OA (n:=n+14) B B.r N)
  |true=>exact nI (n:=n+12) (Rt (n:=n+14) B B.r N)
 have x:pureOf (Ph (n+20) "speaks_of_knowing") [cE B N ng]=some (.bl false):=by
  cases ng with
  |false=>exact ND (n:=n+16) B B.r _ N
  |true=>exact QV (n:=n+16) B B.r _ N
 obtain⟨U9,a⟩:=NO (n:=n) hW (FA B (cE B N ng) (CP B B.r N)) v (by lia);rw[su];generalize P.tup [.str "run",.lst (hs.map dd)]=p at *
 generalize cE B N ng=sy at *
 refine hR (L:=[some (.p (a_ B)),some (.p sy),some (.p (.str "no")),some (.p p),some (.ref 0)]) (S:=trunc (CT B sy (CP B B.r N)).length U9) rfl ?_;show iP _ _ [some (.p (a_ B)),some (.p sy),some (.p (.str "no")),some (.p p),none] []=_;unfold iP;rw[am (x:=[some (.p (a_ B)),some (.p sy),some (.p (.str "no")),some (.p p),none]) (a:=[]) (by simp[e,oA,kH])];rw[am (x:=[some (.p (a_ B)),some (.p sy),some (.p (.str "no")),some (.p p),some (.ref 0)]) (a:=CT B sy (CP B B.r N)) (by simp[h])];rw[am (x:=[some (.p (a_ B)),some (.p sy),some (.p (.str "no")),some (.p p),some (.ref 0)]) (a:=CT B sy (CP B B.r N)) (by simp[x,oA,kH])];simp[a]
noncomputable def l9:List Int:=[9,9,9,9]
theorem Jr:dR l9:=⟨rfl,by simp[l9]⟩
theorem K9{n:Nat}(B:NM)(j:Nat)(S:aE):Ph (n+4) "is_own" [.ref j,.p (jw B),.p (hP 9)] S=some (.p (.bl true),S):=by kernel_rfl
theorem FV{g:List P->Option P}{a b:EV}{L:Lc}{S:aE}{x y:P}{r:Bool}(h:a L S=some (x,S))(e:b L S=some (y,S))(hg:g [x,y]=some (.bl r)):bT (eV (aG g (O a (O b ah)))) L S=some (r,S):=by simp[h,e,hg,oA,kH]
theorem qX(e:a L S=some (x,h))(hg:g [x]=some (.bl r)):bT (eV (aG g (O a ah))) L S=some (r,h):=by simp[e,hg,oA,kH]
theorem xV(x:List P)(k:Nat)(h:x.length=k):pureOf (Ph (n+2) "is_tuple_of") [.tup x,.int k]=some (.bl true):=by subst h;rw[oG,bZ];simp[jG,G4,Mp,wb,cH,kI,ql]
abbrev wX(j:Nat):Lc:=[some (.ref j),some (.p (Y l9)),some (.p (.tup (l9.map hP))),some (.p (.tup []))]
theorem Ot{n:Nat}{B:NM}{b j:Nat}{S:aE}(h:Bd B b j S):∃s,Ph (n+6) "is_standing" [.ref j,.p (Y l9)] S=some (.p (.bl true),s)/\Fr b S s:=by
 have d:=h;obtain⟨P,p,A,C,K,h⟩:=h;refine⟨S.set p (.fz (.lst [])),?_,Fr.frz h.bp h.pr⟩;rw[oH];show db (fZ _ [some (.ref j),some (.p (Y l9)),none,none] S)=_;unfold fZ;have y:pureOf (Ph (n+5) "is_tuple_of") [Y l9,.int 2]=some (.bl true):=xV (n:=n+3) _ 2 rfl;have H:pureOf (Ph (n+5) "is_tuple_of") [.tup (l9.map hP),.int 4]=some (.bl true):=xV (n:=n+3) _ 4 rfl;have F:pureOf (Ph (n+5) "is_tuple_of") [.tup [],.int 0]=some (.bl true):=xV (n:=n+3) _ 0 rfl;rw[am (x:=[some (.ref j),some (.p (Y l9)),none,none]) (a:=S) (by simp[y,oA,kH])];rw[am (x:=wX j) (a:=S) rfl];have l:cH (a8 (aT Att) (U 0) "homes") (wX j) S=some (.int 4,S):=by rw[cH,h.homes rfl,ac,h.ho.len];rfl
 have i:cH (a8 (aT Att) (U 0) "pairs") (wX j) S=some (.int 0,S):=by rw[cH,h.pairs rfl,ac,h.pr.len];rfl
 rw[am (x:=wX j) (a:=S) (by have e:=FV (L:=wX j) (S:=S) (a:=vE (U 2)) rfl l H;have m:=FV (L:=wX j) (S:=S) (a:=vE (U 3)) rfl i F;simp only[cZ,dB,f8,e,m,ac];rfl)]
 have u:cR (ci [aK 4,aK 5]) dG (aP (Ph (n+5) "is_own") (af (U 0) (af (cz (mT Tb (Ph (n+5))) (U 0) "family_of" (af (U 4) aI)) (af (U 5) aI)))) (dS 0 (l9.map hP)) (ph [] 2 (wX j)) S=some (((dS 0 (l9.map hP)).filter λ_=>true).map (λ_=>.bl true),S):=by
  refine eC (Inv:=λL=>∃q f,L=wX j++[q,f]) (λv x L z=>?_) ⟨none,none,rfl⟩;obtain⟨q,f,w⟩:=z;subst w;have x:∃k:Nat,k < 4/\v=.tup [.int k,hP 9]:=by
   simp only[l9,aD,ki,dS,aM,bM,bK]at x;rcases x with rfl|rfl|rfl|rfl
   .exact⟨0,by decide,rfl⟩
   .exact⟨1,by decide,rfl⟩
   .exact⟨2,by decide,rfl⟩
   .exact⟨3,by decide,rfl⟩
  obtain⟨k,hk,rfl⟩:=x;refine⟨wX j++[some (.p (.int k)),some (.p (hP 9))],rfl,⟨_,_,rfl⟩,rfl,λ_=>?_⟩;have t:cz (mT Tb (Ph (n+5))) (U 0) "family_of" (af (U 4) aI) (wX j++[some (.p (.int k)),some (.p (hP 9))]) S=some (.p (jw B),S):=by rw[h.meth rfl (Ol _) OI (w:=[.p (.int k)]) rfl];exact x' (n:=n+3) d hk
  have o:=K9 (n:=n+1) B j S;rw[aP,af,show U 0 (wX j++[some (.p (.int k)),some (.p (hP 9))]) S=some (.ref j,S) from rfl,ac,af,t,ac,show af (U 5) aI (wX j++[some (.p (.int k)),some (.p (hP 9))]) S=some ([.p (hP 9)],S) from rfl];simp only[ac,o,jv,ln]
 have c:bH (rD (vE (U 2))) [] 2 (ci [aK 4,aK 5]) dG (aP (Ph (n+5) "is_own") (af (U 0) (af (cz (mT Tb (Ph (n+5))) (U 0) "family_of" (af (U 4) aI)) (af (U 5) aI)))) (wX j) S=some (.lst [.bl true,.bl true,.bl true,.bl true],S):=by rw[bH,show rD (vE (U 2)) (wX j) S=some (dS 0 (l9.map hP),S) from rfl,ac,ag (by decide),u];rfl
 rw[am (x:=wX j) (a:=S) (by have e:=qX (g:=j7) (r:=true) c rfl;simp only[cZ,dB,e,ac];rfl)]
 have z:Jq (vE (a8 (aT Att) (U 0) "pairs")) (vE (U 3)) (wX j) S=some ([],S.set p (.fz (.lst []))):=by rw[Jq,vE,h.pairs rfl,ac,h.pr.frz,ac];rfl
 simp only[aO,eV,aG,O,bH,z,ac];rfl
theorem Pa(h:Bd B b j S):∃a,Ph (n+7) "are_standings" [.ref j,.p (.lst [Y l9])] S=some (.p (.bl true),a)/\Fr b S a:=by
 obtain⟨x,t,f⟩:=Ot (n:=n) h;have le:=h.le;refine⟨trunc S.length x,?_,?_⟩
 .rw [mj];show db (ff _ [some (.ref j),some (.p (.lst [Y l9]))] S)=_;unfold ff;rw [am (x:=[some (.ref j),some (.p (.lst [Y l9]))]) (a:=trunc S.length x) (by
   have p:af (U 0) (af (U 2) aI) [some (.ref j),some (.p (.lst [Y l9])),some (.p (Y l9))] S=some ([.ref j,.p (Y l9)],S):=rfl;have q:bH (gF (vE (U 1))) [] 1 (aK 2) dG (aP (Ph (n+6) "is_standing") (af (U 0) (af (U 2) aI))) [some (.ref j),some (.p (.lst [Y l9]))] S=some (.lst [.bl true],trunc S.length x):=by
    have d:cR (aK 2) dG (aP (Ph (n+6) "is_standing") (af (U 0) (af (U 2) aI))) [Y l9] [some (.ref j),some (.p (.lst [Y l9])),none] S=some ([.bl true],trunc S.length x):=by rw[cR,show aK 2 (Y l9) [some (.ref j),some (.p (.lst [Y l9])),none]=some [some (.ref j),some (.p (.lst [Y l9])),some (.p (Y l9))] from rfl];simp only[dG,ac,aP,p,t,jv,cR];rfl
    rw[bH,show gF (vE (U 1)) [some (.ref j),some (.p (.lst [Y l9]))] S=some ([Y l9],S) from rfl,ac,ag (by decide)];exact bX (λz=>bw z λy s=>some (P.lst y,s)) d
   have m:=qX (g:=j7) (r:=true) q rfl;have c:bT (eV (AT ["list"] (U 1))) [some (.ref j),some (.p (.lst [Y l9]))] S=some (true,S):=rfl;simp only[cZ,dB,f8,c,m,ac];rfl)]
  have v:lP (vE (U 1)) [some (.ref j),some (.p (.lst [Y l9]))] (trunc S.length x)=some (.int 1,trunc S.length x):=by
   have hk:cg (Y l9)=true:=by kernel_rfl
   rw[lP,show vE (U 1) [some (.ref j),some (.p (.lst [Y l9]))] (trunc S.length x)=some (.lst [Y l9],trunc S.length x) from rfl,ac];exact ag hk
  simp only[aO,eV,a7,v,ac];rfl
 .unfold Ev.trunc;split
  .refine⟨by rw[cX];have:=f.len;lia,λk o hk e=>?_,λk o hk e=>?_⟩
   .rw [cY (by lia)];exact f.low k o hk e
   .rw [cY (fW e)];exact f.hi k o hk e
  .exact f
theorem OK:bU l9=[]:=by simp[bU,eL,l9]
theorem LB{n:Nat}{B:NM}(hW:NW B){sy pt:P}{b i N:Nat}{S:aE}(h:Co B sy pt b i N S)(a:N≤900) :
  ∃U9,Cd (mT Tb (Ph (n+16))) false [.ref i] (Y l9) S=some (.p (.lst []),U9):=by
 obtain⟨U9,e,c,s⟩:=wo (n:=n) hW h (by lia) Jr;rw[OK]at e;obtain⟨j,k,f,x,_⟩:=h;refine⟨U9,?_⟩;unfold Cd;dsimp only;rw[ag (show([]:List D).length=(qo false).length-1 from rfl)];simp only[x];rw[show mT Tb (Ph (n+16)) "Court" (rB false)=some (Ph (n+16) "Court.ends_of") from R0 _];simp only[Option.elim];rw[show cf.contains (rB false)=false from O2];exact e
theorem L_{n:Nat}{B:NM}(hW:NW B){sy pt:P}{b i f N:Nat}{S:aE}(C:Co B sy pt b i N S)(p:N≤900)(a:S[f]? = some (.fn (some (false,[.ref i])))) :
  ∃U9,Ph (n+18) "is_closed_by" [.p (.lst [Y l9]),.p (.lst [.bl false]),.ref f] S=some (.p (.bl true),U9):=by
 have h:=C.hi (Up.app S [.dtn [Y l9] [.p (.bl true)]]);obtain⟨U9,s⟩:=LB (n:=n) hW h p;have x:(S++[SO.dtn [Y l9] [.p (.bl true)]])[f]? = some (.fn (some (false,[.ref i]))):=by rw[bE (fW a)];exact a
 refine⟨trunc (S++[SO.dtn [Y l9] [.p (.bl true)]]).length U9,?_⟩;rw[nC];show db (fB _ _ [some (.p (.lst [Y l9])),some (.p (.lst [.bl false])),some (.ref f),none,none,none] S)=_;unfold fB;rw[am (x:=[some (.p (.lst [Y l9])),some (.p (.lst [.bl false])),some (.ref f),some (.ref S.length),none,none]) (a:=S++[.dtn [Y l9] [.p (.bl true)]]) (by kernel_rfl)];generalize S++[SO.dtn [Y l9] [.p (.bl true)]]=T at *
 generalize S.length=q at *
 have k:il (mT Tb (Ph (n+16))) 2 (vE (U 4)) [some (.p (.lst [Y l9])),some (.p (.lst [.bl false])),some (.ref f),some (.ref q),some (.p (Y l9)),some (.p (.bl false))] T=some (.lst [],trunc T.length U9):=by rw[il,show U 2 [some (.p (.lst [Y l9])),some (.p (.lst [.bl false])),some (.ref f),some (.ref q),some (.p (Y l9)),some (.p (.bl false))] T=some (.ref f,T) from rfl,ac,show fnOf (.ref f) T=some (false,[.ref i]) by simp only[fnOf,x]];rw[show(vE (U 4)) [some (.p (.lst [Y l9])),some (.p (.lst [.bl false])),some (.ref f),some (.ref q),some (.p (Y l9)),some (.p (.bl false))] T=some (Y l9,T) from rfl];simp only[Option.elim,ac,s,jv]
 have c:bH (gF (il (mT Tb (Ph (n+16))) 2 (vE (U 4)))) [] 2 (ci [aK 6,aK 7]) dG (a7 E5 (U 7) (U 3)) [some (.p (.lst [Y l9])),some (.p (.lst [.bl false])),some (.ref f),some (.ref q),some (.p (Y l9)),some (.p (.bl false))] T=some (.lst [],trunc T.length U9):=by rw[bH,gF,k];rfl
 have m:=qX (g:=j7) (r:=true) c rfl;have t:dL (Ph (n+17)) (Ph (n+16)) [some (.p (.lst [Y l9])),some (.p (.lst [.bl false])),some (.ref f),some (.ref q),some (.p (Y l9)),some (.p (.bl false))] T=some (.nx,[some (.p (.lst [Y l9])),some (.p (.lst [.bl false])),some (.ref f),some (.ref q),some (.p (Y l9)),some (.p (.bl false))],trunc T.length U9):=by unfold dL;have e:bT (U 5) [some (.p (.lst [Y l9])),some (.p (.lst [.bl false])),some (.ref f),some (.ref q),some (.p (Y l9)),some (.p (.bl false))] T=some (false,T):=rfl;simp only[cZ,dB,f8,e,m,ac];rfl
 rw[am (x:=[some (.p (.lst [Y l9])),some (.p (.lst [.bl false])),some (.ref f),some (.ref q),some (.p (Y l9)),some (.p (.bl false))]) (a:=trunc T.length U9) (by rw[cT,show Jq (vE (U 0)) (vE (U 1)) [some (.p (.lst [Y l9])),some (.p (.lst [.bl false])),some (.ref f),some (.ref q),none,none] T=some ([.tup [Y l9,.bl false]],T) from rfl,ac];exact(cj (g:=ci [aK 4,aK 5]) (L:=[some (.p (.lst [Y l9])),some (.p (.lst [.bl false])),some (.ref f),some (.ref q),none,none]) (h:=[some (.p (.lst [Y l9])),some (.p (.lst [.bl false])),some (.ref f),some (.ref q),some (.p (Y l9)),some (.p (.bl false))]) rfl t).trans rfl)]
 rfl
theorem O3{n:Nat}{B:NM}(hW:NW B){sy pt:P}{b i N:Nat}{S:aE}(h:Co B sy pt b i N S)(x:N≤900) :
  ∃U9,Ph (n+19) "is_closed" [.ref i,.p (.lst [Y l9]),.p (.lst [.bl false])] S=some (.p (.bl true),U9):=by
 obtain⟨U9,e⟩:=L_ (n:=n) (f:=S.length) hW (h.hi (Up.app S [.fn (some (false,[.ref i]))])) x (ig ..);refine⟨U9.map FC,?_⟩;rw[rH];show db (iw _ [some (.ref i),some (.p (.lst [Y l9])),some (.p (.lst [.bl false]))] S)=_;unfold iw;rw[aO,nH,show O (vE (U 1)) (O (vE (U 2)) ah) [some (.ref i),some (.p (.lst [Y l9])),some (.p (.lst [.bl false]))] S=some ([.lst [Y l9],.lst [.bl false]],S) from rfl,ac];rw[show gy [0] [some (.ref i),some (.p (.lst [Y l9])),some (.p (.lst [.bl false]))]=some [.ref i] from rfl];simp only[Option.elim,aD,ki,g_,kl,e,ac];rfl
def xD(B:NM):P:=.tup [.str "always can",wn B "" 0 false]
theorem Jl(h:x.length=4):gE 19 (Y x)=true:=by
 obtain⟨a,b,c,d,rfl⟩:∃a b c d,x=[a,b,c,d]:=by
  match x,h with
  | [a,b,c,d],_=>exact⟨a,b,c,d,rfl⟩
 kernel_rfl
theorem Ln(h:x.length=4)(S:aE):jY (.p (Y x)) (.p (.lst [Y l9])) S=some (.bl (!decide (x=l9))):=by
 unfold jY Mw;rw[p_,p_];show gZ _ (Mx (Y x) (.lst [Y l9]))=_;have e:Mx (Y x) (.lst [Y l9])=some (decide (l9=x)):=by unfold Mx;dsimp only;rw[ag (by simp[Jl h,Jl (x:=l9) rfl])];simp only[cG,List.any_nil,zE,yb]
 rw[e];show some (P.bl (!decide (l9=x)))=_;rw[decide_eq_decide.mpr (show l9=x↔x=l9 from eq_comm)]
theorem QF:oB 0 false [l9]=[.bl false]:=by kernel_rfl
theorem qC:∀{hs:List Nat}{x:List Int},dR x->dR (dH x hs)
 | [],x,h=>h
 |k::hs,x,h=>qC (hs:=hs) (h.go k)
abbrev vl(i:Nat)(d q:P):Lc:=[some (.ref i),some (.p d),some (.p (.lst [Y l9])),some (.p q)]
theorem NE{n:Nat}{B:NM}(hW:NW B){pt:P}{b i M:Nat}{S:aE}(C:Co B (xD B) pt b i M S){hs:List Nat}(Z:sR [0,0,0,0] hs)(hN:M+hs.length≤800) :
  ∃U9,Ph (n+20) "is_shut" [.ref i,.p (.lst (hs.map dd)),.p (.lst [Y l9])] S=some (.p (.bl (decide (dH [0,0,0,0] hs=l9))),U9):=by
 have t:=C;obtain⟨jb0,jk0,ks0,Q,_⟩:=t;have X:a8 (aT Att) (U 0) "first" [some (.ref i),some (.p (.lst (hs.map dd))),some (.p (.lst [Y l9])),none] S=some (.p (Y [0,0,0,0]),S):=qU Q rfl jF.2.2.2.1 qT.2.2.2.1;obtain⟨h,A,f,i1⟩:=Jg (n:=n+2) hW C kW Z (by lia) (a:=af (U 0) (af (a8 (aT Att) (U 0) "first") (af (U 1) aI))) (L:=[some (.ref i),some (.p (.lst (hs.map dd))),some (.p (.lst [Y l9])),none]) (by rw[af,show U 0 [some (.ref i),some (.p (.lst (hs.map dd))),some (.p (.lst [Y l9])),none] S=some (.ref i,S) from rfl,ac,af,X,ac];rfl)
 obtain⟨W,G⟩:=lU hs [0,0,0,0];have hg:=qC (hs:=hs) kW;have p:=f;obtain⟨jb,jk,ks,k1,kb,_⟩:=p;obtain⟨s,D,z⟩:=Pa (n:=n+12) kb;generalize hr:(cU [0,0,0,0] hs).map Y=R at *
 have l:L2.atI R (-1)=some (Y (dH [0,0,0,0] hs)):=by rw[<- hr,G,d_];exact L2.qY _ _
 have p2:bT (eV (aP (Ph (n+19) "are_standings") (af (a8 (aT Att) (U 0) "board") (af (U 2) aI)))) (vl i (.lst (hs.map dd)) (.lst R)) h=some (true,trunc h.length s):=by have V:a8 (aT Att) (U 0) "board" (vl i (.lst (hs.map dd)) (.lst R)) h=some (.ref jb,h):=qU k1 rfl jF.2.2.1 qT.2.2.1;rw[bT,eV,aP,af,V,ac,show af (U 2) aI (vl i (.lst (hs.map dd)) (.lst R)) h=some ([.p (.lst [Y l9])],h) from rfl];simp only[ac,D,jv];rfl
 have le1:=f.le;have m:Co B (xD B) pt b i (M+hs.length) (trunc h.length s):=by
  have c:=f.fr z;have hl:=z.len;unfold Ev.trunc;split
  .exact c.stay (λj hj=>by rw[cY (by lia)]) (by rw[cX];lia)
  .exact c
 generalize trunc h.length s=T at *
 have p3:bV (a7 jY (eV (aW bj (vE (U 3)) (vA jJ (vC (.int 1))))) (U 2)) (vl i (.lst (hs.map dd)) (.lst R)) T=some (!decide (dH [0,0,0,0] hs=l9),T):=by
  have H:(aW bj (vE (U 3)) (vA jJ (vC (.int 1)))) (vl i (.lst (hs.map dd)) (.lst R)) T=some (Y (dH [0,0,0,0] hs),T):=by show(L2.atI R (-1)).map _=_;rw[l];rfl
  rw[bV,a7,eV,H,ac,ac,show U 2 (vl i (.lst (hs.map dd)) (.lst R)) T=some (.p (.lst [Y l9]),T) from rfl,ac,Ln hg.1];rfl
 have cond:(FU (bV (a7 x6 (U 3) (eV (vC (.non))))) (FU (dB (bT (eV (aP (Ph (n+19) "are_standings") (af (a8 (aT Att) (U 0) "board") (af (U 2) aI)))))) (bV (a7 jY (eV (aW bj (vE (U 3)) (vA jJ (vC (.int 1))))) (U 2))))) (vl i (.lst (hs.map dd)) (.lst R)) h=some (!decide (dH [0,0,0,0] hs=l9),T):=by have p1:bV (a7 x6 (U 3) (eV (vC (.non)))) (vl i (.lst (hs.map dd)) (.lst R)) h=some (false,h):=rfl;simp only[FU,dB,p1,p2,p3,ac];rfl
 have start:∀g:ES,db (aA (aZ 3 (eV (aP (Ph (n+19) "run_from") (af (U 0) (af (a8 (aT Att) (U 0) "first") (af (U 1) aI)))))) g [some (.ref i),some (.p (.lst (hs.map dd))),some (.p (.lst [Y l9])),none] S)=db (g (vl i (.lst (hs.map dd)) (.lst R)) h):=λg=>by rw[am (x:=vl i (.lst (hs.map dd)) (.lst R)) (a:=h) (by rw[aZ,eV,A];rfl)]
 by_cases q:dH [0,0,0,0] hs=l9
 .rw [df q] at cond ⊢;obtain⟨e,y,u3⟩:=Jd (n:=n+10) (N:=0) hW (.inr rfl) (W:=[l9]) (fun x hx=>by rw [eK.mp hx];exact Jr) (by decide) m false;obtain⟨o,E⟩:=O3 (n:=n) hW (m.hi u3) (by lia);rw [QF] at y;have v:=m;obtain⟨jb',jk',ks',k,_⟩:=v;refine⟨trunc e.length o,?_⟩;rw [og];show db (fR _ [some (.ref i),some (.p (.lst (hs.map dd))),some (.p (.lst [Y l9])),none] S)=_;unfold fR;rw [start];rw [am (x:=vl i (.lst (hs.map dd)) (.lst R)) (a:=T) (by
   rw[cZ,cond];rfl)]
  have w:a8 (aT Att) (U 0) "saying" (vl i (.lst (hs.map dd)) (.lst R)) T=some (.p (xD B),T):=qU k rfl jF.2.1 qT.2.1;have u:kZ (a8 (aT Att) (U 0) "saying") (vC (.int 1)) (vl i (.lst (hs.map dd)) (.lst R)) T=some (.p (wn B "" 0 false),T):=by rw[kZ,w];rfl
  have I:cz (mT Tb (Ph (n+19))) (U 0) "truths_at" (af (kZ (a8 (aT Att) (U 0) "saying") (vC (.int 1))) (af (U 2) aI)) (vl i (.lst (hs.map dd)) (.lst R)) T=some (.p (.lst [.bl false]),e):=by
   rw[JC k rfl (RZ _) R8 (d:=[.p (wn B "" 0 false),.p (.lst [Y l9])]) (by rw[af,u,ac];rfl)]
   exact y
  rw[am (x:=vl i (.lst (hs.map dd)) (.lst R)) (a:=e) (by have K:=qX (g:=dw) (r:=false) (L:=vl i (.lst (hs.map dd)) (.lst R)) (a:=vE (cz (mT Tb (Ph (n+19))) (U 0) "truths_at" (af (kZ (a8 (aT Att) (U 0) "saying") (vC (.int 1))) (af (U 2) aI)))) (S:=T) (h:=e) (x:=.lst [.bl false]) (by rw[vE,I];rfl) rfl;rw[cZ,K];rfl)]
  have F:af (U 0) (af (U 2) (af (eV (aW dU (cB (O (vC (.bl false)) ah)) (cH (U 2)))) aI)) (vl i (.lst (hs.map dd)) (.lst R)) e=some ([.ref i,.p (.lst [Y l9]),.p (.lst [.bl false])],e):=by kernel_rfl
  simp only[aO,eV,aP,F,ac,E,jv];rfl
 .rw [aX q] at cond ⊢;refine⟨T,?_⟩;rw [og];show db (fR _ [some (.ref i),some (.p (.lst (hs.map dd))),some (.p (.lst [Y l9])),none] S)=_;unfold fR;rw [start];rw [jQ (k:=vl i (.lst (hs.map dd)) (.lst R)) (v:=T) (d:=.p (.bl false)) (by
   rw[cZ,cond];rfl)]
  rfl
theorem OY(hW:NW B)(C:Co B (xD B) pt b i M S)(v:sR [0,0,0,0] hs)(N:M+hs.length≤800) :
  ∃U9,Ph (n+21) "is_can_paper" [.ref i,.p (.str "no"),.p (.tup [.str "shut",.lst (hs.map dd),.lst [Y l9]])] S=some (.p (.bl (decide (dH [0,0,0,0] hs=l9))),U9):=by
 obtain⟨U9,e⟩:=NE (n:=n) hW C v N;have h:=IM (n:=n+17) (.lst (hs.map dd)) (.lst [Y l9]);refine⟨trunc S.length U9,?_⟩;rw[nD];show db (fC _ [some (.ref i),some (.p (.str "no")),some (.p (.tup [.str "shut",.lst (hs.map dd),.lst [Y l9]]))] S)=_;unfold fC;rw[am (x:=[some (.ref i),some (.p (.str "no")),some (.p (.tup [.str "shut",.lst (hs.map dd),.lst [Y l9]]))]) (a:=S) (by simp)];simp[h,e]
theorem NT(hW:NW B)(h:Co B (xD B) pt b i M S)(v:sR [0,0,0,0] hs)(N:M+hs.length≤800) :
  ∃U9,Ph (n+22) "is_paper" [.ref i,.p (.str "no"),.p (.tup [.str "shut",.lst (hs.map dd),.lst [Y l9]])] S=some (.p (.bl (decide (dH [0,0,0,0] hs=l9))),U9):=by
 obtain⟨U9,e⟩:=OY (n:=n) hW h v N;obtain⟨j,k,s,a,_⟩:=h;generalize P.tup [.str "shut",.lst (hs.map dd),.lst [Y l9]]=p at *
 have x:a8 (aT Att) (U 0) "saying" [some (.ref i),some (.p (.str "no")),some (.p p)] S=some (.p (xD B),S):=qU a rfl jF.2.1 qT.2.1;refine⟨trunc S.length U9,?_⟩;rw[mh];show db (e7 _ [some (.ref i),some (.p (.str "no")),some (.p p)] S)=_;unfold e7;rw[am (x:=[some (.ref i),some (.p (.str "no")),some (.p p)]) (a:=S) ((di (by rw[bV,a7,kZ,x,ac];kernel_rfl)).trans rfl)]
 rw[am (x:=[some (.ref i),some (.p (.str "no")),some (.p p)]) (a:=S) ((di (by rw[bV,a7,kZ,x,ac];kernel_rfl)).trans rfl)]
 simp[e]
theorem qq{n:Nat}{B:NM}(hW:NW B){hs:List Nat}(v:sR [0,0,0,0] hs)(N:hs.length≤100) :
  pureOf (Ph (n+23) "judge") [a_ B,xD B,.str "no",.tup [.str "shut",.lst (hs.map dd),.lst [Y l9]]]=some (.bl (decide (dH [0,0,0,0] hs=l9))):=by
 have e:pureOf (Ph (n+22) "is_told_thing") [.tup [.str "shut",.lst (hs.map dd),.lst [Y l9]]]=some (.bl true):=AW (n:=n+20) (by simp[wV,nS,xB,Y,l9,hP];lia);have h:Ph (n+21) "Court.__init__" [.ref 0,.p (a_ B),.p (xD B)] [.ins "Court" [] []]=some (.p .non,CT B (xD B) (CP B "" 0)):=nI (n:=n+14) (OA (n:=n+16) B "" 0);have x:pureOf (Ph (n+22) "speaks_of_knowing") [xD B]=some (.bl false):=ND (n:=n+18) B "" _ 0;obtain⟨U9,a⟩:=NT (n:=n) hW (FA B (xD B) (CP B "" 0)) v (by lia);rw[su];generalize P.tup [.str "shut",.lst (hs.map dd),.lst [Y l9]]=p at *
 generalize xD B=sy at *
 refine hR (L:=[some (.p (a_ B)),some (.p sy),some (.p (.str "no")),some (.p p),some (.ref 0)]) (S:=trunc (CT B sy (CP B "" 0)).length U9) rfl ?_;show iP _ _ [some (.p (a_ B)),some (.p sy),some (.p (.str "no")),some (.p p),none] []=_;unfold iP;rw[am (x:=[some (.p (a_ B)),some (.p sy),some (.p (.str "no")),some (.p p),none]) (a:=[]) (by simp[e,oA,kH])];rw[am (x:=[some (.p (a_ B)),some (.p sy),some (.p (.str "no")),some (.p p),some (.ref 0)]) (a:=CT B sy (CP B "" 0)) (by simp[h])];rw[am (x:=[some (.p (a_ B)),some (.p sy),some (.p (.str "no")),some (.p p),some (.ref 0)]) (a:=CT B sy (CP B "" 0)) (by simp[x,oA,kH])];simp[a]
theorem uQ{n:Nat}{p sy x:P}{r d:Bool}(h:pureOf (Ph (n+23) "judge") [p,sy,.str "no",x]=some (.bl r)):pureOf (Ph (n+24) "_law_held") [p,sy,x,.bl d]=some (.bl (r == d)):=by rw[uX];refine hR (L:=[some (.p p),some (.p sy),some (.p x),some (.p (.bl d)),some (.p (.bl r))]) (S:=[]) rfl ?_;show jo _ [some (.p p),some (.p sy),some (.p x),some (.p (.bl d)),none] []=_;unfold jo;rw[am (x:=[some (.p p),some (.p sy),some (.p x),some (.p (.bl d)),some (.p (.bl r))]) (a:=[]) (by simp[h])];cases r<;>cases d<;>kernel_rfl
end My
namespace My
open PySem L2 Ev
def strOk(x:Str):Prop:=rR x=true
variable{x:Str}
theorem B1(h:strOk x)(H:strOk y):strOk (x++y):=by show(x.cps++y.cps).all (λc=>decide (c < 0x110000))=true;rw[zH,az];exact⟨h,H⟩
theorem B0(e:strOk x)(n:Nat):strOk (dn x n):=by
 have k:∀(n:Nat)(a:Array Nat),a.all (λc=>decide (c < 0x110000))=true->((List.replicate n x.cps).foldl (·++·) a).all (λc=>decide (c < 0x110000))=true:=by
  intro n;induction n with
  |zero=>intro a h;exact h
  |succ n i=>intro a h;rw[cn,gv];exact i _ (by rw[zH,az];exact⟨h,e⟩)
 exact k n #[] (by simp)
theorem wx{k:Int}(f:strOk x)(h:0≤k)(a:k < x.length)(n:x.length≤1000000):∃c,strOk ⟨#[c]⟩/\bj (.str x) (.int k)=some (.str ⟨#[c]⟩):=by
 have l:k.toNat < x.cps.toList.length:=by simp only[lN];unfold lz at a;lia
 have s:k.toNat < x.cps.size:=by simpa using l
 refine⟨x.cps.toList[k.toNat],?_,?_⟩
 .have:=Array.all_eq_true.mp f k.toNat s;show(#[x.cps.toList[k.toNat]].all λc=>decide (c < 0x110000))=true;simpa using this
 .have e:L2.atI x.cps.toList k=some (x.cps.toList[k.toNat]):=cS h (by simp[s]);show(if gO x.length=true then (L2.atI x.cps.toList k).map λc=>P.str ⟨#[c]⟩ else none)=_;rw[ag (by simp only[mH];exact n),e];rfl
theorem Cz(h:x.length+y.length≤1000000):u7 (.str x) (.str y)=some (.str (x++y)):=by show(if gO (x.length+y.length)=true then some (P.str (x++y)) else none)=_;rw[ag (by rw[mH];exact h)]
theorem ints_get{lo:Int}{n i:Nat}{v:P}(h:(intsFrom lo n)[i]? = some v):v=.int (lo+i)/\i < n:=by
 unfold Ev.intsFrom at h;rw[fF]at h;cases e:(List.range n)[i]? with
 |none=>rw[e]at h;cases h
 |some j=>
  rw[e]at h;cases h;have:=bg.mp e
  obtain⟨x,a⟩:=this;simp at x a;subst a;exact⟨rfl,x⟩
theorem we{lo:Int}{n:Nat}{v:P}(h:v ∈ intsFrom lo n):∃i:Nat,v=.int (lo+i)/\i < n:=by obtain⟨i,x,e⟩:=zv.mp h;exact⟨i,ints_get (by rw[ko x,e])⟩
theorem EN(lo:Int)(n:Nat):(intsFrom lo n).length=n:=by simp[Ev.intsFrom]
theorem u9{n:Nat}(s:List Int){k:Int}(x:0≤k)(a:k < 9):∃r:Int,pureOf (Ph (n+2) "_law_cell_at") [jR s,.int k]=some (.int r):=by
 by_cases h:k < (s.length:Int)
 .have hk:k.toNat < s.length:=by lia
  refine⟨s[k.toNat],?_⟩;have e:L2.atI (s.map P.int) k=some (.int s[k.toNat]):=cS x (by simp[hk]);rw[jx,bZ];simp[fY,jR,kI,ql,h,e]
 .refine⟨5 * k+3,?_⟩;have m:jU 5 k=true:=fO (by decide) (by lia);rw[jx,bZ];simp[fY,jR,kI,ql,h,m]
theorem yd(n:Str->GF)(s:List P):∀(a:Int)(p t q:Option D),∃(r:Int)(e:Option D),cP (aK 2) (fA n) s [some (.p (.int a)),p,t,q] []=some (.nx,[some (.p (.int r)),p,e,q],[]):=by
 induction s with
 |nil=>intro a p t q;exact⟨a,t,rfl⟩
 |cons x s i=>intro a p t q;obtain⟨r,e,h⟩:=i (a / 1000) p (some (.p x)) q;exact⟨r,e,by simpa[cP,fA] using h⟩
theorem Ji:IG (.int 10) (.int 18)=some (.int 1000000000000000000):=by kernel_rfl
theorem qJ{n:Nat}(a:Int){p:Int}(v:0≤p)(d:p < 1000):∃r:Int,pureOf (Ph (n+2) "_law_drawn") [.int a,.int p]=some (.int r):=by
 by_cases h:(1000000000000000000:Int)≤a
 .obtain⟨r,w,e⟩:=yd (Ph (n+1)) (intsFrom 0 p.toNat) a (some (.p (.int p))) none none;refine⟨r % 1000,?_⟩;have k:p.natAbs < 1000000:=by lia
  rw[kY,bZ];simp[iv,Ji,h,k,e]
 .have m:jU p 7919=true:=fO (by lia) (by decide);have c:jU (a % 1000003+p * 7919+1) 48271=true:=fO (by lia) (by decide);generalize s:(a % 1000003+p * 7919+1) * 48271 % 2147483629=x;have f:0≤x/\x < 2147483629:=by subst s;exact⟨oW _ (by decide),oX _ (by decide)⟩
  have t:jU x (x+p)=true:=fO (by lia) (by lia);generalize H:x * (x+p) % 2147483587=y;have b:0≤y/\y < 2147483587:=by subst H;exact⟨oW _ (by decide),oX _ (by decide)⟩
  have q:jU y (y+2)=true:=fO (by lia) (by lia);refine⟨y * (y+2) % 2147483579 / 7,?_⟩;rw[kY,bZ];simp[iv,Ji,h,m,c,s,t,H,q]
theorem Li:strOk "abcdefghijklmnopqrstuvwxyz":=by unfold strOk;decide +kernel
theorem Bn:("abcdefghijklmnopqrstuvwxyz":Str).length=26:=by decide +kernel
theorem Lh:strOk "qrs":=by unfold strOk;decide +kernel
theorem Bk:("qrs":Str).length=3:=by decide +kernel
theorem uI{n:Nat}(c:Int){k:Nat}(v:k < 3):∃x:Str,strOk x/\0 < x.length/\pureOf (Ph (n+3) "_law_name") [.int c,.int (k:Int)]=some (.str x):=by
 obtain⟨a,s⟩:=qJ (n:=n) c (p:=(k:Int)) (by lia) (by lia);obtain⟨b,f⟩:=qJ (n:=n) c (p:=3+(k:Int)) (by lia) (by lia);obtain⟨d,h,m⟩:=wx (k:=a % 26) Li (by lia) (by rw[Bn];lia) (by rw[Bn];lia);obtain⟨q,e,r⟩:=wx (k:=(k:Int)) Lh (by lia) (by rw[Bk];lia) (by rw[Bk];lia);have t:u4 (.str ⟨#[d]⟩) (.int (1+b % 9))=some (.str (dn ⟨#[d]⟩ ((b % 9).toNat+1))):=by show(if (gO ((1+b % 9).toNat * 1) && decide ((1+b % 9).natAbs < 1000000))=true then some (P.str (dn ⟨#[d]⟩ (1+b % 9).toNat)) else none)=_;rw[ag (by rw[az,mH];exact⟨by lia,df (by lia)⟩),show(1+b % 9).toNat=(b % 9).toNat+1 by lia]
 have z:=Cz (x:=⟨#[q]⟩) (y:=dn ⟨#[d]⟩ ((b % 9).toNat+1)) (by rw[kR,Bm,Bm];lia);refine⟨⟨#[q]⟩++dn ⟨#[d]⟩ ((b % 9).toNat+1),B1 e (B0 h _),?_,?_⟩
 .show 0 < ((#[q]:Array Nat)++(dn ⟨#[d]⟩ ((b % 9).toNat+1)).cps).size;simp;lia
 .rw [uW,bZ];simp[mL,s,f,m,r,t,z,gj]
theorem OL{n:Nat}{B:NM}(l:NW B){x:List Int}(h:dR x):pureOf (Ph (n+16) "ends_from") [a_ B,Y x]=some (.lst (bU x)):=by
 obtain⟨T,e,f,s⟩:=BC (S:=ox B 0) l h.1 h.2 (Mh B []);have a:Ph (n+15) "ends_on" [.ref 0,.p (Y x)] (ox B 0)=some (.ref (ox B 0).length,T):=(congrFun (congrFun (Fe (n+1)) _) _).trans e;rw[rL];refine hR (L:=[some (.p (a_ B)),some (.p (Y x))]) (S:=trunc (ox B 0).length (T.set (ox B 0).length (.fz (.lst (bU x))))) rfl ?_;show iA _ _ [some (.p (a_ B)),some (.p (Y x))] []=_;unfold iA;have m:gb (Ph (n+14) "Board.__init__") "Board" (af (U 0) aI) [some (.p (a_ B)),some (.p (Y x))] []=some (.ref 0,ox B 0):=by have:=nM (n:=n+9) B [];rw[gb,show af (U 0) aI [some (.p (a_ B)),some (.p (Y x))] []=some ([.p (a_ B)],[]) from rfl,ac];rw[show Ph (n+14) "Board.__init__" (.ref ([]:aE).length::[.p (a_ B)]) ([]++[.ins "Board" [] []])=_ from this];rfl
 rw[aO,eV,aP,af,m,ac,show af (U 1) aI [some (.p (a_ B)),some (.p (Y x))] (ox B 0)=some ([.p (Y x)],ox B 0) from rfl];simp only[ac];rw[a,ac,kx s,ac];rfl
def Es(x:List Int):Prop:=∀a ∈ x,a≤9
theorem x8(h:e.length=4):∃a b c d,e=[a,b,c,d]:=by
 match e,h with
 | [a,b,c,d],_=>exact⟨a,b,c,d,rfl⟩
theorem E2{x:List Int}(h:x.length=4){k:Nat}(hk:k < 4):(go x k).sum=x.sum+1:=by
 obtain⟨a,b,c,d,rfl⟩:=x8 h;match k,hk with
 |0,_=>simp[go];lia
 |1,_=>simp[go];lia
 |2,_=>simp[go];lia
 |3,_=>simp[go];lia
theorem Js{x:List Int}(h:x.length=4){k:Nat}(hk:MQ x k)(e:Es x):Es (go x k):=by
 intro a s;rcases zC s with z|rfl
 .exact e a z
 .have:=hk.2;lia
theorem ux:∀{s:List Nat}{x:List Int},dR x->Es x->sR x s->(dH x s).sum=x.sum+s.length/\Es (dH x s)
 | [],x,_,h,_=>⟨by simp[dH],h⟩
 |k::s,x,g,h,u=>by have:=ux (g.go k) (Js g.1 u.1 h) u.2;refine⟨?_,this.2⟩;rw[dH,this.1,E2 g.1 u.1.1,bz];lia
theorem RE{e:List Int}(h:e.length=4)(x:Es e)(s:e.sum=36):e=l9:=by
 obtain⟨a,b,c,d,rfl⟩:=x8 h;have n:=x a (by simp);have k:=x b (by simp);have f:=x c (by simp);have m:=x d (by simp);simp at s;have:a=9/\b=9/\c=9/\d=9:=by lia
 simp[l9,this]
set_option tactic.hygienic true in
theorem Fh{s:List Int}{e:P}(h:e ∈ bU s):∃k,MQ s k/\e=.tup [dd k,Y (go s k)]:=by
 obtain⟨k,hk,x⟩:=tJ.mp h;unfold eL at x;split at x
 .rename_i q;refine⟨k,⟨?_,q⟩,eK.mp x⟩;simp at hk;lia
 .cases x
theorem IC{x:List Int}(h:x.length=4)(t:Es x)(s:x.sum < 36):bU x≠[]:=by
 intro e;have y:∀k,k < 4->¬x.getD k 0 < 9:=λk hk q=>by have:vk x k ∈ bU x:=tJ.mpr ⟨k,by simp;lia,by unfold eL;rw[ag q];exact eK.mpr rfl⟩;rw[e]at this;cases this
 obtain⟨a,b,c,d,rfl⟩:=x8 h;have n:=y 0 (by decide);have f:=y 1 (by decide);have m:=y 2 (by decide);have r:=y 3 (by decide);simp at n f m r s;lia
theorem FX{n:Type}{s:List n}(h:s≠[])(a:Int):∃x ∈ s,L2.atI s (a % (s.length:Int))=some x:=by
 have l:(0:Int) < (s.length:Int):=by cases s with|nil=>exact absurd rfl h|cons _ _=>simp
 have e:=oW a (Int.ne_of_gt l);have k:=oX a l;have hk:(a % (s.length:Int)).toNat < s.length:=by lia
 exact⟨s[(a % (s.length:Int)).toNat],o8 hk,cS e (by simp[hk])⟩
theorem Od(h:e.length=4)(k:Nat):gE 19 (vk e k)=true:=by
 have x:(e.set k (e.getD k 0+1)).length=4:=by rw[bC];exact h
 unfold vk;generalize e.set k (e.getD k 0+1)=y at *
 obtain⟨a,b,c,d,rfl⟩:=x8 x;kernel_rfl
theorem Fg{s:List Int}(h:s.length=4)(n:bU s≠[])(S:aE):fS (.p (.lst (bU s))) (.p (.lst [])) S=some (.bl false):=by
 have ok:gE 20 (.lst (bU s))=true:=SE λe a=>by obtain⟨k,rfl⟩:=v0 a;exact Od h k
 have e:Cr (.lst (bU s)) (.lst [])=some false:=by
  unfold Cr;rw[ok,show u6 (.lst (bU s)) (.lst [])=none from rfl,show gE 20 (.lst [])=true from rfl];show some (bQ (pd (.lst (bU s))) (pd (.lst [])))=_;cases q:bU s with
  |nil=>exact absurd q n
  |cons x r=>rfl
 show(some (P.lst (bU s))).bind _=_;simp only[eG];show(some (P.lst [])).bind _=_;simp only[eG,e];rfl
abbrev wR(B:NM)(c:Int)(q h x a:Option D):Lc:=[some (.p (a_ B)),some (.p (.int c)),some (.p (.int 36)),some (.ref 0),some (.ref 1),q,h,x,a]
theorem HV{n:Nat}{B:NM}(l:NW B)(c:Int){f:List Int}(t:dR f)(H:Es f)(s:f.sum < 36){x d:List P}(I:x.length≤900)(G:d.length≤900){k:Int}(C:0≤k)(E:k < 1000)(p q b:Option D) :
  ∃h v w u,MQ f h/\eY (Ph (n+16)) (wR B c (some (.p (.int k))) p q b) [.lst ((x++[Y f]).map .p),.lst (d.map .p)]=some (.nx,wR B c (some (.p (.int k))) v w u,[.lst ((x++[Y f]++[Y (go f h)]).map .p),.lst ((d++[dd h]).map .p)]):=by
 have g:=OL (n:=n) l t;have m:=IC t.1 H s;obtain⟨r,j⟩:=qJ (n:=n+14) c C E;obtain⟨e,F,z⟩:=FX m r;obtain⟨h,K,rfl⟩:=Fh F;refine⟨h,some (.p (.lst (bU f))),some (.p (dd h)),some (.p (Y (go f h))),K,?_⟩;have len:=wq f;unfold eY;have o:kZ (U 3) (aW wv (cH (U 3)) (vC (.int 1))) (wR B c (some (.p (.int k))) p q b) [.lst ((x++[Y f]).map .p),.lst (d.map .p)]=some (.p (Y f),[.lst ((x++[Y f]).map .p),.lst (d.map .p)]):=by refine eE.ix (xs:=x++[Y f]) (i:=(x.length:Int)) (.inl rfl) rfl ?_ (yt (by simp));simp[cH,kI,wv]
 rw[am (x:=wR B c (some (.p (.int k))) (some (.p (.lst (bU f)))) q b) (a:=[.lst ((x++[Y f]).map .p),.lst (d.map .p)]) (by rw[aZ,eV,aG,O,show vE (U 0) (wR B c (some (.p (.int k))) p q b) [.lst ((x++[Y f]).map .p),.lst (d.map .p)]=some (a_ B,[.lst ((x++[Y f]).map .p),.lst (d.map .p)]) from rfl,ac,O,vE,o,ac];simp only[jv,ac,ah,g];rfl)]
 rw[am (x:=wR B c (some (.p (.int k))) (some (.p (.lst (bU f)))) q b) (a:=[.lst ((x++[Y f]).map .p),.lst (d.map .p)]) ((di (by rw[bV,a7,show U 6 (wR B c (some (.p (.int k))) (some (.p (.lst (bU f)))) q b) [.lst ((x++[Y f]).map .p),.lst (d.map .p)]=some (.p (.lst (bU f)),[.lst ((x++[Y f]).map .p),.lst (d.map .p)]) from rfl,ac,show(eV (cB ah)) (wR B c (some (.p (.int k))) (some (.p (.lst (bU f)))) q b) [.lst ((x++[Y f]).map .p),.lst (d.map .p)]=some (.p (.lst []),[.lst ((x++[Y f]).map .p),.lst (d.map .p)]) from rfl,ac,Fg t.1 m];rfl)).trans rfl)]
 have A:0 < (bU f).length:=List.length_pos_iff.mpr m;rw[am (x:=wR B c (some (.p (.int k))) (some (.p (.lst (bU f)))) (some (.p (dd h))) (some (.p (Y (go f h))))) (a:=[.lst ((x++[Y f]).map .p),.lst (d.map .p)]) (by simp[cH,kI,ql,j,A];rw[z];rfl)]
 rw[am (x:=wR B c (some (.p (.int k))) (some (.p (.lst (bU f)))) (some (.p (dd h))) (some (.p (Y (go f h))))) (a:=[.lst ((x++[Y f]).map .p),.lst ((d++[dd h]).map .p)]) (pE (r:=U 4) (a:=U 7) (S:=[.lst ((x++[Y f]).map .p),.lst (d.map .p)]) (x:=[.lst ((x++[Y f]).map .p),.lst (d.map .p)]) (k:=1) (c:=d) (y:=dd h) rfl rfl rfl rfl (by lia))];exact pE (r:=U 3) (a:=U 8) (S:=[.lst ((x++[Y f]).map .p),.lst ((d++[dd h]).map .p)]) (x:=[.lst ((x++[Y f]).map .p),.lst ((d++[dd h]).map .p)]) (k:=0) (c:=x++[Y f]) (y:=Y (go f h)) rfl rfl rfl rfl (by simp;lia)
theorem Bf{n:Nat}{B:NM}(l:NW B)(c:Int):∀(m:Nat)(k:Nat)(x:List Int)(a d:List P)(b q e f:Option D),dR x->Es x->x.sum=(k:Int)->k+m=36->a.length≤k->d.length≤k ->
  ∃s v w j y,s.length=m/\sR x s/\cP (aK 5) (eY (Ph (n+16))) (Ev.intsFrom k m) (wR B c b q e f) [.lst ((a++[Y x]).map .p),.lst (d.map .p)]=some (.nx,wR B c v w j y,[.lst ((a++(cU x s).map Y).map .p),.lst ((d++s.map dd).map .p)])
 |0,k,x,a,d,b,q,e,f,_,_,_,_,_,_=>⟨[],b,q,e,f,rfl,trivial,by simp[Ev.intsFrom,cP,cU]⟩
 |m+1,k,x,a,d,b,q,e,f,r,z,s,hk,N,Q=>by
  obtain⟨h,o,H,S,t,E⟩:=HV (n:=n) l c r z (by lia) (x:=a) (d:=d) (by lia) (by lia) (k:=(k:Int)) (by lia) (by lia) q e f;obtain⟨p,F,K,A,C,M,u,G⟩:=Bf (n:=n) l c m (k+1) (go x h) (a++[Y x]) (d++[dd h]) (some (.p (.int k))) o H S (r.go h) (Js r.1 t z) (by rw[E2 r.1 t.1,s];lia) (by lia) (by simp;lia) (by simp;lia);refine⟨h::p,F,K,A,C,by simp[M],⟨t,u⟩,?_⟩;have I:Ev.intsFrom (k:Int) (m+1)=.int k::Ev.intsFrom ((k+1:Nat):Int) m:=by unfold Ev.intsFrom;rw[List.range_succ_eq_map,aD,g9];refine congr (bX _ (by simp)) (zr λi _=>?_);show P.int _=P.int _;refine bX _ ?_;show(k:Int)+((i+1:Nat):Int)=((k+1:Nat):Int)+(i:Int);lia
  rw[I];refine((cj (g:=aK 5) (L:=wR B c b q e f) (h:=wR B c (some (.p (.int k))) q e f) rfl E).trans G).trans ?_;simp[cU]
theorem Om{n:Nat}{B:NM}(l:NW B)(c:Int):∃s:List Nat,s.length=36/\sR [0,0,0,0] s/\pureOf (Ph (n+17) "_law_run") [a_ B,.int c,.int 36]=some (.tup [.lst ((cU [0,0,0,0] s).map Y),.lst (s.map dd)]):=by
 obtain⟨s,q,h,x,a,f,u,e⟩:=Bf (n:=n) l c 36 0 [0,0,0,0] [] [] none none none none kW (by simp[Es]) (by simp) rfl (by simp) (by simp);refine⟨s,f,u,?_⟩;have k:=wN (n:=n+12) B;rw[wr];refine hR (L:=wR B c q h x a) (S:=[.fz (.lst ((cU [0,0,0,0] s).map Y)),.fz (.lst (s.map dd))]) rfl ?_;show j8 _ [some (.p (a_ B)),some (.p (.int c)),some (.p (.int 36)),none,none,none,none,none,none] []=_;unfold j8;rw[am (x:=[some (.p (a_ B)),some (.p (.int c)),some (.p (.int 36)),some (.ref 0),none,none,none,none,none]) (a:=[.lst [.p (Y [0,0,0,0])]]) (by simp[k])];rw[am (x:=wR B c none none none none) (a:=[.lst [.p (Y [0,0,0,0])],.lst []]) rfl];rw[am (x:=wR B c q h x a) (a:=[.lst (((cU [0,0,0,0] s).map Y).map .p),.lst ((s.map dd).map .p)]) (by rw[cT];exact e)]
 have t:toP 9 (.ref 0) [.lst (((cU [0,0,0,0] s).map Y).map .p),.lst ((s.map dd).map .p)]=some (.lst ((cU [0,0,0,0] s).map Y),[.fz (.lst ((cU [0,0,0,0] s).map Y)),.lst ((s.map dd).map .p)]):=kx rfl;have b:toP 9 (.ref 1) [.fz (.lst ((cU [0,0,0,0] s).map Y)),.lst ((s.map dd).map .p)]=some (.lst (s.map dd),[.fz (.lst ((cU [0,0,0,0] s).map Y)),.fz (.lst (s.map dd))]):=kx rfl;simp[-g9,t,b]
theorem vJ:∀(m:Nat)(s:List Nat)(x:List Int),m≤s.length->cU x (s.take m)=(cU x s).take (m+1)
 |0,s,x,_=>by cases s<;>simp[cU]
 |m+1,[],x,h=>by simp at h
 |m+1,k::s,x,h=>by rw[tM,cU,cU,tM,vJ m s (go x k) (by simpa using h)]
theorem p0:∀(m:Nat)(s:List Nat)(x:List Int),sR x s->sR x (s.take m)
 |0,s,x,_=>by rw[List.take_zero];trivial
 |m+1,[],x,h=>by rw[List.take_nil];trivial
 |m+1,k::s,x,h=>⟨h.1,p0 m s _ h.2⟩
theorem EY{N:Int}{x:List Int}(e:x.length=4)(h:x.getD 0 0=N):hasN N x=true:=by obtain⟨a,b,c,d,rfl⟩:=x8 e;simp at h;subst h;simp[hasN,cnt]
theorem reach{N:Int}:∀(s:List Nat)(h:List Int),dR h->sR h s->h.getD 0 0≤N->N≤(dH h s).getD 0 0->∃x ∈ cU h s,hasN N x=true
 | [],h,g,_,n,f=>⟨h,eK.mpr rfl,EY g.1 (Int.le_antisymm n f)⟩
 |k::s,h,g,u,n,f=>by
  by_cases q:h.getD 0 0=N
  .exact⟨h,aJ,EY g.1 q⟩
  .have m:(go h k).getD 0 0≤N:=by
    obtain⟨a,b,c,d,rfl⟩:=x8 g.1;match k,u.1.1 with
    |0,_=>simp[go]at q n ⊢;lia
    |1,_=>simp[go]at q n ⊢;lia
    |2,_=>simp[go]at q n ⊢;lia
    |3,_=>simp[go]at q n ⊢;lia
   obtain⟨x,r,e⟩:=reach s (go h k) (g.go k) u.2 m f;exact⟨x,aN _ r,e⟩
theorem FT{N:Int}{W:List (List Int)}{F m:Nat}{y:List Int}(A:W[F]? = some y)(H:hasN N y=true)(E:∀j x,j < F->W[j]? = some x->hasN N x=false)(a:m < W.length):CJ N (W.take (m+1))=decide (m=F):=by
 have e:W.take (m+1)=W.take m++[W[m]]:=by simp
 rw[e,yq];by_cases q:m=F
 .subst q;rw[ko a]at A;cases A;rw[H,df rfl];have:(W.take m).any (hasN N)=false:=by
   rw[zn];intro x k;obtain⟨j,n,rfl⟩:=zv.mp k;have h:j < m:=by simp at n;lia
   have:=E j _ h (ko (by lia));simpa using this
  rw[this];rfl
 .rw [aX q];by_cases lt:m < F
  .rw [E m _ lt (ko a)];rfl
  .have:(W.take m).any (hasN N)=true:=by
    rw[lG];refine⟨y,?_,H⟩;rw[List.mem_take_iff_getElem];obtain⟨f,s⟩:=bg.mp A;exact⟨F,by lia,s⟩
   rw[this];simp
theorem E9{N:Int}{W:List (List Int)}(h:∃x ∈ W,hasN N x=true):∃(F:Nat)(y:List Int),W[F]? = some y/\hasN N y=true/\∀(j:Nat)(x:List Int),j < F->W[j]? = some x->hasN N x=false:=by
 induction W with
 |nil=>obtain⟨x,s,_⟩:=h;cases s
 |cons w W i=>
  by_cases q:hasN N w=true
  .exact⟨0,w,rfl,q,λj x c=>by lia⟩
  .obtain⟨x,s,e⟩:=h;have n:=(aM.mp s).resolve_left λz=>q (z ▸ e);obtain⟨F,y,k,f,b⟩:=i ⟨x,n,e⟩;refine⟨F+1,y,by simpa using k,f,λj x c a=>?_⟩;cases j with
   |zero=>simp at a;subst a;simpa using q
   |succ j=>exact b j x (by lia) (by simpa using a)
theorem Cq(A:F < n)(h:p (.int (F:Int))=true)(x:∀j:Nat,j < F->p (.int (j:Int))=false):L2.atI ((Ev.intsFrom 0 n).filter p) 0=some (.int F):=by
 have e:((Ev.intsFrom 0 n).filter p)[0]? = some (.int (F:Int)):=by
  rw[<- List.head?_eq_getElem?,List.head?_filter];unfold Ev.intsFrom;rw[List.find?_map];have:(List.range n).find? (p ∘ λi:Nat=>P.int (0+(i:Int)))=some F:=by
   rw[List.find?_range_eq_some];refine⟨by simpa using h,by simpa using A,λj a=>?_⟩;have:=x j a
   simpa using this
  rw[this];simp
 exact cS (by decide) e
theorem has_any{N:Int}{x:List Int}(k:x.length=4):hasN N x=x.any λa=>decide (a=N):=by obtain⟨a,b,c,d,rfl⟩:=x8 k;simp only[hasN,cnt];by_cases h:a=N<;>by_cases e:b=N<;>by_cases s:c=N<;>by_cases n:d=N<;>simp[h,e,s,n]
theorem Ta(a N:Int)(S:aE):fS (.p (.tup [.int a])) (.p (.tup [.int N])) S=some (.bl (decide (a=N))):=by
 have e:bQ (pd (.tup [.int a])) (pd (.tup [.int N]))=decide (a=N):=by simp only[pd,gJ,bQ,kQ];by_cases q:a=N<;>simp[q]
 have h:Cr (.tup [.int a]) (.tup [.int N])=some (decide (a=N)):=by unfold Cr;rw[show gE 20 (.tup [.int a])=true from rfl,show gE 20 (.tup [.int N])=true from rfl,show u6 (.tup [.int a]) (.tup [.int N])=none from rfl,e];rfl
 show(some (P.tup [.int a])).bind _=_;simp only[eG];show(some (P.tup [.int N])).bind _=_;simp only[eG,h];rfl
theorem L6{x:List P}(k:Nat):cut x none (some (k:Int))=x.take k:=by
 unfold cut;rw[HT.vM,HT.Hl,kj,tj];by_cases h:k≤x.length
 .rw [y3 h]
 .rw [Nat.min_eq_right (by lia),tK,zz (by lia)]
abbrev LW(sc c:P)(B:NM)(N:Int)(W d:P)(q h x a e:Option D):Lc:=[some (.p sc),some (.p c),some (.p (.str B.f)),some (.p (.str B.r)),some (.p (.str B.c)),some (.p (mG B)),some (.p (stp B)),some (.p (a_ B)),some (.p (.int N)),some (.p (cJ B B.r N)),some (.p W),some (.p d),q,h,x,a,e]
section
variable{sc c:P}{B:NM}{N:Int}{s:List Nat}
theorem E8(t:s.length=36){F:Nat}{y:List Int}(A:(cU [0,0,0,0] s)[F]? = some y)(H:hasN N y=true)(E:∀(j:Nat) (x:List Int),j < F->(cU [0,0,0,0] s)[j]? = some x->hasN N x=false)(d:P)(m h e f b:Option D)(S:aE) :
  aZ 12 (eV (aW bj (bH (iH (cH (U 10))) [] 1 (aK 17) (bT (eV (aG dw (O (bH (gF (aW bj (aW bj (vE (U 10)) (vE (U 17))) (vC (.int 0)))) [] 1 (aK 18) dG (a7 fS (eV (aW bj (vE (U 18)) (vC (.int 1)))) (eV (aS (O (vE (U 8)) ah))))) ah)))) (vE (U 17))) (vC (.int 0)))) (LW sc c B N (.lst ((cU [0,0,0,0] s).map Y)) d m h e f b) S=some (.nx,LW sc c B N (.lst ((cU [0,0,0,0] s).map Y)) d (some (.p (.int F))) h e f b,S):=by
 have l:(cU [0,0,0,0] s).length=37:=by rw[kz,t]
 have hg:=ny (hs:=s) kW;generalize cU [0,0,0,0] s=W at *
 have hlt:=fW A;let p:P->Bool:=λv=>match v with | .int k=>hasN N (W.getD k.toNat [])|_=>false
 have Q:cR (aK 17) (bT (eV (aG dw (O (bH (gF (aW bj (aW bj (vE (U 10)) (vE (U 17))) (vC (.int 0)))) [] 1 (aK 18) dG (a7 fS (eV (aW bj (vE (U 18)) (vC (.int 1)))) (eV (aS (O (vE (U 8)) ah))))) ah)))) (vE (U 17)) (Ev.intsFrom 0 37) (ph [] 1 (LW sc c B N (.lst (W.map Y)) d m h e f b)) S=some (((Ev.intsFrom 0 37).filter p).map (λv=>v),S):=by
  refine eC (Inv:=λL=>∃q,L=LW sc c B N (.lst (W.map Y)) d m h e f b++[q]) (λv u L I=>?_) ⟨none,rfl⟩;obtain⟨q,o⟩:=I;subst o;obtain⟨i,rfl,hi⟩:=we u;rw[lA];refine⟨LW sc c B N (.lst (W.map Y)) d m h e f b++[some (.p (.int i))],rfl,⟨_,rfl⟩,?_,λ_=>rfl⟩;have z:i < W.length:=by lia
  have M:=hg _ (o8 z);have Z:p (.int (i:Int))=hasN N W[i]:=by show hasN N (W.getD ((i:Int)).toNat [])=_;simp[z]
  rw[Z];generalize hx:W[i]=x at *
  have R:L2.atI (W.map Y) (i:Int)=some (Y x):=yt (by simp[z,hx]);have it:gF (aW bj (aW bj (vE (U 10)) (vE (U 17))) (vC (.int 0))) (LW sc c B N (.lst (W.map Y)) d m h e f b++[some (.p (.int i))]) S=some (x.map hP,S):=by
   have:(aW bj (vE (U 10)) (vE (U 17))) (LW sc c B N (.lst (W.map Y)) d m h e f b++[some (.p (.int i))]) S=some (Y x,S):=by show(L2.atI (W.map Y) (i:Int)).map _=_;rw[R];rfl
   rw[gF,aW,this];rfl
  have w:cR (aK 18) dG (a7 fS (eV (aW bj (vE (U 18)) (vC (.int 1)))) (eV (aS (O (vE (U 8)) ah)))) (x.map hP) (ph [] 1 (LW sc c B N (.lst (W.map Y)) d m h e f b++[some (.p (.int i))])) S=some (((x.map hP).filter λ_=>true).map (λv=>match v with | .tup [_,.tup [.int a],_]=>.bl (decide (a=N))|_=>.non),S):=by
   refine eC (Inv:=λL=>∃q,L=LW sc c B N (.lst (W.map Y)) d m h e f b++[some (.p (.int i)),q]) (λv u L I=>?_) ⟨none,rfl⟩;obtain⟨q,o⟩:=I;subst o;obtain⟨a,_,rfl⟩:=eJ.mp u;refine⟨LW sc c B N (.lst (W.map Y)) d m h e f b++[some (.p (.int i)),some (.p (hP a))],rfl,⟨_,rfl⟩,rfl,λ_=>?_⟩;have T:(eV (aW bj (vE (U 18)) (vC (.int 1)))) (LW sc c B N (.lst (W.map Y)) d m h e f b++[some (.p (.int i)),some (.p (hP a))]) S=some (.p (.tup [.int a]),S):=rfl;have V:(eV (aS (O (vE (U 8)) ah))) (LW sc c B N (.lst (W.map Y)) d m h e f b++[some (.p (.int i)),some (.p (hP a))]) S=some (.p (.tup [.int N]),S):=by simp
   rw[a7,T,ac,V,ac,Ta];rfl
  rw[fP,g9]at w;have hm:((λv=>match v with | .tup [_,.tup [.int a],_]=>P.bl (decide (a=N))|_=>.non) ∘ hP)=λa=>P.bl (decide (a=N)):=by funext a;rfl
  rw[hm]at w;have hf:few (x.map hP)=true:=by simp[M.1]
  have u:bH (gF (aW bj (aW bj (vE (U 10)) (vE (U 17))) (vC (.int 0)))) [] 1 (aK 18) dG (a7 fS (eV (aW bj (vE (U 18)) (vC (.int 1)))) (eV (aS (O (vE (U 8)) ah)))) (LW sc c B N (.lst (W.map Y)) d m h e f b++[some (.p (.int i))]) S=some (.lst (x.map λa=>.bl (decide (a=N))),S):=by rw[bH,it,ac,ag hf,w];rfl
  exact qX (g:=dw) (r:=hasN N x) u (by rw[any_map,has_any M.1])
 rw[List.map_id']at Q;have C:p (.int (F:Int))=true:=by show hasN N (W.getD ((F:Int)).toNat [])=true;rw[ke,i0,A];exact H
 have G:∀j:Nat,j < F->p (.int (j:Int))=false:=λj hj=>by
  have K:j < W.length:=by lia
  show hasN N (W.getD ((j:Int)).toNat [])=false;have:=E j _ hj (ko K)
  simpa[K] using this
 have X:=Cq (p:=p) (n:=37) (F:=F) (by lia) C G;have u:bH (iH (cH (U 10))) [] 1 (aK 17) (bT (eV (aG dw (O (bH (gF (aW bj (aW bj (vE (U 10)) (vE (U 17))) (vC (.int 0)))) [] 1 (aK 18) dG (a7 fS (eV (aW bj (vE (U 18)) (vC (.int 1)))) (eV (aS (O (vE (U 8)) ah))))) ah)))) (vE (U 17)) (LW sc c B N (.lst (W.map Y)) d m h e f b) S=some (.lst ((Ev.intsFrom 0 37).filter p),S):=by
  have hr:iH (cH (U 10)) (LW sc c B N (.lst (W.map Y)) d m h e f b) S=some (Ev.intsFrom 0 37,S):=by
   have o:cH (U 10) (LW sc c B N (.lst (W.map Y)) d m h e f b) S=some (.int 37,S):=by show(some (W.map Y).length).map (λn:Nat=>(P.int n,S))=_;rw[bv,l];rfl
   rw[iH,o];rfl
  rw[bH,hr,ac,ag (by rw[Fa,EN];decide),Q];rfl
 rw[aZ,eV,aW,u,ac,show vC (.int 0) (LW sc c B N (.lst (W.map Y)) d m h e f b) S=some (.int 0,S) from rfl,ac,show bj (.lst ((Ev.intsFrom 0 37).filter p)) (.int 0)=_ from X];rfl
end
section
variable{n:Nat}{sc c:P}{B:NM}(l:NW B){N:Int}{s:List Nat}(t:s.length=36)(u:sR [0,0,0,0] s){F:Nat}{y:List Int}(A:(cU [0,0,0,0] s)[F]? = some y)(H:hasN N y=true)(E:∀(j:Nat) (x:List Int),j < F->(cU [0,0,0,0] s)[j]? = some x->hasN N x=false)
include l t u A H E
theorem Et{m:Nat}(v:m≤36)(g:Bool)(q h:Option D) :
  jr (Ph (n+24)) (LW sc c B N (.lst ((cU [0,0,0,0] s).map Y)) (.lst (s.map dd)) (some (.p (.int F))) (some (.p (cE B N g))) (some (.p (.int m))) q h) []=some (.nx,LW sc c B N (.lst ((cU [0,0,0,0] s).map Y)) (.lst (s.map dd)) (some (.p (.int F))) (some (.p (cE B N g))) (some (.p (.int m))) q h,[]):=by
 have p:(s.take m).length≤100:=by rw[cX];lia
 have j:=Cg (n:=n+2) (N:=N) l (p0 m s _ u) p g;rw[vJ m s _ (by lia),FT A H E (by rw[kz];lia)]at j;have e:=uQ (d:=decide (m=F)) j;rw[beq_self_eq_true]at e;generalize (.lst ((cU [0,0,0,0] s).map Y):P)=Q;generalize x:LW sc c B N Q (.lst (s.map dd)) (some (.p (.int F))) (some (.p (cE B N g))) (some (.p (.int m))) q h=L;have k:(i8 (vE (U 11)) eR (ew (vE (U 14)))) L []=some (.lst ((s.take m).map dd),[]):=by subst x;show some (P.lst (cut (s.map dd) none (some ((m:Nat):Int))),([]:aE))=_;rw[L6,<- zc]
 have f:aS (O (vC (.str "run")) (O (i8 (vE (U 11)) eR (ew (vE (U 14)))) ah)) L []=some (.tup [.str "run",.lst ((s.take m).map dd)],[]):=by simp only[aS,O,vC,ac,k,ah];rfl
 have b:a7 fS (U 14) (U 12) L []=some (.bl (decide (m=F)),[]):=by subst x;show some (P.bl (decide (((m:Nat):Int)=(F:Int))),([]:aE))=_;rw[decide_eq_decide.mpr (Int.natCast_inj (m:=m) (n:=F))]
 have r:(O (vE (U 7)) (O (vE (U 13)) (O (aS (O (vC (.str "run")) (O (i8 (vE (U 11)) eR (ew (vE (U 14)))) ah))) (O (a7 fS (U 14) (U 12)) ah)))) L []=some ([a_ B,cE B N g,.tup [.str "run",.lst ((s.take m).map dd)],.bl (decide (m=F))],[]):=by
  have t:vE (U 7) L []=some (a_ B,[]):=by subst x;rfl
  have a:vE (U 13) L []=some (cE B N g,[]):=by subst x;rfl
  simp only[O,t,a,f,b,ac,ah]
 unfold jr;refine(di ?_).trans rfl;rw[dB,bT,eV,aG,r,ac,e];rfl
theorem Ew(k:Bool)(q x:Option D):∀(b:List P),(∀v ∈ b,∃m:Nat,m≤36/\v=.int m)->∀a:Option D,∃f,cP (aK 14) (jr (Ph (n+24))) b (LW sc c B N (.lst ((cU [0,0,0,0] s).map Y)) (.lst (s.map dd)) (some (.p (.int F))) (some (.p (cE B N k))) a q x) []=some (.nx,LW sc c B N (.lst ((cU [0,0,0,0] s).map Y)) (.lst (s.map dd)) (some (.p (.int F))) (some (.p (cE B N k))) f q x,[])
 | [],_,a=>⟨a,rfl⟩
 |v::r,h,a=>by obtain⟨m,p,rfl⟩:=h v aJ;obtain⟨i,e⟩:=Ew k q x r (λw d=>h w (aN _ d)) (some (.p (.int m)));refine⟨i,?_⟩;exact(cj (g:=aK 14) (L:=LW sc c B N (.lst ((cU [0,0,0,0] s).map Y)) (.lst (s.map dd)) (some (.p (.int F))) (some (.p (cE B N k))) a q x) (h:=LW sc c B N (.lst ((cU [0,0,0,0] s).map Y)) (.lst (s.map dd)) (some (.p (.int F))) (some (.p (cE B N k))) (some (.p (.int m))) q x) rfl (Et l t u A H E p k q x)).trans e
theorem Bp(g:Bool)(a h x:Option D):∃k,jq (Ph (n+24)) (LW sc c B N (.lst ((cU [0,0,0,0] s).map Y)) (.lst (s.map dd)) (some (.p (.int F))) (some (.p (cE B N g))) a h x) []=some (.nx,LW sc c B N (.lst ((cU [0,0,0,0] s).map Y)) (.lst (s.map dd)) (some (.p (.int F))) (some (.p (cE B N g))) k h x,[]):=by
 obtain⟨q,e⟩:=Ew (n:=n) (sc:=sc) (c:=c) l t u A H E g h x (Ev.intsFrom 0 37) (λv u=>by obtain⟨i,rfl,f⟩:=we u;exact⟨i,by lia,by rw[lA]⟩) a
 refine⟨q,?_⟩;unfold jq;have w:((cU [0,0,0,0] s).map Y).length=37:=by rw[bv,kz,t]
 generalize (cU [0,0,0,0] s).map Y=R at *
 have r:iH (cH (U 10)) (LW sc c B N (.lst R) (.lst (s.map dd)) (some (.p (.int F))) (some (.p (cE B N g))) a h x) []=some (Ev.intsFrom 0 37,[]):=by
  have L:cH (U 10) (LW sc c B N (.lst R) (.lst (s.map dd)) (some (.p (.int F))) (some (.p (cE B N g))) a h x) []=some (.int 37,[]):=by show(some R.length).map (λn:Nat=>(P.int n,([]:aE)))=_;rw[w];rfl
  rw[iH,L];rfl
 rw[cT,r,ac];exact e
theorem HZ(e x q h:Option D):∃k f,cT (gF (cB (O (aS (O (vC (.str "never")) (O (vE (U 9)) ah))) (O (aS (O (vC (.str "always")) (O (aS (O (vC (.str "not")) (O (vE (U 9)) ah))) ah))) ah)))) (aK 13) (jq (Ph (n+24))) (LW sc c B N (.lst ((cU [0,0,0,0] s).map Y)) (.lst (s.map dd)) (some (.p (.int F))) e x q h) []=some (.nx,LW sc c B N (.lst ((cU [0,0,0,0] s).map Y)) (.lst (s.map dd)) (some (.p (.int F))) k f q h,[]):=by
 obtain⟨a,m⟩:=Bp (n:=n) (sc:=sc) (c:=c) l t u A H E false x q h;obtain⟨b,r⟩:=Bp (n:=n) (sc:=sc) (c:=c) l t u A H E true a q h;refine⟨some (.p (cE B N true)),b,?_⟩;generalize (.lst ((cU [0,0,0,0] s).map Y):P)=Q at *
 generalize (.lst (s.map dd):P)=R at *
 have i:gF (cB (O (aS (O (vC (.str "never")) (O (vE (U 9)) ah))) (O (aS (O (vC (.str "always")) (O (aS (O (vC (.str "not")) (O (vE (U 9)) ah))) ah))) ah))) (LW sc c B N Q R (some (.p (.int F))) e x q h) []=some ([cE B N false,cE B N true],[]):=by kernel_rfl
 rw[cT,i,ac];refine(cj (g:=aK 13) (L:=LW sc c B N Q R (some (.p (.int F))) e x q h) (h:=LW sc c B N Q R (some (.p (.int F))) (some (.p (cE B N false))) x q h) rfl m).trans ?_;exact(cj (g:=aK 13) (L:=LW sc c B N Q R (some (.p (.int F))) (some (.p (cE B N false))) a q h) (h:=LW sc c B N Q R (some (.p (.int F))) (some (.p (cE B N true))) a q h) rfl r).trans rfl
end
theorem El{x:Str}(h:0 < x.length):x≠"":=by rintro rfl;exact absurd h (by decide +kernel)
theorem Ly{n:Nat}(h:List Int):pureOf (Ph (n+25) "law") [jR h]=some (.bl true):=by
 obtain⟨c,e0⟩:=u9 (n:=n+22) h (k:=0) (by decide) (by decide);obtain⟨r1,e1⟩:=u9 (n:=n+22) h (k:=1) (by decide) (by decide);obtain⟨r2,e2⟩:=u9 (n:=n+22) h (k:=2) (by decide) (by decide);obtain⟨f,hf,_,n0⟩:=uI (n:=n+21) c (k:=0) (by decide);obtain⟨r,hr,hr0,n1⟩:=uI (n:=n+21) c (k:=1) (by decide);obtain⟨d,hd,_,n2⟩:=uI (n:=n+21) c (k:=2) (by decide);have l:NW ⟨f,r,d⟩:=⟨hf,hr,hd,El hr0⟩;generalize G:(⟨f,r,d⟩:NM)=B at *
 have M:f=B.f:=by rw[<- G]
 have T:r=B.r:=by rw[<- G]
 have I:d=B.c:=by rw[<- G]
 obtain⟨s,t,u,er⟩:=Om (n:=n+7) l r2;have hN1:0≤r1 % 9:=oW _ (by decide);have hN2:r1 % 9 < 9:=oX _ (by decide);generalize hN:1+r1 % 9=N;have i:dH [0,0,0,0] s=l9:=by obtain⟨j,s2⟩:=ux kW (by simp[Es]) u;exact RE (qC kW).1 s2 (by rw[j,t];rfl)
 obtain⟨F,y,A,H,E⟩:=E9 (reach (N:=N) s _ kW u (by simp;lia) (by rw[i];simp[l9];lia));obtain⟨W',C⟩:=lU s [0,0,0,0];rw[i]at C;have W:(cU [0,0,0,0] s).length=37:=by rw[kz,t]
 have X:W'.length=36:=by rw[C]at W;simpa using W
 have j1:=qq (n:=n) l u (by lia);rw[i,df rfl]at j1;have h1:=uQ (d:=true) j1;have Z:s.dropLast.length=35:=by rw[zt,t]
 have htk:s.dropLast=s.take 35:=by rw[tN,t]
 have w:sR [0,0,0,0] s.dropLast:=by rw[htk];exact p0 35 s _ u
 have j2:=qq (n:=n) l w (by lia);have hne:dH [0,0,0,0] s.dropLast≠l9:=λe=>by obtain⟨j,_⟩:=ux kW (by simp[Es]) w;rw[e,Z]at j;exact absurd j (by decide)
 rw [aX hne] at j2;have h2:=uQ (d:=false) j2;obtain⟨a,b,K⟩:=HZ (n:=n) (sc:=jR h) (c:=.int c) l t u A H E none none none none;have e9:=E8 (sc:=jR h) (c:=.int c) (B:=B) t A H E (.lst (s.map dd)) none none none none none [];rw [IE];refine hR (L:=LW (jR h) (.int c) B N (.lst ((cU [0,0,0,0] s).map Y)) (.lst (s.map dd)) (some (.p (.int F))) a b (some (.p (cJ B "" 0))) (some (.p (Y l9)))) (S:=[]) rfl ?_;show vh (Ph (n+24)) [some (.p (jR h)),none,none,none,none,none,none,none,none,none,none,none,none,none,none,none,none] []=_;unfold vh;rw [am (x:=[some (.p (jR h)),some (.p (.int c)),none,none,none,none,none,none,none,none,none,none,none,none,none,none,none]) (a:=[]) (by simp [e0])];rw [am (x:=[some (.p (jR h)),some (.p (.int c)),some (.p (.str B.f)),some (.p (.str B.r)),some (.p (.str B.c)),none,none,none,none,none,none,none,none,none,none,none,none]) (a:=[]) (by
  rw[<- M,<- T,<- I];have hi:Ev.intsFrom 0 3=[.int ((0:Nat):Int),.int ((1:Nat):Int),.int ((2:Nat):Int)]:=rfl;have hc:cR (aK 17) dG (aG (pureOf (Ph (n+24) "_law_name")) (O (vE (U 1)) (O (vE (U 17)) ah))) (Ev.intsFrom 0 3) (ph [] 1 [some (.p (jR h)),some (.p (.int c)),none,none,none,none,none,none,none,none,none,none,none,none,none,none,none]) []=some ([.str f,.str r,.str d],[]):=by
   have o:∀(v:P)(q:Option D)(x:Str),pureOf (Ph (n+24) "_law_name") [.int c,v]=some (.str x)->(aG (pureOf (Ph (n+24) "_law_name")) (O (vE (U 1)) (O (vE (U 17)) ah))) [some (.p (jR h)),some (.p (.int c)),none,none,none,none,none,none,none,none,none,none,none,none,none,none,none,some (.p v)] []=some (.str x,[]):=λv q x e=>by show(pureOf (Ph (n+24) "_law_name") [.int c,v]).map _=_;rw[e];rfl
   have g:∀(v:P)(q:Option D),aK 17 v [some (.p (jR h)),some (.p (.int c)),none,none,none,none,none,none,none,none,none,none,none,none,none,none,none,q]=some [some (.p (jR h)),some (.p (.int c)),none,none,none,none,none,none,none,none,none,none,none,none,none,none,none,some (.p v)]:=λv q=>rfl;rw[hi,show ph [] 1 [some (.p (jR h)),some (.p (.int c)),none,none,none,none,none,none,none,none,none,none,none,none,none,none,(none:Option D)]=[some (.p (jR h)),some (.p (.int c)),none,none,none,none,none,none,none,none,none,none,none,none,none,none,none,none] from rfl];simp only[cR,g,dG,ac,o _ none _ n0,o _ none _ n1,o _ none _ n2,g8]
  rw[nh,bH,show iH (vC (.int 3)) [some (.p (jR h)),some (.p (.int c)),none,none,none,none,none,none,none,none,none,none,none,none,none,none,(none:Option D)] []=some (Ev.intsFrom 0 3,[]) from rfl,ac,ag (by decide),hc];simp[ci])]
 rw[am (x:=[some (.p (jR h)),some (.p (.int c)),some (.p (.str B.f)),some (.p (.str B.r)),some (.p (.str B.c)),some (.p (mG B)),none,none,none,none,none,none,none,none,none,none,none]) (a:=[]) (by kernel_rfl)];rw[am (x:=[some (.p (jR h)),some (.p (.int c)),some (.p (.str B.f)),some (.p (.str B.r)),some (.p (.str B.c)),some (.p (mG B)),some (.p (stp B)),none,none,none,none,none,none,none,none,none,none]) (a:=[]) (by kernel_rfl)];rw[am (x:=[some (.p (jR h)),some (.p (.int c)),some (.p (.str B.f)),some (.p (.str B.r)),some (.p (.str B.c)),some (.p (mG B)),some (.p (stp B)),some (.p (a_ B)),none,none,none,none,none,none,none,none,none]) (a:=[]) (by kernel_rfl)];rw[am (x:=[some (.p (jR h)),some (.p (.int c)),some (.p (.str B.f)),some (.p (.str B.r)),some (.p (.str B.c)),some (.p (mG B)),some (.p (stp B)),some (.p (a_ B)),some (.p (.int N)),none,none,none,none,none,none,none,none]) (a:=[]) (by rw[<- hN];simp[e1])]
 rw[am (x:=[some (.p (jR h)),some (.p (.int c)),some (.p (.str B.f)),some (.p (.str B.r)),some (.p (.str B.c)),some (.p (mG B)),some (.p (stp B)),some (.p (a_ B)),some (.p (.int N)),some (.p (cJ B B.r N)),none,none,none,none,none,none,none]) (a:=[]) (by kernel_rfl)];rw[am (x:=LW (jR h) (.int c) B N (.lst ((cU [0,0,0,0] s).map Y)) (.lst (s.map dd)) none none none none none) (a:=[]) (by simp[-g9,e2,er])]
 rw[am e9,am K];generalize hQ:(cU [0,0,0,0] s).map Y=Q at *
 have V:Q.length=37:=by rw[<- hQ,bv,W]
 have p:L2.atI Q 36=some (Y l9):=by rw[<- hQ,C,d_];exact cS (by decide) (by simp[X])
 rw [am (x:=LW (jR h) (.int c) B N (.lst Q) (.lst (s.map dd)) (some (.p (.int F))) a b (some (.p (cJ B "" 0))) none) (a:=[]) (by kernel_rfl)];rw [am (x:=LW (jR h) (.int c) B N (.lst Q) (.lst (s.map dd)) (some (.p (.int F))) a b (some (.p (cJ B "" 0))) (some (.p (Y l9)))) (a:=[]) (by
  have hL:cH (U 10) (LW (jR h) (.int c) B N (.lst Q) (.lst (s.map dd)) (some (.p (.int F))) a b (some (.p (cJ B "" 0))) none) []=some (.int 37,[]):=by show(some Q.length).map (λn:Nat=>(P.int n,([]:aE)))=_;rw[V];rfl
  have hI:(aW wv (cH (U 10)) (vC (.int 1))) (LW (jR h) (.int c) B N (.lst Q) (.lst (s.map dd)) (some (.p (.int F))) a b (some (.p (cJ B "" 0))) none) []=some (.int 36,[]):=by rw[aW,hL];rfl
  rw[aZ,eV,aW,show vE (U 10) (LW (jR h) (.int c) B N (.lst Q) (.lst (s.map dd)) (some (.p (.int F))) a b (some (.p (cJ B "" 0))) none) []=some (.lst Q,[]) from rfl,ac,hI,ac,show bj (.lst Q) (.int 36)=some (Y l9) from p];rfl)]
 have va:(O (vE (U 7)) (O (aS (O (vC (.str "always can")) (O (vE (U 15)) ah))) (O (aS (O (vC (.str "shut")) (O (vE (U 11)) (O (cB (O (vE (U 16)) ah)) ah)))) (O (vC (.bl true)) ah)))) (LW (jR h) (.int c) B N (.lst Q) (.lst (s.map dd)) (some (.p (.int F))) a b (some (.p (cJ B "" 0))) (some (.p (Y l9)))) []=some ([a_ B,xD B,.tup [.str "shut",.lst (s.map dd),.lst [Y l9]],.bl true],[]):=by generalize (.lst (s.map dd):P)=R;generalize Y l9=z;kernel_rfl
 rw[am ((di (by rw[dB,bT,eV,aG,va,ac,h1];rfl)).trans rfl)];have sl:(i8 (vE (U 11)) eR (ew (vA jJ (vC (.int 1))))) (LW (jR h) (.int c) B N (.lst Q) (.lst (s.map dd)) (some (.p (.int F))) a b (some (.p (cJ B "" 0))) (some (.p (Y l9)))) []=some (.lst (s.dropLast.map dd),[]):=by
  show some (P.lst (cut (s.map dd) none (some (-1))),([]:aE))=_;have m:s≠[]:=by intro z;rw[z]at t;cases t
  have es:s.map dd=s.dropLast.map dd++[dd (s.getLast m)]:=by
   conv=>lhs;rw[<- zD m]
   rw[d_];rfl
  rw[es,wz]
 have vb:(O (vE (U 7)) (O (aS (O (vC (.str "always can")) (O (vE (U 15)) ah))) (O (aS (O (vC (.str "shut")) (O (i8 (vE (U 11)) eR (ew (vA jJ (vC (.int 1))))) (O (cB (O (vE (U 16)) ah)) ah)))) (O (vC (.bl false)) ah)))) (LW (jR h) (.int c) B N (.lst Q) (.lst (s.map dd)) (some (.p (.int F))) a b (some (.p (cJ B "" 0))) (some (.p (Y l9)))) []=some ([a_ B,xD B,.tup [.str "shut",.lst (s.dropLast.map dd),.lst [Y l9]],.bl false],[]):=by
  have d7:vE (U 7) (LW (jR h) (.int c) B N (.lst Q) (.lst (s.map dd)) (some (.p (.int F))) a b (some (.p (cJ B "" 0))) (some (.p (Y l9)))) []=some (a_ B,[]):=rfl;have d2:aS (O (vC (.str "always can")) (O (vE (U 15)) ah)) (LW (jR h) (.int c) B N (.lst Q) (.lst (s.map dd)) (some (.p (.int F))) a b (some (.p (cJ B "" 0))) (some (.p (Y l9)))) []=some (xD B,[]):=by kernel_rfl
  have d3:cB (O (vE (U 16)) ah) (LW (jR h) (.int c) B N (.lst Q) (.lst (s.map dd)) (some (.p (.int F))) a b (some (.p (cJ B "" 0))) (some (.p (Y l9)))) []=some (.lst [Y l9],[]):=by kernel_rfl
  have d4:aS (O (vC (.str "shut")) (O (i8 (vE (U 11)) eR (ew (vA jJ (vC (.int 1))))) (O (cB (O (vE (U 16)) ah)) ah))) (LW (jR h) (.int c) B N (.lst Q) (.lst (s.map dd)) (some (.p (.int F))) a b (some (.p (cJ B "" 0))) (some (.p (Y l9)))) []=some (.tup [.str "shut",.lst (s.dropLast.map dd),.lst [Y l9]],[]):=by simp only[aS,O,vC,ac,sl,d3,ah];rfl
  simp only[O,d7,d2,d4,ac,ah,vC]
 rw[aO,eV,aG,vb,ac,h2];rfl
theorem Eu{K:FG}{H:Hp}{a:Addr}{s:List Int}(l:s.length≤63)(h:CO H)(S:fq K H a (s.map V.int)):nc K (IY Gv Att Tb 200 "law") [.ref a] H (λv _=>v=.bl true) (λ_ _ _=>False):=by have e:pureOf (IY Gv Att Tb 200 "law") [.ro (s.map .int)]=some (.bl true):=Ly (n:=175) s;exact Lz h S e
theorem Pw(h:e.length=n+1):∃a r,e=a::r/\r.length=n:=by
 cases e with
 |nil=>cases h
 |cons a r=>exact⟨a,r,rfl,Nat.succ.inj h⟩
theorem SH(h:e.length=1):∃a,e=[a]:=by obtain⟨a,r,rfl,x⟩:=Pw h;exact⟨a,by rw[eh x]⟩
theorem Py{e:Type}{u:List e}(h:u.length=2):∃a b,u=[a,b]:=by obtain⟨a,r,rfl,x⟩:=Pw h;obtain⟨b,rfl⟩:=SH x;exact⟨a,b,rfl⟩
theorem Px{e:Type}{u:List e}(h:u.length=3):∃a b c,u=[a,b,c]:=by obtain⟨a,r,rfl,x⟩:=Pw h;obtain⟨b,c,rfl⟩:=Py x;exact⟨a,b,c,rfl⟩
theorem SG{e:Type}{u:List e}(h:u.length=4):∃a b c d,u=[a,b,c,d]:=by obtain⟨a,r,rfl,x⟩:=Pw h;obtain⟨b,c,d,rfl⟩:=Px x;exact⟨a,b,c,d,rfl⟩
theorem vp:∀{s:LS}{x:LV},s.Nodup->x.length=s.length->(s.filterMap λn=>((s.zip x).lookup n).map (n,·))=s.zip x/\∀n ∈ s,((s.zip x).lookup n).isNone=false
 | [],x,_,l=>by cases eh l;simp
 |p::s,[],_,l=>by cases l
 |p::s,u::x,k,l=>by
  obtain⟨c,m⟩:=bL.mp k;obtain⟨i,v⟩:=vp m (Nat.succ.inj l);have f:∀n ∈ s,(n == p)=false:=λn h=>beq_false_of_ne λz=>c (z ▸ h);refine⟨?_,λn t=>?_⟩
  .have r:∀{a:LS},(∀n ∈ a,(n == p)=false)->(a.filterMap λn=>(((p,u)::s.zip x).lookup n).map (n,·))=a.filterMap λn=>((s.zip x).lookup n).map (n,·):=λ{a} h=>by
    induction a with
    |nil=>rfl
    |cons q a d=>rw[lJ,lJ,d λn k=>h n (aN _ k)];simp[eI,h q aJ]
   rw[zq,List.filterMap_cons_some (b:=(p,u)) (by simp[List.lookup_cons_self]),r f,i]
  .rw [zq];by_cases e:n=p
   .subst e;simp[eI]
   .simp only[eI,beq_false_of_ne e];exact v n ((aM.mp t).resolve_left e)
noncomputable def xK(a:Arguments)(p:LS):Bool:=a.posonlyargs.isEmpty && a.kwonlyargs.isEmpty && a.vararg.isNone && a.kwarg.isNone && decide (a.args.map (·.arg)=p) && decide p.Nodup
theorem FR{f:FuncData}{p:LS}(h:xK f.params p=true)(d:f.defaults=.none){u:LV}(l:u.length=p.length):bindArgs f ⟨u,[]⟩=pure (p.zip u):=by
 simp only[xK,az,tz,lH,Option.isNone_iff_eq_none]at h;obtain⟨⟨⟨⟨⟨x,a⟩,e⟩,s⟩,k⟩,b⟩:=h;obtain⟨r,t⟩:=vp b l;have m:(p.filter λn=>((p.zip u).lookup n).isNone)=[]:=List.filter_eq_nil_iff.mpr λn c=>by simp[t n c]
 have q:p.take p.length=p:=tK;have z:p.drop p.length=[]:=tG;unfold bindArgs;simp only[x,a,e,s,k,d,ki,kl,cW,l];simp[seqItems?,m,r,z];rfl
theorem sc:Tb.all Pq=true:=by decide +kernel
theorem un:(Tb.map (·.name)).Nodup:=by decide +kernel
inductive Fn(K:FG)(x:Str)(st:Stmt):Prop
 |mk (f:Addr) (oc:Value) (od:Option Addr) (kV dc pm:Value) (an:Option Addr) (cd ct:Value) (sl:Array (OV)):i5 K mainGlobals x=some (some (.ref f))->K.lookup f=some ⟨oc,od,.func (ij x x (gB st) (eU st) (bf st) .none kV dc pm an cd ct),sl⟩->ik K cd x=true->fw K (.ref f)=true->Fn K x st
def Lj(d:Df):Bool:=d.cls.cps.isEmpty && decide (d.short=d.name) && !F_.contains d.cls && xK (gB d.st) d.ps
theorem Rf:MO.all Lj=true:=by decide +kernel
structure Ck(K:FG)(x:Str)(C:Addr):Prop where
 ns:i5 K mainGlobals x=some (some (.ref C))
 get:pS K C Str.empty=true
 dct:tX K C=true
 ovr:xo K C=true
 set:bG K (.ref C) "__setattr__"=some (some (.builtin "object.__setattr__"))
 mak:xj K C=true
 kp:fw K (.ref C)=true
inductive Mt(K:FG)(C:Addr)(st:Stmt)(m q:Str)(dV:Value):Prop
 |mk (f:Addr) (oc:Value) (od:Option Addr) (kV dc pm:Value) (an:Option Addr) (cd ct:Value) (sl:Array (OV)):bG K (.ref C) m=some (some (.ref f))->tD K (.ref f)=true->K.lookup f=some ⟨oc,od,.func (ij m q (gB st) (eU st) (bf st) dV kV dc pm an cd ct),sl⟩->ik K cd q=true->fw K (.ref f)=true->Mt K C st m q dV
section
variable{K:FG}{h:Heap}{b:SV}(X:K.In h)(G:h.Ns mainGlobals b)
include X G
theorem dk{d:Df}(H:Fn K d.name d.st)(p:Lj d=true):∃f s,DOk K b d f s:=by obtain⟨x,S,e,st,N,y,ow,g,z⟩:=d;simp only[Lj,az,kr,tz]at p;obtain⟨⟨⟨n,rfl⟩,m⟩,r⟩:=p;obtain⟨f,o,i,kV,u,j,q,v,w,F,a,l,c,k⟩:=H;exact⟨_,_,⟨E6 l c k,.all λP t=>FR r rfl t,λ_=>⟨_,_,_,_,_,_,rfl⟩,λ_ (h:F_.contains e=true)=>absurd h (by rw[m];decide),λ_=>ll X G a,λ(h:e.cps.isEmpty=false)=>absurd h (by rw[n];decide)⟩⟩
theorem dm{C:Addr}{st:Stmt}{x m q:Str}{V:Value}{N s ow u j:LS}(c:Ck K x C)(M:Mt K C st m q V)(i:x.cps.isEmpty=false)
  (E:∀(kV o p:Value)(n:Option Addr)(d t:Value),Binds K (ij m q (gB st) (eU st) (bf st) V kV o p n d t) s []/\(m=("__init__":Str)->F_.contains x=true->Binds K (ij m q (gB st) (eU st) (bf st) V kV o p n d t) s [.none])):∃f g,DOk K b ⟨q,m,x,st,N,s,ow,u,j⟩ f g:=by
 obtain⟨f,y,H,kV,e,p,n,h,t,S,a,w,l,v,k⟩:=M;have r:x.cps.isEmpty=true->False:=λz=>by rw[i]at z;cases z
 exact⟨_,_,⟨E6 l v k,(E kV e p n h t).1,λz=>(r z).elim,(E kV e p n h t).2,λz=>(r z).elim,λ_=>⟨C,c.ns,ll X G c.ns,⟨c.get,c.dct,c.ovr,c.set⟩,λz=>⟨c.mak,z ▸ a,w,c.kp⟩,λ_=>⟨a,w,k⟩⟩⟩⟩
end
def Gi(K:FG)(x:Str)(i:Int):Prop:=∃t,i5 K mainGlobals x=some (some (.int i t))
theorem OC{w:World}{K:FG}{h:Heap}{b:SV}(X:K.In h)(G:h.Ns mainGlobals b){x:Str}{i:Int}(H:Gi K x i):mQ w K b x (.int i):=by obtain⟨t,a⟩:=H;exact .plain ⟨_,.int i,ll X G a,⟨_,rfl⟩,λ_ _=>rfl⟩ rfl
structure BoardOk(K:FG)(C:Addr):Prop where
 ck:Ck K "Board" C
 a_families:bG K (.ref C) "families"=some none
 a_homes:bG K (.ref C) "homes"=some none
 a_members:bG K (.ref C) "members"=some none
 a_pairs:bG K (.ref C) "pairs"=some none
 a_places:bG K (.ref C) "places"=some none
 m_Board_family_of:Mt K C (L2.ej (BZ 11) 1) "family_of" "Board.family_of" .none
 m_Board_init:Mt K C (L2.ej (BZ 11) 0) "__init__" "Board.__init__" .none
structure CourtOk(K:FG)(C:Addr):Prop where
 ck:Ck K "Court" C
 a_around:bG K (.ref C) "around"=some none
 a_board:bG K (.ref C) "board"=some none
 a_first:bG K (.ref C) "first"=some none
 a_known:bG K (.ref C) "known"=some none
 a_parts:bG K (.ref C) "parts"=some none
 a_plan:bG K (.ref C) "plan"=some none
 a_saying:bG K (.ref C) "saying"=some none
 m_Court_init:Mt K C (L2.ej (BZ 61) 0) "__init__" "Court.__init__" .none
 m_Court_ends_of:Mt K C (L2.ej (BZ 61) 1) "ends_of" "Court.ends_of" .none
 m_Court_truths_at:Mt K C (L2.ej (BZ 61) 2) "truths_at" "Court.truths_at" .none
structure SceneOk(K:FG)(C:Addr)(T:Addr):Prop where
 ck:Ck K "Scene" C
 a_around:bG K (.ref C) "around"=some none
 a_board:bG K (.ref C) "board"=some none
 a_dries:bG K (.ref C) "dries"=some none
 a_standings:bG K (.ref C) "standings"=some none
 m_Scene_init:Mt K C (L2.ej (BZ 35) 0) "__init__" "Scene.__init__" (.ref T)
 dv:∃o n,K.lookup T=some o/\o.data=.seq #[.none] n
def Tj(K:FG):Prop:=∃(a:Addr)(n:Nat)(s:Array (OV))(t h x:Tok),i5 K mainGlobals "HAND_PARTS"=some (some (.ref a))/\K.lookup a=some ⟨.type "tuple",none,.seq #[.str "some" t,.str "all" h,.str "many" x] n,s⟩
def Ti(K:FG):Prop:=∃(a:Addr)(n:Nat)(s:Array (OV))(t h:Tok),i5 K mainGlobals "KNOWING"=some (some (.ref a))/\K.lookup a=some ⟨.type "tuple",none,.seq #[.str "some knows" t,.str "each knows" h] n,s⟩
def Th(K:FG):Prop:=∃(a:Addr)(n:Nat)(s:Array (OV))(t h:Tok),i5 K mainGlobals "LASTING"=some (some (.ref a))/\K.lookup a=some ⟨.type "tuple",none,.seq #[.str "at last" t,.str "whenever" h] n,s⟩
def Tg(K:FG):Prop:=∃(a:Addr)(n:Nat)(s:Array (OV))(t h x:Tok),i5 K mainGlobals "SAFETY"=some (some (.ref a))/\K.lookup a=some ⟨.type "tuple",none,.seq #[.str "never" t,.str "always" h,.str "ahead" x] n,s⟩
theorem SI(k:Bool):(Tb.all λd=>!d.deep.contains (rn k) ||decide (d.name=xS k))=true:=by cases k<;>decide +kernel
set_option tactic.hygienic true in
theorem Ha(k:(PySem.W.kmHook K i e p).says w h)(l:Bq (K w.params)=true)(s:((bR (K w.params)).all λP=>p.contains P)=true) :
  ∀P ∈ bR (K w.params),h.get? P=some (pR #[])/\∃c,pQ h c P:=λP hP=>by
 refine⟨PySem.W.km_tabs_of k P (by simpa using bD.mp s P hP),?_⟩;obtain⟨⟨c,o⟩,m,x⟩:=km.mp hP;have a:=bD.mp l _ m;have f:qw o=true:=by
  unfold DD at x;split at x
  .rename_i v b;split at x
   .rename_i q t g n j;split at x
    .rename_i r;unfold qw;have d:o.data=.fields v:=b;rw[d];obtain⟨u⟩:=v;match u,n with
     |_::_::_,n=>cases (show _=_ from d8 n);simpa using r
    .cases x
   .cases x
  .cases x
 rw[f]at a;simp only[pa,kq]at a;rw[x]at a;exact⟨c,C_ (PySem.W.km_in_of k) a⟩
open PySem.W in
theorem Mi{w:World}{K:Frag}{h:Heap}{b:SV}(X:K.In h)(G:h.Ns mainGlobals b){C P A T:Addr}(r:BoardOk K C)(m:CourtOk K P)(t:SceneOk K A T)
  (Q:∀d ∈ MO,Fn K d.name d.st) (l:Bq K=true) (B:Tj K) (D:Ti K) (E:Th K) (L:Gi K "NOBODY" (-1)) (M:Tg K) (z:∀x ∈ FP,nsIn K mainGlobals x=some none):TOk w Gv Att Tb K b:=by
 refine⟨λd i=>?_,sc,un,λx y=>mg_none_of X G (z x y),λx v u=>?_,λc f N=>?_,l,λd i k R=>?_⟩
 .rcases fE.mp i with i|i
  .exact dk X G (Q d i) (bD.mp Rf d i)
  simp only[Sa,aM,bM,bK]at i;rcases i with rfl|rfl|rfl|rfl|rfl|rfl;all_goals first
   |exact dm X G r.ck r.m_Board_family_of (by decide +kernel) λ_ _ _ _ _ _=>⟨.all λj l=>by obtain⟨_,_,rfl⟩:=Py l;rfl,λh g=>by first|exact absurd h (by decide +kernel)|exact absurd g (by decide +kernel)⟩
   |exact dm X G r.ck r.m_Board_init (by decide +kernel) λ_ _ _ _ _ _=>⟨.all λj l=>by obtain⟨_,_,rfl⟩:=Py l;rfl,λh g=>by first|exact absurd h (by decide +kernel)|exact absurd g (by decide +kernel)⟩
   |exact dm X G m.ck m.m_Court_init (by decide +kernel) λ_ _ _ _ _ _=>⟨.all λj l=>by obtain⟨_,_,_,rfl⟩:=Px l;rfl,λh g=>by first|exact absurd h (by decide +kernel)|exact absurd g (by decide +kernel)⟩
   |exact dm X G m.ck m.m_Court_ends_of (by decide +kernel) λ_ _ _ _ _ _=>⟨.all λj l=>by obtain⟨_,_,rfl⟩:=Py l;rfl,λh g=>by first|exact absurd h (by decide +kernel)|exact absurd g (by decide +kernel)⟩
   |exact dm X G m.ck m.m_Court_truths_at (by decide +kernel) λ_ _ _ _ _ _=>⟨.all λj l=>by obtain⟨_,_,_,rfl⟩:=Px l;rfl,λh g=>by first|exact absurd h (by decide +kernel)|exact absurd g (by decide +kernel)⟩
   | exact dm X G t.ck t.m_Scene_init (by decide +kernel) fun _ _ _ _ _ _=>⟨fun s j I l=>by
     rw[cW]at l ⊢;obtain⟨_,_,_,_,rfl⟩:=SG l;obtain⟨o,n,q,p⟩:=t.dv;exact .of_defaults rfl (I _ _ q) p rfl rfl,λ_ _ s j I l=>by
     obtain⟨_,_,_,rfl⟩:=Px (Nat.succ.inj ((bc (as:=j) (bs:=[Value.none])).symm.trans l));obtain⟨o,n,q,p⟩:=t.dv;exact .of_defaults rfl (I _ _ q) p rfl rfl⟩
 .unfold Gv at u;by_cases e:x=("HAND_PARTS":Str)
  .rw [ag e]at u;subst e;cases u;obtain⟨a,n,H,S,F,V,q,p⟩:=B;exact .plain (kB ["some","all","many"] (ll X G q) p (by show 3≤sizeLine;decide) (.cons ⟨_,rfl⟩ (.cons ⟨_,rfl⟩ (.cons ⟨_,rfl⟩ .nil)))) rfl
  rw[aj e]at u;clear e;by_cases e:x=("KNOWING":Str)
  .rw [ag e]at u;subst e;cases u;obtain⟨a,n,H,S,F,q,p⟩:=D;exact .plain (kB ["some knows","each knows"] (ll X G q) p (by show 2≤sizeLine;decide) (.cons ⟨_,rfl⟩ (.cons ⟨_,rfl⟩ .nil))) rfl
  rw[aj e]at u;clear e;by_cases e:x=("LASTING":Str)
  .rw [ag e]at u;subst e;cases u;obtain⟨a,n,H,S,F,q,p⟩:=E;exact .plain (kB ["at last","whenever"] (ll X G q) p (by show 2≤sizeLine;decide) (.cons ⟨_,rfl⟩ (.cons ⟨_,rfl⟩ .nil))) rfl
  rw[aj e]at u;clear e;by_cases e:x=("NOBODY":Str)
  .rw [ag e]at u;subst e;cases u;exact OC X G L
  rw[aj e]at u;clear e;by_cases e:x=("SAFETY":Str)
  .rw [ag e]at u;subst e;cases u;obtain⟨a,n,H,S,F,V,q,p⟩:=M;exact .plain (kB ["never","always","ahead"] (ll X G q) p (by show 3≤sizeLine;decide) (.cons ⟨_,rfl⟩ (.cons ⟨_,rfl⟩ (.cons ⟨_,rfl⟩ .nil)))) rfl
  rw[aj e]at u;clear e;cases u
 .obtain⟨x,y,e⟩:=lG.mp N;rw[az]at e;have q:=aL e.1;have p:f ∈ x.2:=by simpa using e.2
  subst q;simp only[Att,aM,bM,bK]at y;rcases y with rfl|rfl|rfl
  .simp only[aM,bM,bK]at p;rcases p with rfl|rfl|rfl|rfl|rfl
   .exact⟨_,r.ck.ns,⟨r.ck.get,r.ck.dct,r.ck.ovr,r.ck.set⟩,r.a_families⟩
   .exact⟨_,r.ck.ns,⟨r.ck.get,r.ck.dct,r.ck.ovr,r.ck.set⟩,r.a_homes⟩
   .exact⟨_,r.ck.ns,⟨r.ck.get,r.ck.dct,r.ck.ovr,r.ck.set⟩,r.a_members⟩
   .exact⟨_,r.ck.ns,⟨r.ck.get,r.ck.dct,r.ck.ovr,r.ck.set⟩,r.a_pairs⟩
   .exact⟨_,r.ck.ns,⟨r.ck.get,r.ck.dct,r.ck.ovr,r.ck.set⟩,r.a_places⟩
  .simp only[aM,bM,bK]at p;rcases p with rfl|rfl|rfl|rfl|rfl|rfl|rfl
   .exact⟨_,m.ck.ns,⟨m.ck.get,m.ck.dct,m.ck.ovr,m.ck.set⟩,m.a_around⟩
   .exact⟨_,m.ck.ns,⟨m.ck.get,m.ck.dct,m.ck.ovr,m.ck.set⟩,m.a_board⟩
   .exact⟨_,m.ck.ns,⟨m.ck.get,m.ck.dct,m.ck.ovr,m.ck.set⟩,m.a_first⟩
   .exact⟨_,m.ck.ns,⟨m.ck.get,m.ck.dct,m.ck.ovr,m.ck.set⟩,m.a_known⟩
   .exact⟨_,m.ck.ns,⟨m.ck.get,m.ck.dct,m.ck.ovr,m.ck.set⟩,m.a_parts⟩
   .exact⟨_,m.ck.ns,⟨m.ck.get,m.ck.dct,m.ck.ovr,m.ck.set⟩,m.a_plan⟩
   .exact⟨_,m.ck.ns,⟨m.ck.get,m.ck.dct,m.ck.ovr,m.ck.set⟩,m.a_saying⟩
  .simp only[aM,bM,bK]at p;rcases p with rfl|rfl|rfl|rfl
   .exact⟨_,t.ck.ns,⟨t.ck.get,t.ck.dct,t.ck.ovr,t.ck.set⟩,t.a_around⟩
   .exact⟨_,t.ck.ns,⟨t.ck.get,t.ck.dct,t.ck.ovr,t.ck.set⟩,t.a_board⟩
   .exact⟨_,t.ck.ns,⟨t.ck.get,t.ck.dct,t.ck.ovr,t.ck.set⟩,t.a_dries⟩
   .exact⟨_,t.ck.ns,⟨t.ck.get,t.ck.dct,t.ck.ovr,t.ck.set⟩,t.a_standings⟩
 .have:=bD.mp (SI k) d i;rw[R]at this;simpa using this
end My
set_option tactic.hygienic true
namespace PySem.W.Fast
def tw17614202500670369750:=Nat
def tw12195605973818398781:=Nat
def tw6989251132604352340:=Nat
def tw11590741228432425384:=Nat
def tw1696025567780182424:=Nat
def tw3802630964585098830:=Nat
def tw4332194819277118513:=Nat
def tw14467957210822833693:=Nat
def tw14872545037321766851:=Nat
def tw9645714710844322017:=Nat
def tw11245388473621371048:=Nat
def tw16817646795362519594:=Nat
def tw4510503233949793285:=Nat
def tw2292839860259471977:=Nat
def tw11772163906083160094:=Nat
def tw12370477149283804054:=Nat
def tw31906388325144626:=Nat
def tw5813040795676828189:=Nat
def tw5074188573698086316:=Nat
def tw3231274836966396029:=Nat
def tw14894892785119333118:=Nat
def tw4798816921188552570:=Nat
def tw16113478871615866595:=Nat
def tw1001694654558600913:=Nat
def tw6144493501114321231:=Nat
def tw10189257094503243740:=Nat
def tw137035982504949796:=Nat
def tw9391562686341001871:=Nat
def tw17327369917931190637:=Nat
def tw12394904778678292903:=Nat
def tw8549909167598389275:=Nat
def tw16361524098546085473:=Nat
def tw7413104023691405377:=Nat
def tw8783238504579654030:=Nat
def tw13893265589418972338:=Nat
def tw10532073089254926002:=Nat
def tw9250180744446640570:=Nat
def tw15387234548808852135:=Nat
def tw9887019602408872794:=Nat
def tw9908794683192514044:=Nat
def tw4127242356444695133:=Nat
def tw4346676191009464943:=Nat
def tw11568386866797673734:=Nat
def tw17266309819371310050:=Nat
def tw12223892483082724883:=Nat
def tw11329060477910718288:=Nat
def tw4547747778116316321:=Nat
def tw9773004556070937052:=Nat
def tw3186983770204855575:=Nat
def tw6881000641922371906:=Nat
def tw13721342025786523398:=Nat
def tw6473369732430166231:=Nat
def tw14000274383225808813:=Nat
def tw199842804706969216:=Nat
def tw15830373075787499025:=Nat
def tw12988492564805235342:=Nat
def tw4179627189522636824:=Nat
def tw8537091380858490178:=Nat
def tw5597294037299638726:=Nat
def tw499935971472503339:=Nat
def tw6634195364882336446:=Nat
def tw844511113688835314:=Nat
def tw13259683345179615925:=Nat
def tw15147460569304161544:=Nat
def tw3678563947390672954:=Nat
def tw10297336100736953439:=Nat
def tw14340176102696459559:=Nat
def tw8359229041931467625:=Nat
def tw13196872460068333096:=Nat
def tw11766729649810700156:=Nat
def tw8310649677992626086:=Nat
def tw17020004702470008599:=Nat
def tw11226363042848804530:=Nat
def tw17814350562345405326:=Nat
def tw9274407719402232326:=Nat
def tw7054282275979094113:=Nat
def tw4084026815745021224:=Nat
def tw10352605736825332953:=Nat
def tw13635051299093098245:=Nat
def tw14083098085264637787:=Nat
def tw14505176634165690960:=Nat
def tw678427349951219539:=Nat
def tw11598512361811628965:=Nat
def tw12672084778397671246:=Nat
def tw1969400835588568268:=Nat
def tw7916142224702874587:=Nat
def tw4957857563415129776:=Nat
def tw10020825152182326366:=Nat
def tw5968305072467961967:=Nat
def tw8077563864059451548:=Nat
def tw11417956684077692855:=Nat
def tw14209352895433125213:=Nat
def tw4736479834135528561:=Nat
def tw1326280262066241672:=Nat
def tw7946766721426972323:=Nat
def tw5764770217108097997:=Nat
def tw6673406875076231321:=Nat
def tw3254230489967790418:=Nat
def tw9714075285800323933:=Nat
def tw16380210943404275920:=Nat
def tw7725342357678437079:=Nat
def tw8653726055229261962:=Nat
def tw13131250567266936399:=Nat
def tw12029002193064693673:=Nat
def tw7287151283705610085:=Nat
def tw2570801099309123568:=Nat
def tw15183205597075170480:=Nat
def tw4941207715017349937:=Nat
def tw1261847716752518453:=Nat
def tw2692449824159269973:=Nat
def tw5830992224103534131:=Nat
def tw1754795428674147635:=Nat
def tw5621738431407835515:=Nat
def tw12618898939410965387:=Nat
def tw17849413452410008668:=Nat
def tw10255524894611280658:=Nat
def tw1575212761171285252:=Nat
def tw1038068635322095680:=Nat
def tw16117559927134174834:=Nat
def tw1847601683714037943:=Nat
def tw5342470433866455268:=Nat
def tw9448028107491582170:=Nat
def tw5869078949374208189:=Nat
def tw2489106588784734414:=Nat
def tw9959212161023844156:=Nat
def tw18366550764682851382:=Nat
def tw10502503085218590924:=Nat
def tw7214833791316892530:=Nat
def tw13579373479007614190:=Nat
def tw5555665025236071256:=Nat
def tw13903120182778737600:=Nat
def tw3740418639453593585:=Nat
def tw13726051628730944185:=Nat
def tw13354454478791498316:=Nat
def tw14188859591598947060:=Nat
def tw17457802785226383147:=Nat
def tw13942157166500303533:=Nat
def tw14369882414562334498:=Nat
def tw4129428529123890418:=Nat
def tw17404953301461107668:=Nat
def tw15860203148376746899:=Nat
def tw11971625570020146423:=Nat
def tw6363672413642018836:=Nat
def tw14180919788536740705:=Nat
def tw13153483310242933981:=Nat
def tw8072215759162865164:=Nat
def tw10720447962346239362:=Nat
def tw7749041499049556029:=Nat
def tw10485062855451672491:=Nat
def tw9593408112344840905:=Nat
def tw17551655458095211777:=Nat
def tw9179547480496344695:=Nat
def tw6521660227520733773:=Nat
def tw17852383882628399373:=Nat
def tw4937615926820252606:=Nat
def tw197304222388936417:=Nat
def tw2954915102279497141:=Nat
def tw9482972033914966291:=Nat
def tw18261004763700667398:=Nat
def tw1002240587154800176:=Nat
def tw3544488448502243158:=Nat
def tw5268980252246813668:=Nat
def tw15050034208859544404:=Nat
def tw13840073657196366965:=Nat
def tw3758427011930050382:=Nat
def tw14247828902292689169:=Nat
def tw2552968019147629809:=Nat
def tw5126059356000903421:=Nat
def tw14606262986360209340:=Nat
def tw2022335956459120983:=Nat
def tw14228775418675111582:=Nat
def tw17966116535246815578:=Nat
def tw2673952387294052271:=Nat
def tw3579032150382347275:=Nat
def tw12478639758929521702:=Nat
def tw1537762769216633974:=Nat
def tw13279038993211651691:=Nat
def tw10328095925408063447:=Nat
def tw11041585142354465643:=Nat
def tw13140213776944223134:=Nat
def tw12149504703182316387:=Nat
def tw12899806913937896342:=Nat
def tw3524807282771521219:=Nat
def tw149154590447210406:=Nat
def tw3577607638929368375:=Nat
def tw8228696319285059371:=Nat
def tw10420489224159304154:=Nat
def tw16001162517211708649:=Nat
def tw10101922092210581548:=Nat
def tw10449707511192732048:=Nat
def tw16662226401721852728:=Nat
def tw15088123420239249409:=Nat
def tw272930781259950654:=Nat
def tw6900706825548897013:=Nat
def tw15171613515560899231:=Nat
def tw16898373407996244739:=Nat
def tw6081256286594858934:=Nat
def tw4458338651382380578:=Nat
def tw13416222476180510547:=Nat
def tw5191302594481314744:=Nat
def tw15541412721587984043:=Nat
def tw5197792253701998217:=Nat
def tw7186591293785509198:=Nat
def tw10990742756798208148:=Nat
def tw6709868266184366502:=Nat
def tw17191389593323681528:=Nat
def tw8179365902361259804:=Nat
def tw15465138494603186361:=Nat
def tw17331046190104656573:=Nat
def tw11972931268212164603:=Nat
def tw15944821466645785798:=Nat
def tw8134278176337092634:=Nat
def tw16634683625458996615:=Nat
def tw12504869123043263782:=Nat
def tw12041415401023886070:=Nat
def tw4837670038458883421:=Nat
def tw9839658456936846996:=Nat
def tw11297497516637801160:=Nat
def tw9597883513190602920:=Nat
def tw1068997384401653799:=Nat
def tw15038264247272973652:=Nat
def tw15909056790199501357:=Nat
def tw4973605248234719074:=Nat
def tw14081276843215535498:=Nat
def tw15858328089871033288:=Nat
def tw11288305000764487715:=Nat
def tw9637517201932334496:=Nat
def tw5530075550869002024:=Nat
def tw16745459697433072812:=Nat
def tw2884309237695433903:=Nat
def tw8227528928566692432:=Nat
def tw8452297106138994535:=Nat
def tw2083070838359751374:=Nat
def tw12794786502886400066:=Nat
def tw3727799362000880338:=Nat
def tw14968649649596219000:=Nat
def tw36128919344289899:=Nat
def tw10387810467918206212:=Nat
def tw11716323848962428964:=Nat
def tw836913282043217230:=Nat
def tw3768090301618869933:=Nat
def tw12217095892546050363:=Nat
def tw14408328238844799257:=Nat
def tw662801456184589726:=Nat
def tw6244983032048615095:=Nat
def tw12771936214196722591:=Nat
def tw6084029213415263130:=Nat
def tw9202304777393873417:=Nat
def tw12238113317297906556:=Nat
def tw271266230956495987:=Nat
def tw3780216981281770434:=Nat
def tw10861265530462109502:=Nat
def tw14841107775196871832:=Nat
def tw14380331680104490913:=Nat
def tw15830771037680557131:=Nat
def tw3765828839570265193:=Nat
def tw4629826556172647755:=Nat
def tw7943605433471365412:=Nat
def tw1999784905144902209:=Nat
def tw2235946405986725953:=Nat
def tw16470677776172347446:=Nat
def tw14649217322861571258:=Nat
def tw10952087776222803885:=Nat
def tw4122725954635028394:=Nat
def tw1499085273675559861:=Nat
def tw81452221036298455:=Nat
def tw3452993781014728281:=Nat
def tw8072317934286240480:=Nat
def tw14375505816595595189:=Nat
def tw12494975414461703352:=Nat
def tw6910355767738201009:=Nat
def tw7879497089429387119:=Nat
def tw7074008910470305828:=Nat
def tw16564454106286564956:=Nat
def tw13733452102190563569:=Nat
def tw8743279823469250607:=Nat
def tw8584746312654631475:=Nat
def tw2770163115103898033:=Nat
def tw14595697802293374406:=Nat
def tw5131009497907406073:=Nat
def tw6827456251296660762:=Nat
def tw2802673115903470829:=Nat
def tw13947641246112284985:=Nat
def tw5199312845251470953:=Nat
def tw1554833763182976173:=Nat
def tw9300281808818698710:=Nat
def tw1845472750158515568:=Nat
def tw2429535680161997316:=Nat
def tw8696821743703925849:=Nat
def tw18143070154162324849:=Nat
def tw17125929649681554788:=Nat
def tw8805515838185285708:=Nat
def tw1847577534337237562:=Nat
def tw6532191987099957640:=Nat
def tw3718710422538036136:=Nat
def tw12630380236629948097:=Nat
def tw13789010819920743967:=Nat
def tw2698570829830518939:=Nat
def tw699594064320914342:=Nat
def tw12385077266349458333:=Nat
def tw11646380778819750018:=Nat
def tw16364491243767795615:=Nat
def tw10541671193052514175:=Nat
def tw3678174580520123022:=Nat
def tw2957940227237709294:=Nat
def tw1126791914681561429:=Nat
def tw4444119128217888905:=Nat
def tw220870714415068377:=Nat
def tw10001253565256425382:=Nat
def tw6053347005098668191:=Nat
def tw10699175776380070319:=Nat
def tw521188102255506991:=Nat
def tw17881137032108721421:=Nat
def tw1242030917450487405:=Nat
def tw6097990242855288603:=Nat
def tw4794581482469558464:=Nat
def tw16142572359816480346:=Nat
def tw13806965884848395392:=Nat
def tw16580297034166190019:=Nat
def tw676458725493131959:=Nat
def tw8586240182099005430:=Nat
def tw16007266263454006595:=Nat
def tw15837530589080137618:=Nat
def tw8578890031239720323:=Nat
def tw1252609402021791457:=Nat
def tw881057553796426807:=Nat
def tw16490185060179113443:=Nat
def tw15195883268364355531:=Nat
def tw2327165751777003092:=Nat
def tw6887520785198185788:=Nat
def tw16555131287958653217:=Nat
def tw13523322963832699216:=Nat
def tw6750529667778341298:=Nat
def tw17364494484997710740:=Nat
def tw11610069301232192623:=Nat
def tw10565272368797928707:=Nat
def tw13120818616957432571:=Nat
def tw17326518769056326927:=Nat
def tw4995274646807206131:=Nat
def tw17052205877416316691:=Nat
def tw4921670594893545770:=Nat
def tw8578498377498311019:=Nat
def tw5780124676035619797:=Nat
def tw7650292043165843856:=Nat
def tw2238856502083126435:=Nat
def tw8516060297696729785:=Nat
def tw12065986700157949005:=Nat
def tw13517773309408265615:=Nat
def tw3891067901700563150:=Nat
def tw11049313629509523908:=Nat
def tw3207424482767905963:=Nat
def tw11625931685906551989:=Nat
def tw15685999115051786468:=Nat
def tw11257196476439189917:=Nat
def tw9921782354096158428:=Nat
def tw4215080234987667765:=Nat
def tw2402732192175225730:=Nat
def tw16078379897938306491:=Nat
def tw3353625557056735364:=Nat
def tw14298467877629041269:=Nat
def tw9228563441612312029:=Nat
def tw16737240810380187794:=Nat
def tw17251764374249077977:=Nat
def tw6118306787744462495:=Nat
def tw17897603516949483353:=Nat
def tw13853727467853218906:=Nat
def tw2291972272828813912:=Nat
def tw7472777842714079843:=Nat
def tw18193324136242215867:=Nat
def tw12245248524033412129:=Nat
def tw9787633017373362173:=Nat
def tw18271112284161054672:=Nat
def tw17780927845373765358:=Nat
def tw10096020618207979122:=Nat
def tw5497168269345961317:=Nat
def tw12399496991442074143:=Nat
def tw3579856168508751317:=Nat
def tw17921810565562130280:=Nat
def tw4950985076934239339:=Nat
def tw16068412475882403224:=Nat
def tw4928803022731963397:=Nat
def tw9650422610855905236:=Nat
def tw11498938400860927567:=Nat
def tw2929000724549531762:=Nat
def tw16709930114357221040:=Nat
def tw6163434877800032618:=Nat
def tw17133458070459576160:=Nat
def tw11862880786323170782:=Nat
def tw18009053415043016176:=Nat
def tw3545655482437347550:=Nat
def tw3957806240241183624:=Nat
def tw17886708500301243574:=Nat
def tw2530302120731866892:=Nat
def tw5294794601852967214:=Nat
def tw2006355659580636540:=Nat
def tw14055245367601153690:=Nat
def tw5096883281411194019:=Nat
def tw16932593924446072918:=Nat
def tw3347054852327370254:=Nat
def tw5885777384150925448:=Nat
def tw161526767342837691:=Nat
def tw11275474615830086935:=Nat
def tw14753411085883648287:=Nat
def tw7058587251276186221:=Nat
def tw15601718026829567332:=Nat
def tw7103671557396806988:=Nat
def tw15728542443494665640:=Nat
def tw15537424122578585350:=Nat
def tw4620590536166084601:=Nat
def tw3862962223593621996:=Nat
def tw3008009703436975655:=Nat
def tw1239282262234730371:=Nat
def tw4672657690636788397:=Nat
def tw14701575296934034918:=Nat
def tw4019605145989575850:=Nat
def tw2671041223171094733:=Nat
def tw17335870954827404609:=Nat
def tw7122622153586059750:=Nat
def tw13412197939801264623:=Nat
def tw8991564884830292934:=Nat
def tw16170604513910515572:=Nat
def tw5454428296696269346:=Nat
def tw360379668481375102:=Nat
def tw12747308841490243153:=Nat
def tw5462001000360723937:=Nat
def tw5850373032557306486:=Nat
def tw12401386252002533390:=Nat
def tw13541808233184091724:=Nat
def tw15560326708964688553:=Nat
def tw13066213948623958107:=Nat
def tw1386727588741136287:=Nat
def tw7560342954355641065:=Nat
def tw5382236518814166561:=Nat
def tw12995675484767035046:=Nat
def tw13162053325855444835:=Nat
def tw3700063148426769652:=Nat
def tw11693968570172340122:=Nat
def tw4883352886403944668:=Nat
def tw2917324847433478460:=Nat
def tw1139961504353906432:=Nat
def tw6057346828106969164:=Nat
def tw4023112486861712714:=Nat
def tw16069206668640769934:=Nat
def tw11307066171689477173:=Nat
def tw8023487515175896117:=Nat
def tw7212225044473392401:=Nat
def tw16149591321457797226:=Nat
def tw14692677727755475485:=Nat
def tw512992140544844232:=Nat
def tw10264049633119292765:=Nat
def tw3358636724740143813:=Nat
def tw2110680256083874686:=Nat
def tw13777018021141526520:=Nat
def tw2472928916798698498:=Nat
def tw15344026283486494399:=Nat
def tw1634076350541114578:=Nat
def tw14757146005712995176:=Nat
def tw164943630309880994:=Nat
def tw17584999867246371115:=Nat
def tw8609275845385766831:=Nat
end PySem.W.Fast
open PySem PySem.W PyProof.Rows
set_option maxRecDepth 100000 in
set_option maxHeartbeats 0 in
theorem PySem.Challenge.cw_roadsall_k89_whole_judge_beyond_two_thou_holds : PySem.Challenge.rw_roadsall_k89_whole_judge_beyond_two_thou.Holds := by
 w_on;o_law;k_head;(case hw=>w_witness2)
 k_fill
 refine L2.Dr (l:=PySem.Challenge.rw_roadsall_k89_whole_judge_beyond_two_thou) (n:=63) (k:=200) (x:="_law_script") (CX:=L2.nR) (sp:=fun K=>Ev.nc K (Ev.IY My.Gv My.Att My.Tb 200 "law")) rfl (by decide) rfl ⟨rfl,by decide,by decide⟩ (fun w h Y=>PySem.W.km_in_of Y) (fun w=>by kernel_rfl) (fun w h Y=>My.Ha Y (by kernel_rfl) (by kernel_rfl)) ?F ?S ?C
 case F=>
  intro w mg fa h KX G hmg
  have T:Ev.TOk w My.Gv My.Att My.Tb (L2.Sd KX) mg:=by
   dsimp only [L2.Sd]
   refine' My.Mi KX G ?cb ?cc ?cs ?hh ?lmk ?gv0 ?gv1 ?gv2 ?gv3 ?gv4 ?z
   case cb=>exact⟨⟨by k_is,by k_is,by k_is,by k_is,by k_is,by k_is,by k_is⟩,by k_is,by k_is,by k_is,by k_is,by k_is,⟨_,_,_,_,_,_,_,_,_,_,by k_is,by k_is,by k_is,by k_is,by k_is⟩,⟨_,_,_,_,_,_,_,_,_,_,by k_is,by k_is,by k_is,by k_is,by k_is⟩⟩
   case cc=>exact⟨⟨by k_is,by k_is,by k_is,by k_is,by k_is,by k_is,by k_is⟩,by k_is,by k_is,by k_is,by k_is,by k_is,by k_is,by k_is,⟨_,_,_,_,_,_,_,_,_,_,by k_is,by k_is,by k_is,by k_is,by k_is⟩,⟨_,_,_,_,_,_,_,_,_,_,by k_is,by k_is,by k_is,by k_is,by k_is⟩,⟨_,_,_,_,_,_,_,_,_,_,by k_is,by k_is,by k_is,by k_is,by k_is⟩⟩
   case cs=>exact⟨⟨by k_is,by k_is,by k_is,by k_is,by k_is,by k_is,by k_is⟩,by k_is,by k_is,by k_is,by k_is,⟨_,_,_,_,_,_,_,_,_,_,by k_is,by k_is,by k_is,by k_is,by k_is⟩,⟨_,_,by k_is,by first|rfl|kernel_rfl⟩⟩
   case hh=>
    intro d hd
    simp only [My.MO,List.mem_cons,List.not_mem_nil,or_false] at hd
    rcases hd with rfl|rfl|rfl|rfl|rfl|rfl|rfl|rfl|rfl|rfl|rfl|rfl|rfl|rfl|rfl|rfl|rfl|rfl|rfl|rfl|rfl|rfl|rfl|rfl|rfl|rfl|rfl|rfl|rfl|rfl|rfl|rfl|rfl|rfl|rfl|rfl|rfl|rfl|rfl|rfl|rfl|rfl|rfl|rfl|rfl|rfl|rfl|rfl|rfl <;> (dsimp only [My.jz,My.jD,My.mx,My.sH,My.mv,My.lc,My.k4,My.mE,My.ml,My.sG,My.mo,My.iM,My.jy,My.mq,My.k6,My.k_,My.oq,My.lf,My.k7,My.om,My.mw,My.j5,My.fm,My.jA,My.k9,My.mu,My.iK,My.k8,My.wu,My.gh,My.jC,My.k5,My.jE,My.oo,My.qL,My.jB,My.ie,My.on,My.iL,My.ib,My.fQ,My.j4,My.gc,My.mD,My.h_,My.sF,My.mB,My.my,My.pD,My.f_];exact⟨_,_,_,_,_,_,_,_,_,_,by k_is,by k_is,by k_is,by k_is⟩)
   case lmk=>kernel_rfl
   case gv0=>exact⟨_,_,_,_,_,_,by k_is,by k_is⟩
   case gv1=>exact⟨_,_,_,_,_,by k_is,by k_is⟩
   case gv2=>exact⟨_,_,_,_,_,by k_is,by k_is⟩
   case gv3=>exact⟨_,by k_is⟩
   case gv4=>exact⟨_,_,_,_,_,_,by k_is,by k_is⟩
   case z=>
    intro x hx
    simp only [Ev.FP,List.mem_cons,List.not_mem_nil,or_false] at hx
    rcases hx with rfl|rfl|rfl|rfl|rfl|rfl|rfl|rfl|rfl|rfl|rfl|rfl|rfl|rfl|rfl|rfl|rfl|rfl|rfl <;> k_is
  obtain⟨f,fd,h1⟩:=T.fn My.pD (by simp [My.Tb,My.MO])
  have e0:=hmg.symm.trans (h1.gl (by decide +kernel))
  cases e0
  refine⟨fd,?_,fun base kb nb=>(Ev.BE T 200).1 My.pD (by simp [My.Tb,My.MO]) _ fd h1.fn⟩
  obtain⟨kV,doc,pm,an,cdv,ct,rfl⟩:=h1.pl (by decide +kernel)
  exact fun s v=>.of_eq rfl
 case S=>exact fun w H a ns hl hO hS=>My.Eu hl hO hS
 case C=>exact fun _ _ _ _ z=>z
