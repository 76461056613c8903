import PyProof.Rows.All
import Wide.All
import OpenK.AllK
import Wide.FinOn
import Lean
import PyProof.EqAt
import PyProof.EqKinds
import PyProof.TupleCall
import PySem.Challenge.RW_roadsall_k51_whole_goings
set_option Elab.async false
set_option linter.all false
set_option maxRecDepth 100000
set_option maxHeartbeats 4000000
noncomputable section
abbrev VP:=PySem.Value->PySem.Shared->Prop
abbrev PN:=List (PySem.Addr×PySem.Obj)
abbrev SV:=PySem.Str->Option PySem.Value
abbrev Aa:=PySem.Addr->Prop
abbrev LS:=List PySem.Str
abbrev LV:=List PySem.Value
abbrev Ab:=List PySem.Expr
abbrev OV:=Option PySem.Value
abbrev FG:=PySem.W.Frag
open PySem.PyData renaming strOk->aW,eqv->eA,depthAll->p6,canLayAll0->vM,depth->sg,eqvAll->yN,canLay0->Dx
open PySem.Builtin.Tuple renaming tupleExact->yM,tupleItemsOf->Dw,tupleHashOf->Jk,tupleTooMany->JN
open PySem.W renaming keepIn->dD,findIn->dC,emptyDict->jO,codeIn->iZ,instObj->kq,fnOf->iY,callWith_K->p_,plainGet->p9,tabObj->p7,CodeHd->p0,hasDictIn->ur,nsIn->pZ,kia_one->ui,lookIn->uc,plainGet_of->xG,plainOver->xF,methodObj->xE,isFn->t6,codeHdIn->xD,takerIn->xB,makesIn->xA,noTabs->xz,mg_of->xy,mem_of_lookupK->DI,cellsFrom_some->DH,methodCall_KW->DG,pyHash_slot->DF,codeHd_of_K->DE,specialIn->DD,kitx_int->DC,handedIn->DB,OpenLaw->DA,KasFin->Dz,WalkO->Dy
open PySem renaming wpAny_bind->ab,wpAny_pure->ao,wpAny_mono->cD,wpAny_field->dt,wpAny_Call_Name_kw->iX,wpAny_holding->fE,wpAny_seqItems->iW,wpAny_truthy_bool->ko,call_meets->gJ,wpAny_callSpecial?_slot->pY,wpAny_passesOwn->lE,wpAny_loadPart'->lD,mem_of_lookup->pX,wpAny_call_entry->nB,wpAny_setField_rec->pW,tupleKind_room_in1->pV,wpAny_typeOf->lC,wpAny_newObj_type->pU,codeAny_mono->nA,wpAny_pyIter_tuple->tu,wpAny_pyIter_enum->tt,sizeLine_eq->nz,wpAny_nextOf_list_item->xx,call_meetsIn->pT,wpAny_execs_nil->tq,codeAny_builtin->tm,builtinLookup_eq_fast->xw,wpAny_loadName_local->xu,wpAny_standAt->tj,plainId_quiet->tf,wpAny_rule->pS,wpAny_call->pR,wpAny_Name->pQ,typeIs_int->pP,wpAny_pyIter_list->xt,wpAny_assign_Name->xq,wpAny_Call_method->xp,noFill_tuple_add->xo,typeLookup_type->xn,Within->xm,wpAny_newTuple->xl,wpAny_letOwnedTupleGo_enum->Dv,wpAny_binaryOp_repeat_ref->Du,wpAny_onRaise->xk,seq_tuple_add->xj,wpAny_pyNext_list_item->Dt,wpAny_Call_method_late->Ds,wpAny_Assign_Subscript->Dr,seqSlot_of->Dq,seqIndex_neg->xi,concat_meets->xh,wpAny_pyNext_list_end->Dp,wpAny_notOrdered_dict->Do,wpAny_nextOf_list_end->Dn,exec_Assign_Name_used->Dm,wpAny_updateSeq_pair->A3,wpAny_newFunctionEnv->A2,seqIndex_of->ux,wpAny_loadName_free->A1,wpAny_loadName_cell->A0,wpAny_setItem_heap->AZ,wpAny_dictSet_heap->AY,sub_AttributeError->AX,wpAny_sequenceKey->AW,slot_list_getitem->AV,slot_dict_getitem->AU,wpAny_pyHash_str->AT,wpAny_pyHash_int->AS,wpAny_isInstance->AR,wpAny_forIn_list->AQ,wpAny_execs_cons->AO,wpAny_eqBool_str->AN,wpAny_eqBool_int->AM,wpAny_Dict_empty->AL,kt_code_dict_new->AK,beq_builtin_none->AJ,wpAny_tryCatch->AI,wpAny_setField->AH,callType_codes->AG,wpAny_newList->AF,rangeSize_one->AE,eval_ListComp->AD,evalPart_none->AC,call_list_seq->AB
open Array renaming length_toList->mB,forIn_toList->pE,getElem?_eq_some_iff->AA,getElem?_append_left->Az,getElem?_eq_getElem->Ay,size_append->Ax,all_append->Aw,toList->Av
open PySem.Around renaming in1_units->my,under_plainId->pD,under->uw,frames_deeper->Au
open Bool renaming and_eq_true->ar,false_ne_true->bx,eq_iff_iff->kX,not_eq_true'->mx,false_or->kW,not_true->mw,and_true->mu,false_eq_true->uv,or_eq_true->uu,true_and->ut,or_eq_false_iff->As
open List renaming mem_cons_of_mem->aG,mem_cons_self->aH,getElem?_set_ne->aP,map_cons->az,mem_of_getElem?->a8,getElem?_eq_getElem->bo,getElem?_eq_some_iff->bw,length_append->aZ,getElem?_append_right->bI,length_cons->aV,getElem?_set_self->bv,getElem?_append_left->bL,mem_cons->aN,size_toArray->bc,length_map->aX,all_eq_true->a_,mem_map->aU,mem_append->bA,mem_singleton->b_,mem_flatMap->bQ,replicate_succ->cF,getElem?_map->b9,nodup_cons->bP,eq_nil_of_length_eq_zero->g_,not_mem_nil->de,mem_append_right->eS,append_nil->cP,length_set->db,set_set->cE,getElem?_take_of_lt->g9,set_getElem_self->gp,all_cons->c_,any_cons->dv,length_filter_le->g8,append_assoc->fK,nil_append->eR,flatten_cons->gn,mem_filter->fJ,foldl_cons->fI,mem_iff_getElem->iJ,mem_append_left->iI,map_nil->dY,getD_eq_getElem?_getD->kU,flatMap_cons->g7,length_take->g6,getElem_mem->g0,getElem?_cons_succ->kT,forIn_cons->iH,find?_cons->iG,nodup_append->jN,lookup->fH,mem_range->iF,getElem?_cons_zero->mq,mem_filterMap->kS,map_append->jM,filterMap_cons->mn,mem_replicate->ml,map_map->jL,length_singleton->pC,getElem?_eq_none->pB,take_length->mj,isEmpty_iff->mi,filter_eq_self->pA,nodup_nil->mh,drop_zero->mf,pairwise_iff_getElem->uq,lookup_cons->pu,getElem_map->pq,getElem?_replicate->uo,filter_cons_of_pos->um,filter_cons_of_neg->ul,drop_length->pj,cons_append->pi,any_eq_true->ph,all_nil->ma,length_nil->pf,length_replicate->uk,mem_of_mem_take->uj,length->l_,findIdx?_eq_some_iff_getElem->Ar,range'_succ->uh,length_drop->ug,of_mem_zip->uf,filter_map->ue,foldl->pe,drop_drop->ud,mem_of_find?_eq_some->Aq,getElem?_eq_none_iff->Ap,drop_eq_getElem_cons->Ao,mem_of_mem_eraseIdx->An,map_take->ua,length_eraseIdx_le->Am,take_of_length_le->Al,filter_eq_nil_iff->Ak,set_append_right->Aj,pairwise_flatMap->Ai,mem_of_mem_drop->Ah,map_id->t_,map_congr_left->Ag,length_pos_iff->Af,zip_cons_cons->Ae,map_inj_right->Ad,take_sublist->Ac,pairwise_map->z_,length_range->z5,mem_reverse->z4,flatMap_def->z3,foldr_cons->z0,find?_some->zZ,forIn_nil->zY,range'->zX
abbrev aJ:=@of_decide_eq_true
abbrev ac:=@if_pos
abbrev af:=@if_neg
abbrev bj:=@decide_eq_false
abbrev gZ:=@beq_eq_false_iff_ne
abbrev gY:=@decide_eq_true
abbrev cZ:=@or_false
abbrev cY:=@congrArg
abbrev jK:=@if_false
abbrev l8:=@beq_iff_eq
abbrev jJ:=@if_true
abbrev t8:=@decide_eq_true_eq
abbrev kQ:=@not_or
open PySem.SeqAt renaming readOf->l7,eqv_refl->zW,shaped->zV,eqAt_reads->Hf
open Sum.inr renaming inj->gX
open PySem.Heap renaming get?_push_of_some->aO,lt_size->aC,get?_push_size->br,SameBut->dX,size_push->l0,get?_update_self->t5,get?_update_other->zU,get?_none_of_le->zT,ExtBut->tZ,NewAttrErr->zS,IsTuple->zR
open Option.some renaming inj->cw,injEq->He
open Nat renaming le_refl->ah,le_trans->au,lt_of_lt_of_le->bF,ne_of_lt->bb,ne_of_gt->bO,zero_le->bX,lt_irrefl->eQ,le_of_lt->eP,zero_add->fG,lt_of_le_of_lt->jI,lt_succ_self->jH,le_succ->iD,mul_le_mul_left->pc,mul_comm->kP,lt_trans->kO,mul_le_mul->lZ,succ_mul->lY,pow_le_pow_right->tY,mul_assoc->pb,pow_succ->pa,le_of_succ_le->tX,add_sub_cancel_left->zQ,sub_zero->tW,lt_or_ge->tU,le_of_eq->tT,not_lt->tS,eq_zero_or_pos->zP,add_sub_cancel->zO,le_succ_of_le->zN,ble->o_,min_eq_right->zM,le_add_right->zL,min_eq_left->zK,sub_self->zJ,mul_succ->zI,add_comm->zH,log2_lt->zG
open Ne renaming symm->aI
open PySem.Calls renaming spliced_cons->du,spliced_nil->gm,callWith_builtin->kN,evalArgs_plain->lX,Name_function_global->tR,loadGlobal_global->zF
open PyProof.Rows renaming callWith_type1->jG,slot_tuple_getitem->jF,boot_list->tP,boot_dict->zE,boot_int->zD,reads_list_at->tN,subscriptTail_builtinR->zC,tail_any->o8,lt_int->zB,entry_tuple_getitem->zA,args_tuple_getitem->zz,get?_update_seq->zy,callWith_builtin1->Hd,boot_zip->Hc,boot_tuple->Hb,boot_sorted->Ha,boot_isinstance->G',boot_bool->G_,boot_abs->G9,slicePart_none->zx,boot_enumerate->zw,tupleItemsOf_->zu,listUpdate_at->zt
open PySem.EqNone renaming ne_str_none->G8,ne_none_str->G7,ne_none_none->G6,ne_none_int->G5,ne_none_bool->G4,ne_int_none->G3,ne_bool_none->G2,eq_str_none->G1,eq_none_str->G0,eq_none_none->GZ,eq_none_int->GY,eq_none_bool->GX,eq_int_none->GW,eq_bool_none->GV
open PySem.EqMixed renaming ne_str_int->GU,ne_str_bool->GR,ne_int_str->GQ,ne_bool_str->GP,eq_str_int->GO,eq_str_bool->GN,eq_int_str->GL,eq_bool_str->GK
open Option renaming map_eq_some_iff->dW,bind_some->jE,isSome_iff_exists->tM,bind_eq_some_iff->tL,map->tK,isSome_map->zr,getD_none->zq
open PySem.F renaming slot_dict_get->kM,slot_tuple_iterator_next->o7,plainAttrs_list->o6,slot_tuple_mul->o5,entry_dict_get->o4,slot_int_rmul->o0,args_tuple_add_2->tJ,plainAttrs_dict->tH,entry_tuple_add->tG,slot_tuple_add->tF,slot_list_getattribute->tD,slot_zip_getattribute->tB,slot_dict_setdefault->zp,slot_tuple_index->zo,args_tuple_mul_2->zn,slot_tuple_rmul->zm,slot_list_index->zj,entry_tuple_mul->zi,args_dict_get_3->zh,args_dict_get_2->zg,args_tuple_iterator_next_1->zf,type_dict_get->ze,entry_tuple_iterator_next->zd,slot_list_extend->zc,slot_list_append->zb,slot_list_clear->y',args_int_rmul_2->y_,slot_int_index->y9,entry_int_rmul->y8,fills_int_mul->y7,kt_typeCall_dict_1->y6,args_dict_init_2->y4,entry_dict_init->y3,kt_called_dict->y2,slot_zip_next->y0
open Int renaming zero_add->cO,emod_nonneg->gj,emod_lt_of_pos->iC,toNat_natCast->oZ,toNat_of_nonneg->yZ,natCast_mul->yY,le_of_lt->yX
open PySem.Builtin.Slice renaming slicePlaces->oY,sliceAdjust->tz,sliceApplied->yW,slicePartIndex->GJ,sliceFields->GI
open PySem.Str renaming length->lW,ofString_eq_toList->yV
open PySem.Obj renaming mapSeq->jD,mapFields->yU
open PySem.Builtin.List renaming listTooLong->oX
open PySem.AutoSeq1 renaming wpAny_loadPart'->tw,sub_tuple_tuple->yS,idx_int->yR
open List.cons renaming injEq->jC
open PySem.Heap.SameBut renaming update->lV
open PySem.Builtin.SmallTypes renaming nextOf->fF,ownedTupleIsFree->oW,ownedTupleHandOut->GH
open PySem.Builtin.Dict renaming updateFrom->oV,selfAndRest->yQ,addKeywords->yP,pairItems->yO
set_option tactic.hygienic false
namespace Nk
open PySem
mutual
noncomputable def kd:PyData->Bool
 | .none=>true
 | .int _=>true
 | .str x=>Dx (.str x)
 | .tuple xs=>kds xs
 | .bool _=>false
 | .list _=>false
 | .dict _=>false
noncomputable def kds:List PyData->Bool
 | []=>true
 |x::xs=>kd x && kds xs
end
mutual
noncomputable def hk(w:World):PyData->Int
 | .none=>PySem.W.hashW w.params .none
 | .int i=>hashInt i
 | .str x=>hashStr w x
 | .tuple xs=>reduceHash (Jk (Om w xs))
 | .bool _=>0
 | .list _=>0
 | .dict _=>0
noncomputable def Om(w:World):List PyData->List Int
 | []=>[]
 |x::xs=>hk w x::Om w xs
end
mutual
noncomputable def dr:PyData->Nat
 | .tuple xs=>Py xs+1
 | .none=>1
 | .int _=>1
 | .str _=>1
 | .bool _=>0
 | .list _=>0
 | .dict _=>0
noncomputable def Py:List PyData->Nat
 | []=>0
 |x::xs=>dr x+Py xs
end
noncomputable instance decPD:DecidableEq PyData:=λa b=>Classical.propDecidable (a=b)
section
variable{prog:Program}{w:World}{E:VP}
mutual
theorem BO:∀(d:PyData)(v:Value)(as:List Addr)(A:Around)(s:Shared)(Q:Int->Shared->Prop),kd d=true->Reads s.heap v d as->A.units+d.depth < cLine->Q (hk w d) { s with toks:=s.toks+dr d }->wpAny (model prog w) A (pyHash v) Q E s
 | .none,_,_,A,s,Q,_,r,hu,h=>by cases r;exact DF (T:="NoneType") rfl F.slot_NoneType_hash F.entry_NoneType_hash (F.args_NoneType_hash_1 _) (AJ _) (.inr (by lia)) (ab (ao (ab (wpAny_mkInt (ao ⟨_,_,rfl,h⟩)))))
 | .int _,_,_,_,_,_,_,r,_,h=>by cases r;exact AS h
 | .str _,_,_,_,_,_,_,r,_,h=>by cases r;exact AT h
 | .tuple xs,_,_,A,s,Q,k,r,hu,h=>by
  cases r with
  | @tuple a o vs n _ _ g1 g2 g3 g4=>simp only[sg]at hu;refine DF ⟨o,g1,g2⟩ F.slot_tuple_hash F.entry_tuple_hash (F.args_tuple_hash_1 _) (AJ _) (.inr (by lia)) ?_;show wpAny _ _ (Dw (.ref a) >>= _) _ _ s;refine ab (wpAny_tupleItemsOf g1 g3 (ab ?_));rw[<- pE];refine wI xs vs.toList _ A.in1 s #[] _ k g4 (by rw[my];lia) λb e=>?_;show wpAny _ _ (retInt (Jk b.toList)) _ _ _;rw[e];exact ab (wpAny_mkInt (ao ⟨_,_,rfl,h⟩))
 | .bool _,_,_,_,_,_,k,_,_,_ | .list _,_,_,_,_,_,k,_,_,_ | .dict _,_,_,_,_,_,k,_,_,_=>nomatch k
theorem wI:∀(xs:List PyData)(vs:LV)(as:List Addr)(A:Around)(s:Shared)(b:Array Int)(Q:Array Int->Shared->Prop),kds xs=true->ReadsAll s.heap vs xs as->A.units+p6 xs < cLine ->
  (∀b',b'.toList=b.toList++Om w xs->Q b' { s with toks:=s.toks+Py xs })->wpAny (model prog w) A (forIn vs b λx r=>do let h <- pyHash x;pure PUnit.unit;pure (ForInStep.yield (r.push h))) Q E s
 | [],_,_,_,s,b,_,_,r,_,h=>by cases r;exact ao (h b (by simp[Om]))
 |d::xs,_,_,A,s,b,Q,k,r,hu,h=>by
  cases r with
  |cons r1 r2=>
   simp only[kds,ar]at k;simp only[p6]at hu;rw[iH];refine ab (ab (BO d _ _ A s _ k.1 r1 (by lia) ?_));refine ao (wI xs _ _ A { s with toks:=s.toks+dr d } _ Q k.2 r2 (by lia) λb' e=>?_);have:=h b' (by rw[e];simp[Om])
   simpa[Py,Nat.add_assoc] using this
end
end
mutual
theorem Ix:∀d:PyData,kd d=true->d.canLay0=true
 | .none,_ | .int _,_=>rfl
 | .str _,k=>k
 | .tuple xs,k=>by have:=wy xs k;simpa[Dx] using this
 | .bool _,k | .list _,k | .dict _,k=>nomatch k
theorem wy:∀xs:List PyData,kds xs=true->vM xs=true
 | [],_=>rfl
 |d::xs,k=>by simp only[kds,ar]at k;simp[vM,Ix d k.1,wy xs k.2]
end
mutual
theorem eqv_kd:∀a b:PyData,kd a=true->kd b=true->(eA a b=true↔a=b)
 | .none,.none,_,_=>by simp[eA]
 | .none,.int _,_,_ | .none,.str _,_,_ | .none,.tuple _,_,_=>by simp[eA]
 | .int _,.none,_,_ | .int _,.str _,_,_ | .int _,.tuple _,_,_ | .int _,.int _,_,_=>by simp[eA]
 | .str _,.none,_,_ | .str _,.str _,_,_ | .str _,.tuple _,_,_ | .str _,.int _,_,_=>by simp[eA]
 | .tuple _,.none,_,_ | .tuple _,.str _,_,_ | .tuple _,.int _,_,_=>by simp[eA]
 | .tuple xs,.tuple ys,h,k=>by have:=BU xs ys h k;simp[eA,this]
 | .bool _,_,k,_ | .list _,_,k,_ | .dict _,_,k,_=>nomatch k
 | .none,.bool _,_,k | .none,.list _,_,k | .none,.dict _,_,k | .int _,.bool _,_,k | .int _,.list _,_,k | .int _,.dict _,_,k=>nomatch k
 | .str _,.bool _,_,k | .str _,.list _,_,k | .str _,.dict _,_,k | .tuple _,.bool _,_,k | .tuple _,.list _,_,k | .tuple _,.dict _,_,k=>nomatch k
theorem BU:∀xs ys:List PyData,kds xs=true->kds ys=true->(yN xs ys=true↔xs=ys)
 | [],[],_,_=>by simp[yN]
 | [],_::_,_,_|_::_,[],_,_=>by simp[yN]
 |x::xs,y::ys,h,k=>by simp only[kds,ar]at h k;simp[yN,eqv_kd x y h.1 k.1,BU xs ys h.2 k.2]
end
mutual
theorem stay:∀(x:PyData){h h':Heap}{v:Value}{as:List Addr},kd x=true->Reads h v x as->(∀b o,h.get? b=some o->o.cls=.type "tuple"->(∃vs n,o.data=.seq vs n)->h'.get? b=some o)->Reads h' v x as
 | .none,_,_,_,_,_,r,_ | .int _,_,_,_,_,_,r,_ | .str _,_,_,_,_,_,r,_=>by cases r;constructor
 | .tuple xs,_,_,_,_,k,r,q=>by
  cases r with
  |tuple g1 g2 g3 g4=>exact .tuple (q _ _ g1 g2 ⟨_,_,g3⟩) g2 g3 (stays xs k g4 q)
 | .bool _,_,_,_,_,k,_,_ | .list _,_,_,_,_,k,_,_ | .dict _,_,_,_,_,k,_,_=>nomatch k
theorem stays:∀(xs:List PyData){h h':Heap}{vs:LV}{as:List Addr},kds xs=true->ReadsAll h vs xs as->(∀b o,h.get? b=some o->o.cls=.type "tuple"->(∃vs n,o.data=.seq vs n)->h'.get? b=some o)->ReadsAll h' vs xs as
 | [],_,_,_,_,_,r,_=>by cases r;constructor
 |x::xs,_,_,_,_,k,r,q=>by
  simp only[kds,ar]at k;cases r with
  |cons r1 r2=>exact .cons (stay x k.1 r1 q) (stays xs k.2 r2 q)
end
section
variable{prog:Program}{w:World}{E:VP}
mutual
theorem wb:∀(d:PyData)(n:Nat)(v:Value)(as:List Addr)(A:Around)(s:Shared)(Q:Bool->Shared->Prop),kd d=true->d.depth≤n->Reads s.heap v d as->Q true s->wpAny (model prog w) A (eqIsQuiet n v) Q E s
 | .none,n,_,_,_,_,_,_,_,r,q | .int _,n,_,_,_,_,_,_,_,r,q | .str _,n,_,_,_,_,_,_,_,r,q=>by cases r;rw[eqIsQuiet_byValue n rfl];exact ao q
 | .tuple xs,n,_,_,A,s,Q,k,l,r,q=>by
  simp only[sg]at l;obtain⟨n,rfl⟩:∃m,n=m+1:=⟨n-1,by lia⟩;cases r with
  | @tuple a o vs m _ _ g1 g2 g3 g4=>
   have T:s.TypeIs (.ref a) "tuple":=⟨o,g1,g2⟩;unfold eqIsQuiet;refine ab (wpAny_specialOf T F.slot_tuple_eq.lookup ?_);show wpAny _ _ (isInstance (.ref a) (.type "tuple") >>= _) _ _ s;refine ab (AR T isSubtype_tuple_tuple ?_);simp only[mw,uv,jK];refine ab (iW g1 g3 (ab ?_));show wpAny _ _ (forIn vs _ _) _ _ s;rw[<- pE];have all:=sr xs n vs.toList _ A s k (by lia) g4;refine AQ _ (λrest r s'=>r.1=none/\s'=s/\∀v ∈ rest,∀Q:Bool->Shared->Prop,Q true s->wpAny (model prog w) A (eqIsQuiet n v) Q E s) _ ?_ ?_ _ _ ⟨rfl,rfl,λv hv Q=>all v hv Q⟩
   .rintro v rest ⟨r1,r2⟩ s' ⟨e1,e2,hall⟩;subst e2;refine ab (hall v aH _ ?_);simp only[mw,uv,jK];exact ao ⟨rfl,rfl,λu hu=>hall u (aG _ hu)⟩
   .rintro ⟨r1,r2⟩ s' ⟨e1,e2,_⟩;cases e1;cases e2;exact ao q
 | .bool _,_,_,_,_,_,_,k,_,_,_ | .list _,_,_,_,_,_,_,k,_,_,_ | .dict _,_,_,_,_,_,_,k,_,_,_=>nomatch k
theorem sr:∀(xs:List PyData)(n:Nat)(vs:LV)(as:List Addr)(A:Around)(s:Shared),kds xs=true->p6 xs≤n->ReadsAll s.heap vs xs as->∀v ∈ vs,∀Q:Bool->Shared->Prop,Q true s->wpAny (model prog w) A (eqIsQuiet n v) Q E s
 | [],_,_,_,_,_,_,_,r,v,hv,_,_=>by cases r;cases hv
 |x::xs,n,_,_,A,s,k,l,r,v,hv,Q,q=>by
  simp only[kds,ar]at k;simp only[p6]at l;cases r with
  |cons r1 r2=>
   rcases aN.mp hv with rfl|hv
   .exact wb x n _ _ A s Q k.1 (by lia) r1 q
   .exact sr xs n _ _ A s k.2 (by lia) r2 v hv Q q
end
end
def nest(prog:Program)(w:World):HeapKind prog w PyData where
 is:=λh d a=>kd d=true/\d.depth≤8/\∃n,Reads h (.ref a) d n
 hash:=hk w
 draws:=dr
 room:=λA=>A.units+8 < cLine
 inj:=λx y=>by obtain⟨k,_,_,r⟩:=x;obtain⟨_,_,_,m⟩:=y;exact PySem.SeqAt.Reads.unique _ _ _ _ _ (Ix _ k) r m
 keeps:=λx hd v j=>by obtain⟨k,l,n,r⟩:=x;refine⟨k,l,n,stay _ k r λb o c _ f=>?_⟩;refine(j.2 b λe=>?_).trans c;subst e;obtain⟨_,_,f⟩:=f;rw[hd]at c;cases c;rw[v]at f;cases f
 pyHash:=λu x q=>by obtain⟨k,l,n,r⟩:=x;exact BO _ _ _ _ _ _ k r (by lia) q
 eqBool:=λ{A E s x y a b Q} u g i q=>by
  obtain⟨k,l,n,r⟩:=g;obtain⟨t,z,p,m⟩:=i;have e:=Hf x y A s _ _ n p r m (Ix _ k) (Ix _ t) (by lia);refine e prog w E Q ?_;have:eA x y=decide (x=y):=by rw[kX,eqv_kd x y k t,decide_eq_true_iff]
  rw[this];exact q
 quiet:=λx q=>by obtain⟨k,l,n,r⟩:=x;exact wb _ 8 _ _ _ _ _ k l r q
end Nk
set_option Elab.async false
set_option linter.all false
set_option maxRecDepth 100000
namespace L2
open PySem PySem.Spec PyProof.Rows
noncomputable abbrev b0:=Sum Int Str
noncomputable def sG:b0->Value->Bool
 | .inl k,v=>Value.isInt k v
 | .inr x,v=>Value.isStrOf x v
noncomputable def Q7(w:World):b0->Int
 | .inl k=>hashInt k
 | .inr x=>hashStr w x
theorem cS:∀{k:b0}{v:Value},sG k v=true->(∃i t,k=Sum.inl i/\v=Value.int i t)\/(∃x t,k=Sum.inr x/\v=Value.str x t)
 | .inl i,v,h=>by obtain⟨t,e⟩:=Value.isInt_shape (k:=i) (v:=v) h;exact .inl ⟨i,t,rfl,e⟩
 | .inr x,v,h=>by obtain⟨t,e⟩:=Value.isStrOf_shape (x:=x) (v:=v) h;exact .inr ⟨x,t,rfl,e⟩
theorem CK(i:Int)(t:Tok):sG (.inl i) (.int i t)=true:=by simp[sG,Value.isInt]
theorem CJ(x:Str)(t:Tok):sG (.inr x) (.str x t)=true:=by simp[sG,Value.isStrOf]
theorem LN(a b:Int):decide ((Sum.inl a:b0)=Sum.inl b)=(a == b):=by
 by_cases e:a=b
 .subst e;simp
 .have h:¬(Sum.inl a:b0)=Sum.inl b:=λq=>e (Sum.inl.inj q);rw[bj h];exact(gZ.mpr e).symm
theorem LJ(a b:Str):decide ((Sum.inr a:b0)=Sum.inr b)=decide (a=b):=by
 by_cases e:a=b
 .subst e;simp
 .have h:¬(Sum.inr a:b0)=Sum.inr b:=λq=>e (gX q);rw[bj h,bj e]
theorem LM(a:Int)(b:Str):decide ((Sum.inl a:b0)=Sum.inr b)=false:=bj (λq=>nomatch q)
theorem LK(a:Str)(b:Int):decide ((Sum.inr a:b0)=Sum.inl b)=false:=bj (λq=>nomatch q)
def cc(prog:Program)(w:World):PySem.KeyKind prog w b0 where
 is:=sG
 hash:=Q7 w
 inj:=λv a b c f=>by
  rcases cS c with ⟨i,t,rfl,rfl⟩|⟨x,t,rfl,rfl⟩
  .rcases cS f with ⟨j,u,rfl,e⟩|⟨y,u,rfl,e⟩
   .injection e with s _;rw[s]
   .exact nomatch e
  .rcases cS f with ⟨j,u,rfl,e⟩|⟨y,u,rfl,e⟩
   .exact nomatch e
   .injection e with s _;rw[s]
 byValue:=λk v h=>by rcases cS h with ⟨i,t,rfl,rfl⟩|⟨x,t,rfl,rfl⟩<;>rfl
 pyHash:=λn h=>by
  rcases cS n with ⟨i,t,rfl,rfl⟩|⟨x,t,rfl,rfl⟩
  .exact AS h
  .exact AT h
 eqBool:=λm n h=>by
  rcases cS m with ⟨i,t,rfl,rfl⟩|⟨x,t,rfl,rfl⟩
  .rcases cS n with ⟨j,u,rfl,rfl⟩|⟨y,u,rfl,rfl⟩
   .rw [LN]at h;exact AM h
   .rw [LM]at h;exact SeqAt.EqAt.int_str i t y u _ _ _ _ h
  .rcases cS n with ⟨j,u,rfl,rfl⟩|⟨y,u,rfl,rfl⟩
   .rw [LK]at h;exact SeqAt.EqAt.str_int x t j u _ _ _ _ h
   .rw [LJ]at h;exact AN h
 «strs»:=λk x t v h=>by
  rcases cS h with ⟨i,u,rfl,e⟩|⟨y,u,rfl,e⟩
  .exact nomatch e
  .injection e with s _;subst s;cases v<;>rfl
theorem wt(prog:Program)(w:World)(i:Int)(t:Tok):(cc prog w).is (.inl i) (.int i t)=true:=CK i t
theorem wr(prog:Program)(w:World)(x:Str)(t:Tok):(cc prog w).is (.inr x) (.str x t)=true:=CJ x t
inductive V where
 |non|bl (b:Bool)|int (i:Int)|str (x:Str)|byt (b:Array UInt8)|flt (b:UInt64)|ref (a:Addr)|ty (n:String)
 deriving DecidableEq
def RelV:V->Value->Prop
 | .non,u=>u=Value.none
 | .bl b,u=>u=Value.bool b
 | .int i,u=>∃t,u=Value.int i t
 | .str x,u=>∃t,u=Value.str x t
 | .byt b,u=>∃t,u=Value.bytes b t
 | .flt b,u=>∃t,u=Value.float b t
 | .ref a,u=>u=Value.ref a
 | .ty n,u=>u=Value.type n
abbrev ba:List V->LV->Prop:=Paired RelV
variable{j:LV}
theorem ba.length(r:ba xs j):xs.length=j.length:=Paired.length r
theorem ba.get:∀{xs:List V}{j:LV}{i:Nat}{x:V},ba xs j->xs[i]? = some x->∃u,j[i]? = some u/\RelV x u
 |_,_,_,_,.nil,e=>by simp at e
 |_,_,0,_,.cons r _,e=>by simp at e;subst e;exact⟨_,rfl,r⟩
 |_,_,i+1,x,.cons _ t,e=>by obtain⟨u,h1,h2⟩:=ba.get (i:=i) (x:=x) t (by simpa using e);exact⟨u,by simpa using h1,h2⟩
variable{u:Value}
theorem ba.set(r:RelV x u):∀{xs:List V}{j:LV}(i:Nat),ba xs j->ba (xs.set i x) (j.set i u)
 |_,_,_,.nil=>.nil
 |_,_,0,.cons _ t=>.cons r t
 |_,_,i+1,.cons q t=>.cons q (ba.set r i t)
theorem ba.append:∀{xs ys:List V}{j w:LV},ba xs j->ba ys w->ba (xs++ys) (j++w)
 |_,_,_,_,.nil,s=>s
 |_,_,_,_,.cons r t,s=>.cons r (ba.append t s)
theorem ba.take:∀{xs:List V}{j:LV}(n:Nat),ba xs j->ba (xs.take n) (j.take n)
 |_,_,0,_=>.nil
 |_,_,_+1,.nil=>.nil
 |_,_,n+1,.cons r t=>.cons r (ba.take n t)
theorem ba.drop:∀{xs:List V}{j:LV}(n:Nat),ba xs j->ba (xs.drop n) (j.drop n)
 |_,_,0,r=>r
 |_,_,_+1,.nil=>.nil
 |_,_,n+1,.cons _ t=>ba.drop n t
def kl:Option V->OV->Prop
 |some v,some u=>RelV v u
 |none,none=>True
 |_,_=>False
def KV:List (κ×V)->List (κ×Value)->Prop:=Paired λ(p:κ×V)(q:κ×Value)=>p.1=q.1/\RelV p.2 q.2
noncomputable def kV:b0->V
 | .inl i=>.int i
 | .inr x=>.str x
def n0(h:Heap)(a:Addr)(i:Array Value):Prop:=∃o,h.get? a=some o/\(o.cls=.type "tuple"/\∃n,o.data=.seq i n)/\o.dict=none
variable{h:Heap}{a:Addr}
theorem n0.tup(x:n0 h a q):IsTup h a q:=by obtain⟨o,e,c,_⟩:=x;exact⟨o,e,c⟩
theorem n0.lt(x:n0 h a q):a < h.objs.size:=x.tup.lt
theorem n0.new(h:Heap)(i:Array Value):n0 (h.push { cls:=.type "tuple",data:=.seq i }) h.objs.size i:=⟨_,br _ rfl,⟨rfl,_,rfl⟩,rfl⟩
inductive HO where
 |lst (xs:List V)
 |tup (xs:List V)
 |dK (kvs:List (b0×V))|dT (kvs:List (List b0×V))|dN (kvs:List (PyData×V×V))
 |set (S:Int->Bool) (n:Nat)
 |ins (C dx:Addr) (fs:List (Str×V))
 |own (x:Addr)
 |xd (fs:List (Str×V))
 |met (f x:Addr)
 |rng (lo hi:Int)
 |frz (o:Obj) (u:HO)
 |tbl
 |ext (φ:Heap->Prop)
noncomputable abbrev Hp:=Addr->Option HO
noncomputable def bN(H:Hp)(a:Addr)(o:HO):Hp:=λb=>if b=a then some o else H b
variable{H:Hp}
theorem aF:bN H a o a=some o:=by unfold bN;rw[ac rfl]
variable{b:Addr}
theorem al(h:b≠a):bN H a o b=H b:=by unfold bN;rw[af h]
theorem Oc{H:Hp}{a b:Addr}{o u:HO}(h:H a=some o)(h':H b=some u)(d:o≠u):a≠b:=by intro e;subst e;rw[h]at h';exact d (cw h')
theorem bz(h:H a=some o)(h':H b=none):a≠b:=by intro e;subst e;rw[h]at h';cases h'
noncomputable def Fp:Str:="coming_rows"
noncomputable def yg:Str:="coming_rows.<locals>.<lambda>"
noncomputable def uZ:Pos:=⟨215,36,215,77⟩
def D8(p:Addr×Obj):Option Addr:=match p.2.data with
 | .fields v=>match (v[1]?:OV),(v[11]?:OV) with
  |some (.str q _),some (.ref P)=>if q=Fp then some P else none
  |_,_=>none
 |_=>none
def ce(K:FG):List Addr:=K.filterMap D8
def ym(o:Obj):Prop:=∃v t,o.data=.fields v/\v[1]? = some (.str yg t)
def rF(H:Hp)(h:Heap)(a:Addr):Prop:=∃ps,h.get? a=some (p7 ps)/\(ps=#[]\/∃c o,ps=#[rawInt uZ.line,rawInt uZ.col,.ref c]/\H c=some (.frz o (.own a))/\ym o)
section
variable(P:Program)(w:World)
def cW(H:Hp)(h:Heap)(a:Addr):HO->Prop
 | .lst xs=>xs.length≤sizeLine/\∃(its:LV)(n:Nat),ba xs its/\h.get? a=some { cls:=.type "list",data:=.seq its.toArray n }
 | .tup xs=>xs.length≤sizeLine/\∃its:LV,ba xs its/\n0 h a its.toArray
 | .dK kvs=>kvs.length≤sizeLine/\(a == sysModules)=false/\∃vs,KV kvs vs/\h.DictOf (cc P w) a vs
 | .dT kvs=>kvs.length≤sizeLine/\(a == sysModules)=false/\∃xs:List (List b0×Addr×Value),
   Paired (λ(p:List b0×V)(q:List b0×Addr×Value)=>p.1=q.1/\H q.2.1=some (.tup (p.1.map kV))/\RelV p.2 q.2.2) kvs xs /\
   ∃o es ep,h.get? a=some o/\o.ExactDict/\o.data=.dict es ep/\es.toList=xs.map (entryOfKey (tupleKind (cc P w)))/\(xs.map (·.1)).Nodup
 | .dN kvs=>kvs.length≤sizeLine/\(a == sysModules)=false/\∃xs:List (PyData×Addr×Value),Paired (λ(p:PyData×V×V)(q:PyData×Addr×Value)=>p.1=q.1/\p.2.1=V.ref q.2.1/\RelV p.2.2 q.2.2) kvs xs /\
   ∃o es ep,h.get? a=some o/\o.ExactDict/\o.data=.dict es ep/\es.toList=xs.map (entryOfKey (Nk.nest P w))/\(xs.map (·.1)).Nodup
 | .set S n=>h.SetOf (intKind P w) a S n
 | .ins C dx fs=>H dx=some (.own a)/\fs.length≤1000/\dx≠a/\h.get? a=some (kq C dx) /\
   ∃mA,h.Ns1 dx mA/\(∀f,kl (fs.lookup f) (mA f))/\xm mA (fs.map (·.1))
 | .own _=>∃o,h.get? a=some o
 | .xd fs=>∃mA,h.Ns1 a mA/\∀f,kl (fs.lookup f) (mA f)
 | .rng lo hi=>∃t u v,h.get? a=some { cls:=.type "range",data:=.fields #[.int lo t,.int hi u,.int 1 v] }
 | .frz o u=>h.get? a=some o/\cW H h a u
 | .tbl=>rF H h a
 | .met f x=>h.get? a=some (xE (.ref f) (.ref x))
 | .ext φ=>φ h/\(∃o,h.get? a=some o)/\∀h1 h2:Heap,φ h1->(∀o,h1.get? a=some o->h2.get? a=some o)->φ h2
def ja(H:Hp)(h:Heap):Prop:=∀a o,H a=some o->cW P w H h a o
end
section
variable{P:Program}{w:World}{H H':Hp}{h h':Heap}{a:Addr}{o:HO}
theorem cW.lt(x:cW P w H h a o):a < h.objs.size:=by
 cases o with
 |lst xs=>obtain⟨_,_,_,_,e⟩:=x;exact aC e
 |tup xs=>obtain⟨_,_,_,p⟩:=x;exact p.lt
 |dK kvs=>obtain⟨_,_,_,_,o,_,_,e,_⟩:=x;exact aC e
 |dT kvs=>obtain⟨_,_,_,_,o,_,_,e,_⟩:=x;exact aC e
 |dN kvs=>obtain⟨_,_,_,_,o,_,_,e,_⟩:=x;exact aC e
 |set S n=>obtain⟨o,_,_,_,e,_⟩:=x;exact aC e
 |ins C dx fs=>obtain⟨_,_,_,e,_⟩:=x;exact aC e
 |own y=>obtain⟨_,e⟩:=x;exact aC e
 |xd fs=>obtain⟨_,⟨_,_,_,e,_⟩,_⟩:=x;exact aC e
 |rng lo hi=>obtain⟨_,_,_,e⟩:=x;exact aC e
 |frz ob u=>obtain⟨e,_⟩:=x;exact aC e
 |tbl=>obtain⟨_,e,_⟩:=(show rF H h a from x);exact aC e
 |met f y=>exact aC (show h.get? a=some _ from x)
 |ext φ=>obtain⟨_,⟨_,e⟩,_⟩:=x;exact aC e
theorem Paired.mapP:∀{l:List α}{h:List z},Paired F l h->(∀a b,F a b->q a b)->Paired q l h
 |_,_,.nil,_=>.nil
 |_,_,.cons r t,f=>.cons (f _ _ r) (Paired.mapP t f)
theorem cW.stay(x:cW P w H h a o)(k:∀b u,(b=a\/H b=some (.own a))->h.get? b=some u->h'.get? b=some u)
  (ho:∀b,H b=some (.own a)->H' b=some (.own a)) (ht:∀b xs,H b=some (.tup xs)->H' b=some (.tup xs))
  (hf:∀b oc,H b=some (.frz oc (.own a))->H' b=some (.frz oc (.own a)):=by first|exact λ_ _ q=>q|exact λ_ _ q=>(al (bz q (by assumption))).trans q):cW P w H' h' a o:=by
 induction o with
 |lst xs=>obtain⟨z,its,n,r,e⟩:=x;exact⟨z,its,n,r,k _ _ (.inl rfl) e⟩
 |tup xs=>obtain⟨z,its,r,ob,e,c⟩:=x;exact⟨z,its,r,ob,k _ _ (.inl rfl) e,c⟩
 |dK kvs=>obtain⟨z,y,vs,r,ob,es,ep,e,c⟩:=x;exact⟨z,y,vs,r,ob,es,ep,k _ _ (.inl rfl) e,c⟩
 |dT kvs=>obtain⟨z,y,xs,r,ob,es,ep,e,c⟩:=x;exact⟨z,y,xs,Paired.mapP r λp q z=>⟨z.1,ht _ _ z.2.1,z.2.2⟩,ob,es,ep,k _ _ (.inl rfl) e,c⟩
 |dN kvs=>obtain⟨z,y,xs,r,ob,es,ep,e,c⟩:=x;exact⟨z,y,xs,r,ob,es,ep,k _ _ (.inl rfl) e,c⟩
 |set S n=>obtain⟨ob,es,ep,t,e,c⟩:=x;exact⟨ob,es,ep,t,k _ _ (.inl rfl) e,c⟩
 |ins C dx fs=>obtain⟨d,z,ne,e,mA,⟨od,es,ep,e2,c⟩,r⟩:=x;exact⟨ho _ d,z,ne,k _ _ (.inl rfl) e,mA,⟨od,es,ep,k _ _ (.inr d) e2,c⟩,r⟩
 |own y=>obtain⟨ob,e⟩:=x;exact⟨ob,k _ _ (.inl rfl) e⟩
 |xd fs=>obtain⟨mA,⟨od,es,ep,e,c⟩,r⟩:=x;exact⟨mA,⟨od,es,ep,k _ _ (.inl rfl) e,c⟩,r⟩
 |rng lo hi=>obtain⟨t,u,v,e⟩:=x;exact⟨t,u,v,k _ _ (.inl rfl) e⟩
 |frz ob u ih=>obtain⟨e,q⟩:=x;exact⟨k _ _ (.inl rfl) e,ih q⟩
 |tbl=>obtain⟨ps,e,z⟩:=(show rF H h a from x);refine⟨ps,k a _ (.inl rfl) e,z.imp id ?_⟩;rintro ⟨c,oc,e1,e2,e3⟩;exact⟨c,oc,e1,hf _ _ e2,e3⟩
 |met f y=>have e:h.get? a=some (xE (.ref f) (.ref y)):=x;show h'.get? a=some (xE (.ref f) (.ref y));exact k a _ (.inl rfl) e
 |ext φ=>obtain⟨p,⟨o,e⟩,st⟩:=x;exact⟨st _ _ p λo q=>k _ _ (.inl rfl) q,⟨o,k _ _ (.inl rfl) e⟩,st⟩
theorem ja.lt(x:ja P w H h)(e:H a=some o):a < h.objs.size:=(x a o e).lt
theorem ja.fresh(x:ja P w H h)(e:h.objs.size≤a):H a=none:=by
 cases q:H a with
 |none=>rfl
 |some u=>exact absurd (bF (x.lt q) e) (eQ _)
theorem ja.kept(x:ja P w H h)(k:∀b u,h.get? b=some u->h'.get? b=some u):ja P w H h':=λa o e=>
 (x a o e).stay (λb u _ q=>k b u q) (λ_ q=>q) λ_ _ q=>q
theorem ja.laid(x:ja P w H h)(k:∀b u,h.get? b=some u->h'.get? b=some u)(p:h.objs.size≤a)(n:cW P w (bN H a o) h' a o):ja P w (bN H a o) h':=λb u e=>by
 have f:=x.fresh p;by_cases s:b=a
 .subst s;rw[aF]at e;cases e;exact n
 .rw [al s]at e;exact(x b u e).stay (λc v _ q=>k c v q) (λc q=>by rw[al (bz q f)];exact q) λc xs q=>by rw[al (bz q f)];exact q
end
def Rd(H:Hp)(a:Addr)(u:HO):Prop:=H a=some u\/∃o,H a=some (.frz o u)
theorem Rd.ok{P:Program}{w:World}{H:Hp}{h:Heap}{a:Addr}{u:HO}(r:Rd H a u)(x:ja P w H h):cW P w H h a u:=by
 rcases r with r|⟨o,r⟩
 .exact x a u r
 .obtain⟨_,q⟩:=x a _ r;exact q
def O5:Option HO->Prop
 |some (.lst _)=>True
 |some (.dK _)=>True
 |some (.dT _)=>True
 |some (.dN _)=>True
 |some (.set _ _)=>True
 |some (.ins _ _ _)=>True
 |some (.ext _)=>True
 |_=>False
section
variable{P:Program}{w:World}{H:Hp}{h h':Heap}{x e:Addr}{o':HO}
theorem ja.write(ok:ja P w H h)(m:O5 (H x))(i:e=x\/H e=some (.own x))(k:∀b u,b≠e->h.get? b=some u->h'.get? b=some u)(d:∃u,h'.get? e=some u)
  (g:cW P w (bN H x o') h' x o'):ja P w (bN H x o') h':=λb u q=>by
 have n:∀c y,H c=some (.own y)->c≠x:=λc y r z=>by subst z;rw[r]at m;exact m
 have t:∀c xs,H c=some (.tup xs)->c≠x:=λc xs r z=>by subst z;rw[r]at m;exact m
 have f:∀c o u,H c=some (.frz o u)->c≠x:=λc o u r z=>by subst z;rw[r]at m;exact m
 by_cases s:b=x
 .subst s;rw[aF]at q;cases q;exact g
 .rw [al s]at q;by_cases a:b=e
  .have j:H b=some (.own x):=by
    rcases i with z|z
    .exact absurd (a.trans z) s
    .rw [a];exact z
   rw[q]at j;cases j;obtain⟨v,l⟩:=d;exact⟨v,by rw[a];exact l⟩
  .refine (ok b u q).stay (λc v p r=>k c v ?_ r) (λc r=>by rw[al (n c b r)];exact r) (λc xs r=>by rw[al (t c xs r)];exact r) (λc S r=>by rw[al (f c _ _ r)];exact r);rcases p with rfl|p
   .exact a
   .rintro rfl;rcases i with z|z
    .exact n c b p z
    .rw [p]at z;cases z;exact s rfl
end
structure Un(fs ex:List Addr)(H H':Hp)(h h':Heap):Prop where
 keep:∀b o,h.get? b=some o->H b=none->b ∉ fs->b ∉ ex->h'.get? b=some o
 slot:∀b o,h.get? b=some o->H b=none->b ∈ fs->b ∉ ex->∃sl,h'.get? b=some { o with slots:=sl }
 free:∀b o,h.get? b=some o->H b=none->b ∉ ex->H' b=none
 there:∀b o,h.get? b=some o->b ∉ ex->∃o',h'.get? b=some o'
 tups:∀b xs,H b=some (.tup xs)->H' b=some (.tup xs)
 frzs:∀b o u,H b=some (.frz o u)->H' b=some (.frz o u)
 tbls:∀b,H b=some .tbl->H' b=some .tbl
section
variable{fs fs' ex ex':List Addr}{H G H2:Hp}{h h1 h2 h':Heap}{a x e:Addr}{o:HO}
theorem Un.any(u:Un fs ex H G h h1)(q:h.get? b=some z)(n:H b=none)(a:b ∉ ex):∃s,h1.get? b=some { z with slots:=s }:=by
 by_cases x:b ∈ fs
 .exact u.slot b z q n x a
 .exact⟨z.slots,u.keep b z q n x a⟩
theorem Un.kept(k:∀b u,h.get? b=some u->h'.get? b=some u):Un fs ex H H h h':=
 ⟨λb o q _ _ _=>k b o q,λb o q _ _ _=>⟨o.slots,k b o q⟩,λ_ _ _ n _=>n,λb o q _=>⟨o,k b o q⟩,λ_ _ q=>q,λ_ _ _ q=>q,λ_ q=>q⟩
theorem Un.refl:Un fs ex H H h h:=Un.kept λ_ _ q=>q
theorem Un.laid(k:∀b u,h.get? b=some u->h'.get? b=some u)(p:h.objs.size≤a)(x:H a=none):Un fs ex H (bN H a o) h h' where
 keep:=λb u q _ _ _=>k b u q
 slot:=λb u q _ _ _=>⟨u.slots,k b u q⟩
 free:=λb u q n _=>by rw[al (bb (bF (aC q) p))];exact n
 there:=λb u q _=>⟨u,k b u q⟩
 tups:=λb xs q=>by rw[al (bz q x)];exact q
 frzs:=λb u xs q=>by rw[al (bz q x)];exact q
 tbls:=λb q=>by rw[al (bz q x)];exact q
theorem Un.write(m:O5 (H x))(p:e=x\/H e=some (.own x))(k:∀b u,b≠e->h.get? b=some u->h'.get? b=some u)(s:∃u,h'.get? e=some u):Un fs ex H (bN H x o) h h':=by
 have t:∀b,H b=none->b≠x:=λb n z=>by subst z;rw[n]at m;exact m
 have c:∀b,H b=none->b≠e:=λb n z=>by
  subst z;rcases p with r|r
  .exact t b n r
  .rw [n]at r;cases r
 have f:∀b u,H b=some u->¬O5 (some u)->b≠x:=λb u q nm z=>by subst z;rw[q]at m;exact nm m
 refine⟨fun b u q n _ _=>k b u (c b n) q,fun b u q n _ _=>⟨u.slots,k b u (c b n) q⟩,fun b u q n _=>by rw [al (t b n)];exact n,fun b u q _=>?_,
  λb xs q=>by rw[al (f b _ q λz=>z)];exact q,λb u xs q=>by rw[al (f b _ q λz=>z)];exact q,λb q=>by rw[al (f b _ q λz=>z)];exact q⟩
 by_cases a:b=e
 .subst a;exact s
 .exact⟨u,k b u a q⟩
end
noncomputable def trk(h:Heap)(H:Hp):List Addr:=(List.range h.objs.size).filter λa=>(H a).isSome
def u_(h:Heap)(H:Hp):Heap:=PySem.W.hideAll h (trk h H)
theorem CP(h:Heap)(H:Hp):(u_ h H).objs.size=h.objs.size:=PySem.W.hideAll_size _ _
variable{o:Obj}
theorem FM(e:h.get? b=some o)(n:H b=none):(u_ h H).get? b=some o:=
 PySem.W.hideAll_get _ e λm=>by have q:(H b).isSome=true:=(fJ.mp m).2;rw[n]at q;simp at q
theorem Im(e:(u_ h H).get? b=some o):h.get? b=some o/\H b=none:=by
 have a:h.get? b=some o:=PySem.W.of_hideAll (trk h H) e;refine⟨a,?_⟩;cases q:H b with
 |none=>rfl
 |some x=>have m:b ∈ trk h H:=fJ.mpr ⟨iF.mpr (aC a),by simp[q]⟩;have z:(u_ h H).get? b=none:=PySem.W.hideAll_none (trk h H) m;rw[z]at e;cases e
noncomputable def nq(g h:Heap)(L:Addr):PN:=(List.range h.objs.size).filterMap λa=>if a=L\/(g.get? a).isSome=true then none else (h.get? a).map λo=>(a,o)
variable{g:Heap}{L:Addr}
theorem wu(h1:a≠L)(h2:g.get? a=none)(x:h.get? a=some o):(a,o) ∈ nq g h L:=
 kS.mpr ⟨a,iF.mpr (aC x),by simp[h1,h2,x]⟩
set_option tactic.hygienic true in
theorem qH(x:p ∈ nq g h L):p.1≠L/\g.get? p.1=none/\h.get? p.1=some p.2:=by
 obtain⟨b,_,e⟩:=kS.mp x;split at e
 .cases e
 .rename_i n;cases q:h.get? b with
  |none=>rw[q]at e;simp at e
  |some u=>
   rw[q]at e;simp only[Option.map_some,He]at e;subst e;refine⟨λz=>n (.inl z),?_,q⟩;show g.get? b=none;cases r:g.get? b with
   |none=>rfl
   |some v=>exact(n (.inr (by simp[r]))).elim
theorem E7:News g L h (nq g h L):=λp x=>let ⟨a,b,c⟩:=qH x;⟨c,a,b⟩
structure Mod(K:FG)(mg:SV)(base:Heap):Prop where
 kin:K.In base
 glob:base.Ns mainGlobals mg
 blt:∃mb,base.Ns builtinsNs mb/\∀x:Str,x≠"__name__"->mb x=bootBuiltins x
 nolimit:base.NoLimit
 bmain:∃bm ob,mg "__builtins__"=some (.ref bm)/\bm≠builtinsNs/\base.get? bm=some ob/\ob.cls=.type "module"/\ob.dict=some builtinsNs/\ob.data=.plain
structure Cx where
 p:Program
 w:World
 K:FG
 g:SV
 b:Heap
 A:Around
 N:LS
 z:Shared
 y:Hp
 e:Env
 o:List Env
 k:List Env
 ex:List Addr
 fn:Str->Bool
 c:Bool
 pn:PN
 xe:VP
noncomputable def CT(l:List Env):List Addr:=l.filterMap (·.frame)
abbrev Cx.fs(X:Cx):List Addr:=CT X.o
def Jh(sc:Scope)(x:Str):Prop:=sc.names.lookup x=some .local\/sc.names.lookup x=some .cell\/sc.names.lookup x=some .free
def Loc(sc:Scope)(x:Str):Prop:=sc.names.lookup x=some .local\/sc.names.lookup x=some .cell
def Look(e:Env)(h:Heap)(m:SV)(x:Str)(u:Value):Prop:=
 (e.kindOf x=some .local/\m x=some u)\/((e.kindOf x=some .cell\/e.kindOf x=some .free)/\∃c,e.cells.lookup x=some c/\h.IsCell c (some u))
structure Cx.Ok(X:Cx):Prop where
 mod:Mod X.K X.g X.b
 kind:X.e.scope.kind=.function
 glob:X.e.globals=mainGlobals
 blt:X.e.builtins=builtinsNs
 above:X.z.heap.objs.size≤X.e.locals
 inj:∀x y c,X.e.cells.lookup x=some c->X.e.cells.lookup y=some c->x=y
 has:∀x,(X.e.kindOf x=some .cell\/X.e.kindOf x=some .free)->∃c,X.e.cells.lookup x=some c
 cab:∀x c,X.fn x=true->X.e.cells.lookup x=some c->X.z.heap.objs.size≤c
 hd:X.c=true->X.A.handled=none
 frames:X.A.frames=some X.k
 stk:X.k=X.o\/(X.k=X.e::X.o/\X.e.frame=some X.e.locals)
 exf:∀b ∈ X.ex,b≠X.e.locals/\∀x c,X.e.cells.lookup x=some c->c≠b
 bs:∀b o,X.b.get? b=some o->X.z.heap.get? b=some o/\X.y b=none
 bsz:X.b.objs.size≤X.z.heap.objs.size
 noex:∀b o,X.b.get? b=some o->b ∉ X.ex
 exfs:∀b ∈ X.ex,b ∉ X.fs
 funs:X.z.heap.FunFrames X.b X.o
 frf:∀b ∈ X.fs,X.y b=none
 tab:∀P ∈ ce X.K,X.y P=some .tbl
structure Inv(X:Cx)(pins:PN)(J:List (Option V))(H:Hp)(s:Shared):Prop where
 o:X.Ok
 os:s.os=X.z.os
 bare:AllBare s.gens
 base:Un X.fs X.ex X.y H X.z.heap s.heap
 loc:∃m,s.heap.Ns X.e.locals m/\∀(i:Nat)(x:Str)(v:V),X.N[i]? = some x->J[i]? = some (some v)->Jh X.e.scope x->∃u,RelV v u/\Look X.e s.heap m x u
 cell:∀x c,X.e.cells.lookup x=some c->∃v,s.heap.IsCell c v
 free:H X.e.locals=none
 freeC:∀x c,X.e.cells.lookup x=some c->H c=none
 pin:∀p ∈ X.pn++pins,s.heap.get? p.1=some p.2/\H p.1=none/\p.1≠X.e.locals/\p.1 ∉ X.fs/\∀v,p.2.data≠.cell v
 h:ja X.p X.w H s.heap
 len:J.length=X.N.length
section
variable{X:Cx}{pins:PN}{J:List (Option V)}{H H':Hp}{s:Shared}{h':Heap}
theorem Cx.Ok.nofr(ok:X.Ok)(e:X.b.get? b=some o):b ∉ X.fs:=λh=>by have:=(ok.funs.mem h).1;rw[e]at this;cases this
theorem Inv.bs(I:Inv X pins J H s):∀b o,X.b.get? b=some o->s.heap.get? b=some o/\H b=none:=λb o e=>
 ⟨I.base.keep b o (I.o.bs b o e).1 (I.o.bs b o e).2 (I.o.nofr e) (I.o.noex b o e),I.base.free b o (I.o.bs b o e).1 (I.o.bs b o e).2 (I.o.noex b o e)⟩
theorem Inv.bk(I:Inv X pins J H s):∀b o,X.b.get? b=some o->s.heap.get? b=some o:=λb o e=>(I.bs b o e).1
theorem Inv.mod(I:Inv X pins J H s):Mod X.K X.g X.b:=I.o.mod
theorem Inv.kIn(I:Inv X pins J H s):X.K.In s.heap:=I.o.mod.kin.keeps I.bk
theorem Inv.nolimit(I:Inv X pins J H s):s.heap.NoLimit:=I.o.mod.nolimit.keeps I.bk
theorem Inv.fr(I:Inv X pins J H s):∃m,Fr X.b X.e.locals s.heap m:=
 let ⟨m,h,_⟩:=I.loc
 ⟨m,h,I.bk,au I.o.bsz I.o.above⟩
theorem Inv.lt(I:Inv X pins J H s):X.e.locals < s.heap.objs.size:=let ⟨_,h,_⟩:=I.loc;h.lt
theorem Inv.sz(I:Inv X pins J H s):X.z.heap.objs.size≤s.heap.objs.size:=au I.o.above (eP I.lt)
theorem Inv.nofs(I:Inv X pins J H s)(h:s.heap.objs.size≤a):a ∉ X.fs:=λb=>by obtain⟨_,o,x,_⟩:=I.o.funs.mem b;exact absurd (bF (aC x) (au I.sz h)) (eQ _)
theorem Inv.cne(I:Inv X pins J H s):∀x c,X.e.cells.lookup x=some c->c≠X.e.locals:=λx c e z=>by obtain⟨v,o,n,hd⟩:=I.cell x c e;obtain⟨m,⟨o',es,p,a,h,_⟩,_⟩:=I.loc;rw[z,a]at n;cases n;rw[h]at hd;cases hd
theorem Inv.funs(I:Inv X pins J H s):s.heap.FunFrames X.b X.o:=by
 have all:∀(l:List Env),(∀b ∈ CT l,b ∈ X.fs)->X.z.heap.FunFrames X.b l->s.heap.FunFrames X.b l:=by
  intro l;induction l with
  |nil=>intro _ _;trivial
  |cons n r i=>
   intro a k;obtain⟨hk,⟨L,o,f,c,m,hd⟩,t⟩:=k;have h:L ∈ X.fs:=a L (by unfold CT;rw[mn,f];exact aH);obtain⟨p,e⟩:=I.base.slot L o m (I.o.frf L h) h λz=>I.o.exfs L z h
   exact⟨hk,⟨L,_,f,c,e,hd⟩,i (λb x=>a b (by unfold CT;rw[mn,f];exact aG _ x)) t⟩
 exact all X.o (λ_ x=>x) I.o.funs
theorem Inv.stack(I:Inv X pins J H s):s.heap.FunFrames X.b X.k:=by
 rcases I.o.stk with e|⟨e,h⟩
 .rw [e];exact I.funs
 .rw [e];obtain⟨m,n,_⟩:=I.loc;refine .cons (by rw[I.o.kind];decide) h n ?_ I.funs;exact zT (au I.o.bsz I.o.above)
theorem Inv.stkSub(I:Inv X pins J H s):∀b ∈ CT X.k,b ∈ X.e.locals::X.fs:=λb h=>by
 rcases I.o.stk with e|⟨e,f⟩
 .rw [e]at h;exact aG _ h
 .rw [e]at h;unfold CT at h;rw[mn,f]at h;exact h
theorem Inv.stkFree(I:Inv X pins J H s):∀b ∈ CT X.k,H b=none:=λb h=>by
 rcases aN.mp (I.stkSub b h) with e|h
 .rw [e];exact I.free
 .obtain⟨_,o,x,_⟩:=I.o.funs.mem h;exact I.base.free b o x (I.o.frf b h) λz=>I.o.exfs b z h
theorem Inv.step{g':Array GenState}{t':Nat}{d':Drawn}{ch:List Addr}(I:Inv X pins J H s)
  (a:∀b ∈ ch,(b ∈ X.ex\/X.z.heap.objs.size≤b)/\b≠X.e.locals/\(∀x c,X.e.cells.lookup x=some c->c≠b)/\∀p ∈ X.pn++pins,p.1≠b)
  (t:∀b o,b≠X.e.locals->b ∉ X.fs->b ∉ ch->s.heap.get? b=some o->H b=none->h'.get? b=some o)
  (slot:∀b o,b≠X.e.locals->b ∈ X.fs->b ∉ ch->s.heap.get? b=some o->H b=none->∃E,h'.get? b=some { o with slots:=E }) (f:∀b o,b ∉ ch->s.heap.get? b=some o->H b=none->H' b=none)
  (y:∀b o,b ∉ ch->s.heap.get? b=some o->∃o',h'.get? b=some o')
  (A:∀b xs,H b=some (.tup xs)->H' b=some (.tup xs)) (F:∀b o u,H b=some (.frz o u)->H' b=some (.frz o u)) (P:∀b,H b=some .tbl->H' b=some .tbl)
  (ns:∀m,s.heap.Ns X.e.locals m->h'.Ns X.e.locals m) (D:ja X.p X.w H' h') (V:AllBare g') :
  Inv X pins J H' { s with heap:=h',gens:=g',drawn:=d',toks:=t' }:=by
 have L:∀b o,X.z.heap.get? b=some o->b≠X.e.locals:=λb o e=>bb (bF (aC e) I.o.above);have C:∀b o,X.z.heap.get? b=some o->b ∉ X.ex->b ∉ ch:=λb o e h j=>by
  rcases(a b j).1 with z|z
  .exact h z
  .exact absurd (bF (aC e) z) (eQ _)
 have K:∀x c,X.e.cells.lookup x=some c->∀v,s.heap.IsCell c v->h'.IsCell c v:=λx c e v hz=>by
  obtain⟨o,S,hd⟩:=hz;have w:c ∉ ch:=λz=>(a c z).2.2.1 x c e rfl;by_cases M:c ∈ X.fs
  .obtain⟨E,q⟩:=slot c o (I.cne x c e) M w S (I.freeC x c e);exact⟨_,q,hd⟩
  .exact⟨o,t c o (I.cne x c e) M w S (I.freeC x c e),hd⟩
 refine⟨I.o,I.os,V,⟨λb o e n j h=>?_,λb o e n j h=>?_,λb o e n h=>?_,λb o e h=>?_,λb xs e=>A b xs (I.base.tups b xs e),λb o xs e=>F b o xs (I.base.frzs b o xs e),λb e=>P b (I.base.tbls b e)⟩,?_,λx c e=>?_,?_,λx c e=>?_,λp N=>?_,D,I.len⟩
 .exact t b o (L b o e) j (C b o e h) (I.base.keep b o e n j h) (I.base.free b o e n h)
 .obtain⟨E,g⟩:=I.base.slot b o e n j h;obtain⟨G,B⟩:=slot b _ (L b o e) j (C b o e h) g (I.base.free b o e n h);exact⟨G,B⟩
 .obtain⟨o',g⟩:=I.base.there b o e h;exact f b o' (C b o e h) g (I.base.free b o e n h)
 .obtain⟨o',g⟩:=I.base.there b o e h;exact y b o' (C b o e h) g
 .obtain⟨m,Z,W⟩:=I.loc;refine⟨m,ns m Z,λi x v g B T=>?_⟩;obtain⟨u,r,l⟩:=W i x v g B T;refine⟨u,r,?_⟩;rcases l with l|⟨k,c,e,z⟩
  .exact .inl l
  .exact .inr ⟨k,c,e,K x c e _ z⟩
 .obtain⟨v,z⟩:=I.cell x c e;exact⟨v,K x c e v z⟩
 .obtain⟨m,⟨o,_,_,S,_⟩,_⟩:=I.loc;exact f _ o (λz=>(a _ z).2.1 rfl) S I.free
 .obtain⟨v,o,S,hd⟩:=I.cell x c e;exact f c o (λz=>(a c z).2.2.1 x c e rfl) S (I.freeC x c e)
 .obtain⟨e,n,Q,R,d⟩:=I.pin p N;have w:p.1 ∉ ch:=λz=>(a p.1 z).2.2.2 p N rfl;exact⟨t p.1 p.2 Q R w e n,f p.1 p.2 w e n,Q,R,d⟩
theorem Inv.un{t':Nat}(I:Inv X pins J H s)(u:Un X.fs [] H H' s.heap h')(k:ja X.p X.w H' h'):Inv X pins J H' { s with heap:=h',toks:=t' }:=by
 obtain⟨m,⟨o,es,q,f,r⟩,_⟩:=id I.loc;obtain⟨l,L⟩:=u.any f I.free (by simp);exact I.step (g':=s.gens) (d':=s.drawn) (ch:=[]) (λ_ z=>nomatch z) (λb o _ a _ e n=>u.keep b o e n a (by simp)) (λb o _ a _ e n=>u.slot b o e n a (by simp)) (λb o _ e n=>u.free b o e n (by simp)) (λb o _ e=>u.there b o e (by simp)) u.tups u.frzs u.tbls (λv c=>by obtain⟨o',x,p,h,t⟩:=c;rw[f]at h;cases h;exact⟨_,x,p,L,t⟩) k I.bare
theorem Inv.call{g':Array GenState}{t':Nat}{d':Drawn}{ch:List Addr}(I:Inv X pins J H s)(u:Un (CT X.k) ch H H' s.heap h')(q:ja X.p X.w H' h')(g:AllBare g')
  (a:∀b ∈ ch,(b ∈ X.ex\/X.z.heap.objs.size≤b)/\b≠X.e.locals/\(∀x c,X.e.cells.lookup x=some c->c≠b)/\∀p ∈ X.pn++pins,p.1≠b) :
  Inv X pins J H' { s with heap:=h',gens:=g',drawn:=d',toks:=t' }:=by
 obtain⟨m,⟨o,es,j,v,r⟩,_⟩:=id I.loc;obtain⟨y,L⟩:=u.any v I.free λz=>(a _ z).2.1 rfl;exact I.step (ch:=ch) a (λb o L d h e n=>u.keep b o e n (λz=>(aN.mp (I.stkSub b z)).elim L d) h) (λb o _ _ h e n=>u.any e n h) (λb o h e n=>u.free b o e n h) (λb o h e=>u.there b o e h) u.tups u.frzs u.tbls (λl w=>by obtain⟨o',t,f,k,i⟩:=w;rw[v]at k;cases k;exact⟨_,t,f,L,i⟩) q g
theorem Inv.turned{t':Nat}{i:Addr}(I:Inv X pins J H s)(k:∀b o,b≠i->s.heap.get? b=some o->h'.get? b=some o)(g:H i=none)(L:i≠X.e.locals)
  (h1:i ∈ X.ex\/X.z.heap.objs.size≤i) (h2:∀x c,X.e.cells.lookup x=some c->c≠i) (f:∀p ∈ X.pn++pins,p.1≠i):Inv X pins J H { s with heap:=h',toks:=t' }:=by
 have t:∀b u,H b=some u->b≠i:=λb u e z=>by rw[z,g]at e;cases e
 refine I.step (g':=s.gens) (d':=s.drawn) (ch:=[i]) (λb d=>?_) (λb o _ _ h e _=>k b o (λz=>h (by simp[z])) e) (λb o _ _ h e _=>⟨o.slots,k b o (λz=>h (by simp[z])) e⟩) (λ_ _ _ _ n=>n)
  (λb o h e=>⟨o,k b o (λz=>h (by simp[z])) e⟩) (λ_ _ e=>e) (λ_ _ _ e=>e) (λ_ e=>e) (λm w=>?_) (λb u e=>?_) I.bare
 .have e:b=i:=by simpa using d
  subst e;exact⟨h1,L,h2,f⟩
 .obtain⟨o,es,a,j,r⟩:=w;exact⟨o,es,a,k _ o (aI L) j,r⟩
 .refine (I.h b u e).stay (λc v h q=>k c v ?_ q) (λ_ q=>q) λ_ _ q=>q;rcases h with z|z
  .rw [z];exact t b u e
  .exact t c _ z
theorem Inv.tok(I:Inv X pins J H s)(t:Nat):Inv X pins J H { s with toks:=t }:=I.un (h':=s.heap) (t':=t) Un.refl I.h
theorem Inv.kept{t':Nat}(I:Inv X pins J H s)(k:∀b u,s.heap.get? b=some u->h'.get? b=some u):Inv X pins J H { s with heap:=h',toks:=t' }:=I.un (Un.kept k) (I.h.kept k)
theorem Inv.laid{a:Addr}{o:HO}{t':Nat}(I:Inv X pins J H s)(k:∀b u,s.heap.get? b=some u->h'.get? b=some u)(h:s.heap.objs.size≤a)(n:cW X.p X.w (bN H a o) h' a o) :
  Inv X pins J (bN H a o) { s with heap:=h',toks:=t' }:=I.un (Un.laid k h (I.h.fresh h)) (I.h.laid k h n)
theorem Inv.write{x e:Addr}{o:HO}{t:Nat}(I:Inv X pins J H s)(m:O5 (H x))(a:e=x\/H e=some (.own x))(k:∀b u,b≠e->s.heap.get? b=some u->h'.get? b=some u)(h:∃u,h'.get? e=some u)
  (n:cW X.p X.w (bN H x o) h' x o):Inv X pins J (bN H x o) { s with heap:=h',toks:=t }:=I.un (Un.write m a k h) (I.h.write m a k h n)
theorem Inv.pins_of(I:Inv X pins J H s)(h:∀p ∈ q,s.heap.get? p.1=some p.2/\H p.1=none/\p.1≠X.e.locals/\p.1 ∉ X.fs/\∀v,p.2.data≠.cell v):Inv X q J H s:=
 ⟨I.o,I.os,I.bare,I.base,I.loc,I.cell,I.free,I.freeC,λp x=>(bA.mp x).elim (λz=>I.pin p (iI _ z)) (h p),I.h,I.len⟩
theorem wm{N:LS}(s:N.Nodup){i j:Nat}{x:Str}(a:N[i]? = some x)(b:N[j]? = some x):i=j:=by obtain⟨h1,e⟩:=bw.mp a;obtain⟨h2,h⟩:=bw.mp b;exact(List.getElem_inj s).mp (e.trans h.symm)
theorem nJ{M:Model}{A:Around}{E:VP}{i:Nat}{x:Str}{v:V}{u:Value}{Q:Unit->Shared->Prop}(I:Inv X pins J H s)(hN:X.N.Nodup)(hi:X.N[i]? = some x)(l:Loc X.e.scope x)(r:RelV v u)
  (h:∀s',Inv X pins (J.set i (some v)) H s'->(∃a,dX a s.heap s'.heap/\(a=X.e.locals\/X.e.cells.lookup x=some a))->Q () s') (hf:X.fn x=true\/X.e.scope.names.lookup x=some .local:=by first|exact .inl rfl|exact .inr rfl|assumption):wpAny M A (storeName X.e x u) Q E s:=by
 obtain⟨m,hn,hl⟩:=id I.loc;have L:(X.e.scope.kind == .class ||(X.e.scope.kind == .module && X.e.locals != X.e.globals))=false:=by rw[I.o.kind];rfl
 have N:i < J.length:=by rw[I.len];exact(bw.mp hi).1
 have K:=I.cne;have w:∀{a:Addr}{h':Heap},(∃o,s.heap.get? a=some o/\H a=none)->dX a s.heap h'->ja X.p X.w H h':=λ{a h'} ha f b ob e=>by
  obtain⟨_,_,S⟩:=ha;refine(I.h b ob e).stay (λc w' g q=>(f.2 c ?_).trans q) (λ_ q=>q) λ_ _ q=>q;rintro rfl;rcases g with rfl|g
  .rw [S]at e;cases e
  .rw [S]at g;cases g
 rcases l with hk|hk
 .refine wpAny_storeName_local hk hn (λh' hn' f=>?_) L;obtain⟨oL,_,_,hoL,_⟩:=id hn;refine h _ ⟨I.o,I.os,I.bare,⟨λb o e n P l=>?_,λb o e n P l=>?_,I.base.free,λb o e l=>?_,I.base.tups,I.base.frzs,I.base.tbls⟩,⟨_,hn',λj y v' t F e3=>?_⟩,λy c e=>?_,I.free,I.freeC,λp hp=>?_,w ⟨oL,hoL,I.free⟩ f,by simpa using I.len⟩ ⟨_,f,.inl rfl⟩
  .exact (f.2 b (bb (bF (aC e) I.o.above))).trans (I.base.keep b o e n P l)
  .obtain⟨sl,t⟩:=I.base.slot b o e n P l;exact⟨sl,(f.2 b (bb (bF (aC e) I.o.above))).trans t⟩
  .obtain⟨o',t⟩:=I.base.there b o e l;exact⟨o',(f.2 b (bb (bF (aC e) I.o.above))).trans t⟩
  .by_cases C:j=i
   .subst C;rw[hi]at t;cases t;rw[bv N]at F;cases F;exact⟨u,r,.inl ⟨hk,by simp⟩⟩
   .rw [aP (aI C)]at F;obtain⟨u',r',q⟩:=hl j y v' t F e3;refine⟨u',r',?_⟩;rcases q with ⟨k,e⟩|⟨k,c,e,z⟩
    .refine .inl ⟨k,?_⟩;have:y≠x:=λe=>C (wm hN t (e ▸ hi));simp[this,e]
    .exact .inr ⟨k,c,e,z.sameBut f (K y c e)⟩
  .obtain⟨w',z⟩:=I.cell y c e;exact⟨w',z.sameBut f (K y c e)⟩
  .obtain⟨e,n,Z,nf,d⟩:=I.pin p hp;exact⟨(f.2 p.1 Z).trans e,n,Z,nf,d⟩
 .have B:X.fn x=true:=by
   rcases hf with z|z
   .exact z
   .rw [z]at hk;cases hk
  obtain⟨c,g⟩:=I.o.has x (.inl hk);obtain⟨w',z⟩:=I.cell x c g;refine wpAny_storeName_cell I.o.kind hk g z (λh' D f=>?_);obtain⟨oc,R,T⟩:=id z;refine h { s with heap:=h' } ⟨I.o,I.os,I.bare,⟨λb o e n P l=>?_,λb o e n P l=>?_,I.base.free,λb o e l=>?_,I.base.tups,I.base.frzs,I.base.tbls⟩,⟨m,hn.sameBut f (aI (K x c g)),λj y v' t F e3=>?_⟩,λy W e=>?_,I.free,I.freeC,λp hp=>?_,w ⟨oc,R,I.freeC x c g⟩ f,by simpa using I.len⟩ ⟨c,f,.inr g⟩
  .exact (f.2 b (bb (bF (aC e) (I.o.cab x c B g)))).trans (I.base.keep b o e n P l)
  .obtain⟨sl,t⟩:=I.base.slot b o e n P l;exact⟨sl,(f.2 b (bb (bF (aC e) (I.o.cab x c B g)))).trans t⟩
  .obtain⟨o',t⟩:=I.base.there b o e l;exact⟨o',(f.2 b (bb (bF (aC e) (I.o.cab x c B g)))).trans t⟩
  .by_cases C:j=i
   .subst C;rw[hi]at t;cases t;rw[bv N]at F;cases F;exact⟨u,r,.inr ⟨.inl hk,c,g,D⟩⟩
   .rw [aP (aI C)]at F;obtain⟨u',r',q⟩:=hl j y v' t F e3;refine⟨u',r',?_⟩;rcases q with q|⟨k,W,e,z'⟩
    .exact .inl q
    .refine .inr ⟨k,W,e,z'.sameBut f ?_⟩;rintro rfl;exact C (wm hN t (I.o.inj _ _ _ e g ▸ hi))
  .by_cases G:W=c
   .subst G;exact⟨_,D⟩
   .obtain⟨w2,z2⟩:=I.cell y W e;exact⟨w2,z2.sameBut f G⟩
  .obtain⟨e,n,Z,nf,d⟩:=I.pin p hp;refine⟨(f.2 p.1 ?_).trans e,n,Z,nf,d⟩;intro q;rw[q,R]at e;have q':oc=p.2:=cw e;exact d w' (by rw[<- q'];exact T)
theorem qo(I:Inv X pins J H s)(N:X.N.Nodup)(hi:X.N[i]? = some x)(e:Loc X.e.scope x)(r:RelV v u)
  (h:∀s',Inv X pins (J.set i (some v)) H s'->Q () s') (f:X.fn x=true\/X.e.scope.names.lookup x=some .local:=by first|exact .inl rfl|exact .inr rfl|assumption):wpAny M A (storeName X.e x u) Q E s:=
 nJ I N hi e r (λs' a _=>h s' a) f
theorem Inv.call'(I:Inv X pins J H s)(n:s'.os=s.os)(u:Un (CT X.k) q H H' s.heap s'.heap)(o:ja X.p X.w H' s'.heap)(a:AllBare s'.gens)
  (h:∀b ∈ q,(b ∈ X.ex\/X.z.heap.objs.size≤b)/\b≠X.e.locals/\(∀x c,X.e.cells.lookup x=some c->c≠b)/\∀p ∈ X.pn++pins,p.1≠b):Inv X pins J H' s':=by
 obtain⟨h',g,d,t,o'⟩:=s';have e:o'=s.os:=n;subst e;exact I.call (g':=g) (t':=t) (d':=d) u o a h
end
noncomputable abbrev XK:=Value->Option Addr->Hp->Prop
noncomputable abbrev St:=List (Option V)
noncomputable abbrev VK:=V->Hp->Prop
noncomputable abbrev TE:=St->Hp->VK->Prop
noncomputable abbrev TT:=St->Hp->(Bool->Hp->Prop)->Prop
noncomputable abbrev TA:=St->Hp->(List V->Hp->Prop)->Prop
structure Ends where
 nx:St->Hp->Prop
 rt:VK
 bk:St->Hp->Prop:=λ_ _=>False
 ct:St->Hp->Prop:=λ_ _=>False
noncomputable abbrev TS:=Ends->St->Hp->Prop
def EP(X:Cx)(pins:PN)(J:St)(Q:VK)(u:Value)(s':Shared):Prop:=∃v H',Inv X pins J H' s'/\RelV v u/\Q v H'
def TP(X:Cx)(pins:PN)(J:St)(Q:Bool->Hp->Prop)(b:Bool)(s':Shared):Prop:=∃H',Inv X pins J H' s'/\Q b H'
def AP(X:Cx)(pins:PN)(J:St)(Q:List V->Hp->Prop)(j:LV)(s':Shared):Prop:=∃v H',Inv X pins J H' s'/\ba v j/\Q v H'
def SP(X:Cx)(pins:PN)(D:Ends)(f:Flow)(s':Shared):Prop:=
 match f with
 | .next=>∃h H',Inv X pins h H' s'/\D.nx h H'
 | .brk=>∃h H',Inv X pins h H' s'/\D.bk h H'
 | .cont=>∃h H',Inv X pins h H' s'/\D.ct h H'
 | .ret u=>∃v h H',Inv X pins h H' s'/\RelV v u/\D.rt v H'
variable{α:Type}
noncomputable abbrev wx(X:Cx)(m:Sem α):=wpAny (model X.p X.w) X.A m
def Y(X:Cx)(e:Expr)(t:TE):Prop:=
 ∀(pins:PN)(s:Shared)(J:St)(H:Hp)(Q:VK),Inv X pins J H s->t J H Q->wx X (eval e X.e) (EP X pins J Q) X.xe s
def PT(X:Cx)(e:Expr)(t:TT):Prop:=
 ∀(pins:PN)(s:Shared)(J:St)(H:Hp)(Q:Bool->Hp->Prop),Inv X pins J H s->t J H Q->wx X (isTrue e X.e (eval e X.e)) (TP X pins J Q) X.xe s
def PW(X:Cx)(e:Expr)(t:TT):Prop:=
 ∀(w:Sem Value)(pins:PN)(s:Shared)(J:St)(H:Hp)(Q:Bool->Hp->Prop),Inv X pins J H s->t J H Q->wx X (isTrue e X.e w) (TP X pins J Q) X.xe s
variable{X:Cx}{e:Expr}
theorem PW.pt(h:PW X e t):PT X e t:=h _
def PA(X:Cx)(es:Ab)(t:TA):Prop:=
 ∀(B:Pos)(pins:PN)(s:Shared)(J:St)(H:Hp)(Q:List V->Hp->Prop),Inv X pins J H s->t J H Q->wx X (spliced (backTo B (starEach es X.e))) (AP X pins J Q) X.xe s
def PS(X:Cx)(st:Stmt)(t:TS):Prop:=
 ∀(pins:PN)(s:Shared)(J:St)(H:Hp)(D:Ends),Inv X pins J H s->t D J H->wx X (exec st X.e) (SP X pins D) X.xe s
def oe(X:Cx)(st:List Stmt)(t:TS):Prop:=
 ∀(pins:PN)(s:Shared)(J:St)(H:Hp)(D:Ends),Inv X pins J H s->t D J H->wx X (execs st X.e) (SP X pins D) X.xe s
variable{M:Model}{A:Around}{E:VP}{s:Shared}
theorem cG(h:wpAny M A t Q E s)(e:∀a s,Q a s->q a s):wpAny M A t q E s:=cD h e λ_ _ x=>x
section
variable{X:Cx}
noncomputable def Qp(i:Nat):TE:=λJ H Q=>∃v,J[i]? = some (some v)/\Q v H
noncomputable def tC(v:V):TE:=λ_ H Q=>Q v H
theorem K7(N:X.N[i]? = some x)(p:Jh X.e.scope x)(hd:(x == ("__debug__":Str))=false:=by decide)(d:(x == ("__classdict__":Str))=false:=by decide):Y X (.Name x B) (Qp i):=by
 intro pins s J H Q I h;obtain⟨v,e,h⟩:=h;obtain⟨m,t,k⟩:=I.loc;obtain⟨u,r,l⟩:=k i x v N e p;have f:EP X pins J Q u s:=⟨v,H,I,r,h⟩;rcases l with ⟨hk,b⟩|⟨hk,c,n,a⟩
 .exact pQ (xu I.o.kind hk t b f) hd
 .rcases hk with hk|hk
  .exact pQ (A0 I.o.kind hk n a f) hd
  .exact pQ (A1 I.o.kind hk n a f d) hd
theorem La {i q B}:Y X (.Constant (.int i) q B) (tC (.int i)):=λ_ _ _ H _ I h=>wpAny_Constant_int ⟨.int i,H,I.tok _,⟨_,rfl⟩,h⟩
theorem NS {b q B}:Y X (.Constant (.bool b) q B) (tC (.bl b)):=λ_ _ _ H _ I h=>Constant_bool ⟨.bl b,H,I,rfl,h⟩
theorem K' {q B}:Y X (.Constant .none q B) (tC .non):=λ_ _ _ H _ I h=>Constant_none ⟨.non,H,I,rfl,h⟩
theorem K8 {x q B}:Y X (.Constant (.str x) q B) (tC (.str x)):=λ_ _ _ H _ I h=>Calls.Constant_str ⟨.str x,H,I.tok _,⟨_,rfl⟩,h⟩
def Gl(X:Cx)(x:Str):Prop:=X.e.kindOf x=some .globalImplicit
theorem pI(I:Inv X pins J H s)(g:Gl X x)(m:X.g x=some u)(h:Q u s)
  (hd:(x == ("__debug__":Str))=false:=by decide):wx X (eval (.Name x B) X.e) Q E s:=
 tR I.o.kind g (zF (by rw[I.o.glob];exact I.mod.glob.keeps I.bk) m h) hd
theorem jV(I:Inv X pins J H s)(g:Gl X x)(m:X.g x=none)(v:bootBuiltins x=some u)(h:Q u s)
  (n:x≠"__name__":=by decide) (hd:(x == ("__debug__":Str))=false:=by decide):wx X (eval (.Name x B) X.e) Q E s:=by
 obtain⟨b,h1,h2⟩:=I.mod.blt;exact tR I.o.kind g (Calls.loadGlobal_builtin (by rw[I.o.glob];exact I.mod.glob.keeps I.bk) m (by rw[I.o.blt];exact h1.keeps I.bk) ((h2 x n).trans v) h) hd
theorem Ic(g:Gl X x)(m:X.g x=some u)(r:RelV v u)(hd:(x == ("__debug__":Str))=false:=by decide):Y X (.Name x B) (tC v):=
 λ_ _ _ H _ I h=>pI I g m ⟨v,H,I,r,h⟩ hd
theorem Ie(g:Gl X x)(m:X.g x=none)(a:bootBuiltins x=some u)(r:RelV v u)(n:x≠"__name__":=by decide)(hd:(x == ("__debug__":Str))=false:=by decide):Y X (.Name x B) (tC v):=
 λ_ _ _ H _ I h=>jV I g m a ⟨v,H,I,r,h⟩ n hd
variable{a b:Expr}{ta tb:TE}{B:Pos}
variable{tA tB':TT}{rest:Ab}
noncomputable def QC(t u:TT):TT:=λJ H Q=>t J H λc G=>if c=true then u J G Q else Q false G
noncomputable def Sn(t u:TT):TT:=λJ H Q=>t J H λc G=>if c=true then Q true G else u J G Q
noncomputable def Qu(t:TT):TT:=λJ H Q=>t J H λc G=>Q (!c) G
theorem HN(x:PT X a tA):PW X (.BoolOp .And [a] B) tA:=by
 intro w pins s J H Q I h;refine isTrue_and (cG (x pins s J H Q I h) λc n e=>?_);cases c with
 |true=>exact isTrue_and_nil e
 |false=>exact e
theorem KQ(x:PT X a tA):PW X (.BoolOp .Or [a] B) tA:=by
 intro w pins s J H Q I h;refine isTrue_or (cG (x pins s J H Q I h) λc n e=>?_);cases c with
 |false=>exact isTrue_or_nil e
 |true=>exact e
theorem KS(e:PT X a tA)(n:PW X (.BoolOp .And (b::rest) B) tB'):PW X (.BoolOp .And (a::b::rest) B) (QC tA tB'):=by
 intro w pins s J H Q I h;refine isTrue_and (cG (e pins s J H _ I h) λc k z=>?_);obtain⟨G,x,q⟩:=z;cases c with
 |true=>exact n w pins k J G Q x q
 |false=>exact⟨G,x,q⟩
theorem NN(e:PT X a tA)(n:PW X (.BoolOp .Or (b::rest) B) tB'):PW X (.BoolOp .Or (a::b::rest) B) (Sn tA tB'):=by
 intro w pins s J H Q I h;refine isTrue_or (cG (e pins s J H _ I h) λc k z=>?_);obtain⟨G,x,q⟩:=z;cases c with
 |true=>exact⟨G,x,q⟩
 |false=>exact n w pins k J G Q x q
theorem KU(x:PT X a tA):PT X (.UnaryOp .Not a B) (Qu tA):=by intro pins s J H Q I h;exact isTrue_not (x pins s J H (λc G=>Q (!c) G) I h)
noncomputable def ND(ta tb:TE):TE:=λJ H Q=>ta J H λx G=>∃c,x=.bl c/\if c=true then tb J G Q else Q (.bl false) G
noncomputable def Qt(ta tb:TE):TE:=λJ H Q=>ta J H λx G=>∃c,x=.bl c/\if c=true then Q (.bl true) G else tb J G Q
noncomputable def Nv(ta:TE):TE:=λJ H Q=>ta J H λx G=>∃c,x=.bl c/\Q (.bl (!c)) G
theorem K9 {q} (h:Y X a t):Y X (.BoolOp q [a] B) t:=λpins s J H Q I hw=>BoolOp_one (h pins s J H Q I hw)
theorem Le(n:Y X a ta)(k:Y X (.BoolOp .And (b::rest) B) tb):Y X (.BoolOp .And (a::b::rest) B) (ND ta tb):=by
 intro pins s J H Q I h;refine BoolOp_and (cG (n pins s J H _ I h) λv f z=>?_);obtain⟨x,G,e,r,q⟩:=z;obtain⟨c,rfl,q⟩:=q;cases r;refine ko ?_;cases c with
 |true=>exact k pins f J G Q e q
 |false=>exact⟨.bl false,G,e,rfl,q⟩
theorem NQ(n:Y X a ta)(k:Y X (.BoolOp .Or (b::rest) B) tb):Y X (.BoolOp .Or (a::b::rest) B) (Qt ta tb):=by
 intro pins s J H Q I h;refine BoolOp_or (cG (n pins s J H _ I h) λv f z=>?_);obtain⟨x,G,e,r,q⟩:=z;obtain⟨c,rfl,q⟩:=q;cases r;refine ko ?_;cases c with
 |false=>exact k pins f J G Q e q
 |true=>exact⟨.bl true,G,e,rfl,q⟩
theorem K_(n:Y X a ta):Y X (.UnaryOp .Not a B) (Nv ta):=by intro pins s J H Q I h;refine UnaryOp_ (cG (n pins s J H _ I h) λv k z=>?_);obtain⟨x,G,e,r,q⟩:=z;obtain⟨c,rfl,q⟩:=q;cases r;exact not_of (ko ⟨.bl (!c),G,e,rfl,q⟩)
noncomputable def So(t:TT)(ta tb:TE):TE:=λJ H Q=>t J H λc G=>if c=true then ta J G Q else tb J G Q
theorem EJ(f:PT X c tA)(n:Y X a ta)(k:Y X b tb):Y X (.IfExp c a b B) (So tA ta tb):=by
 intro pins s J H Q I h;refine wpAny_IfExp (cG (f pins s J H _ I h) λd e z=>?_);obtain⟨G,x,q⟩:=z;cases d with
 |true=>exact n pins e J G Q x q
 |false=>exact k pins e J G Q x q
end
def iB(K:FG)(H:Hp)(a:Addr)(xs:List V):Prop:=
 Rd H a (.lst xs) \/
  ∃(o:Obj)(i:Array Value)(n:Nat),K.lookup a=some o/\o.cls=.type "list"/\o.dict=none/\o.data=.seq i n/\i.size≤sizeLine/\ba xs i.toList
def ny(K:FG)(H:Hp)(a:Addr)(xs:List V):Prop:=
 Rd H a (.tup xs) \/
  ∃(o:Obj)(i:Array Value)(n:Nat),K.lookup a=some o/\o.cls=.type "tuple"/\o.dict=none/\o.data=.seq i n/\i.size≤sizeLine/\ba xs i.toList
noncomputable def Rs:Value->Option V
 | .none=>some .non
 | .bool b=>some (.bl b)
 | .int i _=>some (.int i)
 | .str x _=>some (.str x)
 | .bytes b _=>some (.byt b)
 | .float b _=>some (.flt b)
 | .ref a=>some (.ref a)
 | .type n=>some (.ty n)
 |_=>none
theorem RelV.abs(r:RelV x u):Rs u=some x:=by
 cases x with
 |non=>cases r;rfl
 |bl _=>cases r;rfl
 |int _=>obtain⟨t,rfl⟩:=r;rfl
 |str _=>obtain⟨t,rfl⟩:=r;rfl
 |byt _=>obtain⟨t,rfl⟩:=r;rfl
 |flt _=>obtain⟨t,rfl⟩:=r;rfl
 |ref _=>cases r;rfl
 |ty _=>cases r;rfl
variable{y:V}
theorem RelV.inj(r:RelV x u)(q:RelV y u):x=y:=cw (r.abs.symm.trans q.abs)
theorem ba.inj:∀{xs ys:List V}{j:LV},ba xs j->ba ys j->xs=ys
 |_,_,_,.nil,.nil=>rfl
 |_,_,_,.cons r t,.cons h x=>by rw[r.inj h,ba.inj t x]
section
variable{X:Cx}{pins:PN}{J:St}{H:Hp}{s:Shared}{a:Addr}{xs ys:List V}
theorem iB.of{K:FG}(h:H a=some (.lst xs)):iB K H a xs:=.inl (.inl h)
theorem Inv.list(I:Inv X pins J H s)(h:iB X.K H a xs):∃i:LV,ba xs i/\PlainL s.heap a i.toArray/\xs.length≤sizeLine:=by
 rcases h with h|⟨o,i,n,hk,c,hd,x,k,r⟩
 .obtain⟨z,i,n,r,e⟩:=h.ok I.h;exact⟨i,r,⟨_,n,e,rfl,rfl,rfl⟩,z⟩
 .refine⟨i.toList,r,⟨o,n,I.kIn a o hk,c,hd,by simpa using x⟩,?_⟩;have e:=r.length;simp only[mB]at e;lia
theorem Inv.tuple(I:Inv X pins J H s)(h:ny X.K H a xs):∃i:LV,ba xs i/\IsTup s.heap a i.toArray/\xs.length≤sizeLine:=by
 rcases h with h|⟨o,i,n,hk,c,_,x,k,r⟩
 .obtain⟨z,i,r,p⟩:=h.ok I.h;exact⟨i,r,p.tup,z⟩
 .refine⟨i.toList,r,⟨o,I.kIn a o hk,c,n,by simpa using x⟩,?_⟩;have e:=r.length;simp only[mB]at e;lia
theorem Inv.tupleN(I:Inv X pins J H s)(h:ny X.K H a xs):∃its:LV,ba xs its/\n0 s.heap a its.toArray:=by
 rcases h with q|⟨ob,vs,m,e1,e2,e3,e4,_,rv⟩
 .exact⟨_,(q.ok I.h).2.choose_spec⟩
 .exact⟨vs.toList,rv,ob,I.kIn a ob e1,⟨e2,m,by simpa using e4⟩,e3⟩
theorem Inv.list_inj(I:Inv X pins J H s)(h:iB X.K H a xs)(h':iB X.K H a ys):xs=ys:=by
 obtain⟨t,r,⟨o,n,e,_,_,d⟩,_⟩:=I.list h;obtain⟨i,b,⟨o',c,k,_,_,x⟩,_⟩:=I.list h';rw[e]at k;cases k;rw[d]at x;injection x with f _;have:t=i:=by simpa using cY Av f
 subst this;exact r.inj b
theorem Inv.tuple_inj(I:Inv X pins J H s)(h:ny X.K H a xs)(h':ny X.K H a ys):xs=ys:=by
 obtain⟨t,r,⟨o,e,_,n,d⟩,_⟩:=I.tuple h;obtain⟨i,b,⟨o',k,_,c,x⟩,_⟩:=I.tuple h';rw[e]at k;cases k;rw[d]at x;injection x with f _;have:t=i:=by simpa using cY Av f
 subst this;exact r.inj b
end
noncomputable abbrev Cx.wish(X:Cx)(E:VP):Cx:={ X with xe:=E }
abbrev Cx.nox(X:Cx):Cx:=X.wish λ_ _=>False
theorem Cx.Ok.wish(ok:X.Ok)(E:VP):(X.wish E).Ok:=
 ⟨ok.mod,ok.kind,ok.glob,ok.blt,ok.above,ok.inj,ok.has,ok.cab,ok.hd,ok.frames,ok.stk,ok.exf,ok.bs,ok.bsz,ok.noex,ok.exfs,ok.funs,ok.frf,ok.tab⟩
theorem Cx.Ok.unwish(ok:(X.wish E).Ok):X.Ok:=
 ⟨ok.mod,ok.kind,ok.glob,ok.blt,ok.above,ok.inj,ok.has,ok.cab,ok.hd,ok.frames,ok.stk,ok.exf,ok.bs,ok.bsz,ok.noex,ok.exfs,ok.funs,ok.frf,ok.tab⟩
section
variable{X:Cx}{pins:PN}{J:St}{H:Hp}{s:Shared}{E:VP}
theorem Inv.wish(I:Inv X pins J H s)(E:VP):Inv (X.wish E) pins J H s:=⟨I.o.wish E,I.os,I.bare,I.base,I.loc,I.cell,I.free,I.freeC,I.pin,I.h,I.len⟩
theorem Inv.unwish(I:Inv (X.wish E) pins J H s):Inv X pins J H s:=⟨I.o.unwish,I.os,I.bare,I.base,I.loc,I.cell,I.free,I.freeC,I.pin,I.h,I.len⟩
set_option tactic.hygienic true in
theorem SP.unwish(h:SP (X.wish E) pins D f s'):SP X pins D f s':=by
 cases f with
 |next=>obtain⟨x,H',I,q⟩:=h;exact⟨x,H',I.unwish,q⟩
 |brk=>obtain⟨x,H',I,q⟩:=h;exact⟨x,H',I.unwish,q⟩
 |cont=>obtain⟨x,H',I,q⟩:=h;exact⟨x,H',I.unwish,q⟩
 |ret u=>obtain⟨v,x,H',I,r,q⟩:=h;exact⟨v,x,H',I.unwish,r,q⟩
theorem oe.nox{st:List Stmt}{t:TS}(h:oe X.nox st t):oe X st t:=λpins s J H D I hw=>
 cD (h pins s J H D (I.wish _) hw) (λ_ _ q=>q.unwish) λ_ _ z=>False.elim z
end
section
variable{X:Cx}{st:Stmt}{rest:List Stmt}{t u:TS}{e:Expr}{te:TE}{B:Pos}
noncomputable def Nx:TS:=λD J H=>D.nx J H
noncomputable def Qr(t u:TS):TS:=λD J H=>t { D with nx:=u D } J H
theorem HQ:oe X [] Nx:=λ_ _ J H _ I h=>tq ⟨J,H,I,h⟩
set_option tactic.hygienic true in
theorem Ew(h1:PS X st t)(h2:oe X rest u):oe X (st::rest) (Qr t u):=by
 intro pins s J H D I h;refine AO (cG (h1 pins s J H { D with nx:=u D } I h) λf e q=>?_);cases f with
 |next=>obtain⟨a,H',x,q⟩:=q;exact h2 pins e a H' D x q
 |ret v=>exact q
 |brk=>exact q
 |cont=>exact q
set_option tactic.hygienic true in
theorem HP(h1:PS X st t):oe X [st] t:=by
 intro pins s J H D I h;refine AO (cG (h1 pins s J H D I h) λf x q=>?_);cases f with
 |next=>exact tq q
 |ret v=>exact q
 |brk=>exact q
 |cont=>exact q
theorem Inv.quiet(I:Inv X pins J H s):interactive X.e=false:=by simp[interactive,I.o.kind]
noncomputable def Nz(te:TE):TS:=λD J H=>te J H λ_ G=>D.nx J G
theorem HS(n:Y X e te)(k:swapsWith e none B.line X.e=pure false:=by rfl):PS X (.Expr e B) (Nz te):=by intro pins s J H D I h;exact wpAny_Expr_any (cG (n pins s J H _ I h) λv f z=>by obtain⟨x,G,a,r,q⟩:=z;exact⟨J,G,a,q⟩) I.quiet k
noncomputable def Qs(te:TE):TS:=λD J H=>te J H D.rt
theorem KY(n:Y X e te):PS X (.Return (some e) B) (Qs te):=by intro pins s J H D I h;exact wpAny_Return_some (cG (n pins s J H _ I h) λv k z=>by obtain⟨x,G,a,r,q⟩:=z;exact⟨x,J,G,a,r,q⟩)
noncomputable def Qw(c:TT)(t u:TS):TS:=λD J H=>c J H λb G=>if b=true then t D J G else u D J G
theorem NO{c:Expr}{a b:List Stmt}{tc:TT}(f:PT X c tc)(n:oe X a t)(k:oe X b u):PS X (.If c a b B) (Qw tc t u):=by
 intro pins s J H D I h;refine wpAny_If (cG (f pins s J H _ I h) λd e z=>?_);obtain⟨G,x,q⟩:=z;cases d with
 |true=>exact n pins e J G D x q
 |false=>exact k pins e J G D x q
noncomputable def D':TS:=λ_ _ _=>False
theorem Ey:PS X st D':=λ_ _ _ _ _ _ h=>h.elim
theorem Cu:oe X q D':=λ_ _ _ _ _ _ h=>h.elim
end
noncomputable abbrev TG:=V->St->Hp->(St->Hp->Prop)->Prop
noncomputable abbrev Mu:=List V->St->Hp->(St->Hp->Prop)->Prop
def PG(X:Cx)(a:Expr)(t:TG):Prop:=
 ∀(pins:PN)(s:Shared)(J:St)(H:Hp)(v:V)(u:Value)(Q:St->Hp->Prop),Inv X pins J H s->RelV v u->t v J H Q ->
  wx X (assign a X.e u) (λ_ s'=>∃h H',Inv X pins h H' s'/\Q h H') X.xe s
def O4(X:Cx)(x:Ab)(t:Mu):Prop:=
 ∀(pins:PN)(s:Shared)(J:St)(H:Hp)(v:List V)(j:LV)(Q:St->Hp->Prop),Inv X pins J H s->ba v j->t v J H Q ->
  wx X (assignInOrder ((assignEach x X.e).map (·.2)) j) (λ_ s'=>∃h H',Inv X pins h H' s'/\Q h H') X.xe s
noncomputable abbrev Ms:=V->V->V->Hp->(Hp->Prop)->Prop
def O2(X:Cx)(t:Ms):Prop:=
 ∀(pins:PN)(s:Shared)(J:St)(H:Hp)(o i v:V)(h iv u:Value)(Q:Hp->Prop),Inv X pins J H s->RelV o h->RelV i iv->RelV v u->t o i v H Q ->
  wx X (setItem h iv u) (λ_ s'=>∃H',Inv X pins J H' s'/\Q H') X.xe s
noncomputable abbrev Rv:=V->V->Hp->VK->Prop
def R7(X:Cx)(o:Operator)(t:Rv):Prop:=
 ∀(pins:PN)(s:Shared)(J:St)(H:Hp)(x y:V)(v u:Value)(Q:VK),Inv X pins J H s->RelV x v->RelV y u->t x y H Q ->
  wx X (inplaceOp o v u) (EP X pins J Q) X.xe s
section
variable{X:Cx}{B:Pos}
noncomputable def JC(i:Nat):TG:=λv J H Q=>Q (J.set i (some v)) H
theorem H_(N:X.N.Nodup)(hi:X.N[i]? = some x)(e:Loc X.e.scope x)(f:X.fn x=true\/X.e.scope.names.lookup x=some .local:=by first|exact .inl rfl|exact .inr rfl|assumption):PG X (.Name x B) (JC i):=by intro pins s J H v u Q I r h;exact xq (qo I N hi e r (λs' a=>⟨_,H,a,h⟩) f)
noncomputable def Ri:Mu:=λv J H Q=>v=[]/\Q J H
noncomputable def Ox(t:TG)(u:Mu):Mu:=λs J H Q=>∃v r,s=v::r/\t v J H λh H'=>u r h H' Q
theorem H0:O4 X [] Ri:=by intro pins s J H v j Q I r h;obtain⟨e,h⟩:=h;subst e;cases r;exact assignInOrder_nil ⟨J,H,I,h⟩
theorem EF{e:Expr}{es:Ab}{t:TG}{u:Mu}(h1:PG X e t)(h2:O4 X es u)
  (k:(assignEach (e::es) X.e).map (·.2)=assign e X.e::(assignEach es X.e).map (·.2):=by rfl):O4 X (e::es) (Ox t u):=by
 intro pins s J H m j Q I r h;obtain⟨v,c,n,h⟩:=h;subst n;cases r with
 |cons r f=>rw[k];refine assignInOrder_cons (cG (h1 pins s J H _ _ _ I r h) λ_ b z=>?_);obtain⟨a,G,x,q⟩:=z;exact h2 pins b a G _ _ Q x f q
noncomputable def Rg(K:FG)(n:Nat)(t:Mu):TG:=λv J H Q=>∃a xs,v=.ref a/\ny K H a xs/\xs.length=n/\t xs J H Q
theorem K5(m:X.c=true)(h:O4 X es t)
  (p:(assignEach es X.e).length=n:=by rfl) (hst:(assignEach es X.e).findIdx? (·.1)=none:=by rfl):PG X (.Tuple es k B) (Rg X.K n t):=by
 intro pins s J H v u Q I r hw;obtain⟨a,xs,c,q,l,hw⟩:=hw;subst c;cases r;obtain⟨i,x,d,z⟩:=I.tuple q;refine assign_Tuple_tuple (I.o.hd m) d (by simp[p,<- l,x.length]) hst λh' w=>?_
 have f:Inv X pins J H { s with heap:=h' }:=I.kept (t':=s.toks) λb o e=>w b o (bb (aC e)) e;exact h pins _ J H xs _ Q f (by simpa using x) hw
noncomputable def Rh(to x:TE)(t:Ms):TG:=λv J H Q=>to J H λo G=>x J G λi H2=>t o i v H2 λh=>Q J h
theorem K6{o i:Expr}{to a:TE}{t:Ms}(c:Y X o to)(hi:Y X i a)(m:O2 X t)
  (b:∀v,assign (.Subscript o i B) X.e v=(do
   let q <- holding [v] (eval o X.e)
   let iv <- holding [v,q] (eval i X.e)
   standAt B
   holding [v,q,iv] (setItem q iv v)
   release [v,q,iv] []):=by intro _;rfl):PG X (.Subscript o i B) (Rh to a t):=by
 intro pins s J H v u Q I r h;rw[b];refine ab (fE (cG (c pins s J H _ I h) λq l z=>?_));obtain⟨x,G,n,g,p⟩:=z;refine ab (fE (cG (hi pins l J G _ n p) λiv S z=>?_));obtain⟨y,H2,k,j,d⟩:=z;refine ab (tj (ab (fE (cG (m pins S J H2 x y v q iv u _ k g j r d) λ_ F z=>?_))));obtain⟨e,f,w⟩:=z;exact wpAny_release ⟨J,e,f,w⟩
noncomputable def NC(te:TE)(g:TG):TS:=λD J H=>te J H λx G=>g x J G D.nx
theorem Ez{tg e:Expr}{te:TE}{g:TG}(n:Y X e te)(k:PG X tg g)(f:swapsWithSole [tg] e B.line X.e=pure false:=by rfl)(hw:swappedStores [tg] e X.e=pure none:=by rfl)
  (h1:(assignEach [tg] X.e).map (·.2)=[assign tg X.e]:=by rfl):PS X (.Assign [tg] e B) (NC te g):=by
 intro pins s J H D I h;refine wpAny_Assign_stores (cG (n pins s J H _ I h) λv c z=>?_) f hw;obtain⟨x,G,a,r,b⟩:=z;rw[h1];exact cG (k pins c J G x v _ a r b) λ_ m q=>q
theorem KW(N:X.N.Nodup)(hi:X.N[i]? = some x)(c:Loc X.e.scope x)(k:Y X e te)(b:swapsWith e (some (.Name x pos')) B.line X.e=pure false:=by rfl)(f:X.fn x=true\/X.e.scope.names.lookup x=some .local:=by first|exact .inl rfl|exact .inr rfl|assumption) :
  PS X (.Assign [.Name x pos'] e B) (NC te (JC i)):=by
 intro pins s J H D I h;refine wpAny_Assign_Name (cG (k pins s J H _ I h) λv m z=>?_) b;obtain⟨y,G,a,r,q⟩:=z;exact qo a N hi c r (λt n=>⟨_,G,n,q⟩) f
noncomputable def QB(i:Nat)(te:TE)(t:Rv):TS:=λD J H=>∃x,J[i]? = some (some x)/\te J H λy G=>t x y G λz H2=>D.nx (J.set i (some z)) H2
set_option tactic.hygienic true in
theorem K1(N:X.N.Nodup)(hi:X.N[i]? = some x)(b:Loc X.e.scope x)(K:Y X e te)(L:R7 X q ti)(P:X.fn x=true\/X.e.scope.names.lookup x=some .local:=by first|exact .inl rfl|exact .inr rfl|assumption) :
  PS X (.AugAssign (.Name x pos') q e B) (QB i te ti):=by
 intro pins s J H D I h;obtain⟨v,S,h⟩:=h;obtain⟨m,E,A⟩:=I.loc;have p:Jh X.e.scope x:=by rcases b with k|k;exact .inl k;exact .inr (.inl k)
 obtain⟨u,r,l⟩:=A i x v hi S p;refine wpAny_AugAssign_Name ?_;have g:wx X (eval e X.e) (λw n=>wx X (inplaceOp q u w) (λr f=>wx X (storeName X.e x r) (λ_=>SP X pins D .next) X.xe f) X.xe n) X.xe s:=by refine cG (K pins s J H _ I h) λw V t=>?_;obtain⟨y,G,d,R,M⟩:=t;refine cG (L pins V J G v y u w _ d r R M) λz W t=>?_;obtain⟨zv,H2,j,T,Q⟩:=t;exact qo j N hi b T (λZ o=>⟨_,H2,o,Q⟩) P
 rcases l with ⟨hk,C⟩|⟨hk,c,F,a⟩
 .exact xu I.o.kind hk E C g
 .rcases hk with hk|hk
  .exact A0 I.o.kind hk F a g
  .rcases b with k|k
   .have:X.e.scope.names.lookup x=some .free:=hk;rw[k]at this;cases this
   .have:X.e.scope.names.lookup x=some .free:=hk;rw[k]at this;cases this
noncomputable def SF(f:Int->Int->Int):Rv:=λx y H Q=>∃i j,x=.int i/\y=.int j/\Q (.int (f i j)) H
theorem LW:R7 X .Add (SF λi j=>i+j):=by intro pins s J H x y v u Q I r n h;obtain⟨i,j,e,a,q⟩:=h;subst e;subst a;obtain⟨t,rfl⟩:=r;obtain⟨k,rfl⟩:=n;exact iadd_int ⟨.int _,H,I.tok _,⟨_,rfl⟩,q⟩
end
section
variable{X:Cx}{B:Pos}
noncomputable def Ks(c:TT)(tb:TS):TS:=λD J H=>∃W:Nat->St->Hp->Prop,(∃m,W m J H)/\∀m J H,W m J H ->
 c J H λb G=>if b=true then ∃N:St->Hp->Prop,(∀h H',N h H'->∃x,x < m/\W x h H')/\tb { D with nx:=N,ct:=N,bk:=D.nx } J G else D.nx J G
set_option tactic.hygienic true in
theorem Ex(l:PassesOwn (model X.p X.w) X.A X.e X.xe)(o:PT X c tc)(z:oe X q tb):PS X (.While c q [] B) (Ks tc tb):=by
 intro pins s J H D I h;obtain⟨W,⟨F,A⟩,t⟩:=h;refine wpAny_While (codeAny_whileLoop (λn s'=>∃i H',Inv X pins i H' s'/\W n i H') ?_ F ⟨J,H,I,A⟩);rintro n K ⟨e,G,y,C⟩;refine lE l (cG (o pins K e G _ y (t n e G C)) λb P S=>?_);obtain⟨H2,g,k⟩:=S;cases b with
 |true=>
  obtain⟨N,j,k⟩:=k;rw[ac rfl];refine lE l (cG (z pins P e H2 _ g k) λf E m=>?_);cases f with
  |next=>obtain⟨a,x,r,w⟩:=m;obtain⟨d,p,u⟩:=j a x w;exact⟨d,p,a,x,r,u⟩
  |cont=>obtain⟨a,x,r,w⟩:=m;obtain⟨d,p,u⟩:=j a x w;exact⟨d,p,a,x,r,u⟩
  |brk=>exact m
  |ret v=>exact m
 |false=>rw[af bx];exact tq ⟨e,H2,g,k⟩
end
structure It where
 go:Nat->Hp->Prop
 yld:Nat->Hp->V->Hp->Prop
 stop:Nat->Hp->Prop
def vJ(X:Cx)(pins:PN)(H:Hp)(b:Addr):Prop:=
 H b=none/\b≠X.e.locals/\b ∉ X.fs/\(b ∈ X.ex\/X.z.heap.objs.size≤b)/\(∀x c,X.e.cells.lookup x=some c->c≠b)/\∀p ∈ X.pn++pins,p.1≠b
variable{pins:PN}{J:St}
theorem Inv.fpOk(I:Inv X pins J H s)(h:s.heap.objs.size≤b)(n:H' b=none):vJ X pins H' b:=by
 refine⟨n,bO (bF I.lt h),I.nofs h,.inr (au I.sz h),λx c e z=>?_,λp a z=>?_⟩
 .obtain⟨v,q⟩:=I.cell x c e;exact absurd (bF q.lt (by rw[z];exact h)) (eQ _)
 .exact absurd (bF (aC (I.pin p a).1) (by rw[z];exact h)) (eQ _)
structure Turn(P:Program)(w:World)(K:FG)(tg:Expr)(J9:It)(fp:List Addr)(it:Addr)(tn:Nat->Heap->Prop):Prop where
 mem:it ∈ fp
 obj:∀i h,tn i h->∀b ∈ fp,∃o,h.get? b=some o/\∀v,o.data≠.cell v
 keep:∀i h h',tn i h->(∀b ∈ fp,∀o,h.get? b=some o->h'.get? b=some o)->tn i h'
 item:∀(X:Cx),X.p=P->X.w=w->X.K=K->X.c=true->∀(i:Nat)(pins:PN)(s:Shared)(J:St)(H:Hp)(E:VP),Inv X pins J H s->(∀b ∈ fp,vJ X pins H b)->tn i s.heap->J9.go i H ->
  wpAny (model P w) X.A (pyNext (.ref it)) (fun r s1=>∃u,r=some u /\
   wpAny (model P w) X.A (letOwnedTupleGo tg (.ref it) u) (λ_ s2=>∃x H',Inv X pins J H' s2/\RelV x u/\J9.yld i H x H'/\tn (i+1) s2.heap/\∀b ∈ fp,H' b=none) E s1) E s
 done:∀(X:Cx),X.p=P->X.w=w->X.K=K->X.c=true->∀(i:Nat)(pins:PN)(s:Shared)(J:St)(H:Hp)(E:VP),Inv X pins J H s->(∀b ∈ fp,vJ X pins H b)->tn i s.heap->J9.stop i H ->
  wpAny (model P w) X.A (pyNext (.ref it)) (λr s1=>r=none/\Inv X pins J H s1) E s
 self:∀(A:Around)(i:Nat)(s:Shared)(Q:VP)(E:VP),tn i s.heap->Q (.ref it) s->wpAny (model P w) A (pyIter (.ref it)) Q E s
noncomputable abbrev TI:=St->Hp->(It->Hp->Prop)->Prop
def PM(X:Cx)(pins:PN)(J:St)(tg:Expr)(R:It->Hp->Prop)(i:Value)(s:Shared):Prop:=
 ∃(t:Addr)(f:List Addr)(n:Nat->Heap->Prop)(h:It)(H':Hp),i=.ref t/\Inv X pins J H' s/\Turn X.p X.w X.K tg h f t n/\n 0 s.heap/\(∀b ∈ f,vJ X pins H' b)/\R h H'
def PI(X:Cx)(tg iter:Expr)(w:TI):Prop:=
 ∀(pins:PN)(s:Shared)(J:St)(H:Hp)(R:It->Hp->Prop),Inv X pins J H s->w J H R ->
  wx X (eval iter X.e) (λv h=>wx X (pyIter v) (PM X pins J tg R) X.xe h) X.xe s
variable{tg:Expr}
theorem FN(e:s.heap.get? q=some o)(c:o.cls=.type n)(hd:o.data=.fields z)
    (a:["enumerate","zip","dict_itemiterator","dict_reverseitemiterator","odict_iterator","itertools.zip_longest","itertools.pairwise"].contains n=false) (x:Q () s):wpAny M A (letOwnedTupleGo tg (.ref q) u) Q E s:=by
  unfold letOwnedTupleGo;cases tg<;>first
    |exact ao x
    | (cases u <;> first
        |exact ao x
        | (refine ab (wpAny_load e ?_)
           rw[c,hd];show wpAny M A (if (["enumerate","zip","dict_itemiterator","dict_reverseitemiterator","odict_iterator","itertools.zip_longest","itertools.pairwise"].contains n && z[0]? == some (rawInt _))=true then _ else _) Q E s;rw[af (by intro h;rw[a,Bool.false_and]at h;cases h)];exact ao x))
noncomputable def PU(K:FG)(a:Addr):It:=
 ⟨λi H=>∃xs x,iB K H a xs/\xs[i]? = some x,λi H x H'=>H'=H/\∀xs,iB K H a xs->xs[i]? = some x,λi H=>∃xs,iB K H a xs/\xs.length≤i⟩
noncomputable def R_(K:FG)(a:Addr):It:=
 ⟨λi H=>∃xs x,ny K H a xs/\xs[i]? = some x,λi H x H'=>H'=H/\∀xs,ny K H a xs->xs[i]? = some x,λi H=>∃xs,ny K H a xs/\xs.length≤i⟩
noncomputable def PQ(lo:Int)(n:Nat):It:=⟨λi _=>i < n,λi H x H'=>H'=H/\x=.int (lo+i),λi _=>n≤i⟩
variable{w:World}{K:FG}
theorem Cg(a t:Addr):Turn P w K tg (PU K a) [t] t (λi h=>h.IsListIter t a i) where
 mem:=by simp
 obj:=λi h st b n=>by
  have e:b=t:=by simpa using n
  subst e;obtain⟨o,e,c,d⟩:=st;exact⟨o,e,λv z=>by rw[d]at z;cases z⟩
 keep:=λi h h' st k=>st.at λo e=>k t (by simp) o e
 item:=by
  intro X F hw S G i pins s J H E I m st A;subst F hw S;obtain⟨xs,x,q,B⟩:=A;obtain⟨C,D,p,T⟩:=I.list q;obtain⟨u,Q,V⟩:=D.get B;obtain⟨r,g,N,j,l,y⟩:=m t (by simp);refine Dt st p.isList (x:=u) (by simpa using Q) λh' f W=>?_
  have L:Inv X pins J H { s with heap:=h' }:=I.turned (t':=s.toks) (λb o n e=>(W.2 b n).trans e) r g j l y;obtain⟨o,e,c,d⟩:=id f;exact⟨u,rfl,FN (s:={ s with heap:=h' }) e c d (by decide) ⟨x,H,L,V,⟨rfl,λys R=>by rw[I.list_inj R q];exact B⟩,f,λb n=>(m b n).1⟩⟩
 done:=by intro X F hw S G i pins s J H E I m st A;subst F hw S;obtain⟨xs,q,B⟩:=A;obtain⟨C,D,p,T⟩:=I.list q;obtain⟨r,g,N,j,l,y⟩:=m t (by simp);have Z:=D.length;exact Dp (I.o.hd G) st p.isList (by simp;lia) λh' M=>⟨rfl,I.turned (t':=s.toks) (λb o n e=>M b o n e) r g j l y⟩
 self:=λ_ _ _ _ _ st h=>wpAny_pyIter_listiter st h
theorem xL(a t:Addr):Turn P w K tg (R_ K a) [t] t (λi h=>h.IsTupleIter t a i) where
 mem:=by simp
 obj:=λi h st b n=>by
  have e:b=t:=by simpa using n
  subst e;obtain⟨o,e,c,d⟩:=st;exact⟨o,e,λv z=>by rw[d]at z;cases z⟩
 keep:=λi h h' st k=>st.at λo e=>k t (by simp) o e
 item:=by
  intro X A hw F G i pins s J H E I r st B;subst A hw F;obtain⟨xs,x,q,C⟩:=B;obtain⟨f,D,p,T⟩:=I.tuple q;obtain⟨u,Q,V⟩:=D.get C;obtain⟨g,j,N,l,y,S⟩:=r t (by simp);refine wpAny_pyNext_tuple_item st (show s.heap.IsTuple a f.toArray from p) (x:=u) (by simpa using Q) λh' m W=>?_
  have L:Inv X pins J H { s with heap:=h' }:=I.turned (t':=s.toks) (λb o n e=>(W.2 b n).trans e) g j l y S;obtain⟨o,e,c,d⟩:=id m;exact⟨u,rfl,FN (s:={ s with heap:=h' }) e c d (by decide) ⟨x,H,L,V,⟨rfl,λys R=>by rw[I.tuple_inj R q];exact C⟩,m,λb n=>(r b n).1⟩⟩
 done:=by intro X A hw F G i pins s J H E I r st B;subst A hw F;obtain⟨xs,q,C⟩:=B;obtain⟨f,D,p,T⟩:=I.tuple q;obtain⟨g,j,N,l,y,S⟩:=r t (by simp);have Z:=D.length;exact wpAny_pyNext_tuple_end (I.o.hd G) st (show s.heap.IsTuple a f.toArray from p) (by simp;lia) λh' M=>⟨rfl,I.turned (t':=s.toks) (λb o n e=>M b o n e) g j l y S⟩
 self:=λ_ _ _ _ _ st h=>wpAny_pyIter_tupleiter st h
theorem xM(x:Addr)(lo:Int)(n:Nat):Turn P w K tg (PQ lo n) [x] x (λi h=>IsRangeIter h x (lo+(i:Nat) * 1) ((n:Int)-(i:Nat)) 1) where
 mem:=by simp
 obj:=λi h st b a=>by
  have e:b=x:=by simpa using a
  subst e;exact⟨_,st,λv z=>by have C:Data.fields _=Data.cell v:=z;cases C⟩
 keep:=λi h h' st k=>k x (by simp) _ st
 item:=by
  intro X g hw u j i pins s J H E I c st l;subst g hw u;obtain⟨m,r,F,p,q,d⟩:=c x (by simp);have W:=Walks.range (prog:=X.p) (w:=X.w) (I.o.hd j) x lo 1 n;refine W.item i s _ _ l st λv h' tk A f B=>?_
  obtain⟨t,rfl⟩:=A;have y:Inv X pins J H { s with heap:=h',toks:=tk }:=I.turned (λb o a e=>B b o (by simpa using a) e) m r p q d;refine⟨_,rfl,FN (s:={ s with heap:=h',toks:=tk }) (n:="range_iterator") f rfl rfl (by decide) ⟨.int (lo+i),H,y,⟨t,?_⟩,⟨rfl,rfl⟩,f,λb a=>(c b a).1⟩⟩;rw[Int.mul_one]
 done:=by intro X g hw u j i pins s J H E I c st l;subst g hw u;obtain⟨m,r,F,p,q,d⟩:=c x (by simp);exact wpAny_pyNext_range_end (I.o.hd j) st (by have:n≤i:=l;lia) λh' S=>⟨rfl,I.turned (t':=s.toks) (λb o a e=>S b o a e) m r p q d⟩
 self:=λ_ _ _ _ _ st h=>wpAny_pyIter_rangeiter st h
section
variable{X:Cx}{tg:Expr}
theorem Er{lo hi:Int}{t u v:Tok}{tk:Nat}(I:Inv X pins J H s)(h1:-(2 ^ 62)≤lo)(h2:lo < 2 ^ 62)(n:-(2 ^ 62)≤hi)(k:hi < 2 ^ 62)
  (q:R (PQ lo (hi-lo).toNat) H):wx X (pyIter (.ref s.heap.objs.size)) (PM X pins J tg R) E { s with heap:=s.heap.push { cls:=.type "range",data:=.fields #[.int lo t,.int hi u,.int 1 v] },toks:=tk }:=by
 refine wpAny_pyIter_range (IsRange.new ..) (small_one h1 h2 n k) ?_;have h:Inv X pins J H { s with heap:=s.heap.push { cls:=.type "range",data:=.fields #[.int lo t,.int hi u,.int 1 v] },toks:=tk }:=I.kept fun b o e=>aO _ e;refine⟨(s.heap.push { cls:=.type "range",data:=.fields #[.int lo t,.int hi u,.int 1 v] }).objs.size,[(s.heap.push { cls:=.type "range",data:=.fields #[.int lo t,.int hi u,.int 1 v] }).objs.size],_,_,H,rfl,
  h.kept (t':=tk) λb o e=>aO _ e,xM _ lo (hi-lo).toNat,?_,λb f=>?_,q⟩
 .have x:lo+((0:Nat):Int) * 1=lo:=by simp
  have a:(((hi-lo).toNat:Nat):Int)-((0:Nat):Int)=Builtin.Range.rangeSize lo hi 1:=by rw[AE];split<;>lia
  show IsRangeIter _ _ (lo+((0:Nat):Int) * 1) ((((hi-lo).toNat:Nat):Int)-((0:Nat):Int)) 1;rw[x,a];exact br _ rfl
 .have e:b=(s.heap.push { cls:=.type "range",data:=.fields #[.int lo t,.int hi u,.int 1 v] }).objs.size:=by simpa using f
  subst e;exact h.fpOk (ah _) (h.h.fresh (ah _))
noncomputable def Ol(ta:TA):TI:=λJ H R=>ta J H λv G=>∃j:Int,v=[.int j]/\-(2 ^ 62)≤j/\j < 2 ^ 62/\R (PQ 0 j.toNat) G
theorem CB{a:Expr}{ta:TA}{p B:Pos}(g:Gl X "range")(m:X.g "range"=none)(f:PA X [a] ta)(b:starEach [a] X.e=[(false,eval a X.e)]:=by rfl):PI X tg (.Call (.Name "range" p) [a] [] B) (Ol ta):=by
 intro pins s J H R I h;refine Call_ (jV I g m boot_range (jG (cG (f B pins s J H _ I h) λj w z=>?_) b rfl));obtain⟨u,G,k,v,n⟩:=z;obtain⟨x,e,n,c,q⟩:=n;subst e;cases v with
 |cons r d=>cases d;obtain⟨t,rfl⟩:=r;exact call_range_1 (Er k (by lia) (by lia) n c (by simpa using q))
noncomputable def Qx(w:TI)(g:TG)(tb:TS):TS:=λD J H=>w J H λh G=>∃W:Nat->Nat->St->Hp->Prop,(∃m,W 0 m J G)/\∀i m J H,W i m J H ->
 (h.stop i H/\D.nx J H)\/(h.go i H/\∃N:St->Hp->Prop,(∀a H',N a H'->∃e,e < m/\W (i+1) e a H')/\∀x H',h.yld i H x H'->g x J H' λs H2=>tb { D with nx:=N,ct:=N,bk:=D.nx } s H2)
noncomputable def nN(f:List Addr)(h:Heap):PN:=f.filterMap λb=>(h.get? b).map λo=>(b,o)
theorem jU(x:b ∈ q)(e:h.get? b=some o):(b,o) ∈ nN q h:=kS.mpr ⟨b,x,by rw[e];rfl⟩
theorem CD(s:p ∈ nN z h):p.1 ∈ z/\h.get? p.1=some p.2:=by
 obtain⟨b,a,e⟩:=kS.mp s;cases q:h.get? b with
 |none=>rw[q]at e;cases e
 |some o=>rw[q]at e;have x:(b,o)=p:=cw e;subst x;exact⟨a,q⟩
theorem Inv.pinned(I:Inv X pins J H s)(k:∀b ∈ q,vJ X pins H b)(c:∀b ∈ q,∃o,s.heap.get? b=some o/\∀v,o.data≠.cell v):Inv X (pins++nN q s.heap) J H s:=
 I.pins_of λp m=>(bA.mp m).elim (λz=>I.pin p (eS _ z)) λz=>by obtain⟨x,e⟩:=CD z;obtain⟨f,a,n,_⟩:=k p.1 x;obtain⟨o,h,d⟩:=c p.1 x;rw[e]at h;cases h;exact⟨e,f,a,n,d⟩
theorem Inv.unpinned(I:Inv X (pins++q) J H s):Inv X pins J H s:=I.pins_of λp h=>I.pin p (eS _ (iI _ h))
set_option tactic.hygienic true in
theorem KZ{iter:Expr}{y:List Stmt}{wi:TI}{g:TG}{tb:TS}{B:Pos}(F:PassesOwn (model X.p X.w) X.A X.e X.xe)(hc:X.c=true)(hi:PI X tg iter wi)(hg:PG X tg g)(t:oe X y tb)
  (hs:∀x,foldedSetIterable iter X.e x=pure x:=by intro _;rfl):PS X (.For tg iter y [] B) (Qx wi g tb):=by
 intro pins s J H D I h;refine wpAny_For (cG (hi pins s J H _ I h) λv s1 h1=>cG h1 λitv s2 h2=>?_) hs;obtain⟨it,l,tn,J9,H2,e,I2,T,Q,Z,W,⟨m0,w0⟩,A⟩:=h2;subst e;have p:∀{H':Hp},(∀b ∈ l,H' b=none)->∀b ∈ l,vJ X pins H' b:=λhn b t=>⟨hn b t,(Z b t).2⟩
 refine codeAny_forLoop_any (λn s'=>∃i w H',Inv X pins w H' s'/\tn i s'.heap/\(∀b ∈ l,H' b=none)/\W i n w H') ?_ m0 ⟨0,J,H2,I2,Q,λb t=>(Z b t).1,w0⟩;rintro n s3 ⟨i,j,C,V,qx,S,w3⟩;rcases A i n j C w3 with ⟨P,qn⟩|⟨go,N,hN,step⟩
 .refine lE F (cG (T.done X rfl rfl rfl hc i pins s3 j C X.xe V (p S) qx P) λr s4 z=>?_);obtain⟨L,I4⟩:=z;subst L;exact tq ⟨j,C,I4,qn⟩
 .refine lE F (cG (T.item X rfl rfl rfl hc i pins s3 j C X.xe V (p S) qx go) λr s4 z=>?_);obtain⟨u,L,h4⟩:=z;subst L;refine lE F (cG h4 λ_ s5 z=>?_);obtain⟨x,R,I5,r5,y5,NE,G⟩:=z;have E:=I5.pinned (p G) (T.obj _ _ NE);refine lE F (cG (hg _ s5 j R x u _ E r5 (step x R y5)) λ_ s6 z=>?_);obtain⟨J6,H6,I6,q6⟩:=z;refine lE F (cG (t _ s6 J6 H6 _ I6 q6) λf M q=>?_);have again:∀{c:St}{a:Hp},Inv X (pins++nN l s5.heap) c a M->N c a->∃m,m < n/\∃i w H',Inv X pins w H' M/\tn i M.heap/\(∀b ∈ l,H' b=none)/\W i m w H':=λ{c a} k K=>by
   obtain⟨m',hm,w7⟩:=hN c a K;refine⟨m',hm,i+1,c,a,k.unpinned,T.keep _ _ _ NE λb t o e=>(k.pin (b,o) (eS _ (eS _ (jU t e)))).1,λb t=>?_,w7⟩;obtain⟨o,e,d⟩:=T.obj _ _ NE b t;exact(k.pin (b,o) (eS _ (eS _ (jU t e)))).2.1
  cases f with
  |next=>obtain⟨c,a,k,K⟩:=q;exact again k K
  |cont=>obtain⟨c,a,k,K⟩:=q;exact again k K
  |brk=>obtain⟨c,a,k,q⟩:=q;exact⟨c,a,k.unpinned,q⟩
  |ret v=>obtain⟨x7,c,a,k,r7,q⟩:=q;exact⟨x7,c,a,k.unpinned,r7,q⟩
end
noncomputable abbrev R2:=V->V->Hp->VK->Prop
def i_(X:Cx)(f:Value->Value->Sem Value)(r:R2):Prop:=
 ∀(pins:PN)(s:Shared)(J:St)(H:Hp)(x y:V)(v u:Value)(Q:VK),Inv X pins J H s->RelV x v->RelV y u->r x y H Q ->
  wx X (f v u) (EP X pins J Q) X.xe s
def Rt(X:Cx)(f:Value->Sem Value)(r:V->Hp->VK->Prop):Prop:=
 ∀(pins:PN)(s:Shared)(J:St)(H:Hp)(x:V)(v:Value)(Q:VK),Inv X pins J H s->RelV x v->r x H Q ->
  wx X (f v) (EP X pins J Q) X.xe s
def eE(X:Cx)(f:Value)(r:List V->Hp->VK->Prop):Prop:=
 ∀(pins:PN)(s:Shared)(J:St)(H:Hp)(xs:List V)(j:LV)(Q:VK),Inv X pins J H s->ba xs j->r xs H Q ->
  wx X (call f j) (EP X pins J Q) X.xe s
def Ru(X:Cx)(r:V->Hp->(Bool->Hp->Prop)->Prop):Prop:=
 ∀(pins:PN)(s:Shared)(J:St)(H:Hp)(x:V)(v:Value)(Q:Bool->Hp->Prop),Inv X pins J H s->RelV x v->r x H Q ->
  wx X (truthy v) (TP X pins J Q) X.xe s
noncomputable def Kt(r:R2)(ta tb:TE):TE:=λJ H Q=>ta J H λx G=>tb J G λy H2=>r x y H2 Q
noncomputable def Sl(r:V->Hp->VK->Prop)(ta:TE):TE:=λJ H Q=>ta J H λx G=>r x G Q
noncomputable def rI(C:Int->Int->Prop)(g:Int->Int->V):R2:=λx y H Q=>∃i j,x=.int i/\y=.int j/\C i j/\Q (g i j) H
noncomputable def HK(g:Int->Int->V):R2:=λx y H Q=>∃i j,x=.int i/\y=.int j/\Q (g i j) H
def rU(g:Int->V):V->Hp->VK->Prop:=λx H Q=>∃i,x=.int i/\Q (g i) H
section
variable{X:Cx}{a b c:Expr}{ta tb tc:TE}{B:Pos}
theorem Mo(r:Y X a ta)(t:Y X b tb){pins:PN}{s:Shared}{J:St}{H:Hp}{R:V->V->Hp->Prop}(I:Inv X pins J H s)
  (h:ta J H λx G=>tb J G λy H2=>R x y H2) {Q:VP}{f:Value->Value->Sem Value}
  (p:∀v u k x y H2,Inv X pins J H2 k->RelV x v->RelV y u->R x y H2->wx X (f v u) Q X.xe k) :
  wx X (eval a X.e) (λv e=>wx X (eval b X.e) (λu n=>wx X (f v u) Q X.xe n) X.xe e) X.xe s:=by
 refine cG (r pins s J H _ I h) λv i z=>?_;obtain⟨x,G,c,w,q⟩:=z;refine cG (t pins i J G _ c q) λu k z=>?_;obtain⟨y,H2,m,g,d⟩:=z;exact p v u k x y H2 m w g d
theorem NR{o:Operator}{r:R2}(f:i_ X (binaryOp o) r)(n:Y X a ta)(k:Y X b tb):Y X (.BinOp a o b B) (Kt r ta tb):=by intro pins s J H Q I h;exact wpAny_BinOp (Mo n k I h λv u t x y H2 e c m q=>f pins t J H2 x y v u Q e c m q)
theorem NP(o:Rt X (unaryOp q) r)(n:Y X a ta):Y X (.UnaryOp q a B) (Sl r ta):=by intro pins s J H Q I h;exact UnaryOp_ (cG (n pins s J H _ I h) λv b z=>by obtain⟨x,G,e,f,k⟩:=z;exact o pins b J G x v Q e f k)
theorem Pe{f:Value->Value->Sem Value}{C:Int->Int->Prop}{g:Int->Int->Int}
  (rule:∀(i j:Int)(t u:Tok)(s:Shared)(Q:VP)(E:VP),C i j->Q (.int (g i j) s.toks) { s with toks:=s.toks+1 }->wx X (f (.int i t) (.int j u)) Q E s) :
  i_ X f (rI C λi j=>.int (g i j)):=by
 intro pins s J H x y v u Q I r a h;obtain⟨i,j,rfl,rfl,c,q⟩:=h;obtain⟨t,rfl⟩:=r;obtain⟨e,rfl⟩:=a;exact rule i j t e s _ _ c ⟨.int (g i j),H,I.tok _,⟨_,rfl⟩,q⟩
theorem N6{f:Value->Value->Sem Value}{g:Int->Int->Int}
  (rule:∀(i j:Int)(t u:Tok)(s:Shared)(Q:VP)(E:VP),Q (.int (g i j) s.toks) { s with toks:=s.toks+1 }->wx X (f (.int i t) (.int j u)) Q E s) :
  i_ X f (HK λi j=>.int (g i j)):=by
 intro pins s J H x y v u Q I r a h;obtain⟨i,j,rfl,rfl,q⟩:=h;obtain⟨t,rfl⟩:=r;obtain⟨e,rfl⟩:=a;exact rule i j t e s _ _ ⟨.int (g i j),H,I.tok _,⟨_,rfl⟩,q⟩
theorem Ik{f:Value->Value->Sem Value}{g:Int->Int->Bool}
  (rule:∀(i j:Int)(t u:Tok)(s:Shared)(Q:VP)(E:VP),Q (.bool (g i j)) s->wx X (f (.int i t) (.int j u)) Q E s) :
  i_ X f (HK λi j=>.bl (g i j)):=by
 intro pins s J H x y v u Q I r a h;obtain⟨i,j,rfl,rfl,q⟩:=h;obtain⟨t,rfl⟩:=r;obtain⟨e,rfl⟩:=a;exact rule i j t e s _ _ ⟨.bl (g i j),H,I,rfl,q⟩
def RE(i j:Int):Prop:=0≤j/\j≤1000000/\i.natAbs < 2 ^ 64
theorem Ll:i_ X (binaryOp .Add) (HK λi j=>.int (i+j)):=N6 λ_ _ _ _ _ _ _ q=>add_int q
theorem Lf:i_ X (binaryOp .Sub) (HK λi j=>.int (i-j)):=N6 λ_ _ _ _ _ _ _ q=>sub_int q
theorem Li:i_ X (binaryOp .Mod) (rI (λ_ j=>0 < j) λi j=>.int (i % j)):=Pe λi j _ _ _ _ _ h q=>by have h1:(0:Int) < j:=h;exact mod_int' (by lia) (by rw[Int.fmod_eq_emod_of_nonneg i (by lia)];exact q)
theorem Lh:i_ X (binaryOp .Pow) (rI RE λi j=>.int (i ^ j.toNat)):=Pe λ_ _ _ _ _ _ _ h q=>pow_int_small h.1 h.2.1 h.2.2 q
theorem Sj{f:Value->Sem Value}{g:Int->Int}
  (rule:∀(i:Int)(t:Tok)(s:Shared)(Q:VP)(E:VP),Q (.int (g i) s.toks) { s with toks:=s.toks+1 }->wx X (f (.int i t)) Q E s) :
  Rt X f (rU λi=>.int (g i)):=by
 intro pins s J H x v Q I r h;obtain⟨i,rfl,q⟩:=h;obtain⟨t,rfl⟩:=r;exact rule i t s _ _ ⟨.int (g i),H,I.tok _,⟨_,rfl⟩,q⟩
theorem Ki:Rt X (unaryOp .USub) (rU λi=>.int (-i)):=Sj λ_ _ _ _ _ q=>neg_int q
end
noncomputable def NI:V->V->Bool
 | .non,.non=>true | .non,.int _=>true | .int _,.non=>true | .non,.bl _=>true | .bl _,.non=>true | .non,.str _=>true | .str _,.non=>true
 | .int _,.int _=>true | .bl _,.bl _=>true | .str _,.str _=>true | .byt _,.byt _=>true
 | .int _,.str _=>true | .str _,.int _=>true | .bl _,.str _=>true | .str _,.bl _=>true
 |_,_=>false
def Sv:R2:=λx y H Q=>NI x y=true/\Q (.bl (decide (x=y))) H
def Su:R2:=λx y H Q=>NI x y=true/\Q (.bl (!decide (x=y))) H
theorem BZ{i j:Int}:decide (V.int i=V.int j)=(i == j):=by rw[kX];simp
theorem F0:decide (V.bl i=V.bl q)=(i == q):=by rw[kX];simp
theorem BY:decide (V.str i=V.str q)=(i == q):=by rw[kX];simp
theorem B0:decide (V.byt i=V.byt q)=(i.toList == q.toList):=by rw[kX];cases i;cases q;simp
section
variable{X:Cx}{a b c:Expr}{ta tb tc:TE}{B:Pos}
theorem bH(I:Inv X pins J H s)(q:Q (.bl k) H)(e:k=z):EP X pins J Q (.bool z) s:=by subst e;exact⟨.bl k,H,I,rfl,q⟩
theorem EZ:i_ X (compareOp .Eq) Sv:=by
 intro pins s J H x y v u Q I n r h;obtain⟨e,q⟩:=h;cases x with
 |non=>
  cases n;cases y with
  |non=>cases r;exact GZ (bH I q (by simp))
  |bl j=>cases r;exact GX (bH I q (by simp))
  |int j=>obtain⟨a,rfl⟩:=r;exact GY (bH I q (by simp))
  |str j=>obtain⟨a,rfl⟩:=r;exact G0 (bH I q (by simp))
  |_=>exact absurd (show false=true from e) bx
 |bl i=>
  cases n;cases y with
  |non=>cases r;exact GV (bH I q (by simp))
  |bl j=>cases r;exact eq_bool (bH I q F0)
  |str j=>obtain⟨a,rfl⟩:=r;exact GK (bH I q (by simp))
  |_=>exact absurd (show false=true from e) bx
 |int i=>
  obtain⟨t,rfl⟩:=n;cases y with
  |non=>cases r;exact GW (bH I q (by simp))
  |int j=>obtain⟨a,rfl⟩:=r;exact eq_int (bH I q BZ)
  |str j=>obtain⟨a,rfl⟩:=r;exact GL (bH I q (by simp))
  |_=>exact absurd (show false=true from e) bx
 |str i=>
  obtain⟨t,rfl⟩:=n;cases y with
  |non=>cases r;exact G1 (bH I q (by simp))
  |bl j=>cases r;exact GN (bH I q (by simp))
  |int j=>obtain⟨a,rfl⟩:=r;exact GO (bH I q (by simp))
  |str j=>obtain⟨a,rfl⟩:=r;exact eq_str (bH I q BY)
  |_=>exact absurd (show false=true from e) bx
 |byt i=>
  obtain⟨t,rfl⟩:=n;cases y with
  |byt j=>obtain⟨a,rfl⟩:=r;exact PySem.W.eq_bytes (bH I q B0)
  |_=>exact absurd (show false=true from e) bx
 |_=>cases y<;>exact absurd (show false=true from e) bx
theorem EX:i_ X (compareOp .NotEq) Su:=by
 intro pins s J H x y v u Q I n r h;obtain⟨e,q⟩:=h;cases x with
 |non=>
  cases n;cases y with
  |non=>cases r;exact G6 (bH I q (by simp))
  |bl j=>cases r;exact G4 (bH I q (by simp))
  |int j=>obtain⟨a,rfl⟩:=r;exact G5 (bH I q (by simp))
  |str j=>obtain⟨a,rfl⟩:=r;exact G7 (bH I q (by simp))
  |_=>exact absurd (show false=true from e) bx
 |bl i=>
  cases n;cases y with
  |non=>cases r;exact G2 (bH I q (by simp))
  |bl j=>cases r;exact ne_bool (bH I q (cY not F0))
  |str j=>obtain⟨a,rfl⟩:=r;exact GP (bH I q (by simp))
  |_=>exact absurd (show false=true from e) bx
 |int i=>
  obtain⟨t,rfl⟩:=n;cases y with
  |non=>cases r;exact G3 (bH I q (by simp))
  |int j=>obtain⟨a,rfl⟩:=r;exact ne_int (bH I q (cY not BZ))
  |str j=>obtain⟨a,rfl⟩:=r;exact GQ (bH I q (by simp))
  |_=>exact absurd (show false=true from e) bx
 |str i=>
  obtain⟨t,rfl⟩:=n;cases y with
  |non=>cases r;exact G8 (bH I q (by simp))
  |bl j=>cases r;exact GR (bH I q (by simp))
  |int j=>obtain⟨a,rfl⟩:=r;exact GU (bH I q (by simp))
  |str j=>obtain⟨a,rfl⟩:=r;exact ne_str (bH I q (cY not BY))
  |_=>exact absurd (show false=true from e) bx
 |byt i=>
  obtain⟨t,rfl⟩:=n;cases y with
  |byt j=>obtain⟨a,rfl⟩:=r;exact PySem.W.ne_bytes (bH I q (cY not B0))
  |_=>exact absurd (show false=true from e) bx
 |_=>cases y<;>exact absurd (show false=true from e) bx
theorem NT:i_ X (compareOp .Lt) (HK λi j=>.bl (decide (i < j))):=Ik λ_ _ _ _ _ _ _ q=>zB q
theorem NU:i_ X (compareOp .LtE) (HK λi j=>.bl (decide (i≤j))):=Ik λ_ _ _ _ _ _ _ q=>le_int q
theorem NV:i_ X (compareOp .Gt) (HK λi j=>.bl (decide (j < i))):=Ik λ_ _ _ _ _ _ _ q=>gt_int q
theorem NW:i_ X (compareOp .GtE) (HK λi j=>.bl (decide (j≤i))):=Ik λ_ _ _ _ _ _ _ q=>ge_int q
theorem Lj:i_ X (compareOp .Is) (λx y H Q=>y=.non/\Q (.bl (decide (x=.non))) H):=by
 intro pins s J H x y v u Q I r a h;obtain⟨rfl,q⟩:=h;cases a;refine is_none_gen (bH I q ?_);cases x<;>first
  |(cases r;rfl)
  |(obtain⟨t,rfl⟩:=r;rfl)
theorem Ig:i_ X (compareOp .IsNot) (λx y H Q=>y=.non/\Q (.bl (!decide (x=.non))) H):=by
 intro pins s J H x y v u Q I r a h;obtain⟨rfl,q⟩:=h;cases a;refine isnot_none_gen (bH I q ?_);cases x<;>first
  |(cases r;rfl)
  |(obtain⟨t,rfl⟩:=r;rfl)
theorem Bt{o:CmpOp}{r:R2}(f:i_ X (compareOp o) r)(n:Y X a ta)(k:Y X b tb)(m:behindInMarks o b=false):Y X (.Compare a [o] [b] B) (Kt r ta tb):=by intro pins s J H Q I h;exact wpAny_Compare1 (Mo n k I h λv u p x y H2 e c t q=>f pins p J H2 x y v u Q e c t q) m
noncomputable def D_(t:TE):TT:=λJ H Q=>t J H λx H'=>∃k,x=.bl k/\Q k H'
theorem Bo(o:i_ X (compareOp q) r)(p:Y X a ta)(d:Y X b tb)(w:behindInMarks q b=false):PT X (.Compare a [q] [b] B) (D_ (Kt r ta tb)):=by
 intro pins s J H Q I h;refine wpAny_isTrue_Compare1 (cG (p pins s J H _ I h) fun v K ⟨x,G,f,l,g⟩=>cG (d pins K J G _ f g) fun u P ⟨y,H2,m,S,i⟩=>
  cG (o pins P J H2 x y v u _ m l S i) λc A ⟨z,n,t,F,k,e,j⟩=>?_) w
 subst e;cases F;exact ko ⟨n,t,j⟩
noncomputable def xP(r e:R2)(ta tb tc:TE):TE:=λJ H Q=>ta J H λx G=>tb J G λy H2=>r x y H2 λz h=>∃k,z=.bl k /\
 (if k=true then tc J h λw a=>e y w a Q else Q (.bl false) h)
theorem ET(K:i_ X (compareOp N) r)(o:i_ X (compareOp q) r')(j:Y X a ta)(l:Y X b tb)(S:Y X c tc)
  (F:lastMarks [N,q] [b,c]=false:=by with_unfolding_all rfl):Y X (.Compare a [N,q] [b,c] B) (xP r r' ta tb tc):=by
 intro pins s J H Q I h;refine Compare_chain (cG (j pins s J H _ I h) fun v M ⟨x,G,w,D,P⟩=>chain_link (cG (l pins M J G _ w P) fun u R ⟨y,H2,g,t,A⟩=>
  cG (K pins R J H2 x y v u _ g D t A) λd T ⟨z,n,f,E,k,e,m⟩=>?_)) F
 subst e;cases E;refine ko ?_;cases k with
 |false=>exact ite_ff ⟨.bl false,n,f,rfl,m⟩
 |true=>exact ite_tt (chain_last (cG (S pins T J n _ f m) λW V ⟨Z,p,i,L,C⟩=>o pins V J p y Z u W Q i t L C))
theorem Eu(D:i_ X (compareOp N) r)(o:i_ X (compareOp q) r')(K:Y X a ta)(P:Y X b tb)(A:Y X c tc)
  (C:lastMarks [N,q] [b,c]=false:=by with_unfolding_all rfl):PT X (.Compare a [N,q] [b,c] B) (D_ (xP r r' ta tb tc)):=by
 intro pins s J H Q I h;refine isTrue_chain (cG (K pins s J H _ I h) fun v s1 ⟨x,G,g,W,M⟩=>test_link (cG (P pins s1 J G _ g M) fun u s2 ⟨y,H2,i,t,R⟩=>
  cG (D pins s2 J H2 x y v u _ i W t R) λd s3 ⟨z,n,f,Z,k,e,m⟩=>?_)) C
 subst e;cases Z;refine ko ?_;cases k with
 |false=>obtain⟨k',S,L⟩:=m;cases S;exact ite_ff ⟨n,f,L⟩
 |true=>refine ite_tt (test_last (cG (A pins s3 J n _ f m) λw' s4 ⟨z',p,j,r4,T⟩=>cG (o pins s4 J p y z' u w' _ j t r4 T) λd' s5 E=>?_));obtain⟨z2,w,l,r5,k2,F,V⟩:=E;subst F;cases r5;exact ko ⟨w,l,V⟩
def Mr(K:FG)(x:V)(H:Hp)(k:Bool):Prop:=
 match x with
 | .non=>k=false
 | .bl b=>k=b
 | .int i=>k=(i != 0)
 | .str y=>y.length≤sizeLine/\k=((y.length:Int) != 0)
 | .byt y=>y.size≤sizeLine/\k=((y.size:Int) != 0)
 | .ref p=>(∃xs,iB K H p xs/\k=!xs.isEmpty)\/(∃xs,ny K H p xs/\k=!xs.isEmpty)\/∃kvs,H p=some (.dK kvs)/\k=!kvs.isEmpty
 |_=>False
theorem yn(r:KV kvs q):(!q.isEmpty)=!kvs.isEmpty:=by cases r<;>rfl
theorem qN(r:ba xs q):(!q.toArray.isEmpty)=!xs.isEmpty:=by cases r<;>simp
theorem kx:(sizeLine:Nat) < 2 ^ 63:=by rw[nz];decide
theorem Kj:Ru X (λx H Q=>∃k,Mr X.K x H k/\Q k H):=by
 intro pins s J H x v Q I rx h;obtain⟨k,e,q⟩:=h;have hl:=kx;have hs:sizeLine=16777216:=nz;cases x with
 |non=>cases rx;have e':k=false:=e;subst e';exact truthy_none ⟨H,I,q⟩
 |bl b=>cases rx;have e':k=b:=e;subst e';exact ko ⟨H,I,q⟩
 |int i=>obtain⟨t,rfl⟩:=rx;have e':k=(i != 0):=e;subst e';exact PySem.P.truthy_int ⟨H,I,q⟩
 |str y=>obtain⟨t,rfl⟩:=rx;obtain⟨hy,e'⟩:y.length≤sizeLine/\k=((y.length:Int) != 0):=e;subst e';exact PySem.P.truthy_str (by lia) ⟨H,I.tok _,q⟩
 |byt y=>obtain⟨t,rfl⟩:=rx;obtain⟨hy,e'⟩:y.size≤sizeLine/\k=((y.size:Int) != 0):=e;subst e';exact PySem.W.truthy_bytes (by lia) ⟨H,I.tok _,q⟩
 |ref p=>
  cases rx;have e':(∃xs,iB X.K H p xs/\k=!xs.isEmpty)\/(∃xs,ny X.K H p xs/\k=!xs.isEmpty)\/∃kvs,H p=some (.dK kvs)/\k=!kvs.isEmpty:=e;rcases e' with ⟨xs,hx,e'⟩|⟨xs,hx,e'⟩|⟨kvs,hx,e'⟩
  .subst e';obtain⟨its,r,pl,hz⟩:=I.list hx;have hlen:=r.length;exact wpAny_truthy_list pl.isList (by simp only[bc];lia) ⟨H,I.tok _,by rw[qN r];exact q⟩
  .subst e';obtain⟨its,r,pl,hz⟩:=I.tuple hx;have hlen:=r.length;exact truthy_tuple pl (by simp only[bc];lia) ⟨H,I.tok _,by rw[qN r];exact q⟩
  .subst e';obtain⟨hz,hS,vs,r,m⟩:kvs.length≤sizeLine/\(p == sysModules)=false/\∃vs,KV kvs vs/\s.heap.DictOf (cc X.p X.w) p vs:=I.h p _ hx;have hlen:kvs.length=vs.length:=Paired.length r;exact wpAny_truthy_dict hS m (by lia) ⟨H,I.tok _,by rw[yn r];exact q⟩
 |_=>exact(show False from e).elim
theorem Et(n:Y X a ta)(f:∀w,isTrue a X.e w=(do let v <- w;standAt a.pos;holding [v] (truthy v))) :
  PT X a (λJ H Q=>ta J H λx H'=>∃k,Mr X.K x H' k/\Q k H'):=by
 intro pins s J H Q I h;exact isTrue_plain (cG (n pins s J H _ I h) λv b z=>by obtain⟨x,G,e,r,q⟩:=z;exact Kj pins b J G x v Q e r q) (f _)
theorem x':i_ X (binaryOp .Add) (λx y H Q=>∃i j,x=.str i/\y=.str j/\i.length+j.length≤sizeLine/\Q (.str (i++j)) H):=by intro pins s J H x y v u Q I r a h;obtain⟨i,j,rfl,rfl,z,q⟩:=h;obtain⟨t,rfl⟩:=r;obtain⟨e,rfl⟩:=a;exact add_str (λe tk=>⟨.str (i++j),H,I.tok _,⟨_,rfl⟩,q⟩) z
theorem vals1(r:ba [x] j):∃u,j=[u]/\RelV x u:=by
 cases r with
 |cons h a=>cases a;exact⟨_,rfl,h⟩
theorem vals2(r:ba [x,y] j):∃u w,j=[u,w]/\RelV x u/\RelV y w:=by
 cases r with
 |cons h a=>
  cases a with
  |cons e s=>cases s;exact⟨_,_,rfl,h,e⟩
theorem Ge:eE X (.builtin "abs") (λxs H Q=>∃i,xs=[.int i]/\Q (.int (if i < 0 then -i else i)) H):=by intro pins s J H xs j Q I r h;obtain⟨i,rfl,q⟩:=h;obtain⟨u,rfl,t,rfl⟩:=vals1 r;exact call_abs_int λu tk=>⟨.int (if i < 0 then -i else i),H,I.tok _,⟨_,rfl⟩,q⟩
theorem sS:eE X (.type "int") (λxs H Q=>(∃i,xs=[.int i]/\Q (.int i) H)\/∃k,xs=[.bl k]/\Q (.int (if k then 1 else 0)) H):=by
 intro pins s J H xs j Q I r h;rcases h with ⟨i,rfl,q⟩|⟨k,rfl,q⟩
 .obtain⟨u,rfl,t,rfl⟩:=vals1 r;exact call_int_int ⟨.int i,H,I,⟨_,rfl⟩,q⟩
 .obtain⟨u,rfl,x⟩:=vals1 r;cases x;exact call_int_bool ⟨.int (if k then 1 else 0),H,I.tok _,⟨_,rfl⟩,q⟩
end
structure ObjM(h:Heap)(x dx C:Addr)(mA:SV):Prop where
 obj:h.get? x=some (kq C dx)
 ns:h.Ns1 dx mA
 ne:dx≠x
set_option tactic.hygienic true in
theorem CI(n:h.Ns1 dx mA):∃d,h.get? dx=some d/\∀name,uc name d=some (mA name):=by
 obtain⟨o,es,p,s,hd,hk,_,m⟩:=n;refine⟨o,s,λname=>?_⟩;have e:=m name;unfold nsFind findBy at e;rw[<- Array.find?_toList]at e;unfold uc;rw[hd];dsimp only;split
 .rename_i y q;rw[q]at e;exact cY some e
 .rename_i q;rw[q]at e;have a:es.toList.any (·.refKey)=false:=by
   rw[List.any_eq_false];intro y f;obtain⟨z,t,k⟩:=hk y (Array.mem_toList_iff.mp f);simp[DictEntry.refKey,k]
  have x:¬es.toList.any (·.refKey)=true:=by rw[a];exact bx
  rw[af x];exact cY some e
variable{C:Addr}
theorem ObjM.look(I:ObjM h x dx C mA):∃o,PySem.W.InstAt h x (kq C dx) C (some o)/\∀name,uc name o=some (mA name):=
 let ⟨o,a,l⟩:=CI I.ns
 ⟨o,⟨I.obj,rfl,rfl,a⟩,l⟩
section
variable{prog:Program}{w:World}{A:Around}{E:VP}{s:Shared}{K:FG}{x dx C f:Addr}{mA:SV}{name:Str}{v:Value}
theorem IK(X:K.In s.heap)(I:ObjM s.heap x dx C mA)(g:p9 K C name=true)(k:ur K C=true)
  (n:dC K (.ref C) name=some none) (f:mA name=some v) (a:DB v=true) (h:Q v { s with toks:=s.toks+1 }) :
  wpAny (model prog w) A (getAttr (.ref x) name q) Q E s:=by
 obtain⟨o,e,l⟩:=I.look;exact PySem.W.get_value X e (xG g).1 (PySem.W.findObj_own k n rfl (by rw[l,f])) a h
theorem FP(X:K.In s.heap)(I:ObjM s.heap x dx C mA)(g:p9 K C name=true)
  (e:dC K (.ref C) name=some (some (.ref f))) (t:t6 K (.ref f)=true) (v:mA name=none) (h:Q (.ref f,[.ref x]) s) :
  wpAny (model prog w) A (getMethod (.ref x) name q) Q E s:=by
 obtain⟨o,a,l⟩:=I.look;exact PySem.W.method_fn X a (xG g).1 (xG g).2 e (l8.mp t) (by show(uc name o).map (·.isSome)=some false;rw[l,v];rfl) h
theorem HE(X:K.In s.heap)(I:ObjM s.heap x dx C mA)
  (u:dC K (.ref C) "__setattr__"=some (some (.builtin "object.__setattr__"))) (q:xF K C=true) (g:xB K C name=some none) (t:ur K C=true)
  (hw:xm mA N) (z:N.length≤sizeLine)
  (h:∀h',ObjM h' x dx C (λy=>if y=name then some v else mA y)->dX dx s.heap h'->Q () { s with heap:=h',toks:=s.toks+2 }) :
  wpAny (model prog w) A (setAttr (.ref x) name v) Q E s:=by
 obtain⟨S,k,l⟩:=I.look;refine PySem.W.set_plain X k u (PySem.W.osa_open (s:={ s with toks:=s.toks+1 }) (r:=none) X k q g λb=>?_);obtain⟨j,m,d⟩:=PySem.W.any_some t;have i:s.heap.get? x=some ⟨.ref C,some dx,.plain,#[]⟩:=I.obj;refine ab (ao (ab (ab (wpAny_loadPart i (ab (PySem.W.Looks.here (s:={ s with toks:=s.toks+1 }) (PySem.W.looks_clsIn X m) ?_))))));rw[d];refine ao (a:=some dx) (ab (ao (ab ?_)));refine wpAny_nsSet1 (s:={ s with toks:=s.toks+1 }) I.ns λh' n e=>?_;obtain⟨H,f,p,o,D,c⟩:=n.count (PySem.Within.cons name v hw);refine ab (wpAny_lookBehind o (by rw[D];exact pastItsLine_dict (au c (by rw[aV];lia))) ?_);exact ao (h _ ⟨(e.2 _ (aI I.ne)).trans I.obj,n,I.ne⟩ e)
theorem Fe(X:K.In s.heap)(m:xA K C=true)
  (hi:dC K (.ref C) "__init__"=some (some (.ref f))) (x:PySem.W.typeIn K (.ref f)=some (.type "function"))
  (h:codeAny (model prog w) (A.under (.builtin "type.__call__" ⟨.ref C::q,kw⟩)) (.call (.ref f) ⟨.ref (s.heap.objs.size+1)::q,kw⟩) (PySem.W.InitBack (s.heap.objs.size+1) R)
   { s with heap:=(s.heap.push jO).push (kq C s.heap.objs.size) }) :
  codeAny (model prog w) A (.call (.ref C) ⟨q,kw⟩) R s:=by
 obtain⟨a,g,d,t,os⟩:=s;exact PySem.W.make_core (PySem.W.makes_of X m) (PySem.W.looks_findIn X hi) (λe=>PySem.W.bind_fn X e x) (.inl rfl) h
end
noncomputable def i3(f:Str)(v:V):List (Str×V)->List (Str×V)
 | []=>[(f,v)]
 |(g,x)::r=>if g=f then (g,v)::r else (g,x)::i3 f v r
theorem om(f g:Str)(v:V):∀fs:List (Str×V),(i3 f v fs).lookup g=if g=f then some v else fs.lookup g
 | []=>by
  show fH g [(f,v)]=_;by_cases h:g=f
  .have b:(g == f)=true:=l8.mpr h;simp only[fH,b,ac h]
  .have b:(g == f)=false:=gZ.mpr h;simp only[fH,b,af h]
 |(k,x)::r=>by
  have i:=om f g v r;rw[show i3 f v ((k,x)::r)=(if k=f then (k,v)::r else (k,x)::i3 f v r) from rfl];by_cases hk:k=f
  .rw [ac hk];by_cases h:g=k
   .have b:(g == k)=true:=l8.mpr h;simp only[fH,b,ac (h.trans hk)]
   .have b:(g == k)=false:=gZ.mpr h;simp only[fH,b,af (λe:g=f=>h (e.trans hk.symm))]
  .rw [af hk];by_cases h:g=k
   .have b:(g == k)=true:=l8.mpr h;simp only[fH,b,af (λe:g=f=>hk (h.symm.trans e))]
   .have b:(g == k)=false:=gZ.mpr h;simp only[fH,b];exact i
theorem nS(f:Str)(v:V):∀fs:List (Str×V),f ∈ (i3 f v fs).map (·.1)/\∀g,g ∈ fs.map (·.1)->g ∈ (i3 f v fs).map (·.1)
 | []=>⟨by simp[i3],λg h=>by simp at h⟩
 |(k,x)::r=>by
  obtain⟨i,a⟩:=nS f v r;rw[show i3 f v ((k,x)::r)=(if k=f then (k,v)::r else (k,x)::i3 f v r) from rfl];by_cases hk:k=f
  .rw [ac hk];subst hk;exact⟨by simp,λg h=>by simpa using h⟩
  .rw [af hk];refine⟨?_,λg h=>?_⟩
   .rw [az];exact aG _ i
   .rw [az]at h ⊢;rcases aN.mp h with e|e
    .exact aN.mpr (.inl e)
    .exact aG _ (a g e)
theorem on(f:Str)(v:V):∀fs:List (Str×V),(i3 f v fs).length≤fs.length+1
 | []=>by simp[i3]
 |(k,x)::r=>by
  have i:=on f v r;rw[show i3 f v ((k,x)::r)=(if k=f then (k,v)::r else (k,x)::i3 f v r) from rfl];by_cases hk:k=f
  .rw [ac hk,aV,aV];lia
  .rw [af hk,aV,aV];lia
theorem kl.some_of{v:V}{o:OV}(r:kl (some v) o):∃u,o=some u/\RelV v u:=by
 cases o with
 |none=>exact(show False from r).elim
 |some u=>exact⟨u,rfl,r⟩
theorem kl.none_of{o:OV}(r:kl none o):o=none:=by
 cases o with
 |none=>rfl
 |some u=>exact(show False from r).elim
variable{v:V}
theorem CS(r:RelV v u):DB u=true:=by
 cases v with
 |non=>cases (show u=Value.none from r);rfl
 |bl b=>cases (show u=Value.bool b from r);rfl
 |int i=>obtain⟨t,e⟩:=(show ∃t,u=Value.int i t from r);cases e;rfl
 |str x=>obtain⟨t,e⟩:=(show ∃t,u=Value.str x t from r);cases e;rfl
 |byt b=>obtain⟨t,e⟩:=(show ∃t,u=Value.bytes b t from r);cases e;rfl
 |flt b=>obtain⟨t,e⟩:=(show ∃t,u=Value.float b t from r);cases e;rfl
 |ref a=>cases (show u=Value.ref a from r);rfl
 |ty n=>cases (show u=Value.type n from r);rfl
section
variable{P:Program}{w:World}{H H':Hp}{h h':Heap}{a C dx:Addr}{fs fs':List (Str×V)}
theorem u7(o:ja P w H h)(e:H a=some (.ins C dx fs)):∃mA,ObjM h a dx C mA/\(∀f,kl (fs.lookup f) (mA f))/\xm mA (fs.map (·.1))/\fs.length≤1000/\H dx=some (.own a):=by obtain⟨d,z,x,b,mA,n,r,q⟩:=(show cW P w H h a (.ins C dx fs) from o a _ e);exact⟨mA,⟨b,n,x⟩,r,q,z,d⟩
end
structure Cls(K:FG)(C:Addr):Prop where
 pg:p9 K C Str.empty=true
 hd:ur K C=true
 po:xF K C=true
 sa:dC K (.ref C) "__setattr__"=some (some (.builtin "object.__setattr__"))
theorem Cls.get(c:Cls K C)(f:Str):p9 K C f=true:=c.pg
def lU(K:FG)(C:Addr)(f:Str):Prop:=dC K (.ref C) f=some none
theorem lU.taker(n:lU K C f):xB K C f=some none:=by unfold xB;rw[show dC K (.ref C) f=some none from n];rfl
structure Con(K:FG)(C:Addr)(f:Str)(v:V)(u:Value):Prop where
 at_:dC K (.ref C) f=some (some u)
 rel:RelV v u
 get:DD K u "__get__"=some none
 cp:PySem.W.copiedNames.contains f=false
structure Meth(K:FG)(C:Addr)(m:Str)(f:Addr):Prop where
 at_:dC K (.ref C) m=some (some (.ref f))
 fn:t6 K (.ref f)=true
 kp:dD K (.ref f)=true
section
variable{X:Cx}{pins:PN}{J:St}{H:Hp}{s:Shared}{a C dx:Addr}{fs:List (Str×V)}{f:Str}{v:V}{A:Around}{E:VP}
theorem yu{b:Bool}{Q:VP}(I:Inv X pins J H s)(e:H a=some (.ins C dx fs))(c:Cls X.K C)(n:lU X.K C f)(l:fs.lookup f=some v)
  (h:∀u s',Inv X pins J H s'->RelV v u->Q u s'):wpAny (model X.p X.w) A (getAttr (.ref a) f b) Q E s:=by
 obtain⟨mA,k,r,_,_,_⟩:=u7 I.h e;obtain⟨u,m,x⟩:=kl.some_of (v:=v) (o:=mA f) (by rw[<- l];exact r f);exact IK I.kIn k (c.get f) c.hd n m (CS x) (h u _ (I.tok _) x)
theorem qT{m:Str}{g:Addr}{p:Sem Bool}{Q:Value×LV->Shared->Prop}(I:Inv X pins J H s)(e:H a=some (.ins C dx fs))(c:Cls X.K C)(k:Meth X.K C m g)(l:fs.lookup m=none)
  (h:Q (.ref g,[.ref a]) s):wpAny (model X.p X.w) A (getMethod (.ref a) m p) Q E s:=by
 obtain⟨mA,x,r,_,_,_⟩:=u7 I.h e;have n:mA m=none:=kl.none_of (by rw[<- l];exact r m);exact FP I.kIn x (c.get m) k.at_ k.fn n h
theorem xT(I:Inv X pins J H s)(e:H a=some (.ins C dx fs))(c:Cls X.K C)(n:lU X.K C f)(hl:fs.length < 1000)(ry:RelV y u)
  (h:∀s',Inv X pins J (bN H a (.ins C dx (i3 f y fs))) s'->Q () s'):wpAny (model X.p X.w) A (setAttr (.ref a) f u) Q E s:=by
 obtain⟨mA,O9,r,wi,_,ho⟩:=u7 I.h e;have hz:(fs.map (·.1)).length≤sizeLine:=by rw[aX,nz];lia
 refine HE I.kIn O9 c.sa c.po n.taker c.hd wi hz λh' O' sb=>h _ ?_;have hd:∃o,h'.get? dx=some o:=let ⟨o,_,_,e',_⟩:=O'.ns;⟨o,e'⟩
 refine I.write (x:=a) (e:=dx) (by rw[e];exact True.intro) (.inr ho) (λb q hb z=>(sb.2 b hb).trans z) hd ?_;refine⟨by rw[al O9.ne];exact ho,?_,O9.ne,O'.obj,_,O'.ns,λg=>?_,λg hg=>?_⟩
 .have:=on f y fs;lia
 .show kl ((i3 f y fs).lookup g) (if g=f then some u else mA g);rw[om];by_cases q:g=f
  .rw [ac q,ac q];exact ry
  .rw [af q,af q];exact r g
 .by_cases q:g=f
  .rw [q];exact(nS f y fs).1
  .refine (nS f y fs).2 g (wi g λz=>hg ?_);show(if g=f then some u else mA g)=none;rw[af q];exact z
theorem Inv.made(I:Inv X pins J H s):Inv X pins J (bN (bN H s.heap.objs.size (.own (s.heap.objs.size+1))) (s.heap.objs.size+1) (.ins C s.heap.objs.size []))
  { s with heap:=(s.heap.push jO).push (kq C s.heap.objs.size) }:=by
 have h:(s.heap.push jO).get? s.heap.objs.size=some jO:=br s.heap rfl;have k:((s.heap.push jO).push (kq C s.heap.objs.size)).get? (s.heap.objs.size+1)=some (kq C s.heap.objs.size):=by have:=br (s.heap.push jO) (o:=kq C s.heap.objs.size) rfl;rwa [l0]at this
 have f:(s.heap.push jO).Ns s.heap.objs.size (λ_=>none):=⟨jO,#[],_,h,rfl,(λe c=>absurd c (by simp)),λ_=>rfl⟩;have x:=I.laid (a:=s.heap.objs.size) (o:=.own (s.heap.objs.size+1)) (h':=s.heap.push jO) (t':=s.toks) (λb u q=>aO _ q) (ah _) ⟨_,h⟩;refine x.laid (a:=s.heap.objs.size+1) (o:=.ins C s.heap.objs.size []) (t':=s.toks) (λb u q=>aO _ q) (tT (l0 _ _)) ?_;have n:s.heap.objs.size≠s.heap.objs.size+1:=bb (jH _);refine⟨by rw[al n,aF],bX _,n,k,λ_=>none,(Heap.Ns1.of_empty f).at λo q=>aO _ q,λ_=>True.intro,λy m=>absurd rfl m⟩
theorem Jd(b:attributeBase e f q (eval e q)=eval e q)
  (h:wpAny (model prog w) A (eval e q) (λo x=>wpAny (model prog w) A (getAttr o f true) Q E x) E s):wpAny (model prog w) A (eval (.Attribute e f B) q) Q E s:=
 Attribute_any_ h (by rw[arm_eval_Attribute,b])
end
def Qy(K:FG)(ta:TE)(f:Str):TE:=λJ H Q=>ta J H λx G=>∃a C dx fs v,x=.ref a/\G a=some (.ins C dx fs)/\Cls K C/\lU K C f/\fs.lookup f=some v/\Q v G
def QE(K:FG)(ta tv:TE)(f:Str):TS:=λD J H=>tv J H λy G=>ta J G λx H2=>∃a C dx fs,x=.ref a/\H2 a=some (.ins C dx fs)/\Cls K C/\lU K C f/\fs.length < 1000 /\
 D.nx J (bN H2 a (.ins C dx (i3 f y fs)))
section
variable{X:Cx}{o e value:Expr}{f:Str}{B pos' tpos:Pos}{ta tv:TE}
theorem Lb(t:Y X e ta)(r:attributeBase e f X.e (eval e X.e)=eval e X.e):Y X (.Attribute e f B) (Qy X.K ta f):=by intro pins s J H Q I h;refine Jd r (cG (t pins s J H _ I h) λu w z=>?_);obtain⟨x,G,k,d,a,C,dx,fs,v,ex,m,c,n,l,q⟩:=z;subst ex;obtain rfl:u=Value.ref a:=d;exact yu k m c n l λi g b p=>⟨v,G,b,p,q⟩
theorem K0(r:Y X o ta)(v:Y X value tv)(t:swapsWith value (some (.Attribute o f pos')) B.line X.e=pure false):PS X (.Assign [.Attribute o f pos'] value B) (QE X.K ta tv f):=by intro pins s J H D I h;refine plainObj_wpAny_Assign_Attribute (cG (v pins s J H _ I h) λu i ⟨y,G,e,g,q⟩=>cG (r pins i J G _ e q) λp j z=>?_) t;obtain⟨x,H2,k,w,a,C,dx,fs,ex,m,c,n,l,d⟩:=z;subst ex;obtain rfl:p=Value.ref a:=w;exact xT k m c n l g λS b=>⟨J,_,b,d⟩
end
section
variable{X:Cx}{pins:PN}{J:St}{H:Hp}{s:Shared}{A:Around}{E:VP}{Q:VP}{c:Value}{b:Bool}
inductive TyOf(K:FG)(H:Hp):V->Value->Prop where
 |non:TyOf K H .non (.type "NoneType")
 |bl (x:Bool):TyOf K H (.bl x) (.type "bool")
 |int (i:Int):TyOf K H (.int i) (.type "int")
 |str (x:Str):TyOf K H (.str x) (.type "str")
 |flt (x:UInt64):TyOf K H (.flt x) (.type "float")
 |lst {a:Addr}{xs:List V} (e:H a=some (.lst xs)):TyOf K H (.ref a) (.type "list")
 |frz {a:Addr}{o:Obj}{xs:List V} (e:H a=some (.frz o (.lst xs))):TyOf K H (.ref a) (.type "list")
 |tup {a:Addr}{xs:List V} (e:H a=some (.tup xs)):TyOf K H (.ref a) (.type "tuple")
 |dK {a:Addr}{kvs:List (b0×V)} (e:H a=some (.dK kvs)):TyOf K H (.ref a) (.type "dict")
 |dT {a:Addr}{kvs:List (List b0×V)} (e:H a=some (.dT kvs)):TyOf K H (.ref a) (.type "dict")
 |ins {a C dx:Addr}{fs:List (Str×V)} (e:H a=some (.ins C dx fs)) (cl:Cls K C) (ha:dC K (.ref C) "__class__"=some (some (.builtin "object.__class__")))
   (hn:DD K (.builtin "object.__class__") "__get__"=some (some (.builtin "getset_descriptor.__get__"))) (htk:PySem.W.takesIn K (.builtin "object.__class__")=some true)
   (hm:PySem.W.mroIn K C (.type "object")=some true):TyOf K H (.ref a) (.ref C)
end
structure Room(k:Nat)(A:Around):Prop where
 hd:A.handled=none
 dp:A.depth+3 * k+5 < recursionLimit
 un:A.units+16 * k+200 < cLine
variable{k:Nat}
theorem Room.mono(r:Room k A)(h:q≤k):Room q A:=⟨r.hd,by have:=r.dp;lia,by have:=r.un;lia⟩
theorem Room.deeper(r:Room (k+1) A)(e:Env):Room k (A.deeper e):=
 ⟨r.hd,by have:=r.dp;show A.depth+1+3 * k+5 < _;lia,by have:=r.un;show A.units+3+16 * k+200 < _;lia⟩
variable{kw:List (Str×Value)}
theorem ye:(A.under (.builtin "type.__call__" ⟨.ref C::j,kw⟩)).depth=A.depth+1:=by first|rfl|simp[uw,Code.weight,Code.isCreation,Code.isGuard,Code.isCaller,Code.frames,Code.isFrame,guardIds]
theorem yd:(A.under (.builtin "type.__call__" ⟨.ref C::j,kw⟩)).units=A.units+1:=by first|rfl|simp[uw,Code.cUnits,Code.frames,Code.isFrame]
theorem Room.make(r:Room (k+1) A)(C:Addr)(j:LV)(kw:List (Str×Value)):Room k (A.under (.builtin "type.__call__" ⟨.ref C::j,kw⟩)):=
 ⟨r.hd,by have:=r.dp;rw[ye];lia,by have:=r.un;rw[yd];lia⟩
theorem Room.depth(r:Room k A):A.depth < recursionLimit:=by have:=r.dp;lia
noncomputable def Nw:TA:=λ_ H Q=>Q [] H
noncomputable def NA(ta:TE)(tr:TA):TA:=λJ H Q=>ta J H λx G=>tr J G λxs H2=>Q (x::xs) H2
section
variable{X:Cx}{e:Expr}{es:Ab}{te:TE}{t:TA}{B:Pos}
theorem ik:PA X [] Nw:=λ_ _ _ _ H Q I h=>gm ⟨[],H,I,.nil,h⟩
theorem eW(k:Y X e te)(r:PA X es t)(f:starEach (e::es) X.e=(false,eval e X.e)::starEach es X.e:=by rfl):PA X (e::es) (NA te t):=by intro B pins s J H Q I h;rw[f];show wpAny _ _ (spliced ((false,eval e X.e)::backTo B (starEach es X.e))) _ _ s;refine du (cG (k pins s J H _ I h) λu p z=>?_);obtain⟨x,G,a,c,q⟩:=z;exact cG (r B pins p J G _ a q) λj v z=>by obtain⟨xs,H2,n,m,b⟩:=z;exact⟨x::xs,H2,n,.cons c m,b⟩
def Qq(t:TA):TE:=λJ H Q=>t J H λxs G=>xs.length≤sizeLine/\∀p,G p=none->Q (.ref p) (bN G p (.tup xs))
def Qv(t:TA):TE:=λJ H Q=>t J H λxs G=>xs.length≤sizeLine/\∀p,G p=none->Q (.ref p) (bN G p (.lst xs))
theorem uR {N} (h:PA X es t):Y X (.Tuple es N B) (Qq t):=by intro pins s J H Q I n;refine wpAny_Tuple_spliced (cG (h B pins s J H _ I n) λj x k=>?_);obtain⟨xs,G,a,r,z,q⟩:=k;refine⟨by rw[<- r.length];exact z,?_⟩;have f:G x.heap.objs.size=none:=a.h.fresh (ah _);refine⟨.ref x.heap.objs.size,bN G x.heap.objs.size (.tup xs),a.laid (t':=x.toks) (λb u e=>aO _ e) (ah _) ?_,rfl,q _ f⟩;exact⟨z,j,r,n0.new _ _⟩
theorem EH(h:PA X es t):Y X (.List es B) (Qv t):=by intro pins s J H Q I n;refine wpAny_List_spliced (cG (h B pins s J H _ I n) λj x k=>?_);obtain⟨xs,G,a,r,z,q⟩:=k;refine⟨by rw[<- r.length];exact z,?_⟩;have f:G x.heap.objs.size=none:=a.h.fresh (ah _);refine⟨.ref x.heap.objs.size,bN G x.heap.objs.size (.lst xs),a.laid (t':=x.toks) (λb u e=>aO _ e) (ah _) ?_,rfl,q _ f⟩;exact⟨z,j,0,r,br _ rfl⟩
end
noncomputable abbrev Sp:=List V->Hp->VK->XK->Prop
noncomputable abbrev Dl:=List Env->Hp->Shared->XK->VP
structure Env0(P:Program)(w:World)(K:FG)(mg:SV)(base:Heap)(A:Around)(outer:List Env)(s:Shared)(H:Hp):Prop where
 frames:A.frames=some outer
 mod:Mod K mg base
 bs:∀b o,base.get? b=some o->s.heap.get? b=some o/\H b=none
 bsz:base.objs.size≤s.heap.objs.size
 funs:s.heap.FunFrames base outer
 frf:∀b ∈ CT outer,H b=none
 tab:∀P ∈ ce K,H P=some .tbl
 h:ja P w H s.heap
 bare:AllBare s.gens
def CE(o:List Env)(P:Program)(w:World)(H:Hp)(s:Shared)(Q:VK)(u:Value)(s':Shared):Prop:=
 ∃v H',s'.os=s.os/\AllBare s'.gens/\Un (CT o) [] H H' s.heap s'.heap/\ja P w H' s'.heap/\RelV v u/\Q v H'
def CR(CX:Dl)(o:List Env)(P:Program)(w:World)(H:Hp)(s:Shared)(Q:VK)(E:XK)(r:Result)(s':Shared):Prop:=
 match r with
 | .ok (.ret u)=>CE o P w H s Q u s'
 | .ok _=>False
 | .error e=>CX o H s E e s'
structure FnOk(P:Program)(w:World)(K:FG)(mg:SV)(base:Heap)(CX:Dl)(k:Nat)(f:Addr)(fd:FuncData)(ps:LS)(sp:Sp):Prop where
 len:∀vs H Q E,sp vs H Q E->vs.length=ps.length
 run:∀(A:Around)(outer:List Env)(s:Shared)(H:Hp)(args:Args)(us:LV)(vs:List V)(Q:VK)(E:XK),Room k A->Env0 P w K mg base A outer s H->BindsTo s fd args (ps.zip us)->ba vs us->sp vs H Q E ->
  codeAny (model P w) A (.call (.ref f) args) (CR CX outer P w H s Q E) s
variable{mg:SV}{base:Heap}{fd:FuncData}{ps:LS}
theorem FnOk.mono(F:FnOk P w K mg base CX q f fd ps sp)(h:q≤k) :
  FnOk P w K mg base CX k f fd ps sp:=⟨F.len,λA o s H a j v Q E r=>F.run A o s H a j v Q E (r.mono h)⟩
theorem FnOk.imp(F:FnOk P w K mg base CX k f fd ps sp)
  (h:∀v H Q E,z v H Q E->sp v H Q E):FnOk P w K mg base CX k f fd ps z:=
 ⟨λv H Q E q=>F.len v H Q E (h _ _ _ _ q),λA o s H a j v Q E r e b n x=>F.run A o s H a j v Q E r e b n (h _ _ _ _ x)⟩
theorem Env0.make(e:Env0 P w K mg base A q s H)(C:Addr)(j:LV)(kw:List (Str×Value)) :
  Env0 P w K mg base (A.under (.builtin "type.__call__" ⟨.ref C::j,kw⟩)) q s H:=⟨by first|exact e.frames|(simpa[uw,Code.envs,Code.isFrame,pushEnvs] using e.frames),e.mod,e.bs,e.bsz,e.funs,e.frf,e.tab,e.h,e.bare⟩
section
variable{X:Cx}{pins:PN}{J:St}{H:Hp}{s s':Shared}
theorem Inv.env0(I:Inv X pins J H s):Env0 X.p X.w X.K X.g X.b X.A X.k s H:=
 ⟨I.o.frames,I.o.mod,I.bs,au I.o.bsz I.sz,I.stack,I.stkFree,λP h=>I.base.tbls P (I.o.tab P h),I.h,I.bare⟩
theorem Inv.after(I:Inv X pins J H s)(h:CE X.k X.p X.w H s Q u s'):EP X pins J Q u s':=by obtain⟨v,H',os,a,un,o,r,q⟩:=h;obtain⟨e,g,d,t,x⟩:=s';obtain rfl:x=s.os:=os;exact⟨v,H',I.call (h':=e) (g':=g) (d':=d) (t':=t) (ch:=[]) un o a (λb z=>absurd z (by simp)),r,q⟩
end
noncomputable def NB(sp:Sp)(dvs:List V)(E:XK)(t:TA):TE:=λJ H Q=>t J H λv G=>sp (v++dvs) G Q E
def Ea(C:Addr)(m:Str)(sp:Sp)(dvs:List V)(E:XK)(ta:TE)(t:TA):TE:=λJ H Q=>ta J H λx G=>∃a dx fs,x=.ref a/\G a=some (.ins C dx fs)/\fs.lookup m=none /\
 t J G λv H2=>sp (x::(v++dvs)) H2 Q E
def Ny(C:Addr)(sp:Sp)(dvs:List V)(E:XK)(t:TA):TE:=λJ H Q=>t J H λs G=>∀x dx,G x=none->G dx=none->dx≠x ->
 sp (.ref x::(s++dvs)) (bN (bN G dx (.own x)) x (.ins C dx [])) (λv H2=>v=.non/\Q (.ref x) H2) E
def Binds(K:FG)(fd:FuncData)(ps:LS)(ds:LV):Prop:=
 ∀(s:Shared)(j:LV),K.In s.heap->(j++ds).length=ps.length->BindsTo s fd ⟨j,[]⟩ (ps.zip (j++ds))
theorem Binds.all(h:∀j:LV,j.length=ps.length->bindArgs fd ⟨j,[]⟩=pure (ps.zip j)):Binds K fd ps []:=λs j _ l=>by rw[cP]at l ⊢;exact .of_eq (h j l)
def lT(CX:Dl)(X:Cx)(E:XK):Prop:=∀(pins:PN)(J:St)(H:Hp)(s:Shared)(e:Value)(s':Shared),Inv X pins J H s->CX X.k H s E e s'->X.xe e s'
section
variable{X:Cx}{CX:Dl}{k:Nat}{f C:Addr}{fd:FuncData}{ps:LS}{sp:Sp}{dvs:List V}{ds:LV}{E:XK}{x m:Str}{p B apos:Pos}{e o:Expr}{es:Ab}{ta:TE}{t:TA}
set_option tactic.hygienic true in
theorem xX(F:FnOk X.p X.w X.K X.g X.b CX k f fd ps sp)(n:Room k X.A)(b:Binds X.K fd ps ds)(hd:ba dvs ds)(c:lT CX X E)
  (I:Inv X pins J H s) (r:ba z j) (h:sp (z++dvs) H Q E):wx X (call (.ref f) j) (EP X pins J Q) X.xe s:=by
 have x:ba (z++dvs) (j++ds):=r.append hd;have a:(j++ds).length=ps.length:=by rw[<- x.length];exact F.len _ _ _ _ h
 refine pR (nA (F.run X.A X.k s H ⟨j,[]⟩ (j++ds) (z++dvs) Q E n I.env0 (b s j I.kIn a) x h) λr s' q=>?_);cases r with
 |error e=>exact c pins J H s e s' I q
 |ok l=>
  cases l with
  |ret u=>exact I.after q
  |next=>exact False.elim q
  |brk=>exact False.elim q
  |cont=>exact False.elim q
theorem pG(F:FnOk X.p X.w X.K X.g X.b CX k f fd ps sp)(v:Room k X.A)(g:Gl X x)(m:X.g x=some (.ref f))(hk:dD X.K (.ref f)=true)(b:Binds X.K fd ps ds)(hd:ba dvs ds)(w:lT CX X E)
  (n:PA X (e::es) t) (d:(x == ("__debug__":Str))=false:=by decide) (c:starEach (e::es) X.e=(false,eval e X.e)::starEach es X.e:=by rfl) (l:(backTo B (starEach es X.e)).any (·.1)=false:=by rfl) :
  Y X (.Call (.Name x p) (e::es) [] B) (NB sp dvs E t):=by
 intro pins s J H Q I h;refine iX (pI I g m ?_ d);refine p_ (h₀:=X.b) I.o.mod.kin hk (cG (n B pins s J H _ I h) λj u z=>?_) c l;obtain⟨i,G,a,r,q⟩:=z;refine⟨a.kIn,?_⟩;exact xX F v b hd w a r q
theorem Ia(i:Y X o ta)(c:Cls X.K C)(v:Meth X.K C m f)(F:FnOk X.p X.w X.K X.g X.b CX k f fd ps sp)(y:Room k X.A)(g:Binds X.K fd ps ds)(hd:ba dvs ds)(K:lT CX X E)(w:PA X (e::es) t)
  (hst:starEach (e::es) X.e=(false,eval e X.e)::starEach es X.e:=by rfl) (p:(backTo B (starEach es X.e)).any (·.1)=false:=by rfl)
  (S:eval (.Call (.Attribute o m apos) (e::es) [] B) X.e=(do
   let N <- eval o X.e
   standAt apos.atName
   let (f,first) <- holding [N] (getMethod N m pl)
   callWith B f first (backTo B (starEach (e::es) X.e)) (backToKw B (keywordEach [] X.e))):=by rfl) :
  Y X (.Call (.Attribute o m apos) (e::es) [] B) (Ea C m sp dvs E ta t):=by
 intro pins s J H Q I h;refine DG (pl:=pl) (cG (i pins s J H _ I h) λu D z=>?_) S;obtain⟨x,G,n,A,a,dx,fs,ex,d,l,q⟩:=z;subst ex;obtain rfl:u=Value.ref a:=A;refine qT n d c v l ?_;refine p_ (first:=[.ref a]) (h₀:=X.b) I.o.mod.kin v.kp (cG (w B pins D J G _ n q) λj M z=>?_) hst p;obtain⟨L,H2,b,r,P⟩:=z;refine⟨b.kIn,?_⟩;exact xX (j:=.ref a::j) (z:=.ref a::L) F y g hd K b (.cons rfl r) P
theorem EG(t:Y X o ta)(c:Cls X.K C)(n:Meth X.K C m f)(F:FnOk X.p X.w X.K X.g X.b CX k f fd ps sp)(p:Room k X.A)(r:Binds X.K fd ps ds)(hd:ba dvs ds)(d:lT CX X E)
  (v:eval (.Call (.Attribute o m apos) [] [] B) X.e=(do
   let z <- eval o X.e
   standAt apos.atName
   let (f,first) <- holding [z] (getMethod z m N)
   callWith B f first (backTo B (starEach [] X.e)) (backToKw B (keywordEach [] X.e))):=by rfl) :
  Y X (.Call (.Attribute o m apos) [] [] B) (Ea C m sp dvs E ta Nw):=by
 intro pins s J H Q I h;refine DG (pl:=N) (cG (t pins s J H _ I h) λu i w=>?_) v;obtain⟨x,G,e,g,a,dx,fs,ex,b,l,q⟩:=w;subst ex;obtain rfl:u=Value.ref a:=g;refine qT e b c n l ?_;exact PySem.W.callWith_K0 (first:=[.ref a]) e.kIn n.kp (xX (j:=[.ref a]) (z:=[.ref a]) F p r hd d e (.cons rfl .nil) q)
structure Mk(K:FG)(C f:Addr):Prop where
 makes:xA K C=true
 init:dC K (.ref C) "__init__"=some (some (.ref f))
 fn:t6 K (.ref f)=true
 kp:dD K (.ref C)=true
set_option tactic.hygienic true in
theorem Ek(M:Mk X.K C f)(F:FnOk X.p X.w X.K X.g X.b CX k f fd ps sp)(d:Room (k+1) X.A)(t:Binds X.K fd ps ds)(hd:ba dvs ds)
  (w:lT CX X E) (I:Inv X pins J H s) (r:ba z j)
  (h:∀x dx,H x=none->H dx=none->dx≠x->sp (.ref x::(z++dvs)) (bN (bN H dx (.own x)) x (.ins C dx [])) (λv H2=>v=.non/\Q (.ref x) H2) E) :
  wx X (call (.ref C) j) (EP X pins J Q) X.xe s:=by
 have n:=h (s.heap.objs.size+1) s.heap.objs.size (I.h.fresh (iD _)) (I.h.fresh (ah _)) (bb (jH _));have a:=Inv.made (C:=C) I;have b:ba (V.ref (s.heap.objs.size+1)::(z++dvs)) (Value.ref (s.heap.objs.size+1)::(j++ds)):=.cons rfl (r.append hd);have p:(Value.ref (s.heap.objs.size+1)::j++ds).length=ps.length:=by have e:=b.length;rw[F.len _ _ _ _ n]at e;exact e.symm
 refine pR (Fe (f:=f) I.kIn M.makes M.init (l8.mp M.fn) (nA (F.run _ X.k _ _ ⟨Value.ref (s.heap.objs.size+1)::j,[]⟩ (Value.ref (s.heap.objs.size+1)::(j++ds)) _ _ E (d.make C j [])
  (a.env0.make C j []) (t _ (Value.ref (s.heap.objs.size+1)::j) a.kIn p) b n) λr s' q=>?_))
 cases r with
 |error e=>exact w pins J _ _ e s' a q
 |ok l=>
  cases l with
  |ret u=>obtain⟨v,H',c,i,m,g⟩:=a.after q;subst m;exact⟨i,⟨V.ref (s.heap.objs.size+1),H',c,rfl,g⟩⟩
  |next=>exact False.elim q
  |brk=>exact False.elim q
  |cont=>exact False.elim q
theorem Ib(M:Mk X.K C f)(F:FnOk X.p X.w X.K X.g X.b CX k f fd ps sp)(v:Room (k+1) X.A)(g:Gl X x)(m:X.g x=some (.ref C))(b:Binds X.K fd ps ds)(hd:ba dvs ds)(w:lT CX X E)
  (n:PA X (e::es) t) (d:(x == ("__debug__":Str))=false:=by decide) (c:starEach (e::es) X.e=(false,eval e X.e)::starEach es X.e:=by rfl) (l:(backTo B (starEach es X.e)).any (·.1)=false:=by rfl) :
  Y X (.Call (.Name x p) (e::es) [] B) (Ny C sp dvs E t):=by
 intro pins s J H Q I h;refine iX (pI I g m ?_ d);refine p_ (h₀:=X.b) I.o.mod.kin M.kp (cG (n B pins s J H _ I h) λj u z=>?_) c l;obtain⟨i,G,a,r,q⟩:=z;refine⟨a.kIn,?_⟩;exact Ek M F v b hd w a r q
end
section
variable{X:Cx}{CX:Dl}{k:Nat}{f C:Addr}{fd:FuncData}{ps ks:LS}{sp:Sp}{E:XK}{x m:Str}{p B apos kpos:Pos}{e o:Expr}{es:Ab}{kws:List Keyword}{te ta:TE}{t tk:TA}{nm:Option Str}
structure KBinds(K:FG)(fd:FuncData)(ps ks:LS)(g:LV->LV->LV)(gV:List V->List V->List V):Prop where
 to:∀(s:Shared)(us ws:LV),K.In s.heap->(g us ws).length=ps.length->BindsTo s fd ⟨us,ks.zip ws⟩ (ps.zip (g us ws))
 rel:∀{vs:List V}{us:LV}{zs:List V}{ws:LV},ba vs us->ba zs ws->ba (gV vs zs) (g us ws)
variable{g:LV->LV->LV}{gV:List V->List V->List V}
end
structure FnScope(N P:LS)(sc:Scope):Prop where
 kind:sc.kind=.function
 co:sc.isCoroutine=false
 gen:sc.isGenerator=false
 nd:N.Nodup
 pre:N.take P.length=P
 par:∀x ∈ P,sc.names.lookup x=some .local\/sc.names.lookup x=some .cell
 nofree:∀y ∈ sc.names,y.2≠.free
theorem sW{kindOf:Str->Option NameKind}{x:Str}:∀{b:List (Str×Value)}{m:SV},(∀v,(x,v) ∉ b)->bindL kindOf b m x=m x
 | [],_,_=>rfl
 |(n,v)::r,m,h=>by
  unfold bindL;rw[sW λw hw=>h w (aG _ hw)];split
  .have:x≠n:=by rintro rfl;exact h v aH
   simp[this]
  .rfl
theorem sY{kindOf:Str->Option NameKind}{x:Str}:∀{b:List (Str×Value)}{m:SV},(∀v,(x,v) ∉ b)->bindC kindOf b m x=m x
 | [],_,_=>rfl
 |(n,v)::r,m,h=>by
  unfold bindC;rw[sY λw hw=>h w (aG _ hw)];split
  .rfl
  .have:x≠n:=by rintro rfl;exact h v aH
   simp[this]
theorem sX{kindOf:Str->Option NameKind}{x:Str}{v:Value}:∀{P:LS}{s:LV}{i:Nat}{m:SV},P.Nodup->P[i]? = some x->s[i]? = some v->kindOf x=some .local ->
  bindL kindOf (P.zip s) m x=some v
 | [],_,_,_,_,h,_,_=>by simp at h
 |_::_,[],_,_,_,_,h,_=>by simp at h
 |p::P,w::s,0,m,n,h1,h2,hk=>by simp at h1 h2;subst h1;subst h2;show bindL kindOf ((p,w)::P.zip s) m p=_;unfold bindL;rw[sW λv a=>(bP.mp n).1 (uf a).1,ac hk];simp
 |p::P,w::s,i+1,m,n,h1,h2,hk=>by show bindL kindOf ((p,w)::P.zip s) m x=_;unfold bindL;exact sX (i:=i) (bP.mp n).2 (by simpa using h1) (by simpa using h2) hk
theorem sZ{kindOf:Str->Option NameKind}{x:Str}{v:Value}:∀{P:LS}{s:LV}{i:Nat}{m:SV},P.Nodup->P[i]? = some x->s[i]? = some v->kindOf x≠some .local ->
  bindC kindOf (P.zip s) m x=some v
 | [],_,_,_,_,h,_,_=>by simp at h
 |_::_,[],_,_,_,_,h,_=>by simp at h
 |p::P,w::s,0,m,n,h1,h2,hk=>by simp at h1 h2;subst h1;subst h2;show bindC kindOf ((p,w)::P.zip s) m p=_;unfold bindC;rw[sY λv a=>(bP.mp n).1 (uf a).1,af hk];simp
 |p::P,w::s,i+1,m,n,h1,h2,hk=>by show bindC kindOf ((p,w)::P.zip s) m x=_;unfold bindC;exact sZ (i:=i) (bP.mp n).2 (by simpa using h1) (by simpa using h2) hk
noncomputable def start(N:LS)(v:List V):St:=v.map some++List.replicate (N.length-v.length) none
noncomputable def wT(CX:Dl)(P:Program)(w:World)(K:FG)(mg:SV)(base:Heap)(N:LS)(q:Str)(h:Scope)(f:Addr)(d:Value)(A:Around)(u:List Env)(s:Shared)(H:Hp)(E:XK):Cx where
 p:=P
 w:=w
 K:=K
 g:=mg
 b:=base
 A:=A.deeper (envOfC q h s.heap.objs.size f d)
 N:=N
 z:=s
 y:=H
 e:=envOfC q h s.heap.objs.size f d
 o:=u
 k:=envOfC q h s.heap.objs.size f d::u
 ex:=[]
 c:=true
 fn:=λ_=>true
 pn:=[]
 xe:=λe s'=>wpAny (model P w) (A.deeper (envOfC q h s.heap.objs.size f d)) (leaving (envOfC q h s.heap.objs.size f d) e) (λ_ x=>CX u H s E e x) (λa x=>CX u H s E a x) s'
variable{x:Str}
theorem w1{sc:Scope}(h:sc.names.lookup x=some .cell):∃c,(cellsFrom n sc.names []).lookup x=some c:=by have q:=DH sc.names n [] (.inl h);exact tM.mp q
theorem CL{CX:Dl}{P:Program}{w:World}{K:FG}{mg:SV}{base:Heap}{N ps:LS}{l:Str}{o:Scope}{f:Addr}{C:Value}{A:Around}{t:List Env}{s G:Shared}{H:Hp}{E:XK}{j:LV}{F:List V}
  (S:FnScope N ps o) (hd:A.handled=none) (m:Env0 P w K mg base A t s H) (R:F.length=ps.length) (r:ba F j)
  (x:InCallC s s.heap.objs.size (bindL (envOfC l o s.heap.objs.size f C).kindOf (ps.zip j) λ_=>none) (cellsFrom (s.heap.objs.size+1) o.names []) (bindC (envOfC l o s.heap.objs.size f C).kindOf (ps.zip j) λ_=>none) G) :
  Inv (wT CX P w K mg base N l o f C A t s H E) [] (start N F) H G:=by
 have L:ps.length≤N.length:=by have:=cY l_ S.pre;rw[g6]at this;lia
 obtain⟨h1,tk,rfl,hk⟩:=x.done;have g:∀b:Addr,b ∉ (wT CX P w K mg base N l o f C A t s H E).ex:=fun b z=>absurd (show b ∈ ([]:List Addr) from z) (by simp);refine⟨⟨m.mod,S.kind,rfl,rfl,ah _,fun y z c h1 h2=>?_,fun y d=>?_,fun y c _ h=>?_,fun _=>hd,Au m.frames,.inr ⟨rfl,rfl⟩,fun b z=>absurd z (g b),m.bs,m.bsz,fun b _ _=>g b,fun b z=>absurd z (g b),m.funs,m.frf,m.tab⟩,
  rfl,m.bare,Un.kept hk,⟨_,x.toInCall.ns,λi y v h1 h2 Q=>?_⟩,λy c h=>⟨_,x.cell y c h⟩,m.h.fresh (ah _),λy c h=>?_,λp B=>absurd (show p ∈ ([]:PN) from B) (by simp),m.h.kept hk,?_⟩
 .exact name_of_addr x.apart (pX h1) (pX h2)
 .have d:o.names.lookup y=some .cell\/o.names.lookup y=some .free:=d;rcases d with d|d
  .exact w1 d
  .exact absurd rfl (S.nofree _ (pX d))
 .exact eP (x.above y c (pX h))
 .have hi:i < F.length:=by
   unfold start at h2;by_cases hi:i < F.length
   .exact hi
   .rw [bI (by simpa using hi)]at h2;rw[uo]at h2;split at h2<;>cases h2
  have I:F[i]? = some v:=by
   unfold start at h2;rw[bL (by simpa using hi),b9]at h2;cases e:F[i]? with
   |none=>rw[e]at h2;cases h2
   |some a=>rw[e]at h2;cases h2;rfl
  obtain⟨u,D,M⟩:=r.get I;have B:ps[i]? = some y:=by rw[<- S.pre,g9 (by lia)];exact h1
  have Jv:ps.Nodup:=by rw[<- S.pre];exact S.nd.sublist (Ac _ _)
  refine⟨u,M,?_⟩;rcases S.par y (a8 B) with k|k
  .exact .inl ⟨k,sX Jv B D k⟩
  .obtain⟨c,e⟩:=w1 (n:=s.heap.objs.size+1) k;refine .inr ⟨.inl k,c,e,?_⟩;have q:=x.cell y c e;rw[sZ Jv B D (by show o.names.lookup y≠_;rw[k];decide)]at q;exact q
 .exact m.h.fresh (eP (x.above y c (pX h)))
 .unfold start;show _=N.length;rw[aZ,aX,uk];lia
set_option tactic.hygienic true in
theorem Oy{CX:Dl}{P:Program}{w:World}{K:FG}{mg:SV}{base:Heap}{k:Nat}{f:Addr}{name a:Str}{p:Arguments}{m:List Stmt}{c:Scope}{dV kV B pm d ct oc:Value}{an od:Option Addr}
  {W:Array (OV)}{N ps:LS}{sp:Sp} (lk:K.lookup f=some ⟨oc,od,.func (iY name a p m c dV kV B pm an d ct),W⟩) (M:iZ K d a=true) (S:FnScope N ps c)
  (len:∀g H Q E,sp g H Q E->g.length=ps.length)
  (l:∀(A:Around) (h:List Env) (s:Shared) (H:Hp) (g:List V) (Q:VK) (E:XK),Room k (A.deeper (envOfC a c s.heap.objs.size f d))->sp g H Q E ->
   ∃t,oe (wT CX P w K mg base N a c f d A h s H E) m t/\t { nx:=λ_ H'=>Q .non H',rt:=Q } (start N g) H) :
  FnOk P w K mg base CX (k+1) f (iY name a p m c dV kV B pm an d ct) ps sp:=by
 refine⟨len,λA h s H args j g Q E R C hb r G=>?_⟩;have hl:=len _ _ _ _ G;have Z:K.In s.heap:=C.mod.kin.keeps λb o e=>(C.bs b o e).1;have T:s.heap.NoLimit:=C.mod.nolimit.keeps λb o e=>(C.bs b o e).1;have z:∀y ∈ ps.zip j,c.names.lookup y.1=some .local\/(c.names.lookup y.1=some .cell/\((cellsFrom (s.heap.objs.size+1) c.names []).lookup y.1).isSome=true):=λ⟨n,v⟩ hy=>by
  rcases S.par n (uf hy).1 with q|q
  .exact .inl q
  .exact .inr ⟨q,DH _ _ _ (.inl q)⟩
 refine codeAny_call_function R.depth (Z _ _ lk) rfl S.co S.gen rfl (PySem.W.codeRec_of Z M) (hb _ _ _ _ ?_);refine wpAny_newFunctionEnv_cells S.kind z λenv he s1 x=>?_;subst he;refine⟨T.keeps x.toInCall.keep,codeAny_func ?_⟩;obtain⟨t,ht,hq⟩:=l A h s H g Q E (R.deeper _) G;have I:Inv (wT CX P w K mg base N a c f d A h s H E) [] (start N g) H s1:=CL S R.hd C hl r x;refine cD (ht [] s1 (start N g) H _ I hq) (λfl s' F=>?_) λe s' F=>F;have D:∀{L:St}{H':Hp}{v:V}{u:Value},Inv (wT CX P w K mg base N a c f d A h s H E) [] L H' s'->RelV v u->Q v H'->CE h P w H s Q u s':=
  λ{L H' v u} i X q=>⟨v,H',i.os,i.bare,i.base,i.h,X,q⟩
 cases fl with
 |ret u=>obtain⟨v,L,H',i,X,q⟩:=F;exact D i X q
 |next=>obtain⟨L,H',i,q⟩:=F;exact D (v:=V.non) (u:=Value.none) i rfl q
 |brk=>obtain⟨_,_,_,q⟩:=F;exact False.elim q
 |cont=>obtain⟨_,_,_,q⟩:=F;exact False.elim q
section
variable{X:Cx}{x:Str}{p B:Pos}{e:Expr}{es:Ab}{t:TA}{id T:String}{r:List V->Hp->VK->Prop}
noncomputable def RM(r:List V->Hp->VK->Prop)(t:TA):TE:=λJ H Q=>t J H λv G=>r v G Q
theorem mK(c:eE X (.builtin id) r)(g:Gl X x)(m:X.g x=none)(v:bootBuiltins x=some (.builtin id))(n:PA X (e::es) t)(f:x≠"__name__":=by decide)(d:(x == ("__debug__":Str))=false:=by decide)
  (k:starEach (e::es) X.e=(false,eval e X.e)::starEach es X.e:=by rfl) (l:(backTo B (starEach es X.e)).any (·.1)=false:=by rfl):Y X (.Call (.Name x p) (e::es) [] B) (RM r t):=by
 intro pins s J H Q I h;refine iX (jV I g m v ?_ f d);exact Hd (cG (n B pins s J H _ I h) λj w z=>by obtain⟨u,G,a,b,q⟩:=z;exact c pins w J G u j Q a b q) k l
theorem nO(c:eE X (.type T) r)(g:Gl X x)(m:X.g x=none)(v:bootBuiltins x=some (.type T))(n:PA X (e::es) t)(f:x≠"__name__":=by decide)(d:(x == ("__debug__":Str))=false:=by decide)
  (k:starEach (e::es) X.e=(false,eval e X.e)::starEach es X.e:=by rfl) (l:(backTo B (starEach es X.e)).any (·.1)=false:=by rfl):Y X (.Call (.Name x p) (e::es) [] B) (RM r t):=by
 intro pins s J H Q I h;refine iX (jV I g m v ?_ f d);exact jG (cG (n B pins s J H _ I h) λj w z=>by obtain⟨u,G,a,b,q⟩:=z;exact c pins w J G u j Q a b q) k l
end
end L2
set_option tactic.hygienic true
namespace HT
open PySem PyProof.Rows
section
variable{prog:Program}{w:World}{A:Around}{E:VP}{s:Shared}
theorem I0(g:IsTup s.heap t z.toArray)(u:IsTup s.heap b q.toArray)(v:z≠[])
  (h1:q=[]->Q (.ref t) s) (h2:q≠[]->Q (.ref s.heap.objs.size) { s with heap:=s.heap.push { cls:=.type "tuple",data:=.seq (z++q).toArray } })
  (a:z.length+q.length≤sizeLine):wpAny (model prog w) A (binaryOp .Add (.ref t) (.ref b)) Q E s:=by
 obtain⟨⟨N,f,I,p⟩,o,m,n,hd⟩:=id g;obtain⟨⟨k,d,data2,l⟩,h,c,r,x⟩:=id u;simp only at m hd c x;subst m hd c x;have e:z.toArray++q.toArray=(z++q).toArray:=by simp
 by_cases hw:q=[]
 .exact xh ⟨_,o,rfl⟩ ⟨_,h,rfl⟩ xo xj tF tG (tJ _ _)
   (tuple_addW1 t b z.toArray q.toArray n r f d p l (by simpa using v) (by simp[hw])) ⟨o,h,h1 hw⟩
 .refine xh ⟨_,o,rfl⟩ ⟨_,h,rfl⟩ xo xj tF tG (tJ _ _)
   (tuple_addW2 t b z.toArray q.toArray n r f d p l (by simpa using v) (by simpa using hw) (by rw[bc,bc];exact a)) ⟨o,h,?_⟩
  rw[e];exact h2 hw
noncomputable def eJ(n d:Nat):Option Int->Nat
 |none=>d
 |some v=>if v < 0 then (v+(n:Int)).toNat else min v.toNat n
theorem qB(n d:Nat):eJ n d none=d:=rfl
theorem Bj(n d k:Nat):eJ n d (some (k:Int))=min k n:=by show(if (k:Int) < 0 then ((k:Int)+(n:Int)).toNat else min (k:Int).toNat n)=min k n;rw[af (by lia),oZ]
theorem KH(n d:Nat)(hd:d≤n)(o:Option Int):eJ n d o≤n:=by
 cases o with
 |none=>exact hd
 |some v=>
  show(if v < 0 then (v+(n:Int)).toNat else min v.toNat n)≤n;by_cases h:v < 0
  .rw [ac h];lia
  .rw [af h];exact Nat.min_le_right _ _
theorem B2(v:Int)(n d:Nat):(if v < 0 then max (v+(n:Int)) 0 else min v (n:Int))=((eJ n d (some v):Nat):Int):=by
 show(if v < 0 then max (v+(n:Int)) 0 else min v (n:Int))=(((if v < 0 then (v+(n:Int)).toNat else min v.toNat n):Nat):Int);by_cases h:v < 0
 .simp only[ac h];lia
 .simp only[af h];lia
theorem yK(lo hi:Option Int)(n:Nat):tz lo hi 1 (n:Int)=(((eJ n 0 lo:Nat):Int),((eJ n n hi:Nat):Int)):=by
 have h1:¬((1:Int) < 0):=by lia
 unfold tz;simp only[h1,jK];refine Prod.ext ?_ ?_
 .cases lo with
  |none=>rfl
  |some v=>exact B2 v n 0
 .cases hi with
  |none=>rfl
  |some v=>exact B2 v n n
theorem x8(i j:Nat):oY (i:Int) (j:Int) 1=j-i:=by
 unfold oY;have h1:(1:Int) > 0:=by lia
 simp only[h1,jJ,Int.ediv_one];split<;>lia
theorem qA(p:IsPart v o)(h:Q o s):wpAny (model prog w) A (GJ v) Q E s:=by
 cases p with
 |none=>exact zx h
 |int i t=>exact slicePart_int h
theorem jc{l:Addr}{v u:Value}{lo hi:Option Int}{n:Nat}{Q:Int×Int×Nat->Shared->Prop}(a:s.heap.IsSliceOf l v u .none)(p:IsPart v lo)(e:IsPart u hi)
  (h:Q (((eJ n 0 lo:Nat):Int),1,eJ n n hi-eJ n 0 lo) s):wpAny (model prog w) A (yW (.ref l) (pure (n:Int))) Q E s:=by
 obtain⟨os,o,c,d⟩:=id a;unfold yW GI;refine ab (ab (dt o d (x:=v) rfl (ab (dt o d (x:=u) rfl (ab (dt o d (x:=.none) rfl (ao ?_)))))));refine ab (zx ?_);show wpAny _ _ (if ((1:Int) == 0)=true then _ else _) _ _ s;rw[af (by decide)];refine ab (qA p (ab (qA e (ab (ao ?_)))));show wpAny _ _ (match tz lo hi 1 (n:Int) with|(lo,hi)=>pure (lo,(1:Int),oY lo hi 1)) _ _ s;rw[yK lo hi n];show wpAny _ _ (pure (((eJ n 0 lo:Nat):Int),(1:Int),oY ((eJ n 0 lo:Nat):Int) ((eJ n n hi:Nat):Int) 1)) _ _ s;rw[x8];exact ao h
theorem EC(xs:Array Value)(i k:Nat):((List.range k).filterMap λ(m:Nat)=>xs[((i:Int)+(m:Int) * 1).toNat]?).toArray=((xs.toList.drop i).take k).toArray:=by
 have e:(λ(m:Nat)=>xs[((i:Int)+(m:Int) * 1).toNat]?)=λm=>xs[i+m]?:=by
  funext m;have:((i:Int)+(m:Int) * 1).toNat=i+m:=by lia
  rw[this]
 rw[e];have:=pick_run xs i k
 rw[List.filterMap_map]at this;have h:((λx=>xs[x]?) ∘ λx=>i+x)=λm=>xs[i+m]?:=rfl;rw[h]at this;rw[this]
theorem mU{t l:Addr}{i:Array Value}{v u:Value}{lo hi:Option Int}{Q:VP}(x:IsTup s.heap t i)(e:s.heap.IsSliceOf l v u .none)(p:IsPart v lo)(k:IsPart u hi)
  (hw:¬(eJ i.size 0 lo=0/\eJ i.size i.size hi=i.size))
  (h:Q (.ref s.heap.objs.size) { s with heap:=s.heap.push { cls:=.type "tuple",data:=.seq ((i.toList.drop (eJ i.size 0 lo)).take (eJ i.size i.size hi-eJ i.size 0 lo)).toArray } })
  (z:i.size≤sizeLine):wpAny (model prog w) A (getItem (.ref t) (.ref l)) Q E s:=by
 have a:sizeOk (.seq ((i.toList.drop (eJ i.size 0 lo)).take (eJ i.size i.size hi-eJ i.size 0 lo)).toArray):=by show((i.toList.drop (eJ i.size 0 lo)).take (eJ i.size i.size hi-eJ i.size 0 lo)).toArray.size≤sizeLine;rw[bc,g6,ug,mB];lia
 have j:eJ i.size i.size hi≤i.size:=KH _ _ (ah _) hi;obtain⟨os,o,c,d⟩:=id e;have T:s.TypeIs (.ref l) "slice":=⟨os,o,c⟩;unfold getItem;try with_reducible refine fE ?_
 first|refine ab (ao ?_)|skip
 refine ab (AW x.typeIs (by decide) ?_);refine ab (pY (name:=Str.ofString "__getitem__") x.typeIs jF
  (nB jF x.typeIs zA ?_ (zz _ _)))
 show wpAny _ _ (Dw (.ref t) >>= _) _ _ s;refine ab (zu x ?_);refine ab (lC T ?_);rw[ac (by decide)];refine ab (jc e p k ?_);have n:¬((((eJ i.size 0 lo:Nat):Int) == 0 && (1:Int) == 1 && (eJ i.size i.size hi-eJ i.size 0 lo) == i.size)=true):=by intro q;rw[ar,ar]at q;have f:((eJ i.size 0 lo:Nat):Int)=0:=eq_of_beq q.1.1;have b:eJ i.size i.size hi-eJ i.size 0 lo=i.size:=eq_of_beq q.2;exact hw ⟨by lia,by lia⟩
 show wpAny _ _ (if (((eJ i.size 0 lo:Nat):Int) == 0 && (1:Int) == 1 && (eJ i.size i.size hi-eJ i.size 0 lo) == i.size)=true then _ else _) _ _ s;rw[af n,EC];first
  |exact ab (m:=yM _) (pU (ao ⟨_,rfl,ao h⟩) a)
  |exact ab (m:=yM _) (pU (ab (ao (ao ⟨_,rfl,ao h⟩))) a)
  |exact ab (ab (m:=yM _) (pU (ao (ao ⟨_,rfl,ao h⟩)) a))
  |exact ab (ab (m:=yM _) (pU (ao ⟨_,rfl,ao h⟩) a))
end
end HT
set_option tactic.hygienic false
namespace L2
open PySem PySem.Spec PyProof.Rows
noncomputable abbrev TO:=St->Hp->(Option Int->Hp->Prop)->Prop
def PO(X:Cx)(e:Option Expr)(t:TO):Prop:=
 ∀(pins:PN)(s:Shared)(J:St)(H:Hp)(Q:Option Int->Hp->Prop),Inv X pins J H s->t J H Q ->
  wx X (evalPart e X.e) (λu s'=>∃o H',Inv X pins J H' s'/\IsPart u o/\Q o H') X.xe s
noncomputable def HA:TO:=λ_ H Q=>Q none H
noncomputable def Nu(t:TE):TO:=λJ H Q=>t J H λx G=>∃i,x=.int i/\Q (some i) G
section
variable{X:Cx}{e:Expr}{te:TE}{lo hi:Option Expr}{tl th:TO}{B p2:Pos}
theorem HY:PO X none HA:=by intro pins s J H Q I h;rw[AC];exact ao ⟨none,H,I,.none,h⟩
theorem HW(h:Y X e te):PO X (some e) (Nu te):=by
 intro pins s J H Q I hw;rw[evalPart_some];refine cG (h pins s J H _ I hw) λu k z=>?_
 obtain⟨x,G,a,r,n⟩:=z;obtain⟨i,rfl,q⟩:=n;obtain⟨t,rfl⟩:=r;exact⟨some i,G,a,.int i t,q⟩
def JI(X:Cx)(r:V->Option Int->Option Int->Hp->VK->Prop):Prop:=
 ∀(pins:PN)(s:Shared)(J:St)(H:Hp)(x:V)(v h u:Value)(lo hi:Option Int)(l:Addr)(Q:VK),Inv X pins J H s->RelV x v->s.heap.IsSliceOf l h u .none->IsPart h lo->IsPart u hi->r x lo hi H Q ->
  ∃T id,typeLookup (.type T) "__getitem__"=pure (some (.builtin id))/\s.TypeIs v T/\wx X (getItem v (.ref l)) (EP X pins J Q) X.xe s
theorem JI.or(h:JI X r)(h':JI X z):JI X (λx lo hi H Q=>r x lo hi H Q\/z x lo hi H Q):=by
 intro pins s J H x v n k lo hi l Q I e a p u q;rcases q with q|q
 .exact h pins s J H x v n k lo hi l Q I e a p u q
 .exact h' pins s J H x v n k lo hi l Q I e a p u q
noncomputable def Sm(r:V->Option Int->Option Int->Hp->VK->Prop)(te:TE)(tl th:TO):TE:=λJ H Q=>te J H λx G=>tl J G λl H2=>th J H2 λu h=>r x l u h Q
theorem wd(j:JI X r)(w:Y X e te)(i:PO X lo tl)(o:PO X hi th):Y X (.Subscript e (.Slice lo hi none p2) B) (Sm r te tl th):=by
 intro pins s J H Q I h;refine Subscript_ (cG (w pins s J H _ I h) λv D z=>?_);obtain⟨x,G,c,C,K⟩:=z;refine wpAny_Slice (cG (i pins D J G _ c K) λn E ⟨l,H2,m,S,P⟩=>cG (o pins E J H2 _ m P) λk a z=>?_);obtain⟨u,f,t,F,A⟩:=z;rw[AC];refine ao ?_;have p:Inv X pins J f { a with heap:=a.heap.push { cls:=.type "slice",data:=.fields #[n,k,.none] } }:=t.kept (t':=a.toks) λb L q=>aO _ q
 obtain⟨T,id,d,y,g⟩:=j pins { a with heap:=a.heap.push { cls:=.type "slice",data:=.fields #[n,k,.none] } } J f x v n k l u a.heap.objs.size Q p C (Heap.IsSliceOf.new ..) S F A;show wx X (subscriptTail e (.Slice lo hi none p2) v (.ref a.heap.objs.size)) (EP X pins J Q) X.xe { a with heap:=a.heap.push { cls:=.type "slice",data:=.fields #[n,k,.none] } };exact o8 (ops:=[.ref a.heap.objs.size,v]) y d g (by with_unfolding_all rfl)
def wV(xs:List V)(lo hi:Option Int):List V:=(xs.drop (HT.eJ xs.length 0 lo)).take (HT.eJ xs.length xs.length hi-HT.eJ xs.length 0 lo)
theorem oE(xs:List V)(lo hi:Option Int):(wV xs lo hi).length≤xs.length:=by unfold wV;rw[g6,ug];lia
def QH(K:FG):V->Option Int->Option Int->Hp->VK->Prop:=λx lo hi H Q=>∃a xs,x=.ref a/\ny K H a xs /\
 ¬(HT.eJ xs.length 0 lo=0/\HT.eJ xs.length xs.length hi=xs.length)/\∀p,H p=none->Q (.ref p) (bN H p (.tup (wV xs lo hi)))
theorem KC:JI X (QH X.K):=by
 intro pins s J H x v m d lo hi c Q I k e p u h;obtain⟨a,xs,rfl,n,hw,q⟩:=h;cases k;obtain⟨i,r,t,z⟩:=I.tuple n;have l:i.toArray.size=xs.length:=by rw[bc];exact r.length.symm
 refine⟨"tuple",_,jF.lookup,t.typeIs,?_⟩;refine HT.mU t e p u (by rw[l];exact hw) ?_ (by rw[l];exact z);rw[l];refine⟨.ref s.heap.objs.size,_,I.laid (t':=s.toks) (o:=.tup (wV xs lo hi)) (λb f q=>aO _ q) (ah _) ?_,rfl,q _ (I.h.fresh (ah _))⟩;exact⟨au (oE xs lo hi) z,_,(r.drop (HT.eJ xs.length 0 lo)).take (HT.eJ xs.length xs.length hi-HT.eJ xs.length 0 lo),n0.new _ _⟩
def NM(K:FG):R2:=λx y H Q=>∃a b xs ys,x=.ref a/\y=.ref b/\ny K H a xs/\ny K H b ys/\xs≠[]/\xs.length+ys.length≤sizeLine /\
 (ys=[]->Q (.ref a) H)/\(ys≠[]->∀p,H p=none->Q (.ref p) (bN H p (.tup (xs++ys))))
theorem ba.nil_iff(r:ba xs j):j=[]↔xs=[]:=by
 cases r with
 |nil=>simp
 |cons _ _=>simp
theorem Ii:i_ X (binaryOp .Add) (NM X.K):=by intro pins s J H x y v u Q I g j h;obtain⟨a,b,xs,ys,rfl,rfl,k,f,c,n,m,d⟩:=h;cases g;cases j;obtain⟨t,e,p,_⟩:=I.tuple k;obtain⟨i,r,p2,_⟩:=I.tuple f;refine HT.I0 p p2 (λz=>c (e.nil_iff.mp z)) (λz=>⟨.ref a,H,I,rfl,m (r.nil_iff.mp z)⟩) (λz=>?_) (by rw[<- e.length,<- r.length];exact n);refine⟨.ref s.heap.objs.size,_,I.laid (t':=s.toks) (o:=.tup (xs++ys)) (λb l q=>aO _ q) (ah _) ?_,rfl,d (λw=>z (r.nil_iff.mpr w)) _ (I.h.fresh (ah _))⟩;exact⟨by rw[aZ];exact n,_,e.append r,n0.new _ _⟩
end
noncomputable def Dj(n:Nat)(i:Int):Option Nat:=if 0≤i then (if i < n then some i.toNat else none) else if -(n:Int)≤i then some (i+n).toNat else none
variable{α:Type}
def atI(xs:List α)(i:Int):Option α:=(Dj xs.length i).bind λj=>xs[j]?
variable{n:Nat}
theorem BK{i:Int}(h:Dj n i=some q):seqIndex? i n=some q/\q < n/\-(n:Int)≤i/\i < n:=by
 unfold Dj at h;by_cases x:0≤i
 .rw [ac x]at h;by_cases h1:i < n
  .rw [ac h1]at h;have e:i.toNat=q:=cw h;exact⟨by rw[ux x h1,e],by lia,by lia,h1⟩
  .rw [af h1]at h;cases h
 .rw [af x]at h;by_cases h1:-(n:Int)≤i
  .rw [ac h1]at h;have e:(i+n).toNat=q:=cw h;exact⟨by rw[xi (by lia) h1,e],by lia,h1,by lia⟩
  .rw [af h1]at h;cases h
theorem vF{i:Int}(h:atI xs i=some v):∃j,seqIndex? i xs.length=some j/\xs[j]? = some v/\j < xs.length/\-(xs.length:Int)≤i/\i < xs.length:=by
 unfold atI at h;cases e:Dj xs.length i with
 |none=>rw[e]at h;cases h
 |some j=>rw[e]at h;obtain⟨h1,h2,x,a⟩:=BK e;exact⟨j,h1,h,h2,x,a⟩
def nr(b:Expr):Prop:=∀o i,subscripted b false o i=operate [o,i] (getItem o i)
def Gy(X:Cx)(r:R2):Prop:=
 ∀(value l:Expr)(pins:PN)(s:Shared)(J:St)(H:Hp)(x y:V)(v u:Value)(Q:VK),Inv X pins J H s->RelV x v->RelV y u->r x y H Q ->
  subscripted l false v u=operate [v,u] (getItem v u)->wx X (subscriptTail value l v u) (EP X pins J Q) X.xe s
def R8(X:Cx)(id:String)(r:V->List V->Hp->VK->Prop):Prop:=
 ∀(pins:PN)(s:Shared)(J:St)(H:Hp)(x:V)(xs:List V)(v:Value)(j:LV)(Q:VK),Inv X pins J H s->RelV x v->ba xs j->r x xs H Q ->
  wx X (call (.builtin id) (v::j)) (EP X pins J Q) X.xe s
section
variable{X:Cx}{a b:Expr}{ta tb:TE}{B:Pos}
theorem Gy.or(h:Gy X r)(h':Gy X z):Gy X (λx y H Q=>r x y H Q\/z x y H Q):=by
 intro value l pins s J H x y v u Q I e n q a;rcases q with q|q
 .exact h value l pins s J H x y v u Q I e n q a
 .exact h' value l pins s J H x y v u Q I e n q a
theorem EI(f:Gy X r)(n:Y X a ta)(k:Y X b tb)(c:nr b):Y X (.Subscript a b B) (Kt r ta tb):=by intro pins s J H Q I h;exact Subscript_ (Mo n k I h λv u p x y H2 e m t q=>f a b pins p J H2 x y v u Q e m t q (c _ _))
def QN(K:FG):R2:=λx y H Q=>∃p xs i v,x=.ref p/\y=.int i/\iB K H p xs/\atI xs i=some v/\Q v H
def QL(K:FG):R2:=λx y H Q=>∃p xs i v,x=.ref p/\y=.int i/\ny K H p xs/\atI xs i=some v/\Q v H
def QM:R2:=λx y H Q=>∃z i c,x=.str z/\y=.int i/\z.length≤sizeLine/\atI z.cps.toList i=some c/\Q (.str ⟨#[c]⟩) H
theorem u4:Gy X (QN X.K):=by
 intro value c pins s J H x y v u Q I K P h m;obtain⟨p,xs,i,z,rfl,rfl,F,o,q⟩:=h;cases K;obtain⟨t,rfl⟩:=P;obtain⟨e,r,l,C⟩:=I.list F;obtain⟨j,h1,h2,A,d,g⟩:=vF o;obtain⟨w,k,n⟩:=r.get h2;have S:=r.length;have B:=kx;have f:EP X pins J Q w s:=⟨z,H,I,n,q⟩;by_cases b:0≤i
 .have a:i.toNat=j:=by
   rw[ux b g]at h1;exact cw h1
  exact item_listR l.isList b (by lia) (by rw[a];simpa using k) f m
 .have a:(i+(e.toArray.size:Int)).toNat=j:=by
   rw[xi (by lia) d]at h1;rw[bc,<- S];exact cw h1
  exact zC (x:=w) l.isList.typeIs AV.lookup
   (wpAny_getItem_list_neg (Q:=λr s'=>r=w/\EP X pins J Q r s') l.isList (by lia) (by rw[bc]<;>lia) (by lia) (by rw[a];simpa using k) ⟨rfl,f⟩) m
theorem Fs:Gy X (QL X.K):=by
 intro value l pins s J H x y v u Q I g o h m;obtain⟨p,xs,i,z,rfl,rfl,c,k,q⟩:=h;cases g;obtain⟨t,rfl⟩:=o;obtain⟨d,r,e,A⟩:=I.tuple c;obtain⟨j,h1,h2,S,F,K⟩:=vF k;obtain⟨w,n,a⟩:=r.get h2;have b:=r.length;have P:=kx;have f:EP X pins J Q w s:=⟨z,H,I,a,q⟩;exact zC (x:=w) e.typeIs jF.lookup
  (getItem_tuple (j:=j) (Q:=λr s'=>r=w/\EP X pins J Q r s') e (by lia) (by lia) (by rw[bc,<- b];exact h1) (by simpa using n) ⟨rfl,f⟩) m
theorem LO:Gy X QM:=by
 intro value l pins s J H x y v u Q I r p h m;obtain⟨z,i,c,rfl,rfl,g,f,q⟩:=h;obtain⟨t,rfl⟩:=r;obtain⟨o,rfl⟩:=p;obtain⟨j,h1,h2,d,n,k⟩:=vF f;have b:z.cps.toList.length=z.length:=by simp[lW]
 rw[b]at h1 n k;have w:=kx;exact o8 (typeIs_str s z t) slot_str_getitem.lookup (getItem_str (c:=c) (by have e:decide (i < -(2 ^ 63:Int))=false:=bj (by lia);have a:decide (i ≥ 2 ^ 63)=false:=bj (by lia);rw[e,a,Bool.or_false]) (by rw[h1];simpa using h2) ⟨.str ⟨#[c]⟩,H,I.tok _,⟨_,rfl⟩,q⟩) m
theorem yc(i:LV)(n j:Nat)(u:Value):jD (·.setIfInBounds j u) { cls:=.type "list",data:=.seq i.toArray n }={ cls:=.type "list",data:=.seq (i.set j u).toArray n }:=by simp[jD]
theorem Inv.lst(I:Inv X pins J H s)(h:H p=some (.lst xs)) :
  ∃(i:LV)(n:Nat),ba xs i/\s.heap.get? p=some { cls:=.type "list",data:=.seq i.toArray n }/\xs.length≤sizeLine:=by
 obtain⟨z,i,n,r,e⟩:=I.h p _ h;exact⟨i,n,r,e,z⟩
theorem Inv.lstUpd{i:LV}(I:Inv X pins J H s)(h:H p=some (.lst xs))
  (o:s.heap.get? p=some { cls:=.type "list",data:=.seq i.toArray n }) (a:f { cls:=.type "list",data:=.seq i.toArray n }={ cls:=.type "list",data:=.seq z.toArray N }) (r:ba ys z) (c:ys.length≤sizeLine) (t:Nat) :
  Inv X pins J (bN H p (.lst ys)) { s with heap:=s.heap.update p f,toks:=t }:=by
 have e:(s.heap.update p f).get? p=some { cls:=.type "list",data:=.seq z.toArray N }:=by rw[t5 f o (by rw[a]<;>rfl),a]
 refine I.write (x:=p) (e:=p) (by rw[h];trivial) (.inl rfl) (λb u k q=>(zU _ _ (aI k)).trans q) ⟨_,e⟩ ?_;exact⟨c,z,N,r,e⟩
def NL:V->V->V->Hp->(Hp->Prop)->Prop:=λo i v H Q=>∃p xs k j,o=.ref p/\i=.int k/\H p=some (.lst xs)/\Dj xs.length k=some j/\Q (bN H p (.lst (xs.set j v)))
theorem Ee:O2 X NL:=by
 intro pins s J H o i v F iv u Q I g w y h;obtain⟨p,xs,k,j,rfl,rfl,m,d,q⟩:=h;cases g;obtain⟨t,rfl⟩:=w;obtain⟨x,n,r,a,z⟩:=I.lst m;obtain⟨h1,h2,b,c⟩:=BK d;have l:=r.length;have S:=kx;have e:Inv X pins J (bN H p (.lst (xs.set j v))) { s with heap:=s.heap.update p (jD (·.setIfInBounds j u)) }:=
  I.lstUpd m a (yc x n j u) (r.set y j) (by rw[db];exact z) s.toks
 by_cases f:0≤k
 .have hk:k.toNat=j:=by
   rw[ux f c]at h1;exact cw h1
  exact PySem.W.ki_setAt a f (by lia) (by rw[bc,<- l];exact c) (by rw[hk];exact⟨_,e,q⟩)
 .have hk:(k+(x.toArray.size:Int)).toNat=j:=by
   rw[xi (by lia) b]at h1;rw[bc,<- l];exact cw h1
  exact PySem.W.ki_setBack a (by lia) (by rw[bc,<- l];exact b) (by lia) (by rw[hk];exact⟨_,e,q⟩)
theorem uN(lo hi:Option Int)(n:Nat):(sliceBounds lo hi none n).1=((HT.eJ n 0 lo:Nat):Int)/\(sliceBounds lo hi none n).2.1=((HT.eJ n n hi:Nat):Int)/\(sliceBounds lo hi none n).2.2=1:=by
 refine⟨?_,?_,rfl⟩
 .cases lo with
  |none=>simp[sliceBounds,HT.eJ]
  |some i=>
   simp only[sliceBounds,HT.eJ,zq,show(1:Int) > 0 by decide,jJ];by_cases h:i < 0
   .simp only[h,jJ]<;>lia
   .simp only[h,jK]<;>lia
 .cases hi with
  |none=>simp[sliceBounds,HT.eJ]
  |some i=>
   simp only[sliceBounds,HT.eJ,zq,show(1:Int) > 0 by decide,jJ];by_cases h:i < 0
   .simp only[h,jJ]<;>lia
   .simp only[h,jK]<;>lia
theorem rM(i:LV)(lo hi:Option Int):slicePick i.toArray lo hi none=((i.drop (HT.eJ i.length 0 lo)).take (HT.eJ i.length i.length hi-HT.eJ i.length 0 lo)).toArray:=by obtain⟨h1,h2,h⟩:=uN lo hi i.toArray.size;unfold slicePick;rw[h1,h2,h];simp only[sliceRange_one,pick_run,bc]<;>rfl
def QI(K:FG):V->Option Int->Option Int->Hp->VK->Prop:=λx lo hi H Q=>∃a xs,x=.ref a/\iB K H a xs/\∀p,H p=none->Q (.ref p) (bN H p (.lst (wV xs lo hi)))
theorem Bh:JI X (QI X.K):=by intro pins s J H x v m d lo hi c Q I k e p u h;obtain⟨a,xs,rfl,n,q⟩:=h;cases k;obtain⟨i,r,t,z⟩:=I.list n;have l:=r.length;refine⟨"list",_,AV.lookup,t.isList.typeIs,?_⟩;refine wpAny_getItem_list_slice t.isList e p u .none (by simp) ?_ (by rw[bc]<;>lia);rw[rM,<- l];refine⟨.ref s.heap.objs.size,_,I.laid (t':=s.toks) (o:=.lst (wV xs lo hi)) (λb f q=>aO _ q) (ah _) ?_,rfl,q _ (I.h.fresh (ah _))⟩;exact⟨au (oE xs lo hi) z,_,0,(r.drop (HT.eJ xs.length 0 lo)).take (HT.eJ xs.length xs.length hi-HT.eJ xs.length 0 lo),br _ rfl⟩
theorem vx:eE X (.builtin "len") (λxs H Q=>∃p ys,xs=[.ref p]/\(iB X.K H p ys\/ny X.K H p ys)/\Q (.int ys.length) H):=by
 intro pins s J H xs j Q I r h;obtain⟨p,ys,rfl,x,q⟩:=h;obtain⟨u,rfl,n⟩:=vals1 r;cases n;have k:=kx;rcases x with x|x
 .obtain⟨i,e,a,z⟩:=I.list x;have l:=e.length;exact Calls.call_len_list a.isList (by simp only[bc]<;>lia) ⟨.int ys.length,H,I.tok _,⟨s.toks+1,by rw[bc,l]⟩,q⟩
 .obtain⟨i,e,a,z⟩:=I.tuple x;have l:=e.length;exact len_tuple a (by simp only[bc]<;>lia) ⟨.int ys.length,H,I.tok _,⟨s.toks+1,by rw[bc,l]⟩,q⟩
theorem vw:eE X (.builtin "len") (λxs H Q=>∃z,xs=[.str z]/\z.length≤sizeLine/\Q (.int z.length) H):=by intro pins s J H xs j Q I r h;obtain⟨z,rfl,x,q⟩:=h;obtain⟨u,rfl,t,rfl⟩:=vals1 r;have n:=kx;exact len_str (by lia) ⟨.int z.length,H,I.tok _,⟨_,rfl⟩,q⟩
theorem eE.or(h:eE X f r)(h':eE X f z):eE X f (λxs H Q=>r xs H Q\/z xs H Q):=by
 intro pins s J H xs j Q I x q;rcases q with q|q
 .exact h pins s J H xs j Q I x q
 .exact h' pins s J H xs j Q I x q
theorem na:eE X (.type "list") (λxs H Q=>∃p ys,xs=[.ref p]/\(iB X.K H p ys\/ny X.K H p ys)/\∀l,H l=none->Q (.ref l) (bN H l (.lst ys))):=by
 intro pins s J H xs j Q I r h;obtain⟨p,ys,rfl,k,q⟩:=h;obtain⟨u,rfl,w⟩:=vals1 r;cases w;have f:∀(i:LV),ba ys i->ys.length≤sizeLine->∀(h':Heap)(c:Nat),(∀b o',s.heap.get? b=some o'->h'.get? b=some o') ->
   h'.get? s.heap.objs.size=some { cls:=.type "list",dict:=none,data:=.seq i.toArray c,slots:=#[] }->EP X pins J Q (.ref s.heap.objs.size) { s with heap:=h' }:=λi x z h' c m e=>
  ⟨.ref s.heap.objs.size,_,I.laid (t':=s.toks) m (ah _) (show cW X.p X.w _ h' _ (.lst ys) from ⟨z,i,c,x,e⟩),rfl,q _ (I.h.fresh (ah _))⟩
 rcases k with k|k
 .obtain⟨i,x,d,z⟩:=I.list k;have a:=x.length;obtain⟨o,v,t,n,hd⟩:=d.isList;exact AB p (.inl rfl) v t hd (λh' c m e=>f i x z h' c m e) (by simp only[bc]<;>lia)
 .obtain⟨i,x,d,z⟩:=I.tuple k;have a:=x.length;obtain⟨o,v,t,n,hd⟩:=d;exact AB p (.inr rfl) v t hd (λh' c m e=>f i x z h' c m e) (by simp only[bc]<;>lia)
theorem lw:eE X (.type "tuple") (λxs H Q=>∃p ys,xs=[.ref p]/\((iB X.K H p ys/\∀l,H l=none->Q (.ref l) (bN H l (.tup ys)))\/(ny X.K H p ys/\Q (.ref p) H))):=by
 intro pins s J H xs j Q I r h;obtain⟨p,ys,rfl,h⟩:=h;obtain⟨u,rfl,t⟩:=vals1 r;cases t;rcases h with ⟨x,q⟩|⟨x,q⟩
 .obtain⟨i,n,a,z⟩:=I.list x;have f:=n.length;refine call_tuple_list a.isList (λh' m=>?_) (by simp only[bc]<;>lia);have k:Inv X pins J H { s with heap:=h' }:=I.kept (t':=s.toks) m;have c:Inv X pins J (bN H h'.objs.size (.tup ys)) { s with heap:=h'.push { cls:=.type "tuple",data:=.seq i.toArray } }:=
   k.laid (t':=s.toks) (λb o e=>aO _ e) (ah _) (show cW X.p X.w _ _ _ (.tup ys) from ⟨z,i,n,n0.new _ _⟩)
  exact⟨.ref h'.objs.size,_,c,rfl,q _ (k.h.fresh (ah _))⟩
 .obtain⟨i,n,a,z⟩:=I.tuple x;exact call_tuple_same a ⟨.ref p,H,I,rfl,q⟩
def tyV(K:FG)(T:String)(x:V)(H:Hp):Prop:=match x with
 | .str _=>T="str"
 | .int _=>T="int"
 | .ref p=>(T="list"/\∃xs,iB K H p xs)\/(T="tuple"/\∃o,K.lookup p=some o/\o.cls=.type "tuple"/\o.dict=none) \/
   (T="dict"/\((∃kvs,H p=some (.dK kvs))\/∃kvs,H p=some (.dT kvs)))\/(T="set"/\∃S n,H p=some (.set S n))
 |_=>False
theorem D3(I:Inv X pins J H s)(r:RelV x v)(ty:tyV X.K T x H) :
  s.TypeIs v T/\∀a,v=.ref a->∃b,s.heap.get? a=some b/\b.dict=none:=by
 cases x with
 |str z=>obtain⟨t,rfl⟩:=r;cases (show T="str" from ty);exact⟨typeIs_str s z t,λ_ e=>nomatch e⟩
 |int i=>obtain⟨t,rfl⟩:=r;cases (show T="int" from ty);exact⟨pP s i t,λ_ e=>nomatch e⟩
 |ref p=>
  cases r;rcases ty with ⟨rfl,xs,q⟩|⟨rfl,o,hk,k,hd⟩|⟨rfl,hk⟩|⟨rfl,S,n,hk⟩
  .obtain⟨f,_,l,_⟩:=I.list q;refine⟨l.isList.typeIs,λa e=>?_⟩;cases e;obtain⟨o,n,e,c,hd,_⟩:=l;exact⟨o,e,hd⟩
  .refine⟨⟨o,I.kIn p o hk,k⟩,λa e=>?_⟩;cases e;exact⟨o,I.kIn _ o hk,hd⟩
  .have z:∃o,s.heap.get? p=some o/\o.ExactDict:=by
    rcases hk with ⟨kvs,hk⟩|⟨kvs,hk⟩
    .obtain⟨_,_,_,_,o,_,_,e,ex,_⟩:=I.h p _ hk;exact⟨o,e,ex⟩
    .obtain⟨_,_,_,_,o,_,_,e,ex,_⟩:=I.h p _ hk;exact⟨o,e,ex⟩
   obtain⟨o,e,ex⟩:=z;refine⟨⟨o,e,ex.1⟩,λa h=>?_⟩;cases h;exact⟨o,e,ex.2.1⟩
  .obtain⟨o,_,_,_,e,ex,_⟩:=I.h p _ hk;refine⟨⟨o,e,ex.1⟩,λa h=>?_⟩;cases h;exact⟨o,e,ex.2.1⟩
 |_=>exact False.elim ty
noncomputable def QA(K:FG)(T:String)(r:V->List V->Hp->VK->Prop)(to:TE):TE:=λJ H Q=>to J H λx G=>tyV K T x G/\r x [] G Q
noncomputable def Sq(K:FG)(T:String)(r:V->List V->Hp->VK->Prop)(to:TE)(t:TA):TE:=λJ H Q=>to J H λx G=>tyV K T x G/\t J G λxs H2=>r x xs H2 Q
variable{o e:Expr}{es:Ab}{to:TE}{t:TA}{name:Str}{apos cpos:Pos}{T id:String}{r:V->List V->Hp->VK->Prop}
theorem Ld(p:PlainAttrs T)(slot:Slot T name id)(t:typeOf (.builtin id)=pure (.type "method_descriptor"))(m:R8 X id r)(n:Y X o to)
  (b:attributeBase o name X.e (eval o X.e)=eval o X.e:=by rfl) (l:(apos.endLine == cpos.line)=true:=by rfl):Y X (.Call (.Attribute o name apos) [] [] cpos) (QA X.K T r to):=by
 intro pins s J H Q I h;refine wpAny_Call_method0_late b l (cG (n pins s J H _ I h) λv k z=>?_);obtain⟨x,G,a,e,ty,q⟩:=z;obtain⟨h1,h2⟩:=D3 a e ty;exact⟨T,id,p,slot,t,h1,h2,kN rfl (PySem.evalArgs_none (m pins k J G x [] v [] Q a e .nil q))⟩
theorem Js(w:PlainAttrs T)(slot:Slot T name id)(y:typeOf (.builtin id)=pure (.type "method_descriptor"))(m:R8 X id r)(q:Y X o to)(c:PA X (e::es) t)
  (b:attributeBase o name X.e (eval o X.e)=eval o X.e:=by rfl)
  (f:((backTo cpos (starEach (e::es) X.e)).all (fun x=>!x.1) && (backToKw cpos (keywordEach [] X.e)).all (fun x=>x.1.isSome)
   && decide ((e::es).length+([]:List Keyword).length+(if ([]:List Keyword).isEmpty then 0 else 1) < 30))=true:=by rfl)
  (l:(apos.endLine == cpos.line)=true:=by rfl) (d:starEach (e::es) X.e=(false,eval e X.e)::starEach es X.e:=by rfl) (p:(backTo cpos (starEach es X.e)).any (·.1)=false:=by rfl) :
  Y X (.Call (.Attribute o name apos) (e::es) [] cpos) (Sq X.K T r to t):=by
 intro pins s J H Q I h;refine Ds b f l rfl (cG (q pins s J H _ I h) λv S z=>?_);obtain⟨x,G,a,n,ty,u⟩:=z;obtain⟨h1,h2⟩:=D3 a n ty;refine⟨T,id,w,slot,y,h1,h2,?_⟩;have A:=c cpos pins S J G _ a u;rw[d]at A ⊢;refine kN (by show(false ||(backTo cpos (starEach es X.e)).any (·.1))=false;rw[p]<;>rfl) (lX ?_);exact cG A λj F z=>by obtain⟨K,H2,k,i,g⟩:=z;exact m pins F J H2 x K v j Q k n i g
end
def Ry(X:Cx)(id:String)(r:V->List V->Hp->VK->Prop):Prop:=
 ∀(pins:PN)(s:Shared)(J:St)(H:Hp)(x:V)(xs:List V)(v:Value)(j:LV)(Q:VK),Inv X pins J H s->RelV x v->ba xs j->r x xs H Q ->
  wx X (call (.builtin id) (v::j)) (EP X pins J Q) X.xe s
theorem ba.one:∀{x:V}{j:LV},ba [x] j->∃u,j=[u]/\RelV x u
 |_,_,.cons r .nil=>⟨_,rfl,r⟩
theorem ba.zero:∀{j:LV},ba [] j->j=[]
 |_,.nil=>rfl
theorem ba.rep(h:ba xs j):∀k:Nat,ba (List.replicate k xs).flatten (List.replicate k j).flatten
 |0=>.nil
 |k+1=>by rw[cF,cF,gn,gn];exact ba.append h (ba.rep h k)
theorem foldl_rep(i:LV):∀(k:Nat)(a:LV),
  pe (λx s=>x++s) a.toArray (List.replicate k i.toArray)=(a++(List.replicate k i).flatten).toArray
 |0,a=>by simp
 |k+1,a=>by
  have e:a.toArray++i.toArray=(a++i).toArray:=by simp
  have h:(a++i)++(List.replicate k i).flatten=a++(List.replicate (k+1) i).flatten:=by rw[cF,gn,fK]
  rw[<- h,<- foldl_rep i k (a++i),<- e,cF,fI]
section
variable{X:Cx}{pins:PN}{J:St}{H:Hp}{s:Shared}{l b:Addr}{xs ys zs:List V}
theorem Inv.lset{i:LV}{t:Nat}(I:Inv X pins J H s)(h:H l=some (.lst xs))
  (e:s.heap.get? l=some { cls:=.type "list",data:=.seq i.toArray n }) (a:f i.toArray=z.toArray) (v:ba ys z) (c:ys.length≤sizeLine) :
  Inv X pins J (bN H l (.lst ys)) { s with heap:=s.heap.update l (jD f),toks:=t }:=by
 have q:=PySem.IsL.update e f;rw[a]at q;refine I.write (x:=l) (e:=l) (by rw[h];exact trivial) (.inl rfl) (λm u b k=>(zU s.heap (jD f) (aI b)).trans k) ⟨_,q⟩ ?_;exact⟨c,z,_,v,q⟩
theorem Inv.lnew{t:Nat}(I:Inv X pins J H s)(h:ba ys z)(x:ys.length≤sizeLine) :
  Inv X pins J (bN H s.heap.objs.size (.lst ys)) { s with heap:=s.heap.push { cls:=.type "list",data:=.seq z.toArray },toks:=t }:=
 I.laid (λ_ _ q=>aO _ q) (ah _) ⟨x,z,0,h,br _ rfl⟩
theorem Inv.fresh(I:Inv X pins J H s):H s.heap.objs.size=none:=I.h.fresh (ah _)
theorem Inv.lstM(I:Inv X pins J H s)(h:H l=some (.lst xs)):xs.length≤sizeLine/\∃(i:LV)(n:Nat),ba xs i/\xs.length=i.length/\s.heap.get? l=some { cls:=.type "list",data:=.seq i.toArray n }:=by obtain⟨z,i,n,r,e⟩:=I.h l _ h;exact⟨z,i,n,r,r.length,e⟩
theorem wk(h:n≤sizeLine):oX n=false:=by unfold oX;exact bj (by lia)
end
section
variable{X:Cx}
def HM:V->List V->Hp->VK->Prop:=λx v H Q=>∃l xs y,x=.ref l/\v=[y]/\H l=some (.lst xs)/\xs.length < sizeLine/\Q .non (bN H l (.lst (xs++[y])))
theorem sC:Ry X "list.append" HM:=by intro pins s J H x t v j Q I b f h;obtain⟨l,xs,y,rfl,rfl,a,m,q⟩:=h;cases b;obtain⟨u,rfl,k⟩:=f.one;obtain⟨z,i,n,r,c,e⟩:=I.lstM a;refine gJ zb ⟨_,e,rfl⟩ F.entry_list_append (F.args_list_append_2 _ _) (PySem.list_append l i.toArray n u (by rw[bc];lia)) ⟨e,?_⟩;refine⟨.non,_,I.lset (z:=i++[u]) a e (by simp) (r.append (.cons k .nil)) ?_,rfl,q⟩;rw[aZ,pC];lia
def HL:V->List V->Hp->VK->Prop:=λx v H Q=>∃l b xs zs,x=.ref l/\v=[.ref b]/\H l=some (.lst xs)/\H b=some (.lst zs)/\xs.length+zs.length≤sizeLine/\Q .non (bN H l (.lst (xs++zs)))
theorem CH:Ry X "list.extend" HL:=by
 intro pins s J H x K v j Q I g w h;obtain⟨l,b,xs,zs,rfl,rfl,k,B,S,q⟩:=h;cases g;obtain⟨u,rfl,d⟩:=w.one;cases d;obtain⟨z,t,n,r,y,e⟩:=I.lstM k;obtain⟨P,i,m,p,c,f⟩:=I.lstM B;have a:t.toArray.size+i.toArray.size≤sizeLine:=by rw[bc,bc];lia
 have o:¬(!t.toArray.isEmpty && oX (t.toArray.size+i.toArray.size))=true:=by rw[wk a,Bool.and_false];exact bx
 refine gJ zc ⟨_,e,rfl⟩ F.entry_list_extend (F.args_list_extend_2 _ _)
  (AutoSeq1.list_extend_list_list_0 l t.toArray n b i.toArray m o (by rw[bc];lia) (by lia)) ⟨e,f,?_⟩
 refine⟨.non,_,I.lset (z:=t++i) k e (by simp) (r.append p) ?_,rfl,q⟩;rw[aZ];lia
def KP:V->List V->Hp->VK->Prop:=λx v H Q=>∃l xs,x=.ref l/\v=[]/\H l=some (.lst xs)/\Q .non (bN H l (.lst []))
theorem E_:Ry X "list.clear" KP:=by intro pins s J H x c v j Q I f k h;obtain⟨l,xs,rfl,rfl,a,q⟩:=h;cases f;have u:=k.zero;subst u;obtain⟨z,i,n,r,b,e⟩:=I.lstM a;refine gJ y' ⟨_,e,rfl⟩ F.entry_list_clear (F.args_list_clear_1 _) (AutoSeq1.list_clear_list_0 l i.toArray n (by rw[bc];lia)) ⟨e,?_⟩;exact⟨.non,_,I.lset (z:=[]) (ys:=[]) a e rfl .nil (bX _),rfl,q⟩
def QO:R2:=λx y H Q=>∃l b xs zs,x=.ref l/\y=.ref b/\H l=some (.lst xs)/\H b=some (.lst zs)/\xs.length+zs.length≤sizeLine/\∀p,H p=none->Q (.ref p) (bN H p (.lst (xs++zs)))
theorem Lk:i_ X (binaryOp .Add) QO:=by
 intro pins s J H x y v u Q I p d h;obtain⟨l,b,xs,zs,rfl,rfl,f,B,g,q⟩:=h;cases p;cases d;obtain⟨z,t,n,r,w,e⟩:=I.lstM f;obtain⟨o,i,j,m,c,a⟩:=I.lstM B;refine PySem.P.add_list e a ?_ (by rw[bc,bc];lia);have k:t.toArray++i.toArray=(t++i).toArray:=by simp
 rw[k];exact⟨.ref _,_,I.lnew (t:=s.toks) (r.append m) (by rw[aZ];lia),rfl,q _ I.fresh⟩
def QJ:R2:=λx y H Q=>∃l k xs,x=.ref l/\y=.int k/\H l=some (.lst xs)/\-(2 ^ 63)≤k/\k < 2 ^ 63/\xs.length * k.toNat≤sizeLine /\
 ∀p,H p=none->Q (.ref p) (bN H p (.lst (List.replicate k.toNat xs).flatten))
theorem Iw(xs:List α)(k:Nat):(List.replicate k xs).flatten.length=k * xs.length:=by
 induction k with
 |zero=>simp
 |succ k i=>rw[cF,gn,aZ,i,lY,zH]
theorem Lg:i_ X (binaryOp .Mult) QJ:=by
 intro pins s J H x y v u Q I P A h;obtain⟨l,k,xs,rfl,rfl,S,h1,h2,g,q⟩:=h;cases P;obtain⟨t,rfl⟩:=A;obtain⟨z,i,n,r,K,e⟩:=I.lstM S;have b:i.toArray.size * k.toNat≤sizeLine:=by rw[bc,<- K];exact g
 have c:¬i.toArray.size * k.toNat > (2 ^ 63-1) / 8:=by
  have:(sizeLine:Nat)≤(2 ^ 63-1) / 8:=by decide
  lia
 have f:¬(!Builtin.List.listFitsIndex k)=true:=by rw[fitsIndex_both h1 h2];exact bx
 have o:¬oX (i.toArray.size * k.toNat)=true:=by rw[wk b];exact bx
 have w:pe (λp d=>p++d) #[] (List.replicate (if i.toArray.isEmpty=true then 0 else k.toNat) i.toArray)=(List.replicate k.toNat i).flatten.toArray:=by
  have j:∀m:Nat,pe (λp d=>p++d) #[] (List.replicate m i.toArray)=(List.replicate m i).flatten.toArray:=λm=>by have:=foldl_rep i m [];rw[eR]at this;exact this
  rw[j];cases i with
  |nil=>simp
  |cons a B=>rw[af (by simp)]
 refine Du (T:="list") (U:="int") (by decide) ⟨_,e,rfl⟩ (λs'=>pP s' k t) noFill_list_mul y7 o0 repeat_list y9.lookup
  (gJ o0 (pP s k t) y8 (y_ _ _) (int___rmul___int_list k t l i.toArray n)
   ⟨e,rfl,⟨_,e,rfl⟩,gJ F.slot_list_mul ⟨_,e,rfl⟩ F.entry_list_mul (F.args_list_mul_2 _ _) (AutoListH.list___mul___list_int_3 l i.toArray n k t f c o) ⟨e,?_⟩⟩)
 rw[w];exact⟨.ref _,_,I.lnew (t:=s.toks) (r.rep k.toNat) (by rw[Iw,kP];exact g),rfl,q _ I.fresh⟩
end
section
variable{κ:Type}[DecidableEq κ]
noncomputable def gD(kvs:List (κ×V))(k:κ):Option V:=(kvs.find? λv=>decide (v.1=k)).map (·.2)
noncomputable def putK(kvs:List (κ×V))(k:κ)(v:V):List (κ×V):=
 if (kvs.any λh=>decide (h.1=k))=true then kvs.map (λh=>if h.1=k then (h.1,v) else h) else kvs++[(k,v)]
theorem ie{p:κ×V}{r:List (κ×V)}{k:κ}(e:p.1=k):gD (p::r) k=some p.2:=by simp[gD,iG,e]
theorem gC{p:κ×V}{r:List (κ×V)}{k:κ}(e:¬p.1=k):gD (p::r) k=gD r k:=by simp[gD,iG,e]
theorem vT(k:κ):∀kvs:List (κ×V),(kvs.any λv=>decide (v.1=k))=(gD kvs k).isSome
 | []=>rfl
 |p::r=>by
  rw[dv];by_cases e:p.1=k
  .simp only[ie e,gY e,Bool.true_or,Option.isSome_some]
  .rw [gC e,bj e,kW];exact vT k r
theorem kz(kvs:List (κ×V))(k:κ)(v:V):(putK kvs k v).length≤kvs.length+1:=by
 unfold putK;split
 .rw [aX];lia
 .rw [aZ,aV,pf];lia
theorem kl.isSome_eq(r:kl o u):o.isSome=u.isSome:=by
 cases o with
 |none=>cases u with
  |none=>rfl
  |some _=>exact(show False from r).elim
 |some _=>cases u with
  |none=>exact(show False from r).elim
  |some _=>rfl
theorem kl.getD(r:kl o u)(h:RelV d q):RelV (o.getD d) (u.getD q):=by
 cases o with
 |none=>cases u with
  |none=>exact h
  |some _=>exact(show False from r).elim
 |some _=>cases u with
  |none=>exact(show False from r).elim
  |some _=>exact r
theorem KV.val{kvs:List (κ×V)}{v:List (κ×Value)}(r:KV kvs v)(k:κ):kl (gD kvs k) (valueAt v k):=by
 unfold KV at r;induction r with
 |nil=>exact True.intro
 | @cons p q ps qs h t i=>
  obtain⟨h1,h2⟩:=h;by_cases e:p.1=k
  .have x:q.1=k:=h1.symm.trans e;have b:valueAt (q::qs) k=some q.2:=by simp[valueAt,iG,x]
   rw[ie e,b];exact h2
  .have x:¬q.1=k:=λz=>e (h1.trans z);have b:valueAt (q::qs) k=valueAt qs k:=by simp[valueAt,iG,x]
   rw[gC e,b];exact i
theorem KV.any(r:KV kvs q)(k:κ):(kvs.any λv=>decide (v.1=k))=q.any λv=>decide (v.1=k):=by
 unfold KV at r;induction r with
 |nil=>rfl
 |cons h t i=>rw[dv,dv,i,h.1]
theorem KV.repl(r:KV kvs I)(k:κ)(x:RelV y u) :
  KV (kvs.map λv=>if v.1=k then (v.1,y) else v) (I.map λv=>if v.1=k then (v.1,u) else v):=by
 unfold KV at r ⊢;induction r with
 |nil=>exact .nil
 | @cons p q ps qs h t i=>
  rw[az,az];refine .cons ?_ i;obtain⟨h1,h2⟩:=h;by_cases e:p.1=k
  .rw [ac e,ac (h1.symm.trans e)];exact⟨h1,x⟩
  .rw [af e,af (λz=>e (h1.trans z))];exact⟨h1,h2⟩
theorem KV.put(r:KV kvs q)(k:κ)(h:RelV y u):KV (putK kvs k y) (stored q k u):=by
 unfold putK stored;rw[r.any k];by_cases e:(q.any λv=>decide (v.1=k))=true
 .rw [ac e,ac e];exact r.repl k h
 .rw [af e,af e];exact Paired.snoc r ⟨rfl,h⟩
theorem KV.length(r:KV kvs q):kvs.length=q.length:=Paired.length r
end
variable{w:World}{u:Value}
theorem oo(r:RelV (kV k) u):(cc P w).is k u=true:=by
 cases k with
 |inl i=>obtain⟨t,e⟩:=(show ∃t,u=Value.int i t from r);subst e;exact wt P w i t
 |inr x=>obtain⟨t,e⟩:=(show ∃t,u=Value.str x t from r);subst e;exact wr P w x t
theorem sH:∀{ks:List b0}{j:LV},ba (ks.map kV) j->ItemsAre (cc P w) ks j
 | [],_,r=>by rw[dY]at r;cases r;exact .nil
 |k::ks,_,r=>by
  rw[az]at r;cases r with
  |cons h t=>exact .cons (oo h) (sH t)
abbrev KT(H:Hp):List (List b0×V)->List (List b0×Addr×Value)->Prop:=Paired λp q=>p.1=q.1/\H q.2.1=some (.tup (p.1.map kV))/\RelV p.2 q.2.2
theorem KT.val{H:Hp}{kvs:List (List b0×V)}{xs:List (List b0×Addr×Value)}(r:KT H kvs xs)(k:List b0):kl (gD kvs k) ((atKey xs k).map (·.2)):=by
 induction r with
 |nil=>exact True.intro
 | @cons p q ps qs h t i=>
  obtain⟨h1,_,h2⟩:=h;by_cases e:p.1=k
  .have x:q.1=k:=h1.symm.trans e;have b:atKey (q::qs) k=some q.2:=by simp[atKey,iG,x]
   rw[ie e,b];exact h2
  .have x:¬q.1=k:=λz=>e (h1.trans z);have b:atKey (q::qs) k=atKey qs k:=by simp[atKey,iG,x]
   rw[gC e,b];exact i
variable{H:Hp}{kvs:List (List b0×V)}{xs:List (List b0×Addr×Value)}{y:V}
theorem KT.repl(r:KT H kvs xs)(k:List b0)(a:RelV y u) :
  KT H (kvs.map λv=>if v.1=k then (v.1,y) else v) (xs.map (putAt k u)):=by
 induction r with
 |nil=>exact .nil
 | @cons p q ps qs h t i=>
  rw[az,az];refine .cons ?_ i;obtain⟨h1,h2,x⟩:=h;unfold putAt;by_cases e:p.1=k
  .rw [ac e,ac (h1.symm.trans e)];exact⟨h1,h2,a⟩
  .rw [af e,af (λz=>e (h1.trans z))];exact⟨h1,h2,x⟩
theorem KT.put(r:KT H kvs xs)(k:List b0)(x:H b=some (.tup (k.map kV)))(h:RelV y u) :
  KT H (putK kvs k y) (storedH xs k b u):=by
 have e:(kvs.any λv=>decide (v.1=k))=(atKey xs k).isSome:=by rw[vT,(r.val k).isSome_eq,zr]
 unfold putK storedH;rw[e];by_cases q:(atKey xs k).isSome=true
 .rw [ac q,ac q];exact r.repl k h
 .rw [af q,af q];exact Paired.snoc r ⟨rfl,x,h⟩
theorem KT.keeps(r:KT H kvs xs)(h:∀b ys,H b=some (.tup ys)->H' b=some (.tup ys)):KT H' kvs xs:=
 Paired.mapP r λ_ _ z=>⟨z.1,h _ _ z.2.1,z.2.2⟩
section
variable{P:Program}{w:World}{H:Hp}{h:Heap}{a:Addr}
theorem rd_of{u:HO}(ok:ja P w H h)(e:Rd H a u):cW P w H h a u:=e.ok ok
theorem sN{kvs:List (b0×V)}(ok:ja P w H h)(e:Rd H a (.dK kvs)):kvs.length≤sizeLine/\(a == sysModules)=false/\∃vs,KV kvs vs/\h.DictOf (cc P w) a vs:=
 show cW P w H h a (.dK kvs) from rd_of ok e
theorem JF{kvs:List (b0×V)}(ok:ja P w H h)(e:H a=some (.dK kvs)):kvs.length≤sizeLine/\(a == sysModules)=false/\∃v,KV kvs v/\h.DictOf (cc P w) a v:=sN ok (.inl e)
theorem nT(ok:ja P w H h)(e:H a=some (.tup (ks.map kV))):(tupleKind (cc P w)).is h ks a:=by obtain⟨_,i,r,o,h1,⟨h2,n,x⟩,_⟩:=(show cW P w H h a (.tup (ks.map kV)) from ok a _ e);exact⟨o,i.toArray,n,h1,h2,x,by simpa using sH r⟩
theorem sM(ok:ja P w H h)(e:Rd H a (.dT kvs)):kvs.length≤sizeLine/\(a == sysModules)=false /\
  ∃xs,KT H kvs xs/\h.DictOfH (tupleKind (cc P w)) a xs:=by
 obtain⟨z,y,xs,r,o,es,k,h1,h2,f,b,c⟩:=(show cW P w H h a (.dT kvs) from rd_of ok e);refine⟨z,y,xs,r,o,es,k,h1,h2,f,b,λx s=>?_,c⟩;have all:∀{l:List (List b0×V)}{m:List (List b0×Addr×Value)},KT H l m->∀x ∈ m,(tupleKind (cc P w)).is h x.1 x.2.1:=by
  intro l m q;induction q with
  |nil=>intro x s;exact nomatch s
  | @cons p q ps qs n t i=>
   intro x s;rcases aN.mp s with e|s
   .subst e;exact nT ok (by rw[<- n.1];exact n.2.1)
   .exact i x s
 exact all r x s
theorem OF(ok:ja P w H h)(e:H a=some (.dT kvs)):kvs.length≤sizeLine/\(a == sysModules)=false /\
  ∃xs,KT H kvs xs/\h.DictOfH (tupleKind (cc P w)) a xs:=sM ok (.inl e)
end
def j8(H:Hp)(a:Addr)(y:V)(r:Option V):Prop:=
 (∃kvs k,Rd H a (.dK kvs)/\y=kV k/\r=gD kvs k)\/∃kvs k b,Rd H a (.dT kvs)/\y=.ref b/\H b=some (.tup (k.map kV))/\r=gD kvs k
def xg(H:Hp)(a:Addr)(y v:V)(H':Hp):Prop:=
 (∃kvs k,H a=some (.dK kvs)/\y=kV k/\kvs.length < sizeLine/\H'=bN H a (.dK (putK kvs k v))) \/
 ∃kvs k b,H a=some (.dT kvs)/\y=.ref b/\H b=some (.tup (k.map kV))/\kvs.length < sizeLine/\H'=bN H a (.dT (putK kvs k v))
theorem j8.k{H:Hp}{a:Addr}{kvs:List (b0×V)}{k:b0}(e:H a=some (.dK kvs)):j8 H a (kV k) (gD kvs k):=.inl ⟨kvs,k,.inl e,rfl,rfl⟩
theorem j8.t{H:Hp}{a b:Addr}{kvs:List (List b0×V)}{k:List b0}(e:H a=some (.dT kvs))(h:H b=some (.tup (k.map kV))):j8 H a (.ref b) (gD kvs k):=.inr ⟨kvs,k,b,.inl e,rfl,h,rfl⟩
theorem xg.k{H:Hp}{a:Addr}{kvs:List (b0×V)}{k:b0}{v:V}(e:H a=some (.dK kvs))(h:kvs.length < sizeLine):xg H a (kV k) v (bN H a (.dK (putK kvs k v))):=.inl ⟨kvs,k,e,rfl,h,rfl⟩
theorem xg.t{H:Hp}{a b:Addr}{kvs:List (List b0×V)}{k:List b0}{v:V}(e:H a=some (.dT kvs))(h:H b=some (.tup (k.map kV)))(l:kvs.length < sizeLine) :
  xg H a (.ref b) v (bN H a (.dT (putK kvs k v))):=.inr ⟨kvs,k,b,e,rfl,h,l,rfl⟩
section
variable{X:Cx}{pins:PN}{J:St}{H:Hp}{s:Shared}{a:Addr}{y v:V}{u r:Value}{o:Option V}{A:Around}{E:VP}
theorem Inv.big(I:Inv X pins J H s):sysModules < s.heap.objs.size:=by have h:mainGlobals < s.heap.objs.size:=(I.mod.glob.keeps I.bk).lt;exact kO (by decide) h
theorem sO(q:A.units+1 < cLine)(I:Inv X pins J H s)(g:j8 H a y (some v))(c:RelV y u)(h:∀x s',Inv X pins J H s'->RelV v x->Q x s') :
  wpAny (model X.p X.w) A (getItem (.ref a) u) Q E s:=by
 rcases g with ⟨kvs,k,e,n,l⟩|⟨kvs,k,b,e,n,m,l⟩
 .subst n;obtain⟨z,hd,i,r,d⟩:=sN I.h e;obtain⟨x,hw,w⟩:=kl.some_of (v:=v) (o:=valueAt i k) (by rw[l];exact r.val k);exact wpAny_getItem_of (oo c) d.mapOf hw (h x _ (I.tok _) w)
 .subst n;cases (show u=Value.ref b from c);obtain⟨z,hd,xs,r,d⟩:=sM I.h e;obtain⟨x,hw,w⟩:=kl.some_of (v:=v) (o:=(atKey xs k).map (·.2)) (by rw[l];exact r.val k);obtain⟨p,t,f⟩:=dW.mp hw;refine wpAny_getItem_heap (pV q) (nT I.h m) d t ?_;rw[f];exact h x _ (I.tok _) w
theorem Rk(c:A.units+1 < cLine)(I:Inv X pins J H s)(g:j8 H a y o)(n:RelV y u)(h:∀s',Inv X pins J H s'->Q (.bool o.isSome) s') :
  wpAny (model X.p X.w) A (compareOp .In u (.ref a)) Q E s:=by
 rcases g with ⟨kvs,k,e,x,l⟩|⟨kvs,k,b,e,x,f,l⟩
 .subst x;obtain⟨z,hd,v,r,d⟩:=sN I.h e;refine wpAny_in_of (oo n) hd d.mapOf ?_;rw[<- (r.val k).isSome_eq,<- l];exact h _ (I.tok _)
 .subst x;cases (show u=Value.ref b from n);obtain⟨z,hd,xs,r,d⟩:=sM I.h e;refine wpAny_in_heap (pV c) (nT I.h f) hd d ?_;have q:=(r.val k).isSome_eq;rw[zr]at q;rw[<- q,<- l];exact h _ (I.tok _)
theorem m5{t:Nat}(I:Inv X pins J H s)(m:O5 (H a))(f:dX a s.heap h')(k:∃q,h'.get? a=some q)(n:cW X.p X.w (bN H a N) h' a N) :
  Inv X pins J (bN H a N) { s with heap:=h',toks:=t }:=
 I.write (x:=a) (e:=a) m (.inl rfl) (λb q h z=>(f.2 b h).trans z) k n
theorem FY{P:Program}{w:World}{H':Hp}{h':Heap}{kvs:List (b0×V)}{v:List (b0×Value)}(z:kvs.length≤sizeLine)(hd:(a == sysModules)=false)(r:KV kvs v)(d:h'.DictOf (cc P w) a v) :
  cW P w H' h' a (.dK kvs):=⟨z,hd,v,r,d⟩
theorem C1{H':Hp}{Q:Unit->Shared->Prop}(hu:A.units+1 < cLine)(I:Inv X pins J H s)(g:xg H a y v H')(ry:RelV y u)(rv:RelV v r)(h:∀s',Inv X pins J H' s'->Q () s') :
  wpAny (model X.p X.w) A (setItem (.ref a) u r) Q E s:=by
 rcases g with ⟨kvs,k,e,ey,l,eH⟩|⟨kvs,k,b,e,ey,eb,l,eH⟩
 .subst ey eH;obtain⟨z,hd,vs,rel,dd⟩:=JF I.h e;have hz:vs.length≤sizeLine:=by rw[<- rel.length];exact z
  have hl:(putK kvs k v).length≤sizeLine:=by have:=kz kvs k v;lia
  refine wpAny_setItem_pairs (hsz:=hz) (oo ry) dd λh' dd' hs=>h _ ?_;have he:∃q,h'.get? a=some q:=let ⟨q,_,_,hq,_⟩:=dd';⟨q,hq⟩
  exact m5 I (by rw[e];exact True.intro) hs he (FY hl hd (rel.put k rv) dd')
 .subst ey eH;cases (show u=Value.ref b from ry);obtain⟨z,hd,xs,rel,dd⟩:=OF I.h e;have hz:xs.length≤sizeLine:=by rw[<- Paired.length rel];exact z
  have hl:(putK kvs k v).length≤sizeLine:=by have:=kz kvs k v;lia
  refine AZ (hsz:=hz) (pV hu) (nT I.h eb) dd λh' dd' hs=>h _ ?_;obtain⟨q,es,ep,hq,h2,h3,h4,_,h5⟩:=dd';refine m5 I (by rw[e];exact True.intro) hs ⟨q,hq⟩ ⟨hl,hd,_,(rel.put k eb rv).keeps λc ys ec=>?_,q,es,ep,hq,h2,h3,h4,h5⟩;rw[al (Oc ec e (λz=>nomatch z))];exact ec
end
noncomputable def NK(td ty tv:TE):TS:=λD J H=>tv J H λv G=>td J G λx H2=>ty J H2 λy e=>∃a h,x=.ref a/\xg e a y v h/\D.nx J h
section
variable{X:Cx}{o i e value:Expr}{B pos' tpos:Pos}{td ty tv:TE}
theorem Bp(t:X.A.units+1 < cLine)(c:Y X o td)(hi:Y X i ty)(p:Y X value tv)(m:swapsWith value (some (.Subscript o i pos')) B.line X.e=pure false) :
  PS X (.Assign [.Subscript o i pos'] value B) (NK td ty tv):=by
 intro pins s J H D I h;refine Dr (cG (p pins s J H _ I h) λr F ⟨v,G,n,j,q⟩=>cG (c pins F J G _ n q) λu K ⟨x,H2,k,l,d⟩=>cG (hi pins K J H2 _ k d) λiv A z=>?_) m;obtain⟨y,P,f,S,a,e,ex,g,w⟩:=z;subst ex;obtain rfl:u=Value.ref a:=l;exact C1 t f g S j λC b=>⟨J,e,b,w⟩
end
theorem FZ(h:Heap)(b:sysModules < h.objs.size):cW P w H (h.push { cls:=.type "dict",data:=.dict #[] }) h.objs.size (.dK []):=
 ⟨bX _,gZ.mpr (aI (bb b)),[],.nil,Heap.DictOf.new h⟩
theorem FV(h:Heap)(b:sysModules < h.objs.size):cW P w H (h.push { cls:=.type "dict",data:=.dict #[] }) h.objs.size (.dT []):=
 ⟨bX _,gZ.mpr (aI (bb b)),[],.nil,_,#[],0,br _ rfl,⟨rfl,rfl,rfl⟩,rfl,rfl,mh⟩
def Kv:TE:=λ_ H Q=>∀p,H p=none->Q (.ref p) (bN H p (.dK []))
def Ku:TE:=λ_ H Q=>∀p,H p=none->Q (.ref p) (bN H p (.dT []))
section
variable{X:Cx}{B:Pos}
theorem EL:Y X (.Dict [] [] B) Kv:=λpins s J H Q I h=>
 AL ⟨.ref s.heap.objs.size,_,I.laid (a:=s.heap.objs.size) (o:=.dK []) (t':=s.toks) (λ_ _ q=>aO _ q) (ah _) (FZ s.heap I.big),rfl,h _ (I.h.fresh (ah _))⟩
theorem EK:Y X (.Dict [] [] B) Ku:=λpins s J H Q I h=>
 AL ⟨.ref s.heap.objs.size,_,I.laid (a:=s.heap.objs.size) (o:=.dT []) (t':=s.toks) (λ_ _ q=>aO _ q) (ah _) (FV s.heap I.big),rfl,h _ (I.h.fresh (ah _))⟩
end
structure M1(X:Cx)(o:Expr)(m:Str)(apos:Pos)(e:Expr)(cpos:Pos):Prop where
 base:attributeBase o m X.e (eval o X.e)=eval o X.e
 few:((backTo cpos (starEach [e] X.e)).all (fun x=>!x.1) && (backToKw cpos (keywordEach [] X.e)).all (fun x=>x.1.isSome)
  && decide (([e]:Ab).length+([]:List Keyword).length+(if ([]:List Keyword).isEmpty then 0 else 1) < 30))=true
 line:(apos.endLine == cpos.line)=true
 trees:backTo cpos (starEach [e] X.e)=[(false,eval e X.e)]
structure M2(X:Cx)(o:Expr)(m:Str)(apos:Pos)(e f:Expr)(cpos:Pos):Prop where
 base:attributeBase o m X.e (eval o X.e)=eval o X.e
 few:((backTo cpos (starEach [e,f] X.e)).all (fun x=>!x.1) && (backToKw cpos (keywordEach [] X.e)).all (fun x=>x.1.isSome)
  && decide (([e,f]:Ab).length+([]:List Keyword).length+(if ([]:List Keyword).isEmpty then 0 else 1) < 30))=true
 line:(apos.endLine == cpos.line)=true
 trees:backTo cpos (starEach [e,f] X.e)=[(false,eval e X.e),(false,eval f X.e)]
def RB(H:Hp)(a:Addr):Prop:=(∃kvs,Rd H a (.dK kvs))\/∃kvs,Rd H a (.dT kvs)
variable{pins:PN}{J:St}{s:Shared}
theorem yo(I:Inv X pins J H s)(d:RB H a) :
  s.TypeIs (.ref a) "dict"/\(∀b,Value.ref a=.ref b->∃o,s.heap.get? b=some o/\o.dict=none)/\(a == sysModules)=false:=by
 rcases d with ⟨kvs,e⟩|⟨kvs,e⟩
 .obtain⟨_,hd,v,_,h⟩:=sN I.h e;refine⟨h.typeIs,λb q=>?_,hd⟩;cases q;obtain⟨o,_,_,h1,h2,_⟩:=h;exact⟨o,h1,h2.2.1⟩
 .obtain⟨_,hd,xs,_,h⟩:=sM I.h e;refine⟨h.typeIs,λb q=>?_,hd⟩;cases q;obtain⟨o,_,_,h1,h2,_⟩:=h;exact⟨o,h1,h2.2.1⟩
section
variable{X:Cx}{pins:PN}{J:St}{H:Hp}{s:Shared}{a:Addr}{y d:V}{u r:Value}{o:Option V}{A:Around}{E:VP}
theorem L_(c:A.units+1 < cLine)(I:Inv X pins J H s)(g:j8 H a y o)(n:RelV y u)(h:∀w s',Inv X pins J H s'->RelV (o.getD .non) w->Q w s') :
  wpAny (model X.p X.w) A (call (.builtin "dict.get") [.ref a,u]) Q E s:=by
 rcases g with ⟨kvs,k,e,x,l⟩|⟨kvs,k,b,e,x,f,l⟩
 .subst x;obtain⟨z,hd,v,r,d⟩:=sN I.h e;refine pT kM d.typeIs o4 (zg _ _) (meets_dict_get (cc X.p X.w) a (oo n) hd) ⟨_,d.mapOf,h _ _ (I.tok _) ?_⟩;rw[l];exact(r.val k).getD rfl
 .subst x;cases (show u=Value.ref b from n);obtain⟨z,hd,xs,r,d⟩:=sM I.h e;refine pT kM d.typeIs o4 (zg _ _) (meetsH_dict_get (tupleKind (cc X.p X.w)) a b hd) ⟨pV c,k,xs,nT I.h f,d,h _ _ (I.tok _) ?_⟩;rw[l];exact(r.val k).getD rfl
theorem L9(p:A.units+1 < cLine)(I:Inv X pins J H s)(g:j8 H a y o)(m:RelV y u)(c:RelV d r)(h:∀w s',Inv X pins J H s'->RelV (o.getD d) w->Q w s') :
  wpAny (model X.p X.w) A (call (.builtin "dict.get") [.ref a,u,r]) Q E s:=by
 rcases g with ⟨kvs,k,e,f,l⟩|⟨kvs,k,b,e,f,t,l⟩
 .subst f;obtain⟨z,hd,v,x,n⟩:=sN I.h e;refine pT kM n.typeIs o4 (zh _ _ _) (meets_dict_get_default (cc X.p X.w) a (oo m) hd r) ⟨_,n.mapOf,h _ _ (I.tok _) ?_⟩;rw[l];exact(x.val k).getD c
 .subst f;cases (show u=Value.ref b from m);obtain⟨z,hd,xs,x,n⟩:=sM I.h e;refine pT kM n.typeIs o4 (zh _ _ _) (meetsH_dict_get_default (tupleKind (cc X.p X.w)) a b hd r) ⟨pV p,k,xs,nT I.h t,n,h _ _ (I.tok _) ?_⟩;rw[l];exact(x.val k).getD c
end
noncomputable def Ky(td ty:TE):TE:=λJ H Q=>td J H λx G=>∃a,x=.ref a/\RB G a/\ty J G λy H2=>∃o,j8 H2 a y o/\Q (o.getD .non) H2
noncomputable def Kw(td ty tx:TE):TE:=λJ H Q=>td J H λx G=>∃a,x=.ref a/\RB G a/\ty J G λy H2=>tx J H2 λz h=>∃o,j8 h a y o/\Q (o.getD z) h
section
variable{X:Cx}{o e f:Expr}{apos cpos:Pos}{td ty tx:TE}
theorem ER(t:X.A.units+1 < cLine)(c:Y X o td)(b:Y X e ty)(m:M1 X o "get" apos e cpos):Y X (.Call (.Attribute o "get" apos) [e] [] cpos) (Ky td ty):=by intro pins s J H Q I h;refine xp m.base m.few m.line tH kM ze (cG (c pins s J H _ I h) λu i z=>?_);obtain⟨x,G,n,v,a,ex,d,q⟩:=z;subst ex;obtain rfl:u=Value.ref a:=v;obtain⟨j,l,_⟩:=yo n d;refine⟨j,l,?_⟩;rw[m.trees];refine kN rfl (lX (du (cG (b pins i J G _ n q) λiv F ⟨y,H2,k,w,S,g,p⟩=>gm ?_)));exact L_ t k g w λP K f r=>⟨_,H2,f,r,p⟩
theorem EM(w:X.A.units+1 < cLine)(v:Y X o td)(p:Y X e ty)(q:Y X f tx)(m:M2 X o "get" apos e f cpos):Y X (.Call (.Attribute o "get" apos) [e,f] [] cpos) (Kw td ty tx):=by
 intro pins s J H Q I h;refine xp m.base m.few m.line tH kM ze (cG (v pins s J H _ I h) fun u A i=>?_);obtain⟨x,G,n,F,a,ex,d,j⟩:=i;subst ex;obtain rfl:u=Value.ref a:=F;obtain⟨C,D,_⟩:=yo n d;refine⟨C,D,?_⟩;rw [m.trees];refine kN rfl (lX (du (cG (p pins A J G _ n j) fun iv B ⟨y,H2,b,K,l⟩=>
  du (cG (q pins B J H2 _ b l) λE M ⟨z,k,c,P,L,g,S⟩=>gm ?_))))
 exact L9 w c g K P λR N t r=>⟨_,k,t,r,S⟩
end
end L2
set_option tactic.hygienic true
namespace Att
open PySem PySem.W PySem.Calls PyProof.Rows
theorem oO:∀(s:List Int)(v:LV),WellAll P h v (s.map WData.int)->IntsAre v s:=by
 intro s;induction s with
 |nil=>intro v w;rw[dY]at w;cases w;exact .nil
 |cons n s i=>
  intro v w;rw[az]at w;cases w with
  |cons a b=>cases a;exact .cons _ _ (i _ b)
theorem Cs{l:OpenLaw}(t:l.most=some n)
  (p:l.row.toRowW.claim.pre z=true) (w:WellAll P h I z) :
  ∃a v s,I=[Value.ref a]/\z=[WData.list (s.map WData.int)]/\h.get? a=some { cls:=.type "list",data:=.seq v.toArray }/\IntsAre v s/\s.length≤n:=by
 have b:WShape.hasAll [] z [.list .int]=true:=(pre_splitW p).1;have c:l.pre.holds [] { args:=z }=true:=(pre_splitW p).2;obtain⟨d,r,rfl,h1,h2⟩:=hasAllW_cons b;obtain rfl:=hasAllW_nil h2;obtain⟨xs,rfl,m⟩:=hasW_list h1;obtain⟨s,rfl⟩:=items_int m;have e:s.length≤n:=by
  unfold OpenLaw.pre at c;have k:(WTm.not (.lt (.lit (.int (n:Int))) (.len (.arg 0)))).holds [] { args:=[.list (s.map .int)] }=true:=by have k:=(holds_andW c).1;rw[t]at k;exact k
  have f:=condW_of k (w_not (w_lt w_lit (w_len_list (w_arg rfl))));rw[aX]at f;refine Nat.le_of_not_lt λq=>?_;have u:(n:Int) < ((s.length:Nat):Int):=by lia
  first
   |(rw[gY u]at f;exact absurd f (by decide))
   |(simp at f;lia)
 cases w with
 |cons g i=>
  cases i;cases g with
  |list o x=>exact⟨_,_,s,rfl,rfl,o,oO s _ x,e⟩
theorem Cy(l:OpenLaw)(a:List WData):l.row.toRowW.claim.post a (.bool true) a=true:=
 postW_of (r:=l.row.toRowW) (X:=(true == true))
  (show WShape.has [] (.bool true) .bool=true by first|rfl|decide|simp[WShape.has,WShape.arms,WShape.armsAll])
  (show(WTm.eq .res (.lit (.bool true))).value [] { args:=a,res:=some (.bool true),after:=a }=some (.bool (true == true)) from w_eq_bool (w_res rfl) w_lit) rfl
theorem attach_call{l:OpenLaw}
  (M:l.most=some n) (u:d.params.defaults=[])
  (call:∀(w:World) (h s:Shared) (mg y:SV) (x:Addr) (o:Obj) (H k c:Value) (a:Addr) (v:LV) (m:List Int),
   Ground q z [] I w h mg y s.heap->N w s.heap ->
   s.heap.get? x=some o->o.data=.func (docDef d.name d.params d.body d.scope H k c)->s.heap.CodeRec k d.name->mg d.name=some (.ref x) ->
   s.heap.get? a=some { cls:=.type "list",data:=.seq v.toArray }->IntsAre v m->m.length≤n->s.gens=#[] ->
   codeAny (model l.prog w) callerA (.call (.ref x) ⟨[.ref a],[]⟩) (λr s'=>r=.ok (.ret (.bool true))/\OldK s.heap s'.heap/\s'.os=s.os/\AllBare s'.gens) s) :
  WalkO q z I N l.row.toRowW d [] (λf v=>PySem.call f v):=by
 intro w h s mg y G P x o H k c V kV Q hd t D g C S K W p F T j E;obtain rfl:V=.none:=Dflts.none D u;obtain rfl:kV=.none:=Dflts.noKw D;obtain⟨a,v,m,rfl,rfl,b,i,e⟩:=Cs M p j;refine enter_call (nA (call w h s mg y x o H k c a v m G P Q (fd_plain hd) t g b i e C) λr s' R=>?_);obtain⟨rfl,h2,A,B⟩:=R;exact⟨.inl ⟨.bool true,.bool true,[],rfl,λ_=>rfl,.bool true,Cy l _,λ_=>⟨List.Pairwise.nil,λ_ L=>(nomatch L)⟩⟩,h2,A,B⟩
end Att
set_option tactic.hygienic false
namespace L2
open PySem PySem.Spec PyProof.Rows
theorem si:∀{v:LV}{s:List Int},IntsAre v s->ba (s.map V.int) v
 |_,_,.nil=>.nil
 |_,_,.cons n t h=>.cons ⟨t,rfl⟩ (si h)
def Dh(H:Hp):Prop:=∀b,H b=none\/H b=some .tbl\/∃o xs,H b=some (.frz o (.lst xs))
set_option tactic.hygienic true in
theorem Fj{P:Program}{w:World}{K:FG}{mg mb:SV}{CX:Dl}{k:Nat}{fa a:Addr}{fd:FuncData}{x:Str}{sp:Sp}{f:Shared}{C:LV}{Z:List Int}
  (KX:K.In f.heap) (hNT:xz K=true) (T:∀P ∈ ce K,f.heap.get? P=some (p7 #[])/\∃c,p0 f.heap c P) (R:f.heap.Ns mainGlobals mg) (t:f.heap.Ns builtinsNs mb) (hbb:∀x:Str,x≠"__name__"->mb x=bootBuiltins x) (Q:f.heap.NoLimit) (hbm:∃G A,mg "__builtins__"=some (.ref G)/\G≠builtinsNs/\f.heap.get? G=some A/\A.cls=.type "module"/\A.dict=some builtinsNs/\A.data=.plain) (hg:f.gens=#[])
  (D:f.heap.get? a=some { cls:=.type "list",data:=.seq C.toArray }) (hi:IntsAre C Z) (hl:Z.length≤sizeLine) (hr:Room k callerA)
  (F:∀base:Heap,K.In base->base.Ns mainGlobals mg->FnOk P w K mg base CX k fa fd [x] sp) (B:∀(s:Shared)(u:Value),BindsTo s fd ⟨[u],[]⟩ [(x,u)])
  (hsp:∀H:Hp,Dh H->iB K H a (Z.map V.int)->sp [.ref a] H (λv _=>v=.bl true) λ_ _ _=>False)
  (hCX:∀H e s',CX [] H f (λ_ _ _=>False) e s'->False) :
  codeAny (model P w) callerA (.call (.ref fa) ⟨[.ref a],[]⟩) (λr s'=>r=.ok (.ret (.bool true))/\OldK f.heap s'.heap/\s'.os=f.os/\AllBare s'.gens) f:=by
 have rv:=si hi;have X:=hi.length;have y:∀H:Hp,Dh H->iB K H a (Z.map V.int)->ja P w H f.heap->(∀b,H b≠none->b=a\/b ∈ ce K)->(∀b,H b=some .tbl->b ∈ ce K)->(∀b ∈ ce K,H b=some .tbl)->(H a≠none->K.lookup a=none) ->
   codeAny (model P w) callerA (.call (.ref fa) ⟨[.ref a],[]⟩) (λr s'=>r=.ok (.ret (.bool true))/\OldK f.heap s'.heap/\s'.os=f.os/\AllBare s'.gens) f:=by
  intro H hO hS W hA hB hC hK;have hKT:∀b ∈ ce K,K.lookup b=none:=λb t=>by
   cases q:K.lookup b with
   |none=>rfl
   |some o=>have e:=KX b o q;rw[(T b t).1]at e;cases e;have h2:=a_.mp hNT (b,_) (DI q);exact absurd (show false=true from h2) bx
  have p:∀{b:Addr}{o:Obj},f.heap.get? b=some o->H b=none->(u_ f.heap H).get? b=some o:=λe n=>FM e n;have noA:∀{b:Addr}{o:Obj}{es:Array DictEntry}{L:Nat},f.heap.get? b=some o->o.data=.dict es L->H b=none:=λ{b o es L} e d=>by
   cases q:H b with
   |none=>rfl
   |some u=>
    rcases hA b (by rw[q];simp) with j|j
    .subst j;rw[D]at e;cases e;have d':Data.seq C.toArray _=Data.dict es L:=d;cases d'
    .rw [(T b j).1]at e;cases e;cases d
  have noM:∀{b:Addr}{o:Obj},f.heap.get? b=some o->o.cls=.type "module"->H b=none:=λ{b o} e d=>by
   cases q:H b with
   |none=>rfl
   |some u=>
    rcases hA b (by rw[q];simp) with j|j
    .subst j;rw[D]at e;cases e;exact absurd (show Value.type "list"=Value.type "module" from d) (by decide)
    .rw [(T b j).1]at e;cases e;cases d
  have l:∀{b:Addr}{m:SV},f.heap.Ns b m->(u_ f.heap H).Ns b m:=fun {b m} ⟨o,es,L,e,d,r⟩=>⟨o,es,L,p e (noA e d),d,r⟩;have M:K.In (u_ f.heap H):=fun b o e=>p (KX b o e) (by
   cases q:H b with
   |none=>rfl
   |some u=>
    rcases hA b (by rw[q];simp) with j|j
    .subst j;rw[hK (by rw[q];simp)]at e;cases e
    .rw [hKT b j]at e;cases e)
  have hM:Mod K mg (u_ f.heap H):=⟨M,l R,⟨mb,l t,hbb⟩,let ⟨mc,h1,h2⟩:=Q;⟨mc,l h1,h2⟩,let ⟨G,A,c1,c2,c3,c4,c5⟩:=hbm;⟨G,A,c1,c2,p c3 (noM c3 c4),c4,c5⟩⟩;have e0:Env0 P w K mg (u_ f.heap H) callerA [] f H:=⟨rfl,hM,λb o e=>Im e,tT (CP _ _),trivial,λb t=>absurd (show b ∈ ([]:List Addr) from t) (by simp),hC,W,.of_eq hg⟩;refine nA ((F _ M (l R)).run callerA [] f H ⟨[.ref a],[]⟩ [.ref a] [.ref a] _ _ hr e0 (B f (.ref a)) (.cons rfl .nil) (hsp H hO hS)) λr s' h=>?_;cases r with
  |error e=>exact(hCX H e s' h).elim
  |ok fl=>
   cases fl with
   |next=>exact False.elim h
   |brk=>exact False.elim h
   |cont=>exact False.elim h
   |ret u=>
    obtain⟨v,H',os,E,un,S,r',q⟩:=h;have q':v=.bl true:=q;subst q';obtain rfl:u=Value.bool true:=r';have aw:∀b o,f.heap.get? b=some o->asItWas f.heap s'.heap b o:=λb o e=>by
     rcases hO b with q|z|⟨A,xs,z⟩
     .exact .inl (un.keep b o e q (by intro z;exact absurd (show b ∈ ([]:List Addr) from z) (by simp)) (by simp))
     .obtain⟨I,c,e2⟩:=T b (hB b z);obtain⟨ps,e3,_⟩:=(show rF H' s'.heap b from S b _ (un.tbls b z));rw[I]at e;cases e;exact .inr (.inl ⟨(e2.tab I).isCodeTable,rfl,#[],ps,rfl,by rw[Array.empty_append];exact e3⟩)
     .have z2:=un.frzs b A _ z;obtain⟨I,_⟩:=W b _ z;obtain⟨e2,_⟩:=S b _ z2;rw[e]at I;cases I;exact .inl e2
    refine⟨rfl,⟨aw,λb o e=>?_⟩,os,E⟩;rcases aw b o e with x|⟨_,_,_,_,_,x⟩|⟨_,_,⟨_,_,_,x,_⟩,_⟩<;>exact⟨_,x⟩
 have N:a ∉ ce K:=λz=>by have e:=(T a z).1;rw[D]at e;cases e
 have tk:∀b,b ∈ ce K->∀H:Hp,rF H f.heap b:=λb t H=>⟨#[],(T b t).1,.inl rfl⟩;cases hk:K.lookup a with
 |some o=>
  have e:=KX a o hk;rw[D]at e;cases e;refine y (λb=>if b ∈ ce K then some .tbl else none) (λb=>?_) (.inr ⟨_,C.toArray,_,hk,rfl,rfl,rfl,by rw[bc,X];exact hl,by simpa using rv⟩) (λb u z=>?_) (λb z=>?_) (λb z=>?_) (λb z=>ac z) λz=>absurd (af N) z
  .by_cases t:b ∈ ce K
   .exact .inr (.inl (ac t))
   .exact .inl (af t)
  .by_cases t:b ∈ ce K
   .have g:=(ac t).symm.trans z;cases g;exact tk b t _
   .have g:=(af t).symm.trans z;cases g
  .by_cases t:b ∈ ce K
   .exact .inr t
   .exact absurd (af t) z
  .by_cases t:b ∈ ce K
   .exact t
   .have g:=(af t).symm.trans z;cases g
 |none=>
  refine y (λb=>if b=a then some (.frz { cls:=.type "list",data:=.seq C.toArray } (.lst (Z.map V.int))) else if b ∈ ce K then some .tbl else none) (λb=>?_) (.inl (.inr ⟨{ cls:=.type "list",data:=.seq C.toArray },ac rfl⟩)) (λb u z=>?_) (λb z=>?_) (λb z=>?_) (λb z=>?_) λ_=>hk
  .by_cases t:b=a
   .exact .inr (.inr ⟨_,_,ac t⟩)
   .by_cases i:b ∈ ce K
    .exact .inr (.inl ((af t).trans (ac i)))
    .exact .inl ((af t).trans (af i))
  .by_cases t:b=a
   .have g:=(ac t).symm.trans z;cases g;subst t;exact⟨D,by rw[aX];exact hl,C,_,rv,D⟩
   .have z1:=(af t).symm.trans z;by_cases i:b ∈ ce K
    .have g:=(ac i).symm.trans z1;cases g;exact tk b i _
    .have g:=(af i).symm.trans z1;cases g
  .by_cases t:b=a
   .exact .inl t
   .by_cases i:b ∈ ce K
    .exact .inr i
    .exact absurd ((af t).trans (af i)) z
  .by_cases t:b=a
   .have g:=(ac t).symm.trans z;cases g
   .by_cases i:b ∈ ce K
    .exact i
    .have g:=(af i).symm.trans ((af t).symm.trans z);cases g
  .have t:b≠a:=λq=>N (q ▸ z);exact(af t).trans (ac z)
noncomputable abbrev R9{K:FG}(_:K.In h):FG:=K
theorem Hn{l:DA}{n k:Nat}{q:Program}{m:LS}{I:(SV)->Heap->Prop}{g:World->Heap->Prop}{d:DefRec}{K:Params->FG}{CX:World->Dl}{sp:World->Sp}{x:Str}
  (hn:l.most=some n) (S:n≤sizeLine) (y:d.params.defaults=[]) (hr:Room k callerA)
  (W:∀(w:World)(h:Heap),g w h->(K w.params).In h) (N:∀w:World,xz (K w.params)=true) (T:∀(w:World)(h:Heap),g w h->∀P ∈ ce (K w.params),h.get? P=some (p7 #[])/\∃c,p0 h c P)
  (F:∀(w:World) (mg:SV) (t:Addr) (h:Heap),(K w.params).In h->h.Ns mainGlobals mg->mg d.name=some (.ref t) ->
   ∃fd:FuncData,(∀(s:Shared)(u:Value),BindsTo s fd ⟨[u],[]⟩ [(x,u)]) /\
    ∀base:Heap,(K w.params).In base->base.Ns mainGlobals mg->FnOk l.prog w (K w.params) mg base (CX w) k t fd [x] (sp w))
  (A:∀(w:World)(H:Hp)(a:Addr)(p:List Int),p.length≤n->Dh H->iB (K w.params) H a (p.map V.int)->sp w [.ref a] H (λv _=>v=.bl true) λ_ _ _=>False)
  (C:∀(w:World)(H:Hp)(s:Shared)(e:Value)(s':Shared),CX w [] H s (λ_ _ _=>False) e s'->False) :
  Dy q m I g l.row.toRowW d [] (λf E=>PySem.call f E):=by
 refine Att.attach_call hn y λw D r mg mb t o pm cd L a E p G B ho hd hcd z j i b hg=>?_;have X:=W w _ B;obtain⟨fd,Z,M⟩:=F w mg t _ X G.T.g z;exact Fj X (N w) (T w _ B) G.T.g G.T.b G.T.builtins G.T.nolimit G.T.bmain hg j i (au b S) hr M Z (λH Q R=>A w H a p b Q R) λH e s'=>C w H r e s'
theorem DX{l:DA}{n k:Nat}{q:Program}{o:LS}{X:(SV)->Heap->Prop}{m:World->Heap->Prop}{d:DefRec}{K:Params->FG}{CX:Dl}{sp:FG->Sp}{x:Str}
  (y:l.most=some n) (t:n≤sizeLine) (r:d.params.defaults=[]) (z:Room k callerA)
  (j:∀(w:World)(h:Heap),m w h->(K w.params).In h) (N:∀w:World,xz (K w.params)=true) (T:∀(w:World)(h:Heap),m w h->∀P ∈ ce (K w.params),h.get? P=some (p7 #[])/\∃c,p0 h c P)
  (F:∀(w:World) (mg:SV) (g:Addr) (h:Heap),(K w.params).In h->h.Ns mainGlobals mg->mg d.name=some (.ref g) ->
   ∃fd:FuncData,(∀(s:Shared)(u:Value),BindsTo s fd ⟨[u],[]⟩ [(x,u)]) /\
    ∀base:Heap,(K w.params).In base->base.Ns mainGlobals mg->FnOk l.prog w (K w.params) mg base CX k g fd [x] (sp (K w.params)))
  (p:∀(K:FG)(H:Hp)(a:Addr)(b:List Int),b.length≤n->Dh H->iB K H a (b.map V.int)->sp K [.ref a] H (λv _=>v=.bl true) λ_ _ _=>False)
  (C:∀(H:Hp)(s:Shared)(e:Value)(s':Shared),CX [] H s (λ_ _ _=>False) e s'->False) :
  Dy q o X m l.row.toRowW d [] (λf S=>PySem.call f S):=
 Hn (K:=K) (CX:=λ_=>CX) (sp:=λw=>sp (K w.params)) y t r z j N T F (λw H a b h1 h2 i=>p (K w.params) H a b h1 h2 i) λ_ H s e s'=>C H s e s'
noncomputable def k6(s:Stmt)(j:Nat):Stmt:=match s with
 | .ClassDef _ _ _ b _ _ _ _ _ _ _=>b.getD j (.Pass ⟨0,0,0,0⟩)
 |_=>.Pass ⟨0,0,0,0⟩
noncomputable def hZ(s:Stmt):Arguments:=match s with
 | .FunctionDef _ a _ _ _ _ _ _ _ _=>a
 |_=>{ posonlyargs:=[],args:=[],vararg:=none,kwonlyargs:=[],kw_defaults:=[],kwarg:=none,defaults:=[] }
noncomputable def eX(s:Stmt):List Stmt:=match s with
 | .FunctionDef _ _ b _ _ _ _ _ _ _=>b
 |_=>[]
noncomputable def bg(s:Stmt):Scope:=match s with
 | .FunctionDef _ _ _ _ _ _ sc _ _ _=>sc
 |_=>{ kind:=.function,names:=[],isGenerator:=false,isCoroutine:=false }
noncomputable abbrev og:Dl:=λ_ _ _ _ _ _=>False
noncomputable abbrev E0:XK:=λ_ _ _=>False
theorem qG:lT og X E0:=λ_ _ _ _ _ _ _ h=>h.elim
structure Fun(K:FG)(x qual:Str)(st:Stmt)(f:Addr)(fd:FuncData):Prop where
 ex:∃(oc:Value)(od:Option Addr)(dV kV doc pm:Value)(an:Option Addr)(cdv ct:Value)(osl:Array (OV)),
  fd=iY x qual (hZ st) (eX st) (bg st) dV kV doc pm an cdv ct/\K.lookup f=some ⟨oc,od,.func fd,osl⟩/\iZ K cdv qual=true
 kp:dD K (.ref f)=true
section
variable{P:Program}{w:World}{K:FG}{mg:SV}{base:Heap}
theorem FQ{x q:Str}{st:Stmt}{f:Addr}{h:Value}{e a:Option Addr}{s:Array (OV)}{V kV o p d t:Value}(l:K.lookup f=some ⟨h,e,.func (iY x q (hZ st) (eX st) (bg st) V kV o p a d t),s⟩)
  (c:iZ K d q=true) (k:dD K (.ref f)=true):Fun K x q st f (iY x q (hZ st) (eX st) (bg st) V kV o p a d t):=⟨⟨h,e,V,kV,o,p,a,d,t,s,rfl,l,c⟩,k⟩
end
section
variable{X:Cx}
end
abbrev KN:List (PyData×V×V)->List (PyData×Addr×Value)->Prop:=Paired λp q=>p.1=q.1/\p.2.1=V.ref q.2.1/\RelV p.2.2 q.2.2
def vH(h:Heap)(d:PyData)(v:V):Prop:=∃b,v=.ref b/\Nk.kd d=true/\d.depth≤8/\∃as,Reads h (.ref b) d as
noncomputable def yr(kvs:List (PyData×V×V))(d:PyData):Bool:=kvs.any λp=>decide (p.1=d)
section
variable{P:Program}{w:World}{H:Hp}{h:Heap}{a:Addr}
theorem KN.has(r:KN kvs xs)(d:PyData):(atKey xs d).isSome=yr kvs d:=by
 induction r with
 |nil=>rfl
 | @cons p q ps qs h t i=>
  unfold yr at i ⊢;rw[dv];by_cases e:p.1=d
  .have x:q.1=d:=h.1.symm.trans e;simp[atKey,iG,e,x]
  .have x:¬q.1=d:=λz=>e (h.1.trans z);rw[bj e,kW,<- i];simp[atKey,iG,x]
theorem FW(ok:ja P w H h)(e:H a=some (.dN kvs))(ks:∀p ∈ kvs,vH h p.1 p.2.1):kvs.length≤sizeLine/\(a == sysModules)=false/\∃xs,KN kvs xs/\h.DictOfH (Nk.nest P w) a xs:=by
 obtain⟨z,y,xs,r,o,es,ep,h1,h2,h3,h4,h5⟩:=(show cW P w H h a (.dN kvs) from ok a _ e);refine⟨z,y,xs,r,o,es,ep,h1,h2,h3,h4,?_,h5⟩;clear h4 h5 e z;induction r with
 |nil=>exact λx hx=>nomatch hx
 | @cons p q ps qs hq t ih=>
  intro x hx;rcases aN.mp hx with rfl|hx
  .obtain⟨b,e1,k,l,as,rd⟩:=ks p aH;have e2:=hq.2.1;rw[e1]at e2;cases e2;rw[<- hq.1];exact⟨k,l,as,rd⟩
  .exact ih (λp hp=>ks p (aG _ hp)) x hx
end
section
variable{X:Cx}{pins:PN}{J:St}{H:Hp}{s:Shared}{a:Addr}{d:PyData}{y v:V}{u r:Value}{A:Around}{E:VP}{kvs:List (PyData×V×V)}
theorem Io(hu:A.units+9 < cLine)(I:Inv X pins J H s)(e:H a=some (.dN kvs))(ks:∀p ∈ kvs,vH s.heap p.1 p.2.1)(ky:vH s.heap d y)(ry:RelV y u)(h:∀s',Inv X pins J H s'->Q (.bool (!yr kvs d)) s') :
  wpAny (model X.p X.w) A (compareOp .NotIn u (.ref a)) Q E s:=by
 obtain⟨b,rfl,k⟩:=ky;cases (show u=Value.ref b from ry);obtain⟨z,hd,xs,rel,dd⟩:=FW I.h e ks;refine wpAny_notIn_heap (knd:=Nk.nest X.p X.w) (show(A.in1).units+8 < cLine by rw[my];lia) k hd dd ?_;rw[rel.has];exact h _ (I.tok _)
theorem Od(hu:A.units+9 < cLine)(I:Inv X pins J H s)(e:H a=some (.dN kvs))(ks:∀p ∈ kvs,vH s.heap p.1 p.2.1)(ky:vH s.heap d y)(ry:RelV y u)(rv:RelV v r)(new:yr kvs d=false)(hl:kvs.length < sizeLine)
  (h:∀s',Inv X pins J (bN H a (.dN (kvs++[(d,y,v)]))) s'->Q () s'):wpAny (model X.p X.w) A (setItem (.ref a) u r) Q E s:=by
 obtain⟨b,rfl,k⟩:=ky;cases (show u=Value.ref b from ry);obtain⟨z,hd,xs,rel,dd⟩:=FW I.h e ks;have hz:xs.length≤sizeLine:=by rw[<- Paired.length rel];exact z
 refine AZ (knd:=Nk.nest X.p X.w) (hsz:=hz) (show(A.in1).units+8 < cLine by rw[my];lia) k dd λh' dd' hs=>h _ ?_;have nn:atKey xs d=none:=by have:=rel.has d;rw[new]at this;simpa using this
 rw[storedH_new nn]at dd';obtain⟨q,es,ep,hq,h2,h3,h4,_,h5⟩:=dd';exact m5 I (by rw[e];exact True.intro) hs ⟨q,hq⟩ ⟨by simp;lia,hd,_,Paired.snoc rel ⟨rfl,rfl,rv⟩,q,es,ep,hq,h2,h3,h4,h5⟩
end
theorem FX(h:Heap)(b:sysModules < h.objs.size):cW P w H (h.push { cls:=.type "dict",data:=.dict #[] }) h.objs.size (.dN []):=
 ⟨bX _,gZ.mpr (aI (bb b)),[],.nil,_,#[],0,br _ rfl,⟨rfl,rfl,rfl⟩,rfl,rfl,mh⟩
end L2
set_option tactic.hygienic true
namespace PySem
open PySem PyProof.Rows
namespace F
theorem entry_dict_update_loop:entryFor table "dict.update.loop"=some Builtin.«dict.update.loop»:=entryFor_of_tree (by kernel_rfl)
theorem plain_dict_update_loop:plainId "dict.update.loop"=true:=by decide +kernel
theorem list_no_keys:typeLookup (.type "list") "keys"=pure none:=by rw[xn,xw];kernel_rfl
end F
section
variable{prog:Program}{w:World}{A:Around}{E:VP}{s:Shared}
theorem yf 
  (hx:s.heap.get? a=some o) (hc:o.cls=.type "list") (hdat:o.data=.seq xs k0) (hd:o.dict=none) (hmiss:typeLookup (.type "list") name=pure none) (hname:(["__module__","__name__","__qualname__","__doc__","__annotations__"]:LS).contains name=false) (hA:A.handled=none)
  (h:∀h' tk,(∀b o,s.heap.get? b=some o->h'.get? b=some o)->Q none { s with heap:=h',toks:=tk }) (hsz:name.length+100≤sizeLine:=by size_fits) :
  wpAny (model prog w) A (getAttr? (.ref a) name) Q E s:=by
 obtain⟨c,dct,dat,sl⟩:=o;simp only at hc hdat hd;subst hc hdat hd;obtain⟨hp,g,d,tk,os⟩:=s;have hT:∀tk',(⟨hp,g,d,tk',os⟩:Shared).TypeIs (.ref a) "list":=λ_=>⟨_,hx,rfl⟩;have f1:=AX;have f3:=tD.lookup;have f4:=tD.bind (.ref a);have f5:=am_list_getattr_none;have step:∀(tk1:Nat)(u:Tok)(Q1:VP)(E1:VP),(∀h' tk2 e,zS hp h' e (.ref a) name->E1 (.ref e) ⟨h',g,d,tk2,os⟩) ->
   wpAny (model prog w) A (call (Value.builtin "list.__getattribute__") ([Value.ref a]++[Value.str name u]) []) Q1 E1 ⟨hp,g,d,tk1,os⟩:=λtk1 u Q1 E1 k=>
  gJ tD (hT _) am_entry_list_getattribute (F.args_list_getattribute_2 _ _) (meets_getattribute_miss_list a xs k0 sl name u hmiss hname hsz) ⟨hx,hA,k⟩
 unfold getAttr?;unfold getAttrBy?;unfold getAttrBy;repeat any_goals first|assumption|exact hT _|(with_reducible refine step _ _ _ _ λh' tk' e hx'=>?_)|wp_step
 have he:=hx'.there;obtain⟨t',u',he⟩:=he;repeat any_goals first|assumption|wp_step
 exact h _ _ hx'.keeps
inductive PairsAt{K:Type}[DecidableEq K](knd:KeyKind prog w K)(h:Heap):LV->List (K×Value)->Prop
 |nil:PairsAt knd h [] []
 |cons {t:Addr}{key v:Value}{k:K}{us:LV}{kvs:List (K×Value)}:IsTup h t #[key,v]->knd.is k key=true->PairsAt knd h us kvs->PairsAt knd h (.ref t::us) ((k,v)::kvs)
end
end PySem
namespace Ev
open PySem L2
noncomputable abbrev wB(p:Pos):Arguments:={ posonlyargs:=[],args:=[{ arg:="standing",annotation:=none,pos:=p }],vararg:=none,kwonlyargs:=[],kw_defaults:=[],kwarg:=none,defaults:=[] }
noncomputable abbrev u0(p q r t:Pos):Expr:=.Call (.Name "ends_on" p) [.Name "board" q,.Name "standing" r] [] t
noncomputable abbrev oN:Scope:={ kind:=.function,names:=[(Str.ofString "standing",.local),(Str.ofString "board",.free),(Str.ofString "ends_on",.globalImplicit)],isGenerator:=false,isCoroutine:=false,more:=[] }
abbrev wA(p x a e s:Pos)(c:Addr)(m:Value)(h:Addr)(t:Value):Obj:=PySem.W.kla_obj "<lambda>" yg (wB p) (u0 x a e s) oN [(Str.ofString "board",c)] m h t
inductive P where
 |non|bl (b:Bool)|int (i:Int)|str (x:Str)|tup (xs:List P)|lst (xs:List P)|ro (xs:List P)|dct (ks:List b0) (vs:List P)
inductive D where
 |p (v:P)|ref (i:Nat)
inductive SO where
 |lst (xs:List D)|dct (ks:List b0) (vs:List D)|fz (v:P)|ins (c:Str) (ks:LS) (vs:List D)|dtn (ks:List P) (vs:List D)|fn (d:Option D)|dtt (ks:List (List b0)) (vs:List D)
noncomputable abbrev U:=List SO
noncomputable abbrev Lc:=List (Option D)
mutual
noncomputable def pd:P->PyData
 | .non=>.none
 | .bl b=>.bool b
 | .int i=>.int i
 | .str x=>.str x
 | .tup xs=>.tuple (jf xs)
 | .lst xs=>.list (jf xs)
 | .ro xs=>.list (jf xs)
 | .dct _ _=>.none
noncomputable def jf:List P->List PyData
 | []=>[]
 |x::r=>pd x::jf r
end
def Rz(K:FG)(a:Addr)(xs:List V):Prop:=ny K (λ_=>none) a xs
def RA(K:FG)(a:Addr)(xs:List V):Prop:=iB K (λ_=>none) a xs
def TupAt(K:FG)(H:Hp)(a:Addr)(xs:List V):Prop:=H a=some (.tup xs)\/Rz K a xs
def LstAt(F:Aa)(H:Hp)(a:Addr)(xs:List V):Prop:=F a/\H a=some (.lst xs)
def Dg(K:FG)(F:Aa)(H:Hp)(a:Addr)(xs:List V):Prop:=(F a/\∃o,H a=some (.frz o (.lst xs)))\/RA K a xs
variable{K:FG}{H:Hp}{a:Addr}{xs:List V}
theorem TupAt.sq(h:TupAt K H a xs):ny K H a xs:=by
 rcases h with h|(h|h)
 .exact .inl (.inl h)
 .rcases h with h|⟨o,h⟩<;>cases h
 .exact .inr h
variable{F:Aa}
theorem LstAt.sq(h:LstAt F H a xs):iB K H a xs:=.inl (.inl h.2)
theorem Dg.sq(h:Dg K F H a xs):iB K H a xs:=by
 rcases h with ⟨_,o,h⟩|(h|h)
 .exact .inl (.inr ⟨o,h⟩)
 .rcases h with h|⟨o,h⟩<;>cases h
 .exact .inr h
section
variable(K:FG)(F:Aa)(H:Hp)
mutual
noncomputable def RP:P->V->Prop
 | .non,v=>v=.non
 | .bl b,v=>v=.bl b
 | .int i,v=>v=.int i
 | .str x,v=>v=.str x
 | .tup ds,v=>∃a xs,v=.ref a/\TupAt K H a xs/\b7 ds xs
 | .lst ds,v=>∃a xs,v=.ref a/\LstAt F H a xs/\b7 ds xs
 | .ro ds,v=>∃a xs,v=.ref a/\Dg K F H a xs/\b7 ds xs
 | .dct ks ds,v=>∃a kvs,v=.ref a/\F a/\H a=some (.dK kvs)/\kvs.map (·.1)=ks/\b7 ds (kvs.map (·.2))
noncomputable def b7:List P->List V->Prop
 | [],xs=>xs=[]
 |d::ds,xs=>∃x r,xs=x::r/\RP d x/\b7 ds r
end
def RD(m:List Addr):D->V->Prop
 | .p d,v=>RP K F H d v
 | .ref i,v=>∃a,v=.ref a/\m[i]? = some a
def cN(m:List Addr):List D->List V->Prop
 | [],xs=>xs=[]
 |d::s,xs=>∃x r,xs=x::r/\RD K F H m d x/\cN m s r
inductive FnI(H:Hp)(a:Addr)(v:V):Prop
 |mk (p1 p2 p3 p4 p5:Pos) (cr c' P:Addr) (o oc:Obj) (pm ctv ub:Value) (f:H a=some (.frz (wA p1 p2 p3 p4 p5 cr pm c' ctv) (.own a))) (c:H cr=some (.frz o (.own cr))) (d:o.data=.cell (some ub)) (r:RelV v ub) (e:H c'=some (.frz oc (.own P))) (l:ym oc):FnI H a v
def RO(m:List Addr)(a:Addr):SO->Prop
 | .lst s=>∃xs,H a=some (.lst xs)/\cN K F H m s xs
 | .dct h s=>∃k,H a=some (.dK k)/\k.map (·.1)=h/\cN K F H m s (k.map (·.2))
 | .fz v=>RP K F H v (.ref a)
 | .ins c h s=>∃C x k,pZ K mainGlobals c=some (some (.ref C))/\H a=some (.ins C x k)/\k.map (·.1)=h/\cN K F H m s (k.map (·.2))
 | .dtn h s=>∃k,H a=some (.dN k)/\k.map (·.1)=jf h/\b7 K F H h (k.map (·.2.1))/\cN K F H m s (k.map (·.2.2))
 | .fn o=>∀d,o=some d->∃v,FnI H a v/\RD K F H m d v
 | .dtt h s=>∃k,H a=some (.dT k)/\k.map (·.1)=h/\cN K F H m s (k.map (·.2))
def SO.own:SO->Prop
 | .fz _=>False
 | .fn _=>False
 |_=>True
structure Rel(m:List Addr)(S:U):Prop where
 len:m.length=S.length
 nd:m.Nodup
 obj:∀(i:Nat) a o,m[i]? = some a->S[i]? = some o->RO K F H m a o
 sep:∀(i:Nat) a o,m[i]? = some a->S[i]? = some o->o.own->¬F a
 trk:∀a ∈ m,H a≠none
 ft:∀a,F a->H a≠none
end
structure Kp(F:Aa)(m:List Addr)(H:Hp)(F':Aa)(m':List Addr)(H':Hp):Prop where
 pre:∃n,m'=m++n
 frz:∀b,F b->F' b
 frk:∀b o,F b->H b=some o->H' b=some o
 tup:∀b xs,H b=some (.tup xs)->H' b=some (.tup xs)
 cod:∀b o u,H b=some (.frz o (.own u))->H' b=some (.frz o (.own u))
structure Stp(F:Aa)(m:List Addr)(H:Hp)(F':Aa)(m':List Addr)(H':Hp):Prop where
 pre:∃n,m'=m++n
 oth:∀b o,H b=some o->b ∉ m->H' b=some o
 frz:∀b,F b->F' b
 frk:∀b o,F b->H b=some o->H' b=some o
 tup:∀b xs,H b=some (.tup xs)->H' b=some (.tup xs)
 trk:∀b,H b≠none->H' b≠none
 nf:∀b,F' b->F b\/H b=none\/b ∈ m
 nm:∀b,b ∈ m'->b ∈ m\/H b=none
 cod:∀b o u,H b=some (.frz o (.own u))->H' b=some (.frz o (.own u))
variable{F':Aa}{m:List Addr}{m':List Addr}{H':Hp}
theorem Stp.kp(s:Stp F m H F' m' H'):Kp F m H F' m' H':=⟨s.pre,s.frz,s.frk,s.tup,s.cod⟩
theorem Stp.refl:Stp F m H F m H:=
 ⟨⟨[],by simp⟩,λ_ _ h _=>h,λ_ h=>h,λ_ _ _ h=>h,λ_ _ h=>h,λ_ h=>h,λ_ h=>.inl h,λ_ h=>.inl h,λ_ _ _ h=>h⟩
theorem Stp.trans(a:Stp F m H C r z)(b:Stp C r z B t I):Stp F m H B t I where
 pre:=by obtain⟨f,n⟩:=a.pre;obtain⟨p,k⟩:=b.pre;exact⟨f++p,by rw[k,n,fK]⟩
 oth:=λc o h s=>b.oth c o (a.oth c o h s) λx=>by
  rcases a.nm c x with x|x
  .exact s x
  .rw [h]at x;cases x
 frz:=λc h=>b.frz c (a.frz c h)
 frk:=λc o h e=>b.frk c o (a.frz c h) (a.frk c o h e)
 tup:=λc xs h=>b.tup c xs (a.tup c xs h)
 cod:=λc o u h=>b.cod c o u (a.cod c o u h)
 trk:=λc h=>b.trk c (a.trk c h)
 nf:=λc h=>by
  rcases b.nf c h with h|h|h
  .exact a.nf c h
  .by_cases e:H c=none
   .exact .inr (.inl e)
   .exact absurd h (a.trk c e)
  .rcases a.nm c h with h|h
   .exact .inr (.inr h)
   .exact .inr (.inl h)
 nm:=λc h=>by
  rcases b.nm c h with h|h
  .exact a.nm c h
  .by_cases e:H c=none
   .exact .inr e
   .exact absurd h (a.trk c e)
section
variable{K:FG}{F F':Aa}{H H':Hp}{m m':List Addr}{S N:U}
theorem TupAt.kp(s:Kp F m H F' m' H')(h:TupAt K H a xs):TupAt K H' a xs:=by
 rcases h with h|h
 .exact .inl (s.tup _ _ h)
 .exact .inr h
theorem LstAt.kp(s:Kp F m H F' m' H')(h:LstAt F H a xs):LstAt F' H' a xs:=⟨s.frz _ h.1,s.frk _ _ h.1 h.2⟩
theorem Dg.kp(s:Kp F m H F' m' H')(h:Dg K F H a xs):Dg K F' H' a xs:=by
 rcases h with ⟨f,o,h⟩|h
 .exact .inl ⟨s.frz _ f,o,s.frk _ _ f h⟩
 .exact .inr h
mutual
theorem RP.kp(s:Kp F m H F' m' H'):∀{d:P}{v:V},RP K F H d v->RP K F' H' d v
 | .non,_,h=>h
 | .bl _,_,h=>h
 | .int _,_,h=>h
 | .str _,_,h=>h
 | .tup _,_,h=>by obtain⟨a,xs,e,t,r⟩:=h;exact⟨a,xs,e,t.kp s,b7.kp s r⟩
 | .lst _,_,h=>by obtain⟨a,xs,e,t,r⟩:=h;exact⟨a,xs,e,t.kp s,b7.kp s r⟩
 | .ro _,_,h=>by obtain⟨a,xs,e,t,r⟩:=h;exact⟨a,xs,e,t.kp s,b7.kp s r⟩
 | .dct _ _,_,h=>by obtain⟨a,kvs,e,f,t,k,r⟩:=h;exact⟨a,kvs,e,s.frz _ f,s.frk _ _ f t,k,b7.kp s r⟩
theorem b7.kp(s:Kp F m H F' m' H'):∀{ds:List P}{xs:List V},b7 K F H ds xs->b7 K F' H' ds xs
 | [],_,h=>h
 |_::_,_,h=>by obtain⟨x,r,e,h1,h2⟩:=h;exact⟨x,r,e,RP.kp s h1,b7.kp s h2⟩
end
theorem RD.kp(s:Kp F m H F' m' H'):∀{d:D}{v:V},RD K F H m d v->RD K F' H' m' d v
 | .p _,_,h=>RP.kp s h
 | .ref i,_,h=>by obtain⟨a,e,h⟩:=h;obtain⟨n,x⟩:=s.pre;refine⟨a,e,?_⟩;rw[x];have k:i < m.length:=(bw.mp h).1;rw[bL k];exact h
theorem cN.kp(s:Kp F m H F' m' H'):∀{d:List D}{xs:List V},cN K F H m d xs->cN K F' H' m' d xs
 | [],_,h=>h
 |_::_,_,h=>by obtain⟨x,r,e,a,n⟩:=h;exact⟨x,r,e,RD.kp s a,cN.kp s n⟩
variable{d:P}{v:V}
theorem RP.mono(s:Stp F m H F' m' H')(h:RP K F H d v):RP K F' H' d v:=RP.kp s.kp h
theorem b7.mono(s:Stp F m H F' m' H'){d:List P}{v:List V}(h:b7 K F H d v):b7 K F' H' d v:=b7.kp s.kp h
theorem RD.mono(s:Stp F m H F' m' H'){d:D}{v:V}(h:RD K F H m d v):RD K F' H' m' d v:=RD.kp s.kp h
theorem cN.mono(s:Stp F m H F' m' H'){d:List D}{v:List V}(h:cN K F H m d v):cN K F' H' m' d v:=cN.kp s.kp h
theorem b7.length:∀{d:List P}{xs:List V},b7 K F H d xs->d.length=xs.length
 | [],_,h=>by rw[show _=([]:List V) from h]<;>rfl
 |_::_,_,h=>by obtain⟨x,r,e,_,a⟩:=h;rw[e,aV,aV,b7.length a]
theorem cN.length:∀{d:List D}{xs:List V},cN K F H m d xs->d.length=xs.length
 | [],_,h=>by rw[show _=([]:List V) from h]<;>rfl
 |_::_,_,h=>by obtain⟨x,r,e,_,a⟩:=h;rw[e,aV,aV,cN.length a]
theorem b7.get:∀{s:List P}{xs:List V}{i:Nat}{d:P},b7 K F H s xs->s[i]? = some d->∃x,xs[i]? = some x/\RP K F H d x
 | [],_,_,_,_,e=>by simp at e
 |_::_,_,0,_,h,e=>by obtain⟨x,r,rfl,n,_⟩:=h;simp at e;subst e;exact⟨x,rfl,n⟩
 |_::_,_,i+1,d,h,e=>by obtain⟨x,r,rfl,_,k⟩:=h;obtain⟨y,a,f⟩:=b7.get (i:=i) k (by simpa using e);exact⟨y,by simpa using a,f⟩
theorem b7.append:∀{d l:List P}{xs y:List V},b7 K F H d xs->b7 K F H l y->b7 K F H (d++l) (xs++y)
 | [],_,_,_,h,g=>by rw[show _=([]:List V) from h];exact g
 |_::_,_,_,_,h,g=>by obtain⟨x,r,rfl,a,e⟩:=h;exact⟨x,r++_,rfl,a,b7.append e g⟩
theorem cN.append:∀{d l:List D}{xs y:List V},cN K F H m d xs->cN K F H m l y->cN K F H m (d++l) (xs++y)
 | [],_,_,_,h,g=>by rw[show _=([]:List V) from h];exact g
 |_::_,_,_,_,h,g=>by obtain⟨x,r,rfl,a,e⟩:=h;exact⟨x,r++_,rfl,a,cN.append e g⟩
theorem b7.take:∀(n:Nat){d:List P}{xs:List V},b7 K F H d xs->b7 K F H (d.take n) (xs.take n)
 |0,_,_,_=>rfl
 |_+1,[],_,h=>by rw[show _=([]:List V) from h];rfl
 |n+1,_::_,_,h=>by obtain⟨x,r,rfl,a,e⟩:=h;exact⟨x,r.take n,rfl,a,b7.take n e⟩
theorem b7.drop:∀(n:Nat){d:List P}{xs:List V},b7 K F H d xs->b7 K F H (d.drop n) (xs.drop n)
 |0,_,_,h=>h
 |_+1,[],_,h=>by rw[show _=([]:List V) from h];rfl
 |n+1,_::_,_,h=>by obtain⟨x,r,rfl,_,a⟩:=h;exact b7.drop n a
theorem cN.take:∀(n:Nat){d:List D}{xs:List V},cN K F H m d xs->cN K F H m (d.take n) (xs.take n)
 |0,_,_,_=>rfl
 |_+1,[],_,h=>by rw[show _=([]:List V) from h];rfl
 |n+1,_::_,_,h=>by obtain⟨x,r,rfl,a,e⟩:=h;exact⟨x,r.take n,rfl,a,cN.take n e⟩
theorem cN.get:∀{s:List D}{xs:List V}{i:Nat}{d:D},cN K F H m s xs->s[i]? = some d->∃x,xs[i]? = some x/\RD K F H m d x
 | [],_,_,_,_,e=>by simp at e
 |_::_,_,0,_,h,e=>by obtain⟨x,r,rfl,n,_⟩:=h;simp at e;subst e;exact⟨x,rfl,n⟩
 |_::_,_,i+1,d,h,e=>by obtain⟨x,r,rfl,_,k⟩:=h;obtain⟨y,a,f⟩:=cN.get (i:=i) k (by simpa using e);exact⟨y,by simpa using a,f⟩
theorem cN.ofP:∀{d:List P}{xs:List V},b7 K F H d xs->cN K F H m (d.map .p) xs
 | [],_,h=>h
 |_::_,_,h=>by obtain⟨x,r,e,a,s⟩:=h;exact⟨x,r,e,a,cN.ofP s⟩
variable{p:Addr}
theorem Rel.fresh_m(r:Rel K F H m S)(h:H p=none):p ∉ m:=λz=>r.trk p z h
theorem Rel.fresh_F(r:Rel K F H m S)(h:H p=none):¬F p:=λz=>r.ft p z h
variable{o:HO}
theorem dZ(x:H p=none):Stp F m H F m (bN H p o) where
 pre:=⟨[],by simp⟩
 oth:=λb u h _=>by rw[al (by rintro rfl;rw[x]at h;cases h)];exact h
 frz:=λ_ h=>h
 frk:=λb u _ h=>by rw[al (by rintro rfl;rw[x]at h;cases h)];exact h
 tup:=λb u h=>by rw[al (by rintro rfl;rw[x]at h;cases h)];exact h
 cod:=λb u w h=>by rw[al (by rintro rfl;rw[x]at h;cases h)];exact h
 trk:=λb h=>by
  by_cases e:b=p
  .subst e;rw[aF];exact λz=>nomatch z
  .rw [al e];exact h
 nf:=λ_ h=>.inl h
 nm:=λ_ h=>.inl h
theorem RO.kp(s:Kp F m H F' m' H'){a:Addr}{o:SO}(k:∀u,H a=some u->H' a=some u)(h:RO K F H m a o):RO K F' H' m' a o:=by
 cases o with
 |lst b=>obtain⟨xs,e,r⟩:=h;exact⟨xs,k _ e,cN.kp s r⟩
 |dct p b=>obtain⟨x,e,f,r⟩:=h;exact⟨x,k _ e,f,cN.kp s r⟩
 |fz v=>exact RP.kp s (show RP K F H v (.ref a) from h)
 |ins c p b=>obtain⟨C,g,x,n,e,f,r⟩:=h;exact⟨C,g,x,n,k _ e,f,cN.kp s r⟩
 |dtt p b=>obtain⟨x,e,f,r⟩:=h;exact⟨x,k _ e,f,cN.kp s r⟩
 |fn Q=>intro d hd;obtain⟨v,⟨B,D,E,G,I,w,q,P,o,A,L,t,N,i,j,l,y,z,S⟩,r⟩:=h d hd;exact⟨v,⟨B,D,E,G,I,w,q,P,o,A,L,t,N,s.cod _ _ _ i,s.cod _ _ _ j,l,y,s.cod _ _ _ z,S⟩,r.kp s⟩
 |dtn p b=>obtain⟨x,e,f,M,r⟩:=h;exact⟨x,k _ e,f,b7.kp s M,cN.kp s r⟩
theorem RO.mono(s:Stp F m H F' m' H'){a:Addr}{o:SO}(k:∀u,H a=some u->H' a=some u)(h:RO K F H m a o):RO K F' H' m' a o:=RO.kp s.kp k h
theorem Rel.stayK(r:Rel K F H m S)(s:Kp F m H F' m H')(k:∀a u,a ∈ m->H a=some u->H' a=some u)(n:∀a,F' a->F a\/H a=none)(t:∀a,F' a->H' a≠none):Rel K F' H' m S where
 len:=r.len
 nd:=r.nd
 obj:=λi a o e x=>(r.obj i a o e x).kp s λu h=>k a u (a8 e) h
 sep:=λi a o e x w f=>by
  rcases n a f with f|f
  .exact r.sep i a o e x w f
  .exact r.trk a (a8 e) f
 trk:=λa h=>by
  cases q:H a with
  |none=>exact absurd q (r.trk a h)
  |some u=>rw[k a u h q];exact λz=>nomatch z
 ft:=t
theorem Rel.stay(r:Rel K F H m S)(s:Stp F m H F' m H')(k:∀a u,a ∈ m->H a=some u->H' a=some u)(n:∀a,F' a->F a\/H a=none)(t:∀a,F' a->H' a≠none):Rel K F' H' m S where
 len:=r.len
 nd:=r.nd
 obj:=λi a o e x=>(r.obj i a o e x).mono s λu h=>k a u (a8 e) h
 sep:=λi a o e x w f=>by
  rcases n a f with f|f
  .exact r.sep i a o e x w f
  .exact r.trk a (a8 e) f
 trk:=λa h=>s.trk a (r.trk a h)
 ft:=t
theorem Rel.new(r:Rel K F H m S)(x:H p=none):Rel K F (bN H p o) m S:=
 r.stay (dZ x) (λa u e h=>by rw[al (by rintro rfl;exact r.fresh_m x e)];exact h) (λ_ f=>.inl f) λa f=>(dZ (F:=F) (m:=m) x).trk a (r.ft a f)
theorem dF{p:Addr}{o:HO}(x:H p=none):Stp F m H F (m++[p]) (bN H p o) where
 pre:=⟨[p],rfl⟩
 oth:=(dZ (F:=F) (m:=m) (o:=o) x).oth
 frz:=λ_ h=>h
 frk:=(dZ (F:=F) (m:=m) (o:=o) x).frk
 tup:=(dZ (F:=F) (m:=m) (o:=o) x).tup
 cod:=(dZ (F:=F) (m:=m) (o:=o) x).cod
 trk:=(dZ (F:=F) (m:=m) (o:=o) x).trk
 nf:=λ_ h=>.inl h
 nm:=λb h=>by
  rcases bA.mp h with h|h
  .exact .inl h
  .have:b=p:=by simpa using h
   subst this;exact .inr x
theorem Rel.own(r:Rel K F H m S){p:Addr}{o:HO}{c:SO}(n:H p=none)(v:RO K F (bN H p o) (m++[p]) p c):Rel K F (bN H p o) (m++[p]) (S++[c]) where
 len:=by rw[aZ,aZ,r.len];rfl
 nd:=by
  rw[jN];refine⟨r.nd,by simp,λa t b q e=>?_⟩;have:b=p:=by simpa using q
  subst this;subst e;exact r.fresh_m n t
 obj:=λi a u x s=>by
  by_cases k:i < m.length
  .rw [bL k]at x;rw[bL (by rw[<- r.len];exact k)]at s;exact(r.obj i a u x s).mono (dF n) λw h=>by rw[al (by rintro rfl;rw[n]at h;cases h)];exact h
  .have l:i=m.length:=by
    have:=(bw.mp x).1;rw[aZ]at this;simp at this;lia
   subst l;rw[bI (ah _)]at x;rw[r.len,bI (ah _)]at s;simp at x s;subst x;subst s;exact v
 sep:=λi a u x s w f=>by
  by_cases k:i < m.length
  .rw [bL k]at x;rw[bL (by rw[<- r.len];exact k)]at s;exact r.sep i a u x s w f
  .have l:i=m.length:=by
    have:=(bw.mp x).1;rw[aZ]at this;simp at this;lia
   subst l;rw[bI (ah _)]at x;simp at x;subst x;exact r.fresh_F n f
 trk:=λa h=>by
  rcases bA.mp h with h|h
  .exact (dF (F:=F) (m:=m) n).trk a (r.trk a h)
  .have:a=p:=by simpa using h
   subst this;rw[aF];exact λz=>nomatch z
 ft:=λa f=>(dF (F:=F) (m:=m) n).trk a (r.ft a f)
variable{i:Nat}
theorem eT(r:Rel K F H m S)(s:m[i]? = some p)(n:S[i]? = some k)(hw:k.own)(t:∀xs,H p≠some (.tup xs)):Stp F m H F m (bN H p o) where
 pre:=⟨[],by simp⟩
 oth:=λb u h c=>by rw[al (by rintro rfl;exact c (a8 s))];exact h
 frz:=λ_ h=>h
 frk:=λb u f h=>by rw[al (by rintro rfl;exact r.sep i _ k s n hw f)];exact h
 tup:=λb xs h=>by rw[al (by rintro rfl;exact t xs h)];exact h
 cod:=λb x u h=>by
  rw[al ?_];exact h;rintro rfl;have a:=r.obj i b k s n;cases k with
  |fz _=>exact hw
  |fn _=>exact hw
  |lst _=>obtain⟨_,e,_⟩:=a;rw[h]at e;cases e
  |dct _ _=>obtain⟨_,e,_⟩:=a;rw[h]at e;cases e
  |ins _ _ _=>obtain⟨_,_,_,_,e,_⟩:=a;rw[h]at e;cases e
  |dtn _ _=>obtain⟨_,e,_⟩:=a;rw[h]at e;cases e
  |dtt _ _=>obtain⟨_,e,_⟩:=a;rw[h]at e;cases e
 trk:=λb h=>by
  by_cases e:b=p
  .subst e;rw[aF];exact λz=>nomatch z
  .rw [al e];exact h
 nf:=λ_ h=>.inl h
 nm:=λ_ h=>.inl h
theorem wn(h:m.Nodup)(e:m[i]? = some a)(x:m[k]? = some a):i=k:=by exact(List.getElem?_inj (bw.mp e).1 h).mp (e.trans x.symm)
theorem Rel.set(r:Rel K F H m S){i:Nat}{p:Addr}{c b:SO}{o:HO}(s:m[i]? = some p)(k:S[i]? = some c)(hw:c.own)(t:∀xs,H p≠some (.tup xs))(q:RO K F (bN H p o) m p b) :
  Rel K F (bN H p o) m (S.set i b) where
 len:=by rw[db];exact r.len
 nd:=r.nd
 obj:=λj a u e x=>by
  by_cases n:i=j
  .subst n;rw[s]at e;cases e;rw[bv (by exact(bw.mp k).1)]at x;cases x;exact q
  .rw [aP n]at x;exact(r.obj j a u e x).mono (eT r s k hw t) λw h=>by rw[al (by rintro rfl;exact n (wn r.nd s e))];exact h
 sep:=λj a u e x w f=>by
  by_cases n:i=j
  .subst n;rw[s]at e;cases e;exact r.sep i p c s k hw f
  .rw [aP n]at x;exact r.sep j a u e x w f
 trk:=λa h=>(eT (o:=o) r s k hw t).trk a (r.trk a h)
 ft:=λa f=>(eT (o:=o) r s k hw t).trk a (r.ft a f)
theorem uL(x:p ∈ m):Stp F m H (λb=>F b\/b=p) m H:=
 ⟨⟨[],by simp⟩,fun _ _ h _=>h,fun _ h=>.inl h,fun _ _ _ h=>h,fun _ _ h=>h,fun _ h=>h,fun b h=>by
  rcases h with h|h
  .exact .inl h
  .subst h;exact .inr (.inr x),λ_ h=>.inl h,λ_ _ _ h=>h⟩
theorem Rel.frz(r:Rel K F H m S){i:Nat}{p:Addr}{c:SO}{v:P}(n:m[i]? = some p)(k:S[i]? = some c)(o:RP K (λb=>F b\/b=p) H v (.ref p)):Rel K (λb=>F b\/b=p) H m (S.set i (.fz v)) where
 len:=by rw[db];exact r.len
 nd:=r.nd
 obj:=λj a u x e=>by
  by_cases s:i=j
  .subst s;rw[n]at x;cases x;rw[bv (by exact(bw.mp k).1)]at e;cases e;exact o
  .rw [aP s]at e;exact(r.obj j a u x e).mono (uL (a8 n)) λw h=>h
 sep:=λj a u x e w f=>by
  by_cases s:i=j
  .subst s;rw[bv (by exact(bw.mp k).1)]at e;cases e;exact w
  .rw [aP s]at e;rcases f with f|f
   .exact r.sep j a u x e w f
   .subst f;exact s (wn r.nd n x)
 trk:=r.trk
 ft:=λa f=>by
  rcases f with f|f
  .exact r.ft a f
  .subst f;exact r.trk _ (a8 n)
end
noncomputable abbrev EE:=Lc->U->Option (D×U)
noncomputable abbrev vV:=Option (D×U)
noncomputable abbrev EV:=Lc->U->Option (P×U)
noncomputable abbrev tyV:=Option (P×U)
noncomputable abbrev EB:=Lc->U->Option (Bool×U)
noncomputable abbrev MC:=Option (Bool×U)
noncomputable abbrev jB:=Lc->U->Option (List P×U)
noncomputable abbrev D2:=Option (List P×U)
inductive Fl where
 |nx|rt (d:D)|bk|ct
noncomputable abbrev ES:=Lc->U->Option (Fl×Lc×U)
noncomputable abbrev Ba:=Option (Fl×Lc×U)
variable{α:Type}{β:Type}
noncomputable def bG(x:Option (α×U))(f:α->U->Option β):Option β:=match x with
 |some (a,S)=>f a S
 |none=>none
@[simp] theorem ak(a:α)(S:U)(f:α->U->Option β):bG (some (a,S)) f=f a S:=rfl
@[simp] theorem OX(f:α->U->Option β):bG none f=none:=rfl
theorem ag{α β:Type}{x:Option (α×U)}{f:α->U->Option β}{r:β}(h:bG x f=some r):∃a S,x=some (a,S)/\f a S=some r:=by
 cases x with
 |none=>cases h
 |some p=>exact⟨p.1,p.2,rfl,h⟩
def uX(f:D->U->Option (P×U)):List D->U->Option (List P×U)
 | [],S=>some ([],S)
 |d::r,S=>bG (f d S) λv h=>bG (uX f r h) λT x=>some (v::T,x)
def toP:Nat->D->U->Option (P×U)
 |_,.p v,S=>some (v,S)
 |0,.ref _,_=>none
 |n+1,.ref i,S=>match S[i]? with
  |some (.lst d)=>bG (uX (toP n) d S) λT h=>some (.lst T,h.set i (.fz (.lst T)))
  |some (.dct k d)=>bG (uX (toP n) d S) λT h=>some (.dct k T,h.set i (.fz (.dct k T)))
  |some (.fz v)=>some (v,S)
  |some (.ins _ _ _)=>none
  |some (.dtn _ _)=>none
  |some (.dtt _ _)=>none
  |some (.fn _)=>none
  |none=>none
@[simp] theorem Nr(n:Nat)(v:P)(S:U):toP n (.p v) S=some (v,S):=by cases n<;>rfl
theorem mP(n:Nat):∀(T:List P)(S:U),uX (toP n) (T.map .p) S=some (T,S)
 | [],_=>rfl
 |v::r,S=>by simp[uX,mP n r S]
variable{n:Nat}{S:U}{T:List P}
theorem gu(h:S[i]? = some (.lst (T.map .p))):toP (n+1) (.ref i) S=some (.lst T,S.set i (.fz (.lst T))):=by simp[toP,h,mP]
section
variable{K:FG}{F:Aa}{H:Hp}{m:List Addr}{S N:U}
theorem uW 
  (n:∀{d:D}{x:V}{v:P}{F:Aa}{S N:U},f d S=some (v,N)->Rel K F H m S->RD K F H m d x->∃F',Stp F m H F' m H/\Rel K F' H m N/\N.length=S.length/\RP K F' H v x) :
  ∀{s:List D}{xs:List V}{T:List P}{F:Aa}{S N:U},uX f s S=some (T,N)->Rel K F H m S->cN K F H m s xs->∃F',Stp F m H F' m H/\Rel K F' H m N/\N.length=S.length/\b7 K F' H T xs
 | [],xs,T,F,S,N,h,r,a=>by cases h;exact⟨F,.refl,r,rfl,a⟩
 |d::s,xs,T,F,S,N,h,r,a=>by obtain⟨x,y,e,p,q⟩:=a;obtain⟨v,z,c,h⟩:=ag h;obtain⟨A,o,t,h⟩:=ag h;cases h;obtain⟨C,k,i,l,u⟩:=n c r p;obtain⟨B,b,j,w,g⟩:=uW n t i (cN.mono k q);exact⟨B,k.trans b,j,w.trans l,x,y,e,RP.mono b u,g⟩
theorem nI:∀(n:Nat){d:D}{x:V}{v:P}{F:Aa}{S N:U},toP n d S=some (v,N)->Rel K F H m S->RD K F H m d x->∃F',Stp F m H F' m H/\Rel K F' H m N/\N.length=S.length/\RP K F' H v x
 |n,.p w,x,v,F,S,N,h,r,u=>by rw[Nr]at h;cases h;exact⟨F,.refl,r,rfl,u⟩
 |0,.ref i,x,v,F,S,N,h,r,u=>by cases h
 |n+1,.ref i,x,v,F,S,N,h,r,u=>by
  obtain⟨a,e,f⟩:=u;subst e;have p:i < S.length:=by rw[<- r.len];exact(bw.mp f).1
  obtain⟨o,L⟩:∃o,S[i]? = some o:=⟨S[i],by simp[p]⟩;have z:=r.obj i a o f L;simp only[toP,L]at h;cases o with
  |fz w=>cases h;exact⟨F,.refl,r,rfl,z⟩
  |ins c M I=>cases h
  |dtn _ _=>cases h
  |dtt _ _=>cases h
  |fn _=>cases h
  |lst I=>obtain⟨T,t,g,h⟩:=ag h;cases h;obtain⟨xs,j,E⟩:=z;obtain⟨C,G,B,l,A⟩:=uW (λh=>nI n h) g r E;obtain⟨Q,k⟩:∃o,t[i]? = some o:=⟨t[i]'(by rw[l];exact p),by simp[l,p]⟩;have q:Stp C m H (λb=>C b\/b=a) m H:=uL (a8 f);have s:RP K (λb=>C b\/b=a) H (.lst T) (.ref a):=⟨a,xs,rfl,⟨.inr rfl,j⟩,b7.mono q A⟩;exact⟨_,G.trans q,B.frz f k s,by rw[db];exact l,s⟩
  |dct M I=>obtain⟨T,t,g,h⟩:=ag h;cases h;obtain⟨y,j,hk,E⟩:=z;obtain⟨C,G,B,l,A⟩:=uW (λh=>nI n h) g r E;obtain⟨Q,k⟩:∃o,t[i]? = some o:=⟨t[i]'(by rw[l];exact p),by simp[l,p]⟩;have q:Stp C m H (λb=>C b\/b=a) m H:=uL (a8 f);have s:RP K (λb=>C b\/b=a) H (.dct M T) (.ref a):=⟨a,y,rfl,.inr rfl,j,hk,b7.mono q A⟩;exact⟨_,G.trans q,B.frz f k s,by rw[db];exact l,s⟩
end
structure Grow(F:Aa)(H:Hp)(F':Aa)(H':Hp):Prop where
 keep:∀b o,H b=some o->H' b=some o
 frz:∀b,F b->F' b
 nf:∀b,F' b->F b\/(H b=none/\H' b≠none)
section
variable{K:FG}{F F' C B:Aa}{H H' z I:Hp}{m:List Addr}{S N:U}
theorem Grow.refl:Grow F H F H:=⟨λ_ _ h=>h,λ_ h=>h,λ_ h=>.inl h⟩
theorem Grow.stp(g:Grow F H F' H'):Stp F m H F' m H' where
 pre:=⟨[],by simp⟩
 oth:=λb o h _=>g.keep b o h
 frz:=g.frz
 frk:=λb o _ h=>g.keep b o h
 tup:=λb xs h=>g.keep b _ h
 cod:=λb o u h=>g.keep b _ h
 trk:=λb h=>by
  cases q:H b with
  |none=>exact absurd q h
  |some o=>rw[g.keep b o q];exact λz=>nomatch z
 nf:=λb h=>by
  rcases g.nf b h with h|⟨h,_⟩
  .exact .inl h
  .exact .inr (.inl h)
 nm:=λ_ h=>.inl h
theorem Rel.grow(r:Rel K F H m S)(g:Grow F H F' H'):Rel K F' H' m S:=
 r.stay g.stp (fun a u _ h=>g.keep a u h) (fun a f=>by
  rcases g.nf a f with f|⟨f,_⟩
  .exact .inl f
  .exact .inr f) λa f=>by
  rcases g.nf a f with f|⟨_,f⟩
  .exact (g.stp (m:=m)).trk a (r.ft a f)
  .exact f
theorem cg{p:Addr}{o:HO}(x:H p=none):Grow F H F (bN H p o):=
 ⟨λb u h=>by rw[al (by rintro rfl;rw[x]at h;cases h)];exact h,λ_ h=>h,λ_ h=>.inl h⟩
theorem cj{p:Addr}{o:HO}(x:H p=none):Grow F H (λb=>F b\/b=p) (bN H p o):=
 ⟨fun b u h=>by rw [al (by rintro rfl;rw [x] at h;cases h)];exact h,fun _ h=>.inl h,fun b h=>by
  rcases h with h|h
  .exact .inl h
  .subst h;exact .inr ⟨x,by rw[aF];exact λz=>nomatch z⟩⟩
theorem RP.grow(g:Grow F H F' H')(h:RP K F H d v):RP K F' H' d v:=RP.mono (m:=[]) g.stp h
theorem b7.grow(g:Grow F H F' H')(h:b7 K F H d v):b7 K F' H' d v:=b7.mono (m:=[]) g.stp h
theorem RP.newTup(x:H p=none)(r:b7 K F H h xs):RP K F (bN H p (.tup xs)) (.tup h) (.ref p):=⟨p,xs,rfl,.inl aF,r.grow (cg x)⟩
theorem RP.newLst(x:H p=none)(r:b7 K F H h xs):RP K (λb=>F b\/b=p) (bN H p (.lst xs)) (.lst h) (.ref p):=⟨p,xs,rfl,⟨.inr rfl,aF⟩,r.grow (cj x)⟩
end
@[simp] def vC(v:P)(_L:Lc)(S:U):tyV:=some (v,S)
def aj(i:Nat)(L:Lc)(S:U):vV:=match L[i]? with
 |some (some d)=>some (d,S)
 |_=>none
@[simp] def vE(f:EE)(L:Lc)(S:U):tyV:=bG (f L S) (toP 9)
@[simp] def O(f:EV)(L:Lc)(S:U):vV:=bG (f L S) λv h=>some (.p v,h)
@[simp] def kZ(g:P->P->Option P)(a b:EV)(L:Lc)(S:U):tyV:=bG (a L S) λx h=>bG (b L h) λy e=>(g x y).map λv=>(v,e)
@[simp] def Nj(g:P->Option P)(a:EV)(L:Lc)(S:U):tyV:=bG (a L S) λx h=>(g x).map λv=>(v,h)
@[simp] def bV(a:EV)(L:Lc)(S:U):MC:=bG (a L S) λx h=>match x with
 | .bl b=>some (b,h)
 |_=>none
@[simp] def kJ(a b:EB)(L:Lc)(S:U):MC:=bG (a L S) λc h=>if c=true then b L h else some (false,h)
@[simp] def Dc(a b:EB)(L:Lc)(S:U):MC:=bG (a L S) λc h=>if c=true then some (true,h) else b L h
@[simp] def vD(a:EB)(L:Lc)(S:U):MC:=bG (a L S) λc h=>some (!c,h)
@[simp] def vB(a:EB)(L:Lc)(S:U):tyV:=bG (a L S) λc h=>some (.bl c,h)
@[simp] def Nm(c:EB)(a b:EV)(L:Lc)(S:U):tyV:=bG (c L S) λk h=>if k=true then a L h else b L h
@[simp] def aR(_L:Lc)(S:U):D2:=some ([],S)
@[simp] def aB(a:EV)(r:jB)(L:Lc)(S:U):D2:=bG (a L S) λx h=>bG (r L h) λxs e=>some (x::xs,e)
@[simp] def cQ(g:List P->Option P)(a:jB)(L:Lc)(S:U):tyV:=bG (a L S) λxs h=>(g xs).map λv=>(v,h)
@[simp] def fY(L:Lc)(S:U):Ba:=some (.nx,L,S)
@[simp] def ai(f g:ES)(L:Lc)(S:U):Ba:=match f L S with
 |some (.nx,h,x)=>g h x
 |r=>r
@[simp] def aD(i:Nat)(f:EE)(L:Lc)(S:U):Ba:=bG (f L S) λd h=>some (.nx,L.set i (some d),h)
@[simp] def be(f:EE)(L:Lc)(S:U):Ba:=bG (f L S) λd h=>some (.rt d,L,h)
@[simp] def b8(f:EE)(L:Lc)(S:U):Ba:=bG (f L S) λ_ h=>some (.nx,L,h)
@[simp] def dI(c:EB)(a b:ES)(L:Lc)(S:U):Ba:=bG (c L S) λk h=>if k=true then a L h else b L h
noncomputable def uO:ES:=λ_ _=>none
noncomputable abbrev kj:=P->Lc->Option Lc
noncomputable def av(i:Nat):kj:=λv L=>some (L.set i (some (.p v)))
noncomputable def bZ(g:kj)(b:ES):List P->Lc->U->Option (Fl×Lc×U)
 | [],L,S=>some (.nx,L,S)
 |v::r,L,S=>match g v L with
  |none=>none
  |some a=>match b a S with
   |some (.nx,L2,h)=>bZ g b r L2 h
   |some (.ct,L2,h)=>bZ g b r L2 h
   |some (.bk,L2,h)=>some (.nx,L2,h)
   |x=>x
@[simp] def cf(i:jB)(g:kj)(b:ES)(L:Lc)(S:U):Ba:=bG (i L S) λxs h=>bZ g b xs L h
def hV(c:EB)(b:ES):Nat->Lc->U->Option (Fl×Lc×U)
 |0,_,_=>none
 |n+1,L,S=>bG (c L S) λk a=>if k=true then match b L a with
   |some (.nx,L2,h)=>hV c b n L2 h
   |some (.ct,L2,h)=>hV c b n L2 h
   |some (.bk,L2,h)=>some (.nx,L2,h)
   |x=>x
  else some (.nx,L,a)
def nK(n:Nat)(c:EB)(b:ES):ES:=hV c b n
open PySem PySem.Spec PyProof.Rows L2
section
variable(K:FG)
structure RL(F:Aa)(H:Hp)(m:List Addr)(J:L2.St)(L:Lc):Prop where
 len:J.length=L.length
 at':∀(i:Nat) d,L[i]? = some (some d)->∃v,J[i]? = some (some v)/\RD K F H m d v
inductive tEI(f:EE)(J:L2.St)(H:Hp)(Q:VK):Prop
 |mk (F:Aa) (m:List Addr) (L:Lc) (S:U) (d:D) (S':U) (h0_:Rel K F H m S) (h1_:RL K F H m J L) (h2_:f L S=some (d,S')) (h3_:∀v F' m' H',Stp F m H F' m' H'->Rel K F' H' m' S'->RD K F' H' m' d v->Q v H'):tEI f J H Q
noncomputable def tE(f:EE):TE:=λJ H Q=>tEI K f J H Q
inductive tVI(f:EV)(J:L2.St)(H:Hp)(Q:VK):Prop
 |mk (F:Aa) (m:List Addr) (L:Lc) (S:U) (d:P) (S':U) (h0_:Rel K F H m S) (h1_:RL K F H m J L) (h2_:f L S=some (d,S')) (h3_:∀v F' m' H',Stp F m H F' m' H'->Rel K F' H' m' S'->RP K F' H' d v->Q v H'):tVI f J H Q
noncomputable def tV(f:EV):TE:=λJ H Q=>tVI K f J H Q
inductive tQI(f:EB)(J:L2.St)(H:Hp)(Q:Bool->Hp->Prop):Prop
 |mk (F:Aa) (m:List Addr) (L:Lc) (S:U) (b:Bool) (S':U) (h0_:Rel K F H m S) (h1_:RL K F H m J L) (h2_:f L S=some (b,S')) (h3_:∀F' m' H',Stp F m H F' m' H'->Rel K F' H' m' S'->Q b H'):tQI f J H Q
noncomputable def tQ(f:EB):TT:=λJ H Q=>tQI K f J H Q
inductive tVsI(f:jB)(J:L2.St)(H:Hp)(Q:List V->Hp->Prop):Prop
 |mk (F:Aa) (m:List Addr) (L:Lc) (S:U) (ds:List P) (S':U) (h0_:Rel K F H m S) (h1_:RL K F H m J L) (h2_:f L S=some (ds,S')) (h3_:∀xs F' m' H',Stp F m H F' m' H'->Rel K F' H' m' S'->b7 K F' H' ds xs->Q xs H'):tVsI f J H Q
noncomputable def qm(f:jB):TA:=λJ H Q=>tVsI K f J H Q
def Qz(D:Ends)(F:Aa)(m:List Addr)(J:L2.St)(H:Hp):Fl->Prop
 | .nx=>D.nx J H
 | .bk=>D.bk J H
 | .ct=>D.ct J H
 | .rt d=>∀v,RD K F H m d v->D.rt v H
inductive tStI(f:ES)(D:Ends)(J:L2.St)(H:Hp):Prop
 |mk (F:Aa) (m:List Addr) (L:Lc) (S:U) (fl:Fl) (L':Lc) (S':U) (h0_:Rel K F H m S) (h1_:RL K F H m J L) (h2_:f L S=some (fl,L',S')) (h3_:∀J' F' m' H',Stp F m H F' m' H'->Rel K F' H' m' S'->RL K F' H' m' J' L'->Qz K D F' m' J' H' fl):tStI f D J H
noncomputable def kr(f:ES):TS:=λD J H=>tStI K f D J H
end
section
variable{K:FG}{F F':Aa}{H H':Hp}{m m':List Addr}{J:L2.St}{L:Lc}{S:U}
theorem RL.mono(s:Stp F m H F' m' H')(h:RL K F H m J L):RL K F' H' m' J L:=⟨h.len,λi d e=>by obtain⟨v,x,r⟩:=h.at' i d e;exact⟨v,x,RD.mono s r⟩⟩
theorem RL.set (h:RL K F H m J L) (r:RD K F H m d v) (i:Nat):RL K F H m (J.set i (some v)) (L.set i (some d)):=⟨by rw [db,db];exact h.len,fun j e q=>by
 by_cases x:i=j
 .subst x;by_cases a:i < L.length
  .rw [bv a]at q;cases q;exact⟨v,bv (by rw[h.len];exact a),r⟩
  .rw [pB (by rw[db];lia)]at q;cases q
 .rw [aP x]at q;rw[aP x];exact h.at' j e q⟩
end
section
variable{X:Cx}{e:Expr}{l:Ab}{q:Stmt}{sts:List Stmt}
theorem _root_.L2.Y.imp'(h:Y X e t)(i:∀J H Q,k J H Q->t J H Q):Y X e k:=λp s J H Q I q=>h p s J H Q I (i J H Q q)
theorem _root_.L2.PT.imp'(h:PT X e t)(i:∀J H Q,k J H Q->t J H Q):PT X e k:=λp s J H Q I q=>h p s J H Q I (i J H Q q)
theorem _root_.L2.PW.imp'(h:PW X e t)(i:∀J H Q,k J H Q->t J H Q):PW X e k:=λw p s J H Q I q=>h w p s J H Q I (i J H Q q)
theorem _root_.L2.PA.imp'(h:PA X l t)(i:∀J H Q,k J H Q->t J H Q):PA X l k:=λM p s J H Q I q=>h M p s J H Q I (i J H Q q)
theorem _root_.L2.PS.imp'(h:PS X q t)(i:∀D J H,k D J H->t D J H):PS X q k:=λp s J H D I x=>h p s J H D I (i D J H x)
theorem _root_.L2.oe.imp'(h:oe X sts t)(i:∀D J H,k D J H->t D J H):oe X sts k:=λp s J H D I q=>h p s J H D I (i D J H q)
end
section
variable{X:Cx}{a b c e:Expr}{l:Ab}{fa fb:EV}{fe:EE}{M:Pos}
theorem P8(h:Y X e (tE X.K fe)):Y X e (tV X.K (vE fe)):=h.imp' λJ H Q z=>by obtain⟨F,m,L,S,d,N,r,l,q,k⟩:=z;obtain⟨a,x,n,f⟩:=ag q;refine⟨F,m,L,S,a,x,r,l,n,λv F' m' H' s b t=>?_⟩;obtain⟨B,w,c,_,p⟩:=nI 9 f b t;exact k v B m' H' (s.trans w) c p
theorem MA(h:Y X e (tV X.K fa)):Y X e (tE X.K (O fa)):=h.imp' λJ H Q z=>by obtain⟨F,m,L,S,d,N,r,l,q,k⟩:=z;obtain⟨x,c,a,n⟩:=ag q;cases n;exact⟨F,m,L,S,x,N,r,l,a,λv F' m' H' s f b=>k v F' m' H' s f b⟩
theorem M8(i:Nat)(s:X.N[i]? = some x:=by rfl)(n:Jh X.e.scope x:=by first|exact Or.inl rfl|exact Or.inr (Or.inl rfl)|exact Or.inr (Or.inr rfl))(hd:(x == ("__debug__":Str))=false:=by decide)
  (h:(x == ("__classdict__":Str))=false:=by decide):Y X (.Name x M) (tE X.K (aj i)):=(K7 s n hd h).imp' λJ H Q z=>by
 obtain⟨F,m,L,S,d,N,r,l,q,k⟩:=z;unfold aj at q;split at q
 .rename_i b e;cases q;obtain⟨v,a,f⟩:=l.at' i _ e;exact⟨v,a,k v F m H .refl r f⟩
 .cases q
theorem xC(h:Y X e (tC v))(r:∀F H,RP X.K F H d v):Y X e (tV X.K (vC d)):=h.imp' λJ H Q z=>by obtain⟨F,m,L,S,a,N,x,l,q,k⟩:=z;cases q;exact k v F m H .refl x (r F H)
theorem Qi {i h M}:Y X (.Constant (.int i) h M) (tV X.K (vC (.int i))):=xC La λ_ _=>rfl
theorem Sh {i h M}:Y X (.Constant (.bool i) h M) (tV X.K (vC (.bl i))):=xC NS λ_ _=>rfl
theorem Qc {h M}:Y X (.Constant .none h M) (tV X.K (vC .non)):=xC K' λ_ _=>rfl
theorem P_ {i h M}:Y X (.Constant (.str i) h M) (tV X.K (vC (.str i))):=xC K8 λ_ _=>rfl
inductive rPI(K:FG)(g:P->P->Option P)(x:V)(y:V)(H:Hp)(Q:VK):Prop
 |mk (F:Aa) (dx:P) (dy:P) (d:P) (h0_:(∀a,F a->H a≠none)) (h1_:RP K F H dx x) (h2_:RP K F H dy y) (h3_:g dx dy=some d) (h4_:∀v F' H',Grow F H F' H'->RP K F' H' d v->Q v H'):rPI K g x y H Q
noncomputable def rP(K:FG)(g:P->P->Option P):R2:=λx y H Q=>rPI K g x y H Q
def oU(X:Cx)(f:Value->Value->Sem Value)(g:P->P->Option P):Prop:=i_ X f (rP X.K g)
theorem uJ(h:tV X.K (kZ g fa fb) J H Q):Kt (rP X.K g) (tV X.K fa) (tV X.K fb) J H Q:=by
 obtain⟨F,m,L,S,d,N,r,l,q,k⟩:=h;obtain⟨x,s,j,q⟩:=ag q;obtain⟨y,i,o,q⟩:=ag q;refine⟨F,m,L,S,x,s,r,l,j,λv C K z b G A=>?_⟩;refine⟨C,K,L,s,y,i,G,l.mono b,o,λu B P I c f D=>?_⟩;cases e:g x y with
 |none=>rw[e]at q;cases q
 |some a=>rw[e]at q;cases q;refine⟨B,x,y,_,f.ft,RP.mono c A,D,e,λw t p n E=>?_⟩;exact k w t P p (b.trans (c.trans n.stp)) (f.grow n) E
theorem Se(o:oU X (binaryOp k) g)(x:Y X a (tV X.K fa))(e:Y X b (tV X.K fb)):Y X (.BinOp a k b M) (tV X.K (kZ g fa fb)):=
 (NR o x e).imp' λ_ _ _ h=>uJ h
theorem Qk(o:oU X (compareOp k) g)(x:Y X a (tV X.K fa))(e:Y X b (tV X.K fb))(m:behindInMarks k b=false):Y X (.Compare a [k] [b] M) (tV X.K (kZ g fa fb)):=
 (Bt o x e m).imp' λ_ _ _ h=>uJ h
theorem D9(h:tQ X.K (bV (kZ g fa fb)) J H Q):D_ (Kt (rP X.K g) (tV X.K fa) (tV X.K fb)) J H Q:=by
 refine uJ ?_;obtain⟨F,m,L,S,d,N,r,l,q,k⟩:=h;obtain⟨x,n,e,q⟩:=ag q;cases x with
 |bl b=>cases q;exact⟨F,m,L,S,_,_,r,l,e,λv F' m' H' s a p=>⟨_,p,k F' m' H' s a⟩⟩
 |_=>cases q
theorem P6(o:oU X (compareOp k) g)(x:Y X a (tV X.K fa))(e:Y X b (tV X.K fb))(m:behindInMarks k b=false):PT X (.Compare a [k] [b] M) (tQ X.K (bV (kZ g fa fb))):=
 (Bo o x e m).imp' λ_ _ _ h=>D9 h
variable{qa qb:EB}{j:Ab}
theorem M5(h:PT X a (tQ X.K qa)):PW X (.BoolOp .And [a] M) (tQ X.K qa):=HN h
theorem P4(h:PT X a (tQ X.K qa)):PW X (.BoolOp .Or [a] M) (tQ X.K qa):=KQ h
theorem P7(n:PT X a (tQ X.K qa))(f:PW X (.BoolOp .And (b::j) M) (tQ X.K qb)):PW X (.BoolOp .And (a::b::j) M) (tQ X.K (kJ qa qb)):=
 (KS n f).imp' λJ H Q z=>by
  obtain⟨F,m,L,S,d,N,r,l,q,k⟩:=z;obtain⟨c,h,e,q⟩:=ag q;refine⟨F,m,L,S,c,h,r,l,e,λF' m' H' s x=>?_⟩;cases c with
  |true=>rw[ac rfl]at q ⊢;exact⟨F',m',L,h,d,N,x,l.mono s,q,λB t I v p=>k B t I (s.trans v) p⟩
  |false=>rw[af bx]at q ⊢;cases q;exact k F' m' H' s x
theorem Sc(n:PT X a (tQ X.K qa))(f:PW X (.BoolOp .Or (b::j) M) (tQ X.K qb)):PW X (.BoolOp .Or (a::b::j) M) (tQ X.K (Dc qa qb)):=
 (NN n f).imp' λJ H Q z=>by
  obtain⟨F,m,L,S,d,N,r,l,q,k⟩:=z;obtain⟨c,h,e,q⟩:=ag q;refine⟨F,m,L,S,c,h,r,l,e,λF' m' H' s x=>?_⟩;cases c with
  |false=>rw[af bx]at q ⊢;exact⟨F',m',L,h,d,N,x,l.mono s,q,λB t I v p=>k B t I (s.trans v) p⟩
  |true=>rw[ac rfl]at q ⊢;cases q;exact k F' m' H' s x
theorem P5(h:PT X a (tQ X.K qa)):PT X (.UnaryOp .Not a M) (tQ X.K (vD qa)):=
 (KU h).imp' λJ H Q z=>by obtain⟨F,m,L,S,d,N,r,l,q,k⟩:=z;obtain⟨c,n,e,q⟩:=ag q;cases q;exact⟨F,m,L,S,c,N,r,l,e,λF' m' H' s x=>k F' m' H' s x⟩
theorem Nf {k} (h:Y X a (tV X.K (vB qa))):Y X (.BoolOp k [a] M) (tV X.K (vB qa)):=K9 h
theorem vU(h:tQ X.K qa J H k)(hk:∀b H',k b H'->Q (.bl b) H'):tV X.K (vB qa) J H Q:=by obtain⟨F,m,L,S,d,N,r,l,q,x⟩:=h;exact⟨F,m,L,S,.bl d,N,r,l,by unfold vB;rw[q];rfl,λv F' m' H' s a p=>by rw[show v=.bl d from p];exact hk _ _ (x F' m' H' s a)⟩
theorem By(h:tV X.K (vB qa) J H Q):tQ X.K qa J H λb H'=>Q (.bl b) H':=by obtain⟨F,m,L,S,d,N,r,l,q,k⟩:=h;obtain⟨c,a,e,q⟩:=ag q;cases q;exact⟨F,m,L,S,c,N,r,l,e,λF' m' H' s x=>k _ F' m' H' s x rfl⟩
theorem Ql(f:Y X a (tV X.K (vB qa)))(t:Y X (.BoolOp .And (b::j) M) (tV X.K (vB qb))):Y X (.BoolOp .And (a::b::j) M) (tV X.K (vB (kJ qa qb))):=
 (Le f t).imp' λJ H Q h=>by
  obtain⟨F,m,L,S,d,N,r,l,q,k⟩:=By h;obtain⟨c,x,n,q⟩:=ag q;refine vU (k:=λc z=>if c=true then tV X.K (vB qb) J z Q else Q (.bl false) z) ⟨F,m,L,S,c,x,r,l,n,λF' m' H' s e=>?_⟩ λb H' q=>⟨b,rfl,q⟩;cases c with
  |true=>rw[ac rfl]at q ⊢;exact vU (k:=λb I=>Q (.bl b) I) ⟨F',m',L,x,d,N,e,l.mono s,q,λB p I w v=>k B p I (s.trans w) v⟩ λ_ _ q=>q
  |false=>rw[af bx]at q ⊢;cases q;exact k F' m' H' s e
theorem Sd(f:Y X a (tV X.K (vB qa)))(t:Y X (.BoolOp .Or (b::j) M) (tV X.K (vB qb))):Y X (.BoolOp .Or (a::b::j) M) (tV X.K (vB (Dc qa qb))):=
 (NQ f t).imp' λJ H Q h=>by
  obtain⟨F,m,L,S,d,N,r,l,q,k⟩:=By h;obtain⟨c,x,n,q⟩:=ag q;refine vU (k:=λc z=>if c=true then Q (.bl true) z else tV X.K (vB qb) J z Q) ⟨F,m,L,S,c,x,r,l,n,λF' m' H' s e=>?_⟩ λb H' q=>⟨b,rfl,q⟩;cases c with
  |false=>rw[af bx]at q ⊢;exact vU (k:=λb I=>Q (.bl b) I) ⟨F',m',L,x,d,N,e,l.mono s,q,λB p I w v=>k B p I (s.trans w) v⟩ λ_ _ q=>q
  |true=>rw[ac rfl]at q ⊢;cases q;exact k F' m' H' s e
theorem Qb(x:Y X a (tV X.K (vB qa))):Y X (.UnaryOp .Not a M) (tV X.K (vB (vD qa))):=
 (K_ x).imp' λJ H Q h=>by obtain⟨F,m,L,S,d,N,r,l,q,k⟩:=By h;obtain⟨c,f,e,q⟩:=ag q;cases q;exact vU (k:=λb H'=>Q (.bl (!b)) H') ⟨F,m,L,S,c,N,r,l,e,λF' m' H' s n=>k F' m' H' s n⟩ λb H' q=>⟨b,rfl,q⟩
theorem A7(h:Y X e (tV X.K fa)):Y X e (tV X.K (vB (bV fa))):=h.imp' λJ H Q h=>by
 obtain⟨F,m,L,S,d,N,r,l,q,k⟩:=By h;obtain⟨x,f,a,q⟩:=ag q;cases x with
 |bl b=>cases q;exact⟨F,m,L,S,_,_,r,l,a,λv F' m' H' s n p=>by cases (show v=.bl d from p);exact k F' m' H' s n⟩
 |_=>cases q
theorem Sg(u:PT X c (tQ X.K qa))(p:Y X a (tV X.K fa))(w:Y X b (tV X.K fb)):Y X (.IfExp c a b M) (tV X.K (Nm qa fa fb)):=
 (EJ u p w).imp' λJ H Q z=>by
  obtain⟨F,m,L,S,d,N,r,l,q,k⟩:=z;obtain⟨c,h,t,q⟩:=ag q;refine⟨F,m,L,S,c,h,r,l,t,λF' m' H' s f=>?_⟩;cases c with
  |true=>rw[ac rfl]at q ⊢;exact⟨F',m',L,h,d,N,f,l.mono s,q,λv B x I n e=>k v B x I (s.trans n) e⟩
  |false=>rw[af bx]at q ⊢;exact⟨F',m',L,h,d,N,f,l.mono s,q,λv B x I n e=>k v B x I (s.trans n) e⟩
variable{fs:jB}
theorem Jf:PA X [] (qm X.K aR):=ik.imp' λJ H Q h=>by obtain⟨F,m,L,S,d,N,r,l,q,k⟩:=h;cases q;exact k [] F m H .refl r rfl
theorem Gw(c:Y X e (tV X.K fa))(t:PA X l (qm X.K fs))(p:starEach (e::l) X.e=(false,eval e X.e)::starEach l X.e:=by rfl):PA X (e::l) (qm X.K (aB fa fs)):=
 (eW c t p).imp' λJ H Q w=>by obtain⟨F,m,L,S,d,N,r,h,q,k⟩:=w;obtain⟨x,a,f,q⟩:=ag q;obtain⟨xs,K,b,q⟩:=ag q;cases q;refine⟨F,m,L,S,x,a,r,h,f,λv C u z s y i=>?_⟩;refine⟨C,u,L,a,xs,N,y,h.mono s,b,λT B g I n o j=>?_⟩;exact k (v::T) B g I (s.trans n) o ⟨v,T,rfl,RP.mono n i,j⟩
noncomputable def few(xs:List α):Bool:=decide (xs.length≤1000000)
theorem lK{α:Type}{xs:List α}(h:few xs=true):xs.length≤sizeLine:=au (aJ h) (by decide)
@[simp] def aK(a:jB)(L:Lc)(S:U):tyV:=bG (a L S) λxs h=>if few xs=true then some (.tup xs,h) else none
@[simp] def bu(a:jB)(L:Lc)(S:U):tyV:=bG (a L S) λxs h=>if few xs=true then some (.lst xs,h) else none
@[simp] def dG(a:jB)(L:Lc)(S:U):vV:=bG (a L S) λxs h=>if few xs=true then some (.ref h.length,h++[.lst (xs.map .p)]) else none
theorem P9 {u} (h:PA X l (qm X.K fs)):Y X (.Tuple l u M) (tV X.K (aK fs)):=(uR h).imp' λJ H Q n=>by
 obtain⟨F,m,L,S,d,N,r,x,q,k⟩:=n;obtain⟨xs,v,s,q⟩:=ag q;split at q
 .rename_i f;cases q;refine⟨F,m,L,S,xs,N,r,x,s,λT C b z t c e=>⟨by rw[<- e.length];exact lK f,λp a=>?_⟩⟩;exact k (.ref p) C b _ (t.trans (cg a).stp) (c.grow (cg a)) (.newTup a e)
 .cases q
theorem Qe(h:PA X l (qm X.K fs)):Y X (.List l M) (tV X.K (bu fs)):=(EH h).imp' λJ H Q n=>by
 obtain⟨F,m,L,S,d,N,r,x,q,k⟩:=n;obtain⟨xs,v,s,q⟩:=ag q;split at q
 .rename_i f;cases q;refine⟨F,m,L,S,xs,N,r,x,s,λT C b z t c e=>⟨by rw[<- e.length];exact lK f,λp a=>?_⟩⟩;exact k (.ref p) _ b _ (t.trans (cj a).stp) (c.grow (cj a)) (.newLst a e)
 .cases q
theorem Jl(h:PA X l (qm X.K fs)):Y X (.List l M) (tE X.K (dG fs)):=(EH h).imp' λJ H Q v=>by
 obtain⟨F,m,L,S,d,N,r,x,q,k⟩:=v;obtain⟨xs,b,c,q⟩:=ag q;split at q
 .rename_i t;cases q;refine⟨F,m,L,S,xs,b,r,x,c,λT C a z w n s=>⟨by rw[<- s.length];exact lK t,λp e=>?_⟩⟩;have f:Stp C a z C (a++[p]) (bN z p (.lst T)):=dF e;refine k (.ref p) C (a++[p]) _ (w.trans f) (n.own e ⟨T,aF,cN.ofP (b7.mono f s)⟩) ⟨p,rfl,?_⟩;rw[<- n.len,bI (ah _)];simp
 .cases q
def rC(K:FG)(g:List P->Option P):List V->Hp->VK->Prop:=λxs H Q=>∃F s d,(∀a,F a->H a≠none)/\b7 K F H s xs/\g s=some d/\∀v F' H',Grow F H F' H'->RP K F' H' d v->Q v H'
theorem xQ(h:tV X.K (cQ g fs) J H Q):qm X.K fs J H λT z=>rC X.K g T z Q:=by
 obtain⟨F,m,L,S,d,N,r,l,q,k⟩:=h;obtain⟨xs,t,n,q⟩:=ag q;cases e:g xs with
 |none=>rw[e]at q;cases q
 |some x=>rw[e]at q;cases q;exact⟨F,m,L,S,xs,_,r,l,n,λT C f z c s b=>⟨C,xs,_,s.ft,b,e,λv B I a p=>k v B f I (c.trans a.stp) (s.grow a) p⟩⟩
theorem Kh{x:Str}{p:Pos}{id:String}{g:List P->Option P}(c:eE X (.builtin id) (rC X.K g))(k:Gl X x)(m:X.g x=none)(v:bootBuiltins x=some (.builtin id))(s:PA X (e::l) (qm X.K fs))(f:x≠"__name__":=by decide)(d:(x == ("__debug__":Str))=false:=by decide)
  (n:starEach (e::l) X.e=(false,eval e X.e)::starEach l X.e:=by rfl) (a:(backTo M (starEach l X.e)).any (·.1)=false:=by rfl):Y X (.Call (.Name x p) (e::l) [] M) (tV X.K (cQ g fs)):=
 (mK c k m v s f d n a).imp' λ_ _ _ h=>xQ h
theorem xI(c:eE X (.type k) (rC X.K g))(f:Gl X x)(m:X.g x=none)(v:bootBuiltins x=some (.type k))(s:PA X (e::l) (qm X.K fs))(b:x≠"__name__":=by decide)(d:(x == ("__debug__":Str))=false:=by decide)
  (n:starEach (e::l) X.e=(false,eval e X.e)::starEach l X.e:=by rfl) (a:(backTo M (starEach l X.e)).any (·.1)=false:=by rfl):Y X (.Call (.Name x p) (e::l) [] M) (tV X.K (cQ g fs)):=
 (nO c f m v s b d n a).imp' λ_ _ _ h=>xQ h
noncomputable def Pa(K:FG)(g:List P->Option P):Sp:=λT H Q _=>rC K g T H Q
theorem Nd(G:FnOk X.p X.w X.K X.g X.b og k f t ps (Pa X.K g))(j:Room k X.A)(u:Gl X x)(i:X.g x=some (.ref f))(hk:dD X.K (.ref f)=true)(v:Binds X.K t ps [])
  (c:PA X (e::l) (qm X.K fs)) (d:(x == ("__debug__":Str))=false:=by decide) (w:starEach (e::l) X.e=(false,eval e X.e)::starEach l X.e:=by rfl) (n:(backTo M (starEach l X.e)).any (·.1)=false:=by rfl) :
  Y X (.Call (.Name x p) (e::l) [] M) (tV X.K (cQ g fs)):=
 (pG G j u i hk v .nil qG c d w n).imp' λJ H Q h=>by obtain⟨F,m,L,S,b,N,r,a,q,k⟩:=xQ h;exact⟨F,m,L,S,b,N,r,a,q,λxs F' m' H' s y p=>by show Pa X.K g (xs++[]) H' Q E0;rw[cP];exact k xs F' m' H' s y p⟩
end
section
variable{X:Cx}{a b e:Expr}{q:Stmt}{j bs cs:List Stmt}{f g:ES}{fe:EE}{qa:EB}{M:Pos}
theorem P0:oe X [] (kr X.K fY):=HQ.imp' λD J H h=>by obtain⟨F,m,L,S,f,x,N,r,l,q,k⟩:=h;cases q;exact k J F m H .refl r l
theorem M0(o:PS X q (kr X.K f))(K:oe X j (kr X.K g)):oe X (q::j) (kr X.K (ai f g)):=(Ew o K).imp' λD J H P=>by
 obtain⟨F,m,L,S,u,w,N,r,l,h,k⟩:=P;cases e:f L S with
 |none=>rw[show ai f g L S=none by unfold ai;rw[e]]at h;cases h
 |some x=>
  obtain⟨i,p,v⟩:=x;cases i with
  |nx=>
   have n:g p v=some (u,w,N):=by have:=h;unfold ai at this;rw[e]at this;exact this
   exact⟨F,m,L,S,.nx,p,v,r,l,e,λt C s z c b a=>⟨C,s,p,v,u,w,N,b,a,n,λy B E I M G A=>k y B E I (c.trans M) G A⟩⟩
  |rt d=>
   have n:some (Fl.rt d,p,v)=some (u,w,N):=by have:=h;unfold ai at this;rw[e]at this;exact this
   cases n;exact⟨F,m,L,S,_,_,_,r,l,e,λt C s z c b a=>k t C s z c b a⟩
  |bk=>
   have n:some (Fl.bk,p,v)=some (u,w,N):=by have:=h;unfold ai at this;rw[e]at this;exact this
   cases n;exact⟨F,m,L,S,_,_,_,r,l,e,λt C s z c b a=>k t C s z c b a⟩
  |ct=>
   have n:some (Fl.ct,p,v)=some (u,w,N):=by have:=h;unfold ai at this;rw[e]at this;exact this
   cases n;exact⟨F,m,L,S,_,_,_,r,l,e,λt C s z c b a=>k t C s z c b a⟩
theorem PZ(h:PS X q (kr X.K f)):oe X [q] (kr X.K f):=HP h
theorem JP(h:Y X e (tE X.K fe)):PS X (.Return (some e) M) (kr X.K (be fe)):=(KY h).imp' λD J H z=>by obtain⟨F,m,L,S,b,n,N,r,l,q,k⟩:=z;obtain⟨d,f,x,q⟩:=ag q;cases q;exact⟨F,m,L,S,d,N,r,l,x,λv F' m' H' s a p=>k J F' m' H' s a (l.mono s) v p⟩
theorem MZ(h:Y X e (tE X.K fe))(a:swapsWith e none M.line X.e=pure false:=by rfl):PS X (.Expr e M) (kr X.K (b8 fe)):=(HS h a).imp' λD J H z=>by obtain⟨F,m,L,S,c,f,N,r,l,q,k⟩:=z;obtain⟨d,b,x,q⟩:=ag q;cases q;exact⟨F,m,L,S,d,N,r,l,x,λv F' m' H' s n p=>k J F' m' H' s n (l.mono s)⟩
theorem xH(i:Nat)(n:X.N.Nodup)(h:Y X e (tE X.K fe))(b:X.N[i]? = some x:=by rfl)(w:Loc X.e.scope x:=by first|exact Or.inl rfl|exact Or.inr rfl)(c:swapsWith e (some (.Name x t)) M.line X.e=pure false:=by rfl)
  (f:X.fn x=true\/X.e.scope.names.lookup x=some .local:=by first|exact .inl rfl|exact .inr rfl|assumption):PS X (.Assign [.Name x t] e M) (kr X.K (aD i fe)):=
 (KW n b w h c f).imp' λD J H z=>by obtain⟨F,m,L,S,y,g,N,r,l,q,k⟩:=z;obtain⟨d,j,a,q⟩:=ag q;cases q;exact⟨F,m,L,S,d,N,r,l,a,λv F' m' H' s u p=>k (J.set i (some v)) F' m' H' s u ((l.mono s).set p i)⟩
theorem Sb(i:PT X c (tQ X.K qa))(w:oe X bs (kr X.K f))(u:oe X cs (kr X.K g)):PS X (.If c bs cs M) (kr X.K (dI qa f g)):=(NO i w u).imp' λD J H z=>by
 obtain⟨F,m,L,S,p,t,N,r,l,q,k⟩:=z;obtain⟨c,x,d,q⟩:=ag q;refine⟨F,m,L,S,c,x,r,l,d,λF' m' H' s v=>?_⟩;cases c with
 |true=>rw[ac rfl]at q ⊢;exact⟨F',m',L,x,p,t,N,v,l.mono s,q,λh B e I b n a=>k h B e I (s.trans b) n a⟩
 |false=>rw[af bx]at q ⊢;exact⟨F',m',L,x,p,t,N,v,l.mono s,q,λh B e I b n a=>k h B e I (s.trans b) n a⟩
theorem JQ:PS X q (kr X.K uO):=Ey.imp' λD J H z=>by obtain⟨F,m,L,S,f,x,N,r,l,h,k⟩:=z;cases h
inductive gTI(K:FG)(g:kj)(x:V)(J:L2.St)(H:Hp)(Q:L2.St->Hp->Prop):Prop
 |mk (F:Aa) (m:List Addr) (L:Lc) (v:P) (L':Lc) (h0_:RL K F H m J L) (h1_:RP K F H v x) (h2_:g v L=some L') (h3_:∀J',RL K F H m J' L'->Q J' H):gTI K g x J H Q
noncomputable def gT(K:FG)(g:kj):TG:=λx J H Q=>gTI K g x J H Q
theorem _root_.L2.PG.imp'(h:PG X tg t)(i:∀v J H Q,k v J H Q->t v J H Q):PG X tg k:=λp s J H v u Q I r q=>h p s J H v u Q I r (i v J H Q q)
theorem L0(i:Nat)(h:X.N.Nodup)(a:X.N[i]? = some x:=by rfl)(e:Loc X.e.scope x:=by first|exact Or.inl rfl|exact Or.inr rfl)(f:X.fn x=true\/X.e.scope.names.lookup x=some .local:=by first|exact .inl rfl|exact .inr rfl|assumption) :
  PG X (.Name x M) (gT X.K (av i)):=(H_ h a e f).imp' λv J H Q z=>by
 obtain⟨F,m,L,d,s,l,p,q,k⟩:=z;cases q;exact k _ (l.set (d:=.p d) p i)
def Mw(K:FG)(a:It)(T:List P)(F:Aa)(m:List Addr)(H:Hp):Prop:=∀B s I,Stp F m H B s I ->
 (∀(i:Nat) v,T[i]? = some v->a.go i I/\∀x h,a.yld i I x h->∃e,Grow B I e h/\RP K e h v x)/\a.stop T.length I
inductive tII(K:FG)(f:jB)(J:L2.St)(H:Hp)(R:It->Hp->Prop):Prop
 |mk (F:Aa) (m:List Addr) (L:Lc) (S:U) (vs:List P) (S':U) (h0_:Rel K F H m S) (h1_:RL K F H m J L) (h2_:f L S=some (vs,S')) (h3_:∀J9 F' m' H',Stp F m H F' m' H'->Rel K F' H' m' S'->Mw K J9 vs F' m' H'->R J9 H'):tII K f J H R
noncomputable def tI(K:FG)(f:jB):TI:=λJ H R=>tII K f J H R
theorem P1{tg iter:Expr}{fi:jB}{g:kj}{b:List Stmt}{fb:ES}(hp:PassesOwn (model X.p X.w) X.A X.e X.xe)(hc:X.c=true)(hi:PI X tg iter (tI X.K fi))(hg:PG X tg (gT X.K g))(hb:oe X b (kr X.K fb))
  (hs:∀x,foldedSetIterable iter X.e x=pure x:=by intro _;rfl):PS X (.For tg iter b [] M) (kr X.K (cf fi g fb)):=
 (KZ hp hc hi hg hb hs).imp' λD J H hz=>by
  obtain⟨F,m,L,S,fl,L',N,r,l,q,k⟩:=hz;obtain⟨T,S1,e1,q⟩:=ag q;refine⟨F,m,L,S,T,S1,r,l,e1,fun J9 C u z P r1 it=>?_⟩;refine⟨fun i n Q I=>n=T.length-i/\i≤T.length/\∃B s L2 f,Stp C u z B s I/\Rel X.K B I s f/\RL X.K B I s Q L2/\bZ g fb (T.drop i) L2 f=some (fl,L',N),
   ⟨T.length,rfl,bX _,C,u,L,S1,.refl,r1,l.mono P,by rw[mf];exact q⟩,?_⟩
  rintro i n Q I ⟨rfl,hi,B,s,L2,f,s2,r2,l2,a⟩;obtain⟨go,o⟩:=it B s I s2;by_cases t:i < T.length
  .right;have hv:T[i]? = some T[i]:=by simp[t]
   rw[Ao t]at a;obtain⟨hgo,hy⟩:=go i _ hv;refine⟨hgo,λJ3 c=>∃n',n' < T.length-i/\(n'=T.length-(i+1)/\i+1≤T.length/\∃B s L2 f,Stp C u z B s c/\Rel X.K B c s f/\RL X.K B c s J3 L2/\bZ g fb (T.drop (i+1)) L2 f=some (fl,L',N)),λ_ _ h=>h,λx c y=>?_⟩;obtain⟨G,gr,p3⟩:=hy x c y;unfold bZ at a;cases eg:g T[i] L2 with
   |none=>rw[eg]at a;cases a
   |some R=>
    rw[eg]at a;dsimp only at a;refine⟨G,s,L2,T[i],R,l2.mono gr.stp,p3,eg,λJ3 l3=>?_⟩;have A:Stp C u z G s c:=s2.trans gr.stp;have r3:=r2.grow gr;cases Z:fb R f with
    |none=>rw[Z]at a;cases a
    |some h=>
     obtain⟨p,V,W⟩:=h;rw[Z]at a;refine⟨G,s,R,f,p,V,W,r3,l3,Z,λJ4 v j H4 E K w=>?_⟩;cases p with
     |nx=>exact⟨T.length-(i+1),by lia,rfl,t,v,j,V,W,A.trans E,K,w,a⟩
     |ct=>exact⟨T.length-(i+1),by lia,rfl,t,v,j,V,W,A.trans E,K,w,a⟩
     |bk=>cases a;exact k J4 v j H4 (P.trans (A.trans E)) K w
     |rt d=>cases a;exact k J4 v j H4 (P.trans (A.trans E)) K w
  .left;have e:i=T.length:=by lia
   subst e;rw[pj]at a;cases a;exact⟨o,k Q B s I (P.trans s2) r2 l2⟩
theorem JO(hp:PassesOwn (model X.p X.w) X.A X.e X.xe)(hc:PT X c (tQ X.K qa))(Z:oe X t (kr X.K fb)):PS X (.While c t [] M) (kr X.K (nK n qa fb)):=
 (Ex hp hc Z).imp' λD J H hz=>by
  obtain⟨F,m,L,S,G,E,N,r,l,q,k⟩:=hz;refine⟨λn j I=>∃B x L2 a,Stp F m H B x I/\Rel X.K B I x a/\RL X.K B I x j L2/\hV qa fb n L2 a=some (G,E,N),⟨n,F,m,L,S,.refl,r,l,q⟩,?_⟩;rintro n j I ⟨B,x,L2,a,b,r2,A,R⟩;cases n with
  |zero=>cases R
  |succ n=>
   obtain⟨c,o,W,h⟩:=ag (show bG (qa L2 a) _=_ from R);refine⟨B,x,L2,a,c,o,r2,A,W,λC Q V s T=>?_⟩;cases c with
   |false=>rw[af bx]at h ⊢;cases h;exact k j C Q V (b.trans s) T (A.mono s)
   |true=>
    rw[ac rfl]at h ⊢;cases P:fb L2 o with
    |none=>rw[P]at h;cases h
    |some z=>
     obtain⟨f,y,K⟩:=z;rw[P]at h;refine⟨λv e=>∃m',m' < n+1/\∃B x L2 a,Stp F m H B x e/\Rel X.K B e x a/\RL X.K B e x v L2/\hV qa fb m' L2 a=some (G,E,N),λ_ _ z=>z,C,Q,L2,o,f,y,K,T,A.mono s,P,λv p u e i g w=>?_⟩;cases f with
     |nx=>exact⟨n,jH _,p,u,y,K,b.trans (s.trans i),g,w,h⟩
     |ct=>exact⟨n,jH _,p,u,y,K,b.trans (s.trans i),g,w,h⟩
     |bk=>cases h;exact k v p u e (b.trans (s.trans i)) g w
     |rt d=>cases h;exact k v p u e (b.trans (s.trans i)) g w
end
theorem Stp.toGrow(s:Stp F [] H F' m' H')(f:∀a,F' a->H' a≠none):Grow F H F' H':=
 ⟨fun b o h=>s.oth b o h (by simp),s.frz,fun b h=>by
  rcases s.nf b h with q|q|q
  .exact .inl q
  .exact .inr ⟨q,f b h⟩
  .simp at q⟩
theorem lp{α:Prop}{β:Type}{d:β}(h:(none:Option β)=some d):α:=nomatch h
noncomputable def iu(n:Nat):Bool:=decide (n≤1000000)
theorem iU(h:iu n=true):n≤sizeLine:=au (aJ h) (by decide)
section
variable{X:Cx}
def vr:P->P->Option P
 | .int i,.int j=>some (.int (i+j))
 | .str x,.str y=>if iu (x.length+y.length)=true then some (.str (x++y)) else none
 | .tup xs,.tup s=>if (!xs.isEmpty && iu (xs.length+s.length))=true then some (.tup (xs++s)) else none
 | .lst xs,.lst s=>if iu (xs.length+s.length)=true then some (.lst (xs++s)) else none
 |_,_=>none
theorem N9:oU X (binaryOp .Add) vr:=by
 intro n s J H x y v u Q I o S h;obtain⟨F,E,t,d,L,w,g,q,k⟩:=h;cases E with
 |int i=>
  cases t with
  |int j=>cases q;cases (show x=.int i from w);cases (show y=.int j from g);exact Ll n s J H _ _ v u Q I o S ⟨i,j,rfl,rfl,k _ F H .refl rfl⟩
  |_=>exact lp q
 |str i=>
  cases t with
  |str j=>
   simp only[vr]at q;split at q
   .rename_i c;cases q;cases (show x=.str i from w);cases (show y=.str j from g);exact x' n s J H _ _ v u Q I o S ⟨i,j,rfl,rfl,iU c,k _ F H .refl rfl⟩
   .cases q
  |_=>exact lp q
 |tup B=>
  cases t with
  |tup l=>
   simp only[vr]at q;split at q
   .rename_i c;rw[ar]at c;cases q;obtain⟨a,xs,rfl,K,r⟩:=w;obtain⟨b,A,rfl,P,m⟩:=g;have C:=r.length;have D:=m.length;have G:xs≠[]:=λz=>by
     subst z;have:B=[]:=g_ C;subst this;simp at c
    refine Ii n s J H _ _ v u Q I o S ⟨a,b,xs,A,rfl,rfl,K.sq,P.sq,G,by rw[<- C,<- D];exact iU c.2,λz=>?_,λ_ p f=>?_⟩
    .subst z;have e:l=[]:=g_ D;subst e;refine k _ F H .refl ?_;rw[cP];exact⟨a,xs,rfl,K,r⟩
    .exact k _ F _ (cg f) (.newTup f (r.append m))
   .cases q
  |_=>exact lp q
 |lst B=>
  cases t with
  |lst l=>
   simp only[vr]at q;split at q
   .rename_i c;cases q;obtain⟨a,xs,rfl,K,r⟩:=w;obtain⟨b,A,rfl,P,m⟩:=g;exact Lk n s J H _ _ v u Q I o S ⟨a,b,xs,A,rfl,rfl,K.2,P.2,by rw[<- r.length,<- m.length];exact iU c,λp f=>k _ _ _ (cj f) (.newLst f (r.append m))⟩
   .cases q
  |_=>exact lp q
 |_=>exact lp q
noncomputable def GD(c:Int->Int->Bool)(g:Int->Int->P):P->P->Option P
 | .int i,.int j=>if c i j=true then some (g i j) else none
 |_,_=>none
@[simp] theorem IW(c:Int->Int->Bool)(g:Int->Int->P)(i j:Int):GD c g (.int i) (.int j)=if c i j=true then some (g i j) else none:=rfl
theorem wf{f:Value->Value->Sem Value}{C:Int->Int->Prop}{a:Int->Int->V}{c:Int->Int->Bool}{g:Int->Int->P}(o:i_ X f (rI C a))(b:∀i j,c i j=true->C i j)(m:∀K F H i j,RP K F H (g i j) (a i j)):oU X f (GD c g):=by
 intro p s J H x y v u Q I l z h;obtain⟨F,e,n,d,S,t,w,q,k⟩:=h;cases e with
 |int i=>
  cases n with
  |int j=>
   rw[IW]at q;split at q
   .rename_i r;cases q;cases (show x=.int i from t);cases (show y=.int j from w);exact o p s J H _ _ v u Q I l z ⟨i,j,rfl,rfl,b i j r,k _ F H .refl (m _ _ _ _ _)⟩
   .cases q
  |_=>exact lp q
 |_=>exact lp q
theorem qF(h:i_ X f (HK k)):i_ X f (rI (λ_ _=>True) k):=λp s J H x y v u Q I r n ⟨i,j,e,a,_,q⟩=>h p s J H x y v u Q I r n ⟨i,j,e,a,q⟩
noncomputable abbrev DQ:Int->Int->Bool:=λ_ _=>true
abbrev Ma:=GD DQ λi j=>.int (i-j)
theorem NX:oU X (binaryOp .Sub) Ma:=wf (qF Lf) (λ_ _ _=>trivial) λ_ _ _ _ _=>rfl
noncomputable abbrev K3:Int->Int->Bool:=λ_ j=>decide (0 < j) && decide (j < 1152921504606846976)
theorem EY:i_ X (binaryOp .FloorDiv) (rI (λ_ j=>0 < j/\j < 1152921504606846976) λi j=>.int (i / j)):=Pe λi j _ _ _ _ _ h q=>by have a:(0:Int) < j:=h.1;have e:j < 1152921504606846976:=h.2;have x:j.natAbs.log2 < 9000:=bF ((zG (by lia)).mpr (show j.natAbs < 2 ^ 60 by lia)) (by decide);exact floordiv_int (by lia) (by rw[Int.fdiv_eq_ediv_of_nonneg i (by lia)];exact q) (.inl (PyProof.noPylong_of_log2 x))
abbrev yC:=GD K3 λi j=>.int (i / j)
theorem Ij:oU X (binaryOp .FloorDiv) yC:=wf EY (λi j h=>by rw[ar]at h;exact⟨aJ h.1,aJ h.2⟩) λ_ _ _ _ _=>rfl
abbrev Me:=GD (λ_ j=>decide (0 < j)) λi j=>.int (i % j)
theorem N1:oU X (binaryOp .Mod) Me:=wf Li (λi j h=>aJ h) λ_ _ _ _ _=>rfl
abbrev Mc:=GD (λi j=>decide (0≤j) && decide (j≤1000000) && decide (i.natAbs < 2 ^ 64)) λi j=>.int (i ^ j.toNat)
theorem NY:oU X (binaryOp .Pow) Mc:=wf Lh (λi j h=>by simp only[ar]at h;exact⟨aJ h.1.1,aJ h.1.2,aJ h.2⟩) λ_ _ _ _ _=>rfl
abbrev IV:=GD DQ λi j=>.bl (decide (i < j))
theorem QS:oU X (compareOp .Lt) IV:=wf (qF NT) (λ_ _ _=>trivial) λ_ _ _ _ _=>rfl
abbrev OL:=GD DQ λi j=>.bl (decide (i≤j))
theorem QT:oU X (compareOp .LtE) OL:=wf (qF NU) (λ_ _ _=>trivial) λ_ _ _ _ _=>rfl
abbrev Rn:=GD DQ λi j=>.bl (decide (j < i))
theorem QU:oU X (compareOp .Gt) Rn:=wf (qF NV) (λ_ _ _=>trivial) λ_ _ _ _ _=>rfl
abbrev Ro:=GD DQ λi j=>.bl (decide (j≤i))
theorem QV:oU X (compareOp .GtE) Ro:=wf (qF NW) (λ_ _ _=>trivial) λ_ _ _ _ _=>rfl
noncomputable def f8(i j:Int):Bool:=decide (i.natAbs.log2+j.natAbs.log2 < 100000000)
theorem E9{i j:Int}(h:f8 i j=true):IntMulOk i j:=by
 have a:i.natAbs.log2+j.natAbs.log2 < 100000000:=aJ h;have b:∀x:Int,Builtin.Int.intBits x≤x.natAbs.log2+1:=λx=>by
  unfold Builtin.Int.intBits;split
  .exact bX _
  .exact ah _
 exact IntMulOk.of_le (b i) (b j) (by lia)
theorem Ih:i_ X (binaryOp .Mult) (rI (λi j=>IntMulOk i j) λi j=>.int (i * j)):=Pe λ_ _ _ _ _ _ _ h q=>mul_int q h
noncomputable def dJ(x:Str)(n:Nat):Str:=⟨(List.replicate n x.cps).foldl (·++·) #[]⟩
theorem xS(x:Str):dJ x 1=x:=by unfold dJ;cases x;simp
theorem CU(n:Nat):(List.replicate n (#[]:Array Nat)).foldl (·++·) #[]=#[]:=by
 induction n with
 |zero=>rfl
 |succ n i=>rw[cF,fI];simpa using i
theorem uK(x:Str)(n:Nat)(h:x.length=0):dJ x n=x:=by have e:x.cps=#[]:=Array.eq_empty_of_size_eq_zero (by simpa[lW] using h);unfold dJ;cases x;simp only at e;subst e;rw[CU]
theorem yv(a:Array Nat)(n:Nat):∀b:Array Nat,((List.replicate n a).foldl (·++·) b).size=b.size+n * a.size:=by
 induction n with
 |zero=>intro b;simp
 |succ n i=>intro b;rw[cF,fI,i,Ax,lY];lia
theorem ll(x:Str)(n:Nat):(dJ x n).length=n * x.length:=by unfold dJ lW;simp only;rw[yv];simp
def vq:P->P->Option P
 | .int i,.int j=>if f8 i j=true then some (.int (i * j)) else none
 | .str x,.int n=>if (iu (n.toNat * x.length) && decide (n.natAbs < 1000000))=true then some (.str (dJ x n.toNat)) else none
 | .lst xs,.int n=>if (iu (xs.length * n.toNat) && decide (n.natAbs < 1000000))=true then some (.lst (List.replicate n.toNat xs).flatten) else none
 |_,_=>none
theorem b7.rep(h:b7 K F H r xs):∀k:Nat,b7 K F H (List.replicate k r).flatten (List.replicate k xs).flatten
 |0=>rfl
 |k+1=>by rw[cF,cF,gn,gn];exact h.append (b7.rep h k)
theorem N0:oU X (binaryOp .Mult) vq:=by
 intro r s J H x y v u Q I o S h;obtain⟨F,B,w,d,M,g,l,q,k⟩:=h;cases B with
 |int i=>
  cases w with
  |int j=>
   simp only[vq]at q;split at q
   .rename_i c;cases q;cases (show x=.int i from g);cases (show y=.int j from l);exact Ih r s J H _ _ v u Q I o S ⟨i,j,rfl,rfl,E9 c,k _ F H .refl rfl⟩
   .cases q
  |_=>exact lp q
 |str i=>
  cases w with
  |int n=>
   simp only[vq]at q;split at q
   .rename_i c;rw[ar]at c;have E:=aJ c.2;have N:n.toNat * i.length≤1000000:=aJ c.1;have T:=kx;have V:(1000000:Nat)≤sizeLine:=by decide
    cases q;cases (show x=.str i from g);cases (show y=.int n from l);obtain⟨t,rfl⟩:=o;obtain⟨W,rfl⟩:=S;refine PySem.P.mul_str (by have C:decide (n < -(2 ^ 63:Int))=false:=bj (by lia);have D:decide (n ≥ 2 ^ 63)=false:=bj (by lia);rw[C,D];rfl) (λa b=>?_) (λa b=>?_) ?_
    .intro z;have R:((i.length:Nat):Int)≤(2 ^ 63-1) / n:=by
      refine(Int.le_ediv_iff_mul_le (by lia)).mpr ?_;have e:((i.length:Nat):Int) * n=((n.toNat * i.length:Nat):Int):=by rw[yY,yZ (by lia),Int.mul_comm]
      rw[e];lia
     lia
    .unfold Builtin.Str.tooLong;first
      |exact bj (by rw[kP];lia)
      |(rw[kP];exact bj (by lia))
    .have f:Q (.str (dJ i n.toNat)) H:=k _ F H .refl rfl;by_cases K:n < 1
     .rw [ac K];have e:n.toNat=0:=by lia
      rw[e]at f;exact⟨by decide,⟨.str Str.empty,H,I.tok _,⟨_,rfl⟩,f⟩⟩
     .rw [af K];by_cases m:(n == 1 ||i.length == 0)=true
      .rw [ac m];rw[uu]at m;have e:dJ i n.toNat=i:=by
        rcases m with m|m
        .have:n=1:=by simpa using m
         subst this;exact xS i
        .exact uK i _ (by simpa using m)
       rw[e]at f;exact⟨.str i,H,I,⟨_,rfl⟩,f⟩
      .rw [af m];refine⟨?_,⟨.str (dJ i n.toNat),H,I.tok _,⟨_,rfl⟩,f⟩⟩;have:=ll i n.toNat
       unfold dJ at this;rw[this];lia
   .cases q
  |_=>exact lp q
 |lst L=>
  cases w with
  |int n=>
   simp only[vq]at q;split at q
   .rename_i c;rw[ar]at c;have E:=aJ c.2;cases q;obtain⟨a,xs,rfl,G,A⟩:=g;cases (show y=.int n from l);exact Lg r s J H _ _ v u Q I o S ⟨a,n,xs,rfl,rfl,G.2,by lia,by lia,by rw[<- A.length];exact iU c.1,λp P=>k _ _ _ (cj P) (.newLst P (A.rep _))⟩
   .cases q
  |_=>exact lp q
 |_=>exact lp q
noncomputable def R0:P->P->Option P
 | .int i,.int j=>some (.bl (decide (i=j)))
 | .str x,.str y=>some (.bl (decide (x=y)))
 | .bl a,.bl b=>some (.bl (decide (a=b)))
 |_,_=>none
noncomputable def Md:P->P->Option P
 | .int i,.int j=>some (.bl (!decide (i=j)))
 | .str x,.str y=>some (.bl (!decide (x=y)))
 | .bl a,.bl b=>some (.bl (!decide (a=b)))
 |_,_=>none
theorem oD{i j:Int}:decide (V.int i=V.int j)=decide (i=j):=by
 by_cases h:i=j
 .subst h;simp
 .rw [bj h,bj λz=>h (V.int.inj z)]
theorem oC:decide (V.str i=V.str k)=decide (i=k):=by
 by_cases h:i=k
 .subst h;simp
 .rw [bj h,bj λz=>h (V.str.inj z)]
theorem re:decide (V.bl i=V.bl k)=decide (i=k):=by
 by_cases h:i=k
 .subst h;simp
 .rw [bj h,bj λz=>h (V.bl.inj z)]
theorem QW:oU X (compareOp .Eq) R0:=by
 intro p s J H x y v u Q I r f h;obtain⟨F,b,a,d,t,e,n,q,k⟩:=h;cases b with
 |int i=>
  cases a with
  |int j=>cases q;cases (show x=.int i from e);cases (show y=.int j from n);exact EZ p s J H _ _ v u Q I r f ⟨rfl,by rw[oD];exact k _ F H .refl rfl⟩
  |_=>exact lp q
 |str i=>
  cases a with
  |str j=>cases q;cases (show x=.str i from e);cases (show y=.str j from n);exact EZ p s J H _ _ v u Q I r f ⟨rfl,by rw[oC];exact k _ F H .refl rfl⟩
  |_=>exact lp q
 |bl i=>
  cases a with
  |bl j=>cases q;cases (show x=.bl i from e);cases (show y=.bl j from n);exact EZ p s J H _ _ v u Q I r f ⟨rfl,by rw[re];exact k _ F H .refl rfl⟩
  |_=>exact lp q
 |_=>exact lp q
theorem QR:oU X (compareOp .NotEq) Md:=by
 intro p s J H x y v u Q I r f h;obtain⟨F,b,a,d,t,e,n,q,k⟩:=h;cases b with
 |int i=>
  cases a with
  |int j=>cases q;cases (show x=.int i from e);cases (show y=.int j from n);exact EX p s J H _ _ v u Q I r f ⟨rfl,by rw[oD];exact k _ F H .refl rfl⟩
  |_=>exact lp q
 |str i=>
  cases a with
  |str j=>cases q;cases (show x=.str i from e);cases (show y=.str j from n);exact EX p s J H _ _ v u Q I r f ⟨rfl,by rw[oC];exact k _ F H .refl rfl⟩
  |_=>exact lp q
 |bl i=>
  cases a with
  |bl j=>cases q;cases (show x=.bl i from e);cases (show y=.bl j from n);exact EX p s J H _ _ v u Q I r f ⟨rfl,by rw[re];exact k _ F H .refl rfl⟩
  |_=>exact lp q
 |_=>exact lp q
theorem B6{α β:Type}{xs:List α}{s:List β}{i:Int}{d:α}(l:xs.length=s.length)(h:L2.atI xs i=some d):∃j:Nat,xs[j]? = some d/\∀y,s[j]? = some y->L2.atI s i=some y:=by
 unfold L2.atI at h ⊢;rw[l]at h;cases e:Dj s.length i with
 |none=>rw[e]at h;cases h
 |some j=>rw[e]at h;exact⟨j,h,λy x=>x⟩
theorem b7.atI{K:FG}{F:Aa}{H:Hp}{s:List P}{xs:List V}{i:Int}{d:P}(r:b7 K F H s xs)(h:L2.atI s i=some d):∃x,L2.atI xs i=some x/\RP K F H d x:=by obtain⟨j,a,n⟩:=B6 r.length h;obtain⟨x,e,p⟩:=r.get a;exact⟨x,n x e,p⟩
theorem cN.atI{K:FG}{F:Aa}{H:Hp}{m:List Addr}{s:List D}{xs:List V}{i:Int}{d:D}(r:cN K F H m s xs)(h:L2.atI s i=some d):∃x,L2.atI xs i=some x/\RD K F H m d x:=by obtain⟨j,a,n⟩:=B6 r.length h;obtain⟨x,e,p⟩:=r.get a;exact⟨x,n x e,p⟩
noncomputable def bW(k:b0):List b0->List α->Option α
 |h::s,v::T=>if h=k then some v else bW k s T
 |_,_=>none
noncomputable def cR:P->Option b0
 | .int i=>some (.inl i)
 | .str x=>some (.inr x)
 |_=>none
def rh:P->P->Option P
 | .tup xs,.int i=>L2.atI xs i
 | .lst xs,.int i=>L2.atI xs i
 | .ro xs,.int i=>L2.atI xs i
 | .str x,.int i=>if iu x.length=true then (L2.atI x.cps.toList i).map λc=>.str ⟨#[c]⟩ else none
 | .dct s T,y=>match cR y with
  |some k=>bW k s T
  |none=>none
 |_,_=>none
theorem nG:∀{s:List (b0×V)}{a:List P}{d:P},b7 K F H a (s.map (·.2))->bW k (s.map (·.1)) a=some d->∃v,gD s k=some v/\RP K F H d v
 | [],a,d,r,h=>by cases a<;>exact lp h
 |(n,v)::s,[],d,r,h=>lp h
 |(n,v)::s,q::a,d,r,h=>by
  obtain⟨x,u,e,p,f⟩:=r;rw[az]at e;injection e with b c;simp only[az,bW]at h;by_cases hk:n=k
  .rw [ac hk]at h;cases h;exact⟨v,ie (p:=(n,v)) hk,by rw[show v=x from b];exact p⟩
  .rw [af hk]at h;rw[<- c]at f;obtain⟨w,m,t⟩:=nG f h;exact⟨w,by rw[gC (p:=(n,v)) hk];exact m,t⟩
theorem ip(h:cR t=some k)(r:RP K F H t v):v=kV k:=by
 cases t with
 |int i=>cases h;exact r
 |str x=>cases h;exact r
 |_=>exact lp h
theorem Ft(m:X.A.units+1 < cLine):Gy X (λx y H Q=>∃a v,x=.ref a/\j8 H a y (some v)/\(∃k,H a=some (.dK k))/\Q v H):=by
 intro f l p s J H x y v u Q I t d h c;obtain⟨a,w,rfl,g,⟨k,hk⟩,q⟩:=h;cases t;have n:∃o,s.heap.get? a=some o/\o.ExactDict:=by obtain⟨_,_,_,_,o,_,_,e,n,_⟩:=I.h a _ hk;exact⟨o,e,n⟩
 obtain⟨o,e,n⟩:=n;exact o8 ⟨o,e,n.1⟩ AU.lookup (sO m I g d λj i b r=>⟨w,H,b,r,q⟩) c
theorem RV(L:X.A.units+1 < cLine):Gy X (rP X.K rh):=by
 intro n l f s J H x y v u Q I o S h t;obtain⟨F,C,m,d,N,g,j,q,k⟩:=h;cases C with
 |tup b=>
  cases m with
  |int i=>obtain⟨a,xs,rfl,K,r⟩:=g;cases (show y=.int i from j);obtain⟨z,e,p⟩:=r.atI (show L2.atI b i=some d from q);exact Fs n l f s J H _ _ v u Q I o S ⟨a,xs,i,z,rfl,rfl,K.sq,e,k z F H .refl p⟩ t
  |_=>exact lp q
 |lst b=>
  cases m with
  |int i=>obtain⟨a,xs,rfl,K,r⟩:=g;cases (show y=.int i from j);obtain⟨z,e,p⟩:=r.atI (show L2.atI b i=some d from q);exact u4 n l f s J H _ _ v u Q I o S ⟨a,xs,i,z,rfl,rfl,K.sq,e,k z F H .refl p⟩ t
  |_=>exact lp q
 |ro b=>
  cases m with
  |int i=>obtain⟨a,xs,rfl,K,r⟩:=g;cases (show y=.int i from j);obtain⟨z,e,p⟩:=r.atI (show L2.atI b i=some d from q);exact u4 n l f s J H _ _ v u Q I o S ⟨a,xs,i,z,rfl,rfl,K.sq,e,k z F H .refl p⟩ t
  |_=>exact lp q
 |str z=>
  cases m with
  |int i=>
   cases (show x=.str z from g);cases (show y=.int i from j);simp only[rh]at q;split at q
   .rename_i G;cases e:L2.atI z.cps.toList i with
    |none=>rw[e]at q;exact lp q
    |some c=>rw[e]at q;cases q;exact LO n l f s J H _ _ v u Q I o S ⟨z,i,c,rfl,rfl,iU G,e,k _ F H .refl rfl⟩ t
   .cases q
  |_=>exact lp q
 |dct R b=>
  obtain⟨a,B,rfl,fa,hk,E,r⟩:=g;simp only[rh]at q;cases P:cR m with
  |none=>rw[P]at q;exact lp q
  |some M=>rw[P]at q;dsimp only at q;subst E;obtain⟨w,D,p⟩:=nG r q;have A:=ip P j;subst A;exact Ft L n l f s J H _ _ v u Q I o S ⟨a,w,rfl,by rw[<- D];exact j8.k hk,⟨B,hk⟩,k w F H .refl p⟩ t
 |_=>exact lp q
theorem Sf{a b:Expr}{fa fb:EV}{M:Pos}(u:X.A.units+1 < cLine)(x:Y X a (tV X.K fa))(e:Y X b (tV X.K fb))(s:nr b):Y X (.Subscript a b M) (tV X.K (kZ rh fa fb)):=
 (EI (RV u) x e s).imp' λ_ _ _ h=>uJ h
end
section
variable{X:Cx}
theorem qd:∀{s:List (b0×V)}{a:List D}{d:D},cN K F H m a (s.map (·.2))->bW k (s.map (·.1)) a=some d->∃v,gD s k=some v/\RD K F H m d v
 | [],a,d,r,h=>by cases a<;>exact lp h
 |(n,v)::s,[],d,r,h=>lp h
 |(n,v)::s,u::a,d,r,h=>by
  obtain⟨x,g,e,p,f⟩:=r;rw[az]at e;injection e with b c;simp only[az,bW]at h;by_cases hk:n=k
  .rw [ac hk]at h;cases h;exact⟨v,ie (p:=(n,v)) hk,by rw[show v=x from b];exact p⟩
  .rw [af hk]at h;rw[<- c]at f;obtain⟨w,t,q⟩:=qd f h;exact⟨w,by rw[gC (p:=(n,v)) hk];exact t,q⟩
@[simp] def lu(r:EE)(k:EV)(L:Lc)(S:U):vV:=bG (r L S) λd x=>bG (k L x) λy h=>match d with
 | .p v=>(rh v y).map λz=>(.p z,h)
 | .ref i=>match h[i]? with
  | some (.lst s)=>(match y with
   | .int j=>(L2.atI s j).map λz=>(z,h)
   |_=>none)
  |some (.fz v)=>(rh v y).map λz=>(.p z,h)
  | some (.dct a T)=>(match cR y with
   |some k=>(bW k a T).map λz=>(z,h)
   |none=>none)
  |_=>none
theorem Qh{a b:Expr}{fa:EE}{fb:EV}{M:Pos}(hu:X.A.units+1 < cLine)(ha:Y X a (tE X.K fa))(hb:Y X b (tV X.K fb))(hs:nr b):Y X (.Subscript a b M) (tE X.K (lu fa fb)):=
 (EI ((((RV hu).or u4).or (Ft hu)).or Fs) ha hb hs).imp' λJ H Q hz=>by
  obtain⟨F,m,L,S,d,N,r,h,q,k⟩:=hz;obtain⟨x,S1,A,q⟩:=ag q;obtain⟨y,K,e2,q⟩:=ag q;refine⟨F,m,L,S,x,S1,r,h,A,λv C m1 z c r1 p1=>?_⟩;refine⟨C,m1,L,S1,y,K,r1,h.mono c,e2,λu B V I o f Z=>?_⟩;have px:=RD.mono o p1;have s:∀w:P,RP X.K B I w v->(rh w y).map (λe=>(D.p e,K))=some (d,N)->rP X.K rh v u I Q:=λw pw q=>by
   cases g:rh w y with
   |none=>rw[g]at q;cases q
   |some e=>rw[g]at q;cases q;exact⟨B,w,y,e,f.ft,pw,Z,g,λt F3 H3 gr p3=>k t F3 V H3 (c.trans (o.trans gr.stp)) (f.grow gr) p3⟩
  cases x with
  |p w=>exact .inl (.inl (.inl (s w px q)))
  |ref i=>
   obtain⟨a,rfl,hm⟩:=px;dsimp only at q;cases l:K[i]? with
   |none=>rw[l]at q;cases q
   |some so=>
    rw[l]at q;have W:=f.obj i a so hm l;cases so with
    |fz w=>exact .inl (.inl (.inl (s w W q)))
    |dct ks T=>
     dsimp only at q;obtain⟨n,hk,ek,ra⟩:=W;cases E:cR y with
     |none=>rw[E]at q;cases q
     |some R=>
      rw[E]at q;dsimp only at q;subst ek;cases g:bW R (n.map (·.1)) T with
      |none=>rw[g]at q;cases q
      |some e=>rw[g]at q;cases q;obtain⟨w,A,p⟩:=qd ra g;have G:=ip E Z;subst G;exact .inl (.inr ⟨a,w,rfl,by rw[<- A];exact j8.k hk,⟨n,hk⟩,k w B V I (c.trans o) f p⟩)
    |ins _ _ _=>cases q
    |dtn _ _=>cases q
    |dtt _ _=>cases q
    |fn _=>cases q
    |lst ds=>
     dsimp only at q;cases y with
     |int j=>
      dsimp only at q;obtain⟨xs,hH,rs⟩:=W;cases g:L2.atI ds j with
      |none=>rw[g]at q;cases q
      |some e=>rw[g]at q;cases q;obtain⟨t,e3,p3⟩:=rs.atI g;cases (show u=.int j from Z);exact .inl (.inl (.inr ⟨a,xs,j,t,rfl,rfl,iB.of hH,e3,k t B V I (c.trans o) f p3⟩))
     |_=>cases q
def fP:P->Option Nat
 | .tup xs=>some xs.length
 | .lst xs=>some xs.length
 | .ro xs=>some xs.length
 | .str x=>if iu x.length=true then some x.length else none
 |_=>none
def dO:D->U->Option Nat
 | .p v,_=>fP v
 | .ref i,S=>match S[i]? with
  |some (.lst d)=>some d.length
  |some (.fz v)=>fP v
  |_=>none
def eG(r:EE):EV:=λL S=>bG (r L S) λd h=>(dO d h).map λn=>(.int n,h)
theorem BH{F:Aa}{H:Hp}{w:P}{v:V}{n:Nat}{Q:VK}(p:RP X.K F H w v)(h:fP w=some n)(q:Q (.int n) H) :
  (∃p y,[v]=[V.ref p]/\(iB X.K H p y\/ny X.K H p y)/\Q (.int y.length) H)\/(∃z,[v]=[V.str z]/\z.length≤sizeLine/\Q (.int z.length) H):=by
 cases w with
 |tup d=>obtain⟨a,xs,rfl,t,r⟩:=p;cases h;exact .inl ⟨a,xs,rfl,.inr t.sq,by rw[<- r.length];exact q⟩
 |lst d=>obtain⟨a,xs,rfl,t,r⟩:=p;cases h;exact .inl ⟨a,xs,rfl,.inl t.sq,by rw[<- r.length];exact q⟩
 |ro d=>obtain⟨a,xs,rfl,t,r⟩:=p;cases h;exact .inl ⟨a,xs,rfl,.inl t.sq,by rw[<- r.length];exact q⟩
 |str x=>
  cases (show v=.str x from p);simp only[fP]at h;split at h
  .rename_i c;cases h;exact .inr ⟨x,rfl,iU c,q⟩
  .cases h
 |_=>exact lp h
theorem Qf(A:Gl X "len")(f:X.g "len"=none)(P:Y X e (tE X.K fe))(c:starEach [e] X.e=[(false,eval e X.e)]:=by rfl):Y X (.Call (.Name "len" p) [e] [] M) (tV X.K (eG fe)):=
 (mK (vx.or vw) A f PySem.boot_len (eW P ik (by rw[c];rfl)) (by decide) (by decide) (by rw[c];rfl) rfl).imp' λJ H Q B=>by
  obtain⟨F,m,L,S,d,N,r,h,q,k⟩:=B;obtain⟨x,b,j,q⟩:=ag q;refine⟨F,m,L,S,x,b,r,h,j,λv C D z G u t=>?_⟩;cases s:dO x b with
  |none=>rw[s]at q;cases q
  |some n=>
   rw[s]at q;cases q;have y:Q (.int n) z:=k _ C D z G u rfl;cases x with
   |p w=>exact BH t s y
   |ref i=>
    obtain⟨a,rfl,f⟩:=t;simp only[dO]at s;cases l:N[i]? with
    |none=>rw[l]at s;cases s
    |some g=>
     rw[l]at s;have o:=u.obj i a g f l;cases g with
     |fz w=>exact BH o s y
     |dct R T=>cases s
     |ins _ _ _=>cases s
     |dtn _ _=>cases s
     |dtt _ _=>cases s
     |fn _=>cases s
     |lst I=>cases s;obtain⟨xs,K,E⟩:=o;exact .inl ⟨a,xs,rfl,.inl (iB.of K),by rw[<- E.length];exact y⟩
noncomputable def dw(d:D)(S:U):Option (Nat×List D):=match d with
 | .ref i=>match S[i]? with
  |some (.lst s)=>some (i,s)
  |_=>none
 |_=>none
theorem iM(h:dw d S=some (i,k)):d=.ref i/\S[i]? = some (.lst k):=by
 unfold dw at h;split at h
 .split at h
  .rename_i e;cases h;exact⟨rfl,e⟩
  .cases h
 .cases h
@[simp] def bM(r:EE)(a:EE)(L:Lc)(S:U):vV:=bG (r L S) λd h=>match dw d h with
 |none=>none
 |some _=>bG (a L h) λx e=>match dw d e with
  |some (i,s)=>if few s=true then some (.p .non,e.set i (.lst (s++[x]))) else none
  |none=>none
theorem Hm{o e:Expr}{W fe:EE}{p c:Pos}(ho:Y X o (tE X.K W))(he:Y X e (tE X.K fe))(M:starEach [e] X.e=[(false,eval e X.e)]:=by rfl)
  (t:attributeBase o "append" X.e (eval o X.e)=eval o X.e:=by rfl) (w:(p.endLine == c.line)=true:=by rfl):Y X (.Call (.Attribute o "append" p) [e] [] c) (tE X.K (bM W fe)):=
 (Js o6 zb PySem.F.type_list_append sC ho (eW he ik (by rw[M];rfl)) t (by rw[M];rfl) w (by rw[M];rfl) rfl).imp' λJ H Q hz=>by
  obtain⟨F,m,L,S,d,N,r,h,s,k⟩:=hz;obtain⟨x,A,e1,s⟩:=ag s;refine⟨F,m,L,S,x,A,r,h,e1,λv C m1 z s1 r1 p1=>?_⟩;cases E:dw x A with
  |none=>rw[E]at s;cases s
  |some n=>
   obtain⟨i,ds⟩:=n;rw[E]at s;dsimp only at s;obtain⟨rfl,l⟩:=iM E;obtain⟨a,rfl,hm⟩:=id p1;obtain⟨xs,hH,rs⟩:=r1.obj i a _ hm l;refine⟨.inl ⟨rfl,xs,iB.of hH⟩,?_⟩;obtain⟨y,V,e2,s⟩:=ag s;refine⟨C,m1,L,A,y,V,r1,h.mono s1,e2,λu B R I s2 T p2=>?_⟩;cases f:dw (.ref i) V with
   |none=>rw[f]at s;cases s
   |some n=>
    obtain⟨i2,D⟩:=n;rw[f]at s;dsimp only at s;obtain⟨e3,b⟩:=iM f;cases e3;split at s
    .rename_i Z;cases s;obtain⟨a2,e4,g⟩:=RD.mono s2 p1;cases e4;obtain⟨j,K,P⟩:=T.obj i a _ g b;have hl:=lK Z;have G:j.length < sizeLine:=by
      have:D.length≤1000000:=aJ Z;rw[<- P.length];exact jI this (by decide)
     have nt:∀zs,I a≠some (.tup zs):=λzs n=>by rw[K]at n;cases n
     have q:Stp B R I B R (bN I a (.lst (j++[u]))):=eT T g b trivial nt;refine⟨a,j,u,rfl,rfl,K,G,?_⟩;exact k .non B R _ (s1.trans (s2.trans q)) (T.set g b trivial nt ⟨_,aF,cN.mono q (P.append ⟨u,[],rfl,p2,rfl⟩)⟩) rfl
    .cases s
noncomputable abbrev EO:=Lc->U->Option (Option Int×U)
noncomputable def il:EO:=λ_ S=>some (none,S)
def gS(a:EV):EO:=λL S=>bG (a L S) λv h=>match v with
 | .int i=>some (some i,h)
 |_=>none
inductive tOI(K:FG)(f:EO)(J:L2.St)(H:Hp)(Q:Option Int->Hp->Prop):Prop
 |mk (F:Aa) (m:List Addr) (L:Lc) (S:U) (b:Option Int) (S':U) (h0_:Rel K F H m S) (h1_:RL K F H m J L) (h2_:f L S=some (b,S')) (h3_:∀F' m' H',Stp F m H F' m' H'->Rel K F' H' m' S'->Q b H'):tOI K f J H Q
noncomputable def tO(K:FG)(f:EO):TO:=λJ H Q=>tOI K f J H Q
theorem _root_.L2.PO.imp'(h:PO X e t)(i:∀J H Q,k J H Q->t J H Q):PO X e k:=λp s J H Q I q=>h p s J H Q I (i J H Q q)
theorem Lv:PO X none (tO X.K il):=HY.imp' λJ H Q h=>by obtain⟨F,m,L,S,d,N,r,l,q,k⟩:=h;cases q;exact k F m H .refl r
theorem Lu(h:Y X e (tV X.K fa)):PO X (some e) (tO X.K (gS fa)):=(HW h).imp' λJ H Q s=>by
 obtain⟨F,m,L,S,d,N,r,l,q,k⟩:=s;obtain⟨x,c,a,q⟩:=ag q;cases x with
 |int i=>cases q;exact⟨F,m,L,S,_,_,r,l,a,λv C n z b f p=>⟨i,p,k C n z b f⟩⟩
 |_=>cases q
def cut(xs:List α)(lo h:Option Int):List α:=(xs.drop (HT.eJ xs.length 0 lo)).take (HT.eJ xs.length xs.length h-HT.eJ xs.length 0 lo)
theorem b7.cut(r:b7 K F H k xs)(lo h:Option Int):b7 K F H (Ev.cut k lo h) (wV xs lo h):=by unfold Ev.cut wV;rw[r.length];exact(r.drop _).take _
def Tc:P->Option Int->Option Int->Option P
 | .lst xs,lo,h=>some (.lst (cut xs lo h))
 | .ro xs,lo,h=>some (.lst (cut xs lo h))
 | .tup xs,lo,h=>if HT.eJ xs.length 0 lo=0/\HT.eJ xs.length xs.length h=xs.length then none else some (.tup (cut xs lo h))
 |_,_,_=>none
theorem _root_.L2.PI.imp'(h:PI X r iter t)(i:∀J H R,k J H R->t J H R):PI X r iter k:=λp s J H R I q=>h p s J H R I (i J H R q)
theorem Fu(f:∀B h I,Stp F m H B h I->iB K I a xs)(r:b7 K F H T xs):Mw K (PU K a) T F m H:=by
 intro B h I s;have q:=f B h I s;have k:=b7.mono s r;refine⟨λi v e=>?_,⟨xs,q,by rw[k.length];exact ah _⟩⟩;obtain⟨x,n,p⟩:=k.get e;refine⟨⟨xs,x,q,n⟩,λy b z=>?_⟩;obtain⟨rfl,z⟩:=z;have:=z xs q
 rw[n]at this;cases this;exact⟨B,.refl,p⟩
theorem LP(k:TupAt K H a xs)(r:b7 K F H T xs):Mw K (R_ K a) T F m H:=by
 intro B b I s;have q:=(k.kp s.kp).sq;have n:=b7.mono s r;refine⟨λi v e=>?_,⟨xs,q,by rw[n.length];exact ah _⟩⟩;obtain⟨x,h,p⟩:=n.get e;refine⟨⟨xs,x,q,h⟩,λy f z=>?_⟩;obtain⟨rfl,z⟩:=z;have:=z xs q
 rw[h]at this;cases this;exact⟨B,.refl,p⟩
noncomputable def intsFrom(lo:Int)(n:Nat):List P:=(List.range n).map λ(i:Nat)=>.int (lo+(i:Int))
def i6(a:EV):jB:=λL S=>bG (a L S) λv h=>match v with
 | .int j=>if decide (j.natAbs < 1000000)=true then some (intsFrom 0 j.toNat,h) else none
 |_=>none
theorem LQ{lo:Int}:Mw K (PQ lo n) (intsFrom lo n) F m H:=by
 intro B k I s;have l:(intsFrom lo n).length=n:=by unfold intsFrom;simp
 refine⟨λi v e=>?_,by show n≤(intsFrom lo n).length;rw[l];exact ah _⟩;have h:i < n:=by rw[<- l];exact(bw.mp e).1
 refine⟨h,λx a z=>?_⟩;obtain⟨rfl,rfl⟩:=z;refine⟨B,.refl,?_⟩;unfold intsFrom at e;simp[h]at e;subst e;exact rfl
theorem SJ{u a:Expr}{fa:EV}{p M:Pos}(g:Gl X "range")(n:X.g "range"=none)(s:Y X a (tV X.K fa))(h:starEach [a] X.e=[(false,eval a X.e)]:=by rfl):PI X u (.Call (.Name "range" p) [a] [] M) (tI X.K (i6 fa)):=
 (CB g n (eW s ik (by rw[h];rfl)) h).imp' λJ H R f=>by
  obtain⟨F,m,L,S,T,N,r,l,q,k⟩:=f;obtain⟨v,i,e,q⟩:=ag q;cases v with
  |int j=>
   dsimp only at q;split at q
   .rename_i c;have y:j.natAbs < 1000000:=aJ c;cases q;refine⟨F,m,L,S,_,_,r,l,e,λx C b z w d t=>?_⟩;cases (show x=.int j from t);exact⟨j,rfl,by lia,by lia,k _ C b z w d LQ⟩
   .cases q
  |_=>cases q
end
def bR(g:kj)(c:EB)(e:EV):List P->Lc->U->Option (List P×U)
 | [],_,S=>some ([],S)
 |v::r,L,S=>match g v L with
  |none=>none
  |some h=>bG (c h S) λk x=>if k=true then bG (e h x) λy a=>bG (bR g c e r h a) λn s=>some (y::n,s) else bR g c e r h x
open Classical in
def j0(ok:U->Prop)(g:kj)(c:EB)(e:EV):List P->Lc->U->Option (List P×U)
 | [],_,S=>if ok S then some ([],S) else none
 | v::r,L,S=>if ok S then (match g v L with
  |none=>none
  |some h=>bG (c h S) λk x=>if k=true then bG (e h x) λy a=>bG (j0 ok g c e r h a) λn s=>some (y::n,s) else j0 ok g c e r h x) else none
theorem rj:∀{T:List P}{L:Lc}{S:U},j0 (λ_=>True) g c e T L S=bR g c e T L S
 | [],_,_=>ac trivial
 |v::r,L,S=>by
  unfold j0 bR;rw[ac trivial];cases g v L with
  |none=>rfl
  |some h=>simp only[rj (T:=r)]
noncomputable def nw(y:List Nat)(n:Nat)(L:List (Option α)):List (Option α):=(y.foldl (λL i=>L.set i none) L)++List.replicate n none
def cx(i:jB)(y:List Nat)(n:Nat)(g:kj)(c:EB)(e:EV):EV:=λL S=>bG (i L S) λxs h=>if few xs=true then bG (bR g c e xs (nw y n L) h) λs x=>some (.lst s,x) else none
@[simp] def iz(_L:Lc)(S:U):MC:=some (true,S)
theorem gw(y:List Nat):∀L:List (Option α),(y.foldl (λL i=>L.set i none) L).length=L.length:=by
 induction y with
 |nil=>intro L;rfl
 |cons t y h=>intro L;rw[fI,h,db]
theorem rQ(y:List Nat):∀(L:List (Option α))(i:Nat)(d:α),(y.foldl (λL i=>L.set i none) L)[i]? = some (some d)->L[i]? = some (some d)/\i ∉ y:=by
 induction y with
 |nil=>intro L i d h;exact⟨h,by simp⟩
 |cons t y s=>
  intro L i d h;rw[fI]at h;obtain⟨x,a⟩:=s _ _ _ h;by_cases e:t=i
  .subst e;by_cases l:t < L.length
   .rw [bv l]at x;cases x
   .rw [pB (by rw[db];lia)]at x;cases x
  .rw [aP e]at x;exact⟨x,by simp[a];exact λz=>e z.symm⟩
theorem uE(y:List Nat)(n:Nat)(L:List (Option α)):(nw y n L).length=L.length+n:=by unfold nw;rw[aZ,gw,uk]
theorem A'(h:(nw y n L)[i]? = some (some d)):L[i]? = some (some d)/\i ∉ y/\i < L.length:=by
 unfold nw at h;by_cases x:i < L.length
 .rw [bL (by rw[gw];exact x)]at h;obtain⟨a,e⟩:=rQ y L i d h;exact⟨a,e,x⟩
 .rw [bI (by rw[gw];lia),uo]at h;split at h<;>cases h
variable{J:L2.St}
theorem RL.up(l:RL K F H m J L)(y:List Nat)(n:Nat):RL K F H m (nw y n J) (nw y n L):=by
 refine⟨by rw[uE,uE,l.len],λi d h=>?_⟩;obtain⟨a,s,f⟩:=A' h;obtain⟨v,e,r⟩:=l.at' i d a;refine⟨v,?_,r⟩;unfold nw;rw[bL (by rw[gw,l.len];exact f)];have k:∀(y:List Nat)(J:L2.St),i ∉ y->J[i]? = some (some v)->(y.foldl (λL i=>L.set i none) J)[i]? = some (some v):=by
  intro y;induction y with
  |nil=>intro J _ e;exact e
  |cons t y b=>intro J x e;rw[fI];refine b _ (λz=>x (aG _ z)) ?_;rw[aP (λz=>x (by rw[z];exact aH))];exact e
 exact k y J s e
noncomputable def lN(G:Scope)(e:Env):List (Str×Addr):=((G.names.filter λx=>x.2 == .free).map λx=>(x.1,(e.cells.lookup x.1).getD 0)).reverse
def inn(X:Cx)(G:Scope)(N':LS)(s:Shared)(H:Hp)(C:Addr)(f:List Addr):Cx:=
 { X with N:=N',z:=s,y:=H,e:=compEnvC G (lN G X.e) C X.e,o:=X.k,ex:=f,fn:=λ_=>false,pn:=[],xe:=λ_ _=>False }
structure BlockOk(X:Cx)(scope:Scope)(N':LS)(ts:List Nat)(n:Nat):Prop where
 kind:scope.kind=.function
 cell:∀x ∈ scope.names,x.2≠.cell
 loc:∀x ∈ scope.names,x.2=.local->scope.names.lookup x.1=some .local
 fr:∀x ∈ scope.names,x.2=.free->scope.names.lookup x.1=some .free/\(X.e.kindOf x.1=some .cell\/X.e.kindOf x.1=some .free)
 names:X.N=N'.take X.N.length
 more:N'.length=X.N.length+n
 ts:∀x ∈ scope.names,x.2=.local->∀i:Nat,X.N[i]? = some x.1->i ∈ ts
theorem io:∀{l:List (Str×α)}{x:Str}{v:α},l.lookup x=some v->(x,v) ∈ l
 | [],_,_,h=>by simp at h
 |(y,w)::r,x,v,h=>by
  rw[pu]at h;cases e:x == y with
  |true=>rw[e]at h;cases h;rw[show x=y from by simpa using e];exact aH
  |false=>rw[e]at h;exact aG _ (io h)
theorem lq:∀{l:List (Str×α)}{x:Str}{v:α},(x,v) ∈ l->∃w,l.lookup x=some w
 | [],_,_,h=>by simp at h
 |(y,w)::r,x,v,h=>by
  rw[pu];cases e:x == y with
  |true=>exact⟨w,rfl⟩
  |false=>
   rcases aN.mp h with h|h
   .injection h with a _;subst a;simp at e
   .exact lq h
variable{x:Str}
theorem fM(h:(relabel G r).names.lookup x=some k):∃a,(x,a) ∈ G.names/\(k=a\/(k=.cell/\a=.free)):=by
 have m:=io h;unfold relabel at m;obtain⟨⟨n,a⟩,t,e⟩:=aU.mp m;by_cases c:(a == NameKind.free && r.scope.kind == .function && r.kindOf n == some .cell)=true
 .have s:(n,NameKind.cell)=(x,k):=by simpa[c] using e
  injection s with f b;subst f;rw[ar,ar]at c;exact⟨a,t,.inr ⟨b.symm,by simpa using c.1.1⟩⟩
 .have s:(n,a)=(x,k):=by simpa[c] using e
  injection s with f b;subst f;exact⟨a,t,.inl b.symm⟩
section
variable{X:Cx}{G:Scope}{N':LS}{y:List Nat}{n:Nat}
theorem BlockOk.cl(B:BlockOk X G N' y n)(I:Inv X u J H s)(h:(lN G X.e).lookup x=some c):X.e.cells.lookup x=some c/\(x,NameKind.free) ∈ G.names:=by
 have p:=io h;unfold lN at p;obtain⟨⟨a,k⟩,m,e⟩:=aU.mp (z4.mp p);obtain⟨m,hk⟩:=fJ.mp m;have t:k=.free:=by simpa using hk
 subst t;injection e with v b;subst v;obtain⟨_,d⟩:=B.fr _ m rfl;obtain⟨q,f⟩:=I.o.has a d;dsimp only at b;rw[f]at b;have r:q=c:=b;subst r;exact⟨f,m⟩
theorem BlockOk.has(B:BlockOk X G N' y n)(h:(x,NameKind.free) ∈ G.names):∃c,(lN G X.e).lookup x=some c:=by unfold lN;exact lq (v:=(X.e.cells.lookup x).getD 0) (z4.mpr (aU.mpr ⟨(x,.free),fJ.mpr ⟨h,by simp⟩,rfl⟩))
theorem FE(B:BlockOk X G N' y n)(I:Inv X r J H s)(C:s.heap.objs.size≤k)(m:∀b ∈ u,vJ X r H b)(w:∀b ∈ u,b < s.heap.objs.size) :
  (inn X G N' s H k u).Ok where
 mod:=I.o.mod
 kind:=B.kind
 glob:=I.o.glob
 blt:=I.o.blt
 above:=C
 inj:=λx a c q v=>I.o.inj x a c (B.cl I q).1 (B.cl I v).1
 has:=λx h=>by
  have p:(relabel G X.e).names.lookup x=some .cell\/(relabel G X.e).names.lookup x=some .free:=h;rcases p with h|h
  .obtain⟨g,t,e|⟨_,e⟩⟩:=fM h
   .subst e;exact absurd rfl (B.cell _ t)
   .subst e;exact B.has t
  .obtain⟨g,t,e|⟨e,_⟩⟩:=fM h
   .subst e;exact B.has t
   .cases e
 cab:=λx c h=>nomatch h
 hd:=I.o.hd
 frames:=I.o.frames
 stk:=.inl rfl
 exf:=λb f=>⟨bb (bF (w b f) C),λx c h=>(m b f).2.2.2.2.1 x c (B.cl I h).1⟩
 bs:=I.bs
 bsz:=au I.o.bsz I.sz
 noex:=λb o e f=>by
  rcases(m b f).2.2.2.1 with z|z
  .exact I.o.noex b o e z
  .exact absurd (bF (aC (I.o.bs b o e).1) z) (eQ _)
 exfs:=λb f z=>by
  rcases aN.mp (I.stkSub b z) with z|z
  .exact (m b f).2.1 z
  .exact (m b f).2.2.1 z
 funs:=I.stack
 frf:=I.stkFree
 tab:=λP d=>I.base.tbls P (I.o.tab P d)
theorem _root_.L2.Un.sameBut(u:Un fs r H H' h t)(s:dX k t Q)(C:∀b o,h.get? b=some o->b≠k):Un fs r H H' h Q where
 keep:=λb o e n a x=>s.extBut b o (C b o e) (u.keep b o e n a x)
 slot:=λb o e n a x=>by obtain⟨l,q⟩:=u.slot b o e n a x;exact⟨l,s.extBut b _ (C b o e) q⟩
 free:=u.free
 there:=λb o e x=>by obtain⟨f,q⟩:=u.there b o e x;exact⟨f,s.extBut b _ (C b o e) q⟩
 tups:=u.tups
 frzs:=u.frzs
 tbls:=u.tbls
theorem _root_.L2.ja.sameBut{P:Program}{w:World}{H:Hp}{h x:Heap}{C:Addr}(ok:ja P w H h)(n:dX C h x)(a:H C=none):ja P w H x:=λb u e=>
 (ok b u e).stay (fun c v s q=>n.extBut c v (by
  rintro rfl;rcases s with z|z
  .subst z;rw[a]at e;cases e
  .rw [a]at z;cases z) q) (λ_ q=>q) λ_ _ q=>q
inductive PIfs(X:Cx):Ab->EB->Prop where
 |none:PIfs X [] iz
 |one {c:Expr}{q:EB}:PT X c (tQ X.K q)->PIfs X [c] q
theorem Kp.bump(a:¬F p)(t:∀xs,H p≠some (.tup xs))(c:∀x u,H p≠some (.frz x (.own u))):Kp F m H F m (bN H p o):=
 ⟨⟨[],by simp⟩,λ_ h=>h,λb u f h=>by rw[al (by rintro rfl;exact a f)];exact h,λb xs h=>by rw[al (by rintro rfl;exact t xs h)];exact h,λb x u h=>by rw[al (by rintro rfl;exact c x u h)];exact h⟩
theorem Stp.bump(s:Stp F m H F' m' H')(a:H p=none):Stp F m H F' m' (bN H' p o) where
 pre:=s.pre
 oth:=λb u h n=>by rw[al (by rintro rfl;rw[a]at h;cases h)];exact s.oth b u h n
 frz:=s.frz
 frk:=λb u f h=>by rw[al (by rintro rfl;rw[a]at h;cases h)];exact s.frk b u f h
 tup:=λb xs h=>by rw[al (by rintro rfl;rw[a]at h;cases h)];exact s.tup b xs h
 cod:=λb x u h=>by rw[al (by rintro rfl;rw[a]at h;cases h)];exact s.cod b x u h
 trk:=λb h=>by
  by_cases e:b=p
  .subst e;rw[aF];exact λz=>nomatch z
  .rw [al e];exact s.trk b h
 nf:=s.nf
 nm:=s.nm
theorem Rel.bump(r:Rel K F H m S)(e:¬F p)(n:p ∉ m)(t:∀xs,H p≠some (.tup xs))(c:∀x u,H p≠some (.frz x (.own u))):Rel K F (bN H p o) m S:=
 r.stayK (Kp.bump e t c) (λa u s h=>by rw[al (by rintro rfl;exact n s)];exact h) (λ_ f=>.inl f) λa f=>by rw[al (by rintro rfl;exact e f)];exact r.ft a f
theorem RU:Kp F m H (λb=>F b\/b=p) m H:=⟨⟨[],by simp⟩,λ_ h=>.inl h,λ_ _ _ h=>h,λ_ _ h=>h,λ_ _ _ h=>h⟩
theorem Stp.addF(s:Stp F m H F' m' H')(x:H p=none):Stp F m H (λb=>F' b\/b=p) m' H':=
 ⟨s.pre,s.oth,fun b h=>.inl (s.frz b h),s.frk,s.tup,s.trk,fun b h=>by
  rcases h with h|h
  .exact s.nf b h
  .subst h;exact .inr (.inl x),s.nm,s.cod⟩
theorem Rel.addF(r:Rel K F H m S)(s:p ∉ m)(n:H p≠none):Rel K (λb=>F b\/b=p) H m S where
 len:=r.len
 nd:=r.nd
 obj:=λi a o e x=>(r.obj i a o e x).kp RU λu h=>h
 sep:=λi a o e x w f=>by
  rcases f with f|f
  .exact r.sep i a o e x w f
  .subst f;exact s (a8 e)
 trk:=r.trk
 ft:=λa f=>by
  rcases f with f|f
  .exact r.ft a f
  .subst f;exact n
theorem _root_.L2.Inv.letGo(I:Inv X k J H s)(f:dX h s.heap t)(C:H h=none)(v:X.z.heap.objs.size≤h)(d:h≠X.e.locals)
  (w:∀x c,X.e.cells.lookup x=some c->c≠h) (u:∀p ∈ X.pn++k,p.1≠h):Inv X k J H { s with heap:=t }:=by
 have r:∀b:Addr,b ∉ [h]->b≠h:=λb m z=>m (by simp[z]);refine I.call' (s':={ s with heap:=t }) (q:=[h]) rfl ⟨λb o e _ _ a=>f.extBut b o (r b a) e,λb o e _ _ a=>⟨o.slots,f.extBut b o (r b a) e⟩,λ_ _ _ n _=>n,λb o e a=>⟨o,f.extBut b o (r b a) e⟩,λ_ _ q=>q,λ_ _ _ q=>q,λ_ q=>q⟩ (I.h.sameBut f C) I.bare λb m=>?_;have e:b=h:=by simpa using m
 subst e;exact⟨.inr v,d,w,u⟩
theorem C8(I:Nat->Shared->Prop)
  (f:∀n s,I n s->wpAny (model t w) A (pyNext it) (fun r b=>match r with
   |none=>R (.ok .next) b
   | some v=>wpAny (model t w) A (letOwnedTupleGo tg it v) (fun _ g=>wpAny (model t w) A (assign tg k v) (fun _ i=>
     wpAny (model t w) A (forIn ifs true fun c r=>if r=true then do let ok <- isTrue c k (eval c k);pure (ForInStep.yield ok) else pure (ForInStep.yield r)) (fun ok p=>
      if ok=true then wpAny (model t w) A (eval Q k) (fun x j=>
       wpAny (model t w) A (call (.builtin "list.append") [u,x]) (λ_ l=>∃m,m < n/\I m l) (notedBy (model t w) A k λe a=>R (.error e) a) j) (notedBy (model t w) A k λe a=>R (.error e) a) p
      else ∃m,m < n/\I m p) (notedBy (model t w) A k λe a=>R (.error e) a) i) (notedBy (model t w) A k λe a=>R (.error e) a) g) (notedBy (model t w) A k λe a=>R (.error e) a) b) (notedBy (model t w) A k λe a=>R (.error e) a) s)
  (n:Nat) (h:I n s):codeAny (model t w) A (.compLoop (.ListComp Q [⟨tg,iter,ifs,0⟩] G M) 0 it u k) R s:=by
 refine codeAny_loop rfl I (λn s F=>?_) n h;show wpAny _ A ((compTurn (.ListComp Q [⟨tg,iter,ifs,0⟩] G M) 0 it u k).onRaise (λx=>do noteFrame x k;theTreesLotGoes x)) _ _ s;refine wpAny_noted ?_;rw[compTurn_list];refine ab (tj (ab (cD (f n s F) (λr b q=>?_) λ_ _ z=>z)));cases r with
 |none=>exact ao q
 |some v=>
  refine ab (cD q (λ_ g y=>ab (cD y (λ_ i o=>ab (cD o (λok p d=>?_) λ_ _ z=>z)) λ_ _ z=>z)) λ_ _ z=>z);cases ok with
  |false=>exact ao ⟨rfl,d⟩
  |true=>exact ab (ab (cD d (λx j H=>ab (cD H (λ_ l S=>ao (ao ⟨rfl,S⟩)) λ_ _ z=>z)) λ_ _ z=>z))
theorem IY{j:Heap}{tk:Nat}(B:BlockOk X G N' y n)(s:Inv X Q J I k)(C:k.heap.objs.size≤h)(Z:∀b ∈ fp,vJ X Q I b)(P:∀b ∈ fp,b < k.heap.objs.size)(l:∀b o,k.heap.get? b=some o->j.get? b=some o)
  (hD:I k.heap.objs.size=none) (D:k.heap.objs.size≠h) (K:I h=none) (d:j.Ns h mC) (f:j.get? k.heap.objs.size=some { cls:=.type "list",dict:=none,data:=.seq ([]:LV).toArray }) :
  Inv (inn X G N' k I h fp) [] (nw y n J) (bN I k.heap.objs.size (.lst [])) { k with heap:=j,toks:=tk }:=by
 refine⟨FE B s C Z P,rfl,s.bare,Un.laid l (ah _) hD,?_,λx c e=>?_,?_,λx c e=>?_,λp hp=>absurd (show p ∈ ([]:PN) from hp) (by simp),?_,?_⟩
 .obtain⟨m0,hn0,A⟩:=s.loc;refine⟨_,d,λi x v T V hv=>?_⟩;obtain⟨H,S,F⟩:=A' V;have q:J.length=X.N.length:=s.len;have M:X.N[i]? = some x:=by
   rw[B.names,g9 (by rw[<- q];exact F)];exact T
  have g:(relabel G X.e).names.lookup x=some .local\/(relabel G X.e).names.lookup x=some .cell\/(relabel G X.e).names.lookup x=some .free:=hv;have R:¬(relabel G X.e).names.lookup x=some .local:=λz=>by
   obtain⟨N,m,e|⟨e,_⟩⟩:=fM z
   .subst e;exact absurd (B.ts _ m rfl i M) S
   .cases e
  have L:(x,NameKind.free) ∈ G.names:=by
   rcases g with z|z|z
   .exact absurd z R
   .obtain⟨N,m,e|⟨_,e⟩⟩:=fM z
    .subst e;exact absurd rfl (B.cell _ m)
    .subst e;exact m
   .obtain⟨N,m,e|⟨e,_⟩⟩:=fM z
    .subst e;exact m
    .cases e
  obtain⟨_,t⟩:=B.fr _ L rfl;have E:Jh X.e.scope x:=by
   rcases t with z|z
   .exact .inr (.inl z)
   .exact .inr (.inr z)
  obtain⟨u,ru,lk⟩:=A i x v M H E;refine⟨u,ru,.inr ⟨?_,?_⟩⟩
  .rcases g with z|z|z
   .exact absurd z R
   .exact .inl z
   .exact .inr z
  .rcases lk with ⟨z,_⟩|⟨_,c,W,ic⟩
   .rcases t with a|a
    .rw [z]at a;cases a
    .rw [z]at a;cases a
   .obtain⟨c',r⟩:=B.has L;have:=(B.cl s r).1
    rw[W]at this;cases this;obtain⟨o,w,hd⟩:=ic;exact⟨c,r,o,l c o w,hd⟩
 .obtain⟨v,o,w,hd⟩:=s.cell x c (B.cl s e).1;exact⟨v,o,l c o w,hd⟩
 .show bN I k.heap.objs.size (.lst []) h=none;rw[al (aI D)];exact K
 .obtain⟨v,o,w,hd⟩:=s.cell x c (B.cl s e).1;rw[al (bb (aC w))];exact s.freeC x c (B.cl s e).1
 .exact s.h.laid l (ah _) ⟨bX _,[],0,.nil,f⟩
 .show (nw y n J).length=N'.length;rw[uE,s.len,B.more]
inductive cIv(K:FG)(Y9:Cx)(F1:Aa)(m1:List Addr)(H2:Hp)(A:Addr)(tn:Nat->Heap->Prop)(fp:List Addr)(R:Nat->Nat->Lc->U->List P->Prop)(ys:List P)(nn:Nat)(sx:Shared):Prop
 |mk (i:Nat) (J':L2.St) (F':Aa) (m':List Addr) (H':Hp) (L':Lc) (S':U) (acc rest:List P) (xs:List V) (h0_:Inv Y9 [] J' H' sx) (h1_:tn i sx.heap) (h2_:∀b ∈ fp,H' b=none) (h3_:Stp F1 m1 H2 F' m' H') (h4_:Rel K F' H' m' S') (h5_:RL K F' H' m' J' L') (h6_:H' A=some (.lst xs)) (h7_:b7 K F' H' acc xs) (h8_:acc.length≤i) (h9_:¬F' A) (ha_:A ∉ m') (hb_:R nn i L' S' rest) (hc_:acc++rest=ys):cIv K Y9 F1 m1 H2 A tn fp R ys nn sx
def R'(K:FG)(ok:U->Prop)(a:It)(T:List P)(F:Aa)(m:List Addr)(H:Hp):Prop:=∀B s I S,Stp F m H B s I->Rel K B I s S->ok S ->
 (∀(i:Nat) v,T[i]? = some v->a.go i I/\∀x h,a.yld i I x h->∃e,Grow B I e h/\RP K e h v x)/\a.stop T.length I
def rJ(X:Cx)(t iter:Expr)(f:EV)(y:List Nat)(n:Nat)(g:kj)(c:EB)(fe:EV):Prop:=∃w,PI X t iter w/\∀J H F m L S d a,Rel X.K F H m S->RL X.K F H m J L->f L S=some (d,a) ->
 ∃ok T x s,d=.lst s/\few T=true/\w J H (λe z=>∃C h,Stp F m H C h z/\Rel X.K C z h x/\R' X.K ok e T C h z)/\j0 ok g c fe T (nw y n L) x=some (s,a)
theorem OR(i:PI X Q iter (tI X.K u)):rJ X Q iter (cx u y n g t fe) y n g t fe:=by
 refine⟨_,i,λJ H F m L S d a r l h=>?_⟩;obtain⟨T,x,s,h⟩:=ag h;split at h;case isFalse=>cases h
 rename_i f;obtain⟨j,e,k,h⟩:=ag h;cases h;exact⟨λ_=>True,T,x,j,rfl,f,⟨F,m,L,S,T,x,r,l,s,λo C c z w v b=>⟨C,c,w,v,λB p I a q _ _=>b B p I q⟩⟩,by rw[rj];exact k⟩
theorem k9 
  (B:BlockOk X G N' y n) (hcalm:X.c=true)
  (hi:PI X tg iter wi) (hg:∀s H h D,PG (inn X G N' s H h D) tg (gT X.K g)) (hc:∀s H h D,PIfs (inn X G N' s H h D) ifs fc) (he:∀s H h D,Y (inn X G N' s H h D) elt (tV X.K fe))
  (hclos:closureFor G X.e=pure (lN G X.e)) (hs:∀x,foldedSetIterable iter X.e x=pure x)
  (a:Inv X pins J H s) (r:Rel X.K F H m S) (l:RL X.K F H m J L) (hw:wi J H λJ9 z=>∃C m1,Stp F m H C m1 z/\Rel X.K C z m1 S1/\R' X.K ok J9 T C m1 z) (hfew:few T=true) (e2:j0 ok g fc fe T (nw y n L) S1=some (ds,S2))
  (fin:∀p F' m' H' sx h xs,Inv X pins J H' sx->Stp F m H F' m' H'->Rel X.K F' H' m' S2->H p=none/\¬F' p/\p ∉ m'/\H' p=some (.lst xs)/\b7 X.K F' H' ds xs->H' h=none->X.z.heap.objs.size≤h->h≠X.e.locals->(∀x c,X.e.cells.lookup x=some c->c≠h)->(∀p ∈ X.pn++pins,p.1≠h) ->
   (∃mC,sx.heap.Ns h mC)->compPost (model X.p X.w) X.A X.xe use Q (.ref p) h (.ok .next) sx) :
  wx X (comprehension (.ListComp elt [⟨tg,iter,ifs,0⟩] G M) G X.e p2 (newList []) false (eval iter X.e) use) Q X.xe s:=by
 refine wpAny_comprehension_free (use:=use) rfl hs hclos B.kind B.loc (cG (hi pins s J H _ a hw) λxv sA hA=>cG hA λitv P h2=>?_);obtain⟨it,D,tn,J9,I,rfl,I2,k,st2,f2,C,m1,s1,r1,itp⟩:=h2;have hfp:∀b ∈ D,b < P.heap.objs.size:=λb R=>by obtain⟨o,e,_⟩:=k.obj _ _ st2 b R;exact aC e
 refine pU ?_ (by show 0≤sizeLine;exact bX _);refine A2 B.cell (by intro t hy;simp at hy) (λh1 hns1 Z=>?_) B.kind;dsimp only at hns1 Z ⊢;have hD:I P.heap.objs.size=none:=I2.h.fresh (ah _);generalize hH2:P.heap.push { cls:=.type "list",dict:=none,data:=.seq ([]:LV).toArray }=K at hns1 Z ⊢;have hC:K.objs.size=P.heap.objs.size+1:=by rw[<- hH2,l0]
 have A:P.heap.objs.size≤K.objs.size:=by rw[hC];exact iD _
 have old:∀b o,P.heap.get? b=some o->h1.get? b=some o:=λb o e=>Z.extBut b o (bb (bF (aC e) A)) (aO _ (hH2 ▸ aO _ e));have hDC:P.heap.objs.size≠K.objs.size:=by rw[hC];exact bb (jH _)
 have accO:h1.get? P.heap.objs.size=some { cls:=.type "list",dict:=none,data:=.seq ([]:LV).toArray }:=Z.extBut _ _ hDC (aO _ (hH2 ▸ br _ rfl));have hCn:I K.objs.size=none:=I2.h.fresh A;have hCcell:∀x c,X.e.cells.lookup x=some c->c≠K.objs.size:=λx c e d=>by obtain⟨v,o,ho,_⟩:=I2.cell x c e;exact absurd (aC ho) (tS.mpr (by rw[d];exact A))
 have hCloc:K.objs.size≠X.e.locals:=bO (bF I2.lt A);have hCpin:∀p ∈ X.pn++pins,p.1≠K.objs.size:=λp hp d=>absurd (aC (I2.pin p hp).1) (tS.mpr (by rw[d];exact A));have I3:=IY (tk:=P.toks+([]:List (Str×Value)).length) B I2 A f2 hfp old hD hDC hCn hns1 accO;have okX:=FE (k:=K.objs.size) B I2 A f2 hfp;have fpH:∀{H':Hp},(∀b ∈ D,H' b=none)->∀b ∈ D,vJ (inn X G N' P I K.objs.size D) [] H' b:=λhn b R=>
  ⟨hn b R,bb (bF (hfp b R) A),okX.exfs b R,.inl R,(okX.exf b R).2,λp hp=>absurd (show p ∈ ([]:PN) from hp) (by simp)⟩
 have tn1:tn 0 h1:=k.keep _ _ _ st2 λb R o e=>old b o e;have loop:∀s3:Shared,s3={ P with heap:=h1,toks:=P.toks+([]:List (Str×Value)).length } ->
   codeAny (model X.p X.w) X.A (.compLoop (.ListComp elt [⟨tg,iter,ifs,0⟩] G M) 0 (.ref it) (.ref P.heap.objs.size) (compEnvC G (lN G X.e) K.objs.size X.e))
    (compPost (model X.p X.w) X.A X.xe use Q (.ref P.heap.objs.size) K.objs.size) s3:=by
  rintro s3 rfl;refine C8 (cIv X.K (inn X G N' P I K.objs.size D) C m1 I P.heap.objs.size tn D (λnn i L' N j=>nn=T.length-i/\i≤T.length/\j0 ok g fc fe (T.drop i) L' N=some (j,S2)) ds) ?_ T.length ?_
  .rintro nn sx ⟨i,J',F',m',H',L',N,acc,j,xs,I',tn',fr',st',r',l',hacc,ra,hal,nF,nm,⟨rfl,hi',E⟩,rfl⟩;by_cases hlt:i < T.length
   .have hv:T[i]? = some T[i]:=by simp[hlt]
    rw[Ao hlt]at E;unfold j0 at E;split at E;case isFalse=>cases E
    rename_i hok;obtain⟨hgo,_⟩:=itp F' m' H' N st' r' hok;obtain⟨hgo1,hy⟩:=hgo i _ hv;refine cD (k.item (inn X G N' P I K.objs.size D) rfl rfl rfl hcalm i [] sx J' H' (λ_ _=>False) I' (fpH fr') tn' hgo1) (λrr sy hr=>?_) (λ_ _ f=>f.elim);obtain⟨u,rfl,hr⟩:=hr;refine cD hr (λ_ sz hz=>?_) (λ_ _ f=>f.elim);obtain⟨x,H3,I4,rx,yl,tn4,fr4⟩:=hz;obtain⟨F3,gr,p3⟩:=hy x H3 yl;have Gz:Stp C m1 I F3 m' H3:=st'.trans gr.stp;have r4:=r'.grow gr;have l4:=l'.mono (gr.stp (m:=m'));have acc4:=gr.keep _ _ hacc;have nF4:¬F3 P.heap.objs.size:=λd=>by
     rcases gr.nf _ d with d|⟨d,_⟩
     .exact nF d
     .rw [hacc]at d;cases d
    have I4':=I4.pinned (fpH fr4) (k.obj _ _ tn4);have back:∀{J7:L2.St}{H7:Hp}{s7:Shared},Inv (inn X G N' P I K.objs.size D) ([]++nN D sz.heap) J7 H7 s7->tn (i+1) s7.heap/\∀b ∈ D,H7 b=none:=λ{J7 H7 s7} I7=>
     ⟨k.keep _ _ _ tn4 λb R o e=>(I7.pin (b,o) (eS _ (eS _ (jU R e)))).1,λb R=>by obtain⟨o,e,dd⟩:=k.obj _ _ tn4 b R;exact(I7.pin (b,o) (eS _ (eS _ (jU R e)))).2.1⟩
    cases eg:g T[i] L' with
    |none=>rw[eg]at E;cases E
    |some L1=>
     rw[eg]at E;dsimp only at E;obtain⟨kk,S5,e5,E⟩:=ag E;refine cD (hg P I K.objs.size D _ sz J' H3 x u (λJ5 H5=>H5=H3/\RL X.K F3 H3 m' J5 L1) I4' rx ⟨F3,m',L',T[i],L1,l4,p3,eg,λJ5 l5=>⟨rfl,l5⟩⟩) (λ_ s5 h5=>?_) (λ_ _ f=>f.elim);obtain⟨J5,H5,I5,rfl,l5⟩:=h5;have test:wx X (forIn ifs true λc r=>if r=true then do let ok <- isTrue c (compEnvC G (lN G X.e) K.objs.size X.e) (eval c (compEnvC G (lN G X.e) K.objs.size X.e));pure (ForInStep.yield ok) else pure (ForInStep.yield r))
       (λok s6=>ok=kk/\∃V m6 H6,Inv (inn X G N' P I K.objs.size D) ([]++nN D sz.heap) J5 H6 s6/\Stp F3 m' H5 V m6 H6/\Rel X.K V H6 m6 S5) (λ_ _=>False) s5:=by
      have hcc:=hc P I K.objs.size D;cases hcc with
      |none=>cases e5;exact wpAny_tests_nil ⟨rfl,F3,m',H5,I5,.refl,r4⟩
      |one hq=>refine wpAny_tests_one (cD (hq _ s5 J5 H5 (λb H6=>b=kk/\∃V m6,Stp F3 m' H5 V m6 H6/\Rel X.K V H6 m6 S5) I5 ⟨F3,m',L1,N,kk,S5,r4,l5,e5,λV m6 H6 s6 r6=>⟨rfl,V,m6,s6,r6⟩⟩) (λb s6 h6=>?_) λ_ _ f=>f);obtain⟨H6,I6,rfl,V,m6,Ec,r6⟩:=h6;exact⟨rfl,V,m6,H6,I6,Ec,r6⟩
     refine cD test (λok s6 h6=>?_) (λ_ _ f=>f.elim);obtain⟨rfl,V,m6,H6,I6,Ec,r6⟩:=h6;have W:=Ec.oth _ _ acc4 nm;have nm6:P.heap.objs.size ∉ m6:=λd=>by
      rcases Ec.nm _ d with d|d
      .exact nm d
      .rw [acc4]at d;cases d
     have nF6:¬V P.heap.objs.size:=λd=>by
      rcases Ec.nf _ d with d|d|d
      .exact nF4 d
      .rw [acc4]at d;cases d
      .exact nm d
     have ra6:=b7.mono Ec (ra.grow gr);have l6:=l5.mono Ec;cases ok with
     |false=>rw[af bx]at E ⊢;obtain⟨t7,f7⟩:=back I6;exact⟨T.length-(i+1),by lia,i+1,J5,V,m6,H6,L1,S5,acc,j,xs,I6.pins_of λp hp=>absurd hp (by simp),t7,f7,Gz.trans Ec,r6,l6,W,ra6,zN hal,nF6,nm6,⟨rfl,hlt,E⟩,rfl⟩
     |true=>
      rw[ac rfl]at E ⊢;obtain⟨t,S8,e8,E⟩:=ag E;obtain⟨zs,S9,e9,E⟩:=ag E;cases E;refine cD (he P I K.objs.size D _ s6 J5 H6 (λv8 H8=>∃F8 m8,Stp V m6 H6 F8 m8 H8/\Rel X.K F8 H8 m8 S8/\RP X.K F8 H8 t v8) I6 ⟨V,m6,L1,S5,t,S8,r6,l6,e8,λv8 F8 m8 H8 s8 r8 p8=>⟨F8,m8,s8,r8,p8⟩⟩) (λu8 s8 h8=>?_) (λ_ _ f=>f.elim);obtain⟨v8,H8,I8,rv8,F8,m8,st8,r8,p8⟩:=h8;have acc8:=st8.oth _ _ W nm6;have nm8:P.heap.objs.size ∉ m8:=λd=>by
       rcases st8.nm _ d with d|d
       .exact nm6 d
       .rw [W]at d;cases d
      have nF8:¬F8 P.heap.objs.size:=λd=>by
       rcases st8.nf _ d with d|d|d
       .exact nF6 d
       .rw [W]at d;cases d
       .exact nm6 d
      have ra8:=b7.mono st8 ra6;have nt8:∀zs,H8 P.heap.objs.size≠some (.tup zs):=λzs d=>by rw[acc8]at d;cases d
      have nc8:∀x u,H8 P.heap.objs.size≠some (.frz x (.own u)):=λx u d=>by rw[acc8]at d;cases d
      have hl8:xs.length < sizeLine:=by have h9:T.length≤1000000:=aJ hfew;rw[<- ra8.length];exact bF (jI hal hlt) (au h9 (by decide))
      refine cD (sC (X:=inn X G N' P I K.objs.size D) _ s8 J5 H8 (.ref P.heap.objs.size) [v8] (.ref P.heap.objs.size) [u8] (λ_ H9=>H9=bN H8 P.heap.objs.size (.lst (xs++[v8]))) I8 rfl (.cons rv8 .nil) ⟨_,xs,v8,rfl,rfl,acc8,hl8,rfl⟩) (λ_ s9 h9=>?_) (λ_ _ f=>f.elim);obtain⟨_,H9,I9,_,rfl⟩:=h9;obtain⟨t9,f9⟩:=back I9;have kb:Kp F8 m8 H8 F8 m8 (bN H8 P.heap.objs.size (.lst (xs++[v8]))):=Kp.bump nF8 nt8 nc8;have st9:Stp C m1 I F8 m8 (bN H8 P.heap.objs.size (.lst (xs++[v8]))):=(Gz.trans (Ec.trans st8)).bump hD;have l9:RL X.K F8 (bN H8 P.heap.objs.size (.lst (xs++[v8]))) m8 J5 L1:=⟨l6.len,λw dd e=>by obtain⟨v,e1,rr⟩:=(l6.mono st8).at' w dd e;exact⟨v,e1,RD.kp kb rr⟩⟩
      exact⟨T.length-(i+1),by lia,i+1,J5,F8,m8,_,L1,S8,acc++[t],zs,xs++[v8],I9.pins_of fun p hp=>absurd hp (by simp),t9,f9,st9,r8.bump nF8 nm8 nt8 nc8,l9,aF,
       b7.kp kb (ra8.append ⟨v8,[],rfl,p8,rfl⟩),by rw[aZ];exact Nat.succ_le_succ hal,nF8,nm8,⟨rfl,hlt,e9⟩,by simp⟩
   .have e:i=T.length:=by lia
    subst e;rw[pj]at E;unfold j0 at E;split at E;case isFalse=>cases E
    rename_i hok;cases E;obtain⟨_,hstop⟩:=itp F' m' H' _ st' r' hok;refine cD (k.done (inn X G N' P I K.objs.size D) rfl rfl rfl hcalm T.length [] sx J' H' (λ_ _=>False) I' (fpH fr') tn' hstop) (λrr sy hr=>?_) (λ_ _ f=>f.elim);obtain⟨rfl,I5⟩:=hr;rw[cP] at *
    have Iout:Inv X pins J H' sy:=I2.call' (q:=D) I5.os I5.base I5.h I5.bare λb R=>⟨(f2 b R).2.2.2.1,(f2 b R).2.1,(f2 b R).2.2.2.2.1,(f2 b R).2.2.2.2.2⟩;have hD0:H P.heap.objs.size=none:=by
     cases q:H P.heap.objs.size with
     |none=>rfl
     |some o=>exact absurd hD (s1.trk _ (by rw[q];exact λd=>nomatch d))
    have hCH:H' K.objs.size=none:=I5.free;obtain⟨mC,hmC,_⟩:=I5.loc;exact fin P.heap.objs.size F' m' H' sy K.objs.size xs Iout (s1.trans st') r' ⟨hD0,nF,nm,hacc,ra⟩ hCH (au I2.sz A) hCloc hCcell hCpin ⟨mC,hmC⟩
  .exact⟨0,_,C,m1,_,nw y n L,S1,[],ds,[],I3,tn1,λb R=>by rw[al (bb (hfp b R))];exact(f2 b R).1,(cg hD).stp,r1.grow (cg hD),((l.mono s1).mono (cg hD).stp).up y n,aF,rfl,bX _,r1.fresh_F hD,r1.fresh_m hD,⟨rfl,bX _,by rw[mf];exact e2⟩,rfl⟩
 exact codeAny_compStart_list (loop _ rfl) (k.self X.A 0 _ _ _ tn1 (loop _ rfl))
theorem wY(q:Stp F m H F' m' H')(r:Rel K F' H' m' S)(f:H p=none/\¬F' p/\p ∉ m'/\H' p=some (.lst xs)/\b7 K F' H' k xs) :
  Stp F m H (λb=>F' b\/b=p) m' H'/\Rel K (λb=>F' b\/b=p) H' m' S/\RP K (λb=>F' b\/b=p) H' (.lst k) (.ref p):=by
 obtain⟨x,e,n,h,a⟩:=f;exact⟨q.addF x,r.addF n (by rw[h];exact λz=>nomatch z),_,xs,rfl,⟨.inr rfl,h⟩,b7.kp (m:=m') RU a⟩
theorem Nb(B:BlockOk X G N' y n)(c:X.c=true)
  (W:rJ X tg iter f y n g fc fe) (hg:∀s H C a,PG (inn X G N' s H C a) tg (gT X.K g)) (V:∀s H C a,PIfs (inn X G N' s H C a) u fc) (Z:∀s H C a,Y (inn X G N' s H C a) t (tV X.K fe))
  (o:closureFor G X.e=pure (lN G X.e)) (hs:∀x,foldedSetIterable iter X.e x=pure x:=by intro _;rfl) :
  Y X (.ListComp t [⟨tg,iter,u,0⟩] G M) (tV X.K f):=by
 intro i s J H Q I ⟨F,m,L,S,d,N,r,l,h,k⟩;rw[AD];obtain⟨wi,hi,W⟩:=W;obtain⟨ok,T,S1,ds,rfl,e,hw,K⟩:=W J H F m L S d N r l h;refine k9 B c hi hg V Z o hs I r l hw e K λp F' m' H' sx C xs v q r' f R P A D E hz=>?_
 obtain⟨mC,b⟩:=hz;obtain⟨w,j,z⟩:=wY q r' f;exact⟨mC,b,λh' sb=>⟨.ref p,H',v.letGo sb R P A D E,rfl,k _ _ m' H' w j z⟩⟩
@[simp] def q_(f:EV)(L:Lc)(S:U):vV:=bG (f L S) λv h=>match v with
 | .lst d=>some (.ref h.length,h++[.lst (d.map .p)])
 |_=>none
theorem ri(q:Stp F m H F' m' H')(r:Rel K F' H' m' S)(f:H p=none/\¬F' p/\p ∉ m'/\H' p=some (.lst xs)/\b7 K F' H' Q xs) :
  Stp F m H F' (m'++[p]) H'/\Rel K F' H' (m'++[p]) (S++[.lst (Q.map .p)]):=by
 obtain⟨v,j,l,c,y⟩:=f;have g:Kp F' m' H' F' (m'++[p]) H':=⟨⟨[p],rfl⟩,λ_ h=>h,λ_ _ _ h=>h,λ_ _ h=>h,λ_ _ _ h=>h⟩;have lt:∀{i:Nat}{a:Addr},(m'++[p])[i]? = some a->i < m'.length\/(i=m'.length/\a=p):=λ{i a} e=>by
  rcases tU i m'.length with h|h
  .exact .inl h
  .rw [bI h]at e;have d:i-m'.length=0:=by
    rcases zP (i-m'.length) with z|z
    .exact z
    .rw [pB (by simp;lia)]at e;cases e
   rw[d]at e;exact .inr ⟨by lia,by simpa using e.symm⟩
 refine⟨⟨?_,q.oth,q.frz,q.frk,q.tup,q.trk,q.nf,λb t=>?_,q.cod⟩,⟨by rw[aZ,aZ,r.len];rfl,?_,λi a o s x=>?_,λi a o s x w=>?_,λa k=>?_,r.ft⟩⟩
 .obtain⟨n,e⟩:=q.pre;exact⟨n++[p],by rw[e,fK]⟩
 .rcases bA.mp t with t|t
  .exact q.nm b t
  .have:b=p:=by simpa using t
   subst this;exact .inr v
 .rw [jN];refine⟨r.nd,by simp,λa k b t e=>?_⟩;have:b=p:=by simpa using t
  subst this;subst e;exact l k
 .rcases lt s with h|⟨h,rfl⟩
  .rw [bL h]at s;rw[bL (by rw[<- r.len];exact h)]at x;exact(r.obj i a o s x).kp g λu z=>z
  .subst h;rw[r.len,bI (ah _)]at x;simp at x;subst x;exact⟨xs,c,cN.ofP y⟩
 .rcases lt s with h|⟨h,rfl⟩
  .rw [bL h]at s;rw[bL (by rw[<- r.len];exact h)]at x;exact r.sep i a o s x w
  .exact j
 .rcases bA.mp k with k|k
  .exact r.trk a k
  .have:a=p:=by simpa using k
   subst this;rw[c];exact λz=>nomatch z
theorem J_(B:BlockOk X G N' y n)(c:X.c=true)
  (W:rJ X tg iter f y n g fc fe) (hg:∀s H C a,PG (inn X G N' s H C a) tg (gT X.K g)) (hc:∀s H C a,PIfs (inn X G N' s H C a) u fc) (he:∀s H C a,Y (inn X G N' s H C a) t (tV X.K fe))
  (o:closureFor G X.e=pure (lN G X.e)) (hs:∀x,foldedSetIterable iter X.e x=pure x:=by intro _;rfl) :
  Y X (.ListComp t [⟨tg,iter,u,0⟩] G M) (tE X.K (q_ f)):=by
 intro i s J H Q I ⟨F,m,L,S,d,N,r,l,h,k⟩;rw[AD];obtain⟨v,z,A,h⟩:=ag h;obtain⟨wi,hi,W⟩:=W;obtain⟨ok,T,S3,ds,rfl,e,hw,D⟩:=W J H F m L S v z r l A;cases h;refine k9 B c hi hg hc he o hs I r l hw e D λp F' m' H' sx C xs j q w f hC E R V Z hz=>?_
 obtain⟨mC,b⟩:=hz;obtain⟨K,P⟩:=ri q w f;refine⟨mC,b,λh' sb=>⟨.ref p,H',j.letGo sb hC E R V Z,rfl,k _ F' _ H' K P ⟨p,rfl,?_⟩⟩⟩;rw[<- w.len,bI (ah _)];simp
theorem M3(i:Nat)(hN:X.N.Nodup)(B:BlockOk X G N' y n)(c:X.c=true)
  (W:rJ X tg iter f y n g fc fe) (hg:∀s H C b,PG (inn X G N' s H C b) tg (gT X.K g)) (hc:∀s H C b,PIfs (inn X G N' s H C b) u fc) (he:∀s H C b,Y (inn X G N' s H C b) t (tV X.K fe))
  (o:closureFor G X.e=pure (lN G X.e)) (R:swapsWith (.ListComp t [⟨tg,iter,u,0⟩] G M) (some (.Name x px)) spos.line X.e=pure true:=by rfl)
  (hs:∀x,foldedSetIterable iter X.e x=pure x:=by intro _;rfl) (A:X.N[i]? = some x:=by rfl) (hx:Loc X.e.scope x:=by first|exact Or.inl rfl|exact Or.inr rfl)
  (hf:X.fn x=true\/X.e.scope.names.lookup x=some .local:=by first|exact .inl rfl|exact .inr rfl|assumption) :
  PS X (.Assign [.Name x px] (.ListComp t [⟨tg,iter,u,0⟩] G M) spos) (kr X.K (aD i (O f))):=by
 intro K s J H D I ⟨F,m,L,S,fl,L',N,r,l,h,k⟩;obtain⟨d,S1,e1,h⟩:=ag h;cases h;obtain⟨v,S2,e2,e3⟩:=ag e1;cases e3;rw[Dm _ _ _ _ R];refine ab (tj (ab ?_));show wpAny _ _ (do let _ <- comprehension (.ListComp t [⟨tg,iter,u,0⟩] G M) G X.e _ (newList []) false (eval iter X.e) (some (assign (.Name x px) X.e))) _ _ s;obtain⟨wi,hi,W⟩:=W;obtain⟨ok,T,S3,ds,rfl,j,hw,e4⟩:=W J H F m L S v _ r l e2;refine ab (cD (k9 (use:=some (assign (.Name x px) X.e)) (Q:=λ_ V=>SP X K D .next V) B c hi hg hc he o hs I r l hw j e4 λp F' m' H' sx C xs I' st0 r0 f hC h0 h1 h2 h3 hz=>?_) (λ_ V hq=>ao (ao hq)) λ_ _ e=>e);obtain⟨mC,E⟩:=hz;obtain⟨q,r',rp⟩:=wY st0 r0 f;refine xq (nJ I' hN A hx (v:=.ref p) rfl (λV P z=>?_) hf);refine⟨mC,?_,λh' sb=>⟨_,H',P.letGo sb hC h0 h1 h2 h3,k _ _ m' H' q r' ((l.mono q).set (d:=.p (.lst ds)) rp i)⟩⟩;obtain⟨a,Z,w⟩:=z;refine E.sameBut Z ?_;rcases w with w|w
 .rw [w];exact h1
 .exact aI (h2 x a w)
end
end Ev
namespace Ev
open PySem PySem.Spec PyProof.Rows L2
section
variable{X:Cx}{a b e:Expr}{es:Ab}{C t:EV}{fs:jB}{N p:Pos}
noncomputable def C2:P->Option P
 | .int i=>some (.int (-i))
 |_=>none
theorem Qd(f:Y X a (tV X.K C)):Y X (.UnaryOp .USub a N) (tV X.K (Nj C2 C)):=(NP Ki f).imp' λJ H Q z=>by
 obtain⟨F,m,L,S,d,t,r,l,q,k⟩:=z;obtain⟨x,w,n,q⟩:=ag q;cases x with
 |int i=>cases q;exact⟨F,m,L,S,_,_,r,l,n,λv h b e s c p=>⟨i,p,k _ h b e s c rfl⟩⟩
 |_=>cases q
noncomputable def sV:List P->Option P
 | [.int i]=>some (.int i)
 | [.bl b]=>some (.int (if b then 1 else 0))
 |_=>none
theorem QG{K:FG}{F:Aa}{H:Hp}{d h:P}{s:List V}(r:b7 K F H [d,h] s):∃x y,s=[x,y]/\RP K F H d x/\RP K F H h y:=by obtain⟨x,f,rfl,p,e⟩:=r;obtain⟨y,n,rfl,a,k⟩:=e;cases (show n=[] from k);exact⟨x,y,rfl,p,a⟩
theorem xY{K:FG}{F:Aa}{H:Hp}{d:P}{s:List V}(r:b7 K F H [d] s):∃x,s=[x]/\RP K F H d x:=by obtain⟨x,h,rfl,p,a⟩:=r;cases (show h=[] from a);exact⟨x,rfl,p⟩
theorem Ja:eE X (.type "int") (rC X.K sV):=by
 intro B s J H n u Q I r h;obtain⟨F,e,d,f,a,q,k⟩:=h;unfold sV at q;split at q
 .cases q;obtain⟨x,rfl,p⟩:=xY a;exact sS B s J H _ u Q I r (.inl ⟨_,by rw[show x=_ from p],k _ F H .refl rfl⟩)
 .cases q;obtain⟨x,rfl,p⟩:=xY a;exact sS B s J H _ u Q I r (.inr ⟨_,by rw[show x=_ from p],k _ F H .refl rfl⟩)
 .cases q
noncomputable def oB:EE:=λ_ S=>some (.ref S.length,S++[.dct [] []])
theorem DW:Y X (.Dict [] [] N) (tE X.K oB):=EL.imp' λJ H Q z=>by obtain⟨F,m,L,S,d,x,r,l,q,k⟩:=z;cases q;intro p h;refine k (.ref p) F (m++[p]) _ (dF h) (r.own h ⟨[],aF,rfl,rfl⟩) ⟨p,rfl,?_⟩;rw[<- r.len,bI (ah _)];simp
noncomputable def rg(k:b0)(v:D):List b0->List D->List b0×List D
 |h::s,w::x=>if h=k then (h::s,v::x) else (h::(rg k v s x).1,w::(rg k v s x).2)
 |_,_=>([k],[v])
noncomputable def mN(d:D)(S:U):Option (Nat×List b0×List D):=match d with
 | .ref i=>match S[i]? with
  |some (.dct k T)=>some (i,k,T)
  |_=>none
 |_=>none
theorem uT(h:mN v S=some (i,u,T)):v=.ref i/\S[i]? = some (.dct u T):=by
 unfold mN at h;split at h
 .split at h
  .rename_i e;cases h;exact⟨rfl,e⟩
  .cases h
 .cases h
def xW(o:EE)(k v:EV):ES:=λL S=>bG (v L S) λy x=>bG (o L x) λd a=>bG (k L a) λz h=>match mN d h,cR z with
 |some (i,s,T),some e=>if (s.Nodup/\few s=true) then some (.nx,L,h.set i (.dct (rg e (.p y) s T).1 (rg e (.p y) s T).2)) else none
 |_,_=>none
theorem ss{K:FG}{F:Aa}{H:Hp}{m:List Addr}{k:b0}{y:D}{u:V}(b:RD K F H m y u):∀{v:List (b0×V)}{s:List D},(v.map (·.1)).Nodup->cN K F H m s (v.map (·.2)) ->
  (putK v k u).map (·.1)=(rg k y (v.map (·.1)) s).1/\cN K F H m (rg k y (v.map (·.1)) s).2 ((putK v k u).map (·.2))
 | [],s,_,r=>by have:s=[]:=g_ r.length;subst this;exact⟨rfl,u,[],rfl,b,rfl⟩
 |(h,w)::v,[],_,r=>by have:=r.length;simp at this
 |(h,w)::v,d::s,g,r=>by
  obtain⟨x,E,e,C,i⟩:=r;rw[az]at e g;injection e with j o;subst j;subst o;obtain⟨t,p⟩:=bP.mp g;simp only[az,rg];by_cases hk:h=k
  .subst hk;rw[ac rfl];have n:putK ((h,w)::v) h u=(h,u)::v:=by
    unfold putK;rw[ac (by simp)];rw[az,ac rfl];congr 1;have:∀l:List (b0×V),h ∉ l.map (·.1)->l.map (λa=>if a.1=h then (a.1,u) else a)=l:=by
     intro l;induction l with
     |nil=>intro _;rfl
     |cons q l B=>
      intro f;rw[az]at f;have S:¬q.1=h:=λz=>f (by rw[<- z];exact aH)
      rw[az,af S,B λz=>f (aG _ z)]
    exact this v t
   rw[n];exact⟨rfl,u,_,rfl,b,i⟩
  .rw [af hk];obtain⟨P,A⟩:=ss b p i;have n:putK ((h,w)::v) k u=(h,w)::putK v k u:=by
    unfold putK;rw[dv,bj (show ¬(h,w).1=k from hk),kW];by_cases c:(v.any λa=>decide (a.1=k))=true
    .rw [ac c,ac c,az,af (show ¬(h,w).1=k from hk)]
    .rw [af c,af c];rfl
   rw[n,az,az,P];exact⟨rfl,w,_,rfl,C,A⟩
theorem PY{o i g:Expr}{I:EE}{r z:EV}{G:Pos}(hu:X.A.units+1 < cLine)(ho:Y X o (tE X.K I))(hi:Y X i (tV X.K r))(hv:Y X g (tV X.K z))(hs:swapsWith g (some (.Subscript o i G)) N.line X.e=pure false:=by rfl) :
  PS X (.Assign [.Subscript o i G] g N) (kr X.K (xW I r z)):=(Bp hu ho hi hv hs).imp' λD J H hz=>by
 obtain⟨F,m,L,S,fl,L',S',h,l,q,k⟩:=hz;obtain⟨y,M,e1,q⟩:=ag q;obtain⟨d,Q,e2,q⟩:=ag q;obtain⟨e,R,e3,q⟩:=ag q;refine⟨F,m,L,S,y,M,h,l,e1,λv E m1 H1 p r1 p1=>?_⟩;refine⟨E,m1,L,M,d,Q,r1,l.mono p,e2,λx F2 m2 H2 u r2 p2=>?_⟩;refine⟨F2,m2,L,Q,e,R,r2,(l.mono p).mono u,e3,λw f c b K C p3=>?_⟩;cases A:mN d R with
 |none=>rw[A]at q;cases q
 |some t=>
  obtain⟨j,ks,T⟩:=t;rw[A]at q;cases P:cR e with
  |none=>rw[P]at q;cases q
  |some n=>
   rw[P]at q;dsimp only at q;split at q
   .rename_i Z;cases q;obtain⟨rfl,es⟩:=uT A;obtain⟨a,rfl,B⟩:=RD.mono K p2;obtain⟨s,W,hk,rs⟩:=C.obj j a _ B es;subst hk;have pv:RD X.K f b c (.p y) v:=RD.mono K (RD.mono u (show RD X.K E H1 m1 (.p y) v from p1));obtain⟨h1,h2⟩:=ss (k:=n) pv Z.1 rs;cases (ip P p3);have nt:∀zs,b a≠some (.tup zs):=λzs e=>by rw[W]at e;cases e
    have st:Stp f c b f c (bN b a (.dK (putK s n v))):=eT C B es trivial nt;have hl:s.length < sizeLine:=by have V:(s.map (·.1)).length≤1000000:=aJ Z.2;rw[aX]at V;exact jI V (by decide)
    refine⟨a,_,rfl,xg.k W hl,?_⟩;exact k J f c _ (p.trans (u.trans (K.trans st))) (C.set B es trivial nt ⟨_,aF,h1,cN.mono st h2⟩) (((l.mono p).mono u).mono (K.trans st))
   .cases q
end
section
variable{X:Cx}{a b c e:Expr}{es:Ab}{C t q:EV}{fs:jB}{N p:Pos}
abbrev C5:P->P->Option P:=R0
theorem N8(_:X.A.units+1 < cLine):oU X (compareOp .Eq) C5:=QW
@[simp] def i5(a:EV)(L:Lc)(S:U):D2:=bG (a L S) λv h=>match v with
 | .lst x=>some (x,h)
 | .ro x=>some (x,h)
 | .tup x=>some (x,h)
 |_=>none
theorem iS{N iter:Expr}(h:Y X iter (tV X.K C)):PI X N iter (tI X.K (i5 C)):=by
 intro B s J H R I ⟨F,m,L,S,T,Z,r,l,q,k⟩;obtain⟨v,K,e1,q⟩:=ag q;refine cG (h B s J H (λx n=>∃c w,Stp F m H c w n/\Rel X.K c n w K/\RP X.K c n v x) I ⟨F,m,L,S,v,K,r,l,e1,λx c w n f D j=>⟨c,w,f,D,j⟩⟩) λu f A=>?_
 obtain⟨x,n,t,M,c,w,st,D,j⟩:=A;have mk:∀{E:It},Mw X.K E T c w n->K=Z->R E n:=λit e=>by subst e;exact k _ c w n st D it
 have i:∀{a:Addr}{z:List V},x=.ref a->iB X.K n a z->R (PU X.K a) n->wx X (pyIter u) (PM X B J N R) X.xe f:=λ{a z} e hq q=>by
  subst e;cases M;obtain⟨g,rv,p,A⟩:=t.list hq;refine xt p.isList ?_;refine⟨f.heap.objs.size,[f.heap.objs.size],_,_,n,rfl,t.kept (t':=f.toks) λb o e=>aO _ e,Cg a _,⟨_,br _ rfl,rfl,rfl⟩,λb P=>?_,q⟩;have e:b=f.heap.objs.size:=by simpa using P
  subst e;exact t.fpOk (ah _) (t.h.fresh (ah _))
 cases v with
 |lst G=>cases q;obtain⟨a,z,rfl,d,y⟩:=j;exact i rfl d.sq (mk (Fu (λQ m2 W s=>(d.kp s.kp).sq) y) rfl)
 |ro G=>cases q;obtain⟨a,z,rfl,d,y⟩:=j;exact i rfl d.sq (mk (Fu (λQ m2 W s=>(d.kp s.kp).sq) y) rfl)
 |tup G=>
  cases q;obtain⟨a,z,rfl,d,y⟩:=j;cases M;obtain⟨g,rv,pp,A⟩:=t.tuple d.sq;refine tu (show f.heap.IsTuple a g.toArray from pp) ?_;refine⟨f.heap.objs.size,[f.heap.objs.size],_,_,n,rfl,t.kept (t':=f.toks) λb o e=>aO _ e,xL a _,⟨_,br _ rfl,rfl,rfl⟩,λb P=>?_,mk (LP d y) rfl⟩;have e:b=f.heap.objs.size:=by simpa using P
  subst e;exact t.fpOk (ah _) (t.h.fresh (ah _))
 |_=>cases q
end
section
variable{X:Cx}{N p:Pos}
end
noncomputable def cA:Nat->P->Bool
 |_,.non=>true
 |_,.bl _=>true
 |_,.int _=>true
 |_,.str x=>aW x
 |n+1,.tup s=>s.all (cA n)
 |n+1,.lst s=>s.all (cA n)
 |n+1,.ro s=>s.all (cA n)
 |_,_=>false
variable{n:Nat}
theorem pJ:∀{s:List P},(∀d ∈ s,(pd d).canLay0=true/\(pd d).depth≤n)->vM (jf s)=true/\p6 (jf s)≤n
 | [],_=>⟨rfl,bX _⟩
 |d::r,h=>by obtain⟨⟨p,a⟩,q⟩:=List.forall_mem_cons.mp h;obtain⟨x,e⟩:=pJ q;exact⟨by simp only[jf,vM,p,x,Bool.and_self],by simp only[jf,p6];lia⟩
theorem fN:∀(n:Nat)(p:P),cA n p=true->(pd p).canLay0=true/\(pd p).depth≤n
 |_,.non,_=>⟨rfl,bX _⟩
 |_,.bl _,_=>⟨rfl,bX _⟩
 |_,.int _,_=>⟨rfl,bX _⟩
 |n,.str x,h=>⟨by cases n<;>exact h,bX _⟩
 |n,.dct _ _,h=>by cases n<;>cases h
 |0,.tup _,h=>by cases h
 |0,.lst _,h=>by cases h
 |0,.ro _,h=>by cases h
 |n+1,.tup s,h=>by obtain⟨a,b⟩:=pJ λd hd=>fN n d (a_.mp h d hd);exact⟨a,by simp only[pd,sg];lia⟩
 |n+1,.lst s,h=>by obtain⟨a,b⟩:=pJ λd hd=>fN n d (a_.mp h d hd);exact⟨a,by simp only[pd,sg];lia⟩
 |n+1,.ro s,h=>by obtain⟨a,b⟩:=pJ λd hd=>fN n d (a_.mp h d hd);exact⟨a,by simp only[pd,sg];lia⟩
theorem jT(h:cA 20 p=true):zV (pd p)=true:=by obtain⟨x,a⟩:=fN 20 p h;unfold zV;rw[x,ut];exact gY (by lia)
section
variable{X:Cx}{B:PN}{J:L2.St}{H:Hp}{s:Shared}{F:Aa}
theorem iL(o:∀{p:P}{v:V}{u:Value},RP X.K F H p v->RelV v u->cA n p=true->∃k,Reads s.heap u (pd p) k) :
  ∀{f:List P}{a:List V}{b:LV},b7 X.K F H f a->ba a b->(∀d ∈ f,cA n d=true)->∃k,ReadsAll s.heap b (jf f) k
 | [],a,b,r,v,_=>by cases (show a=[] from r);cases v;exact⟨_,.nil⟩
 |d::f,a,b,r,v,h=>by
  obtain⟨x,i,rfl,p,r⟩:=r;cases v with
  |cons w t=>obtain⟨k,q⟩:=o p w (h d (.head _));obtain⟨g,m⟩:=iL o r t λe c=>h e (.tail _ c);exact⟨_,.cons q m⟩
theorem ig(I:Inv X B J H s):∀(n:Nat){p:P}{v:V}{u:Value},RP X.K F H p v->RelV v u->cA n p=true->∃w,Reads s.heap u (pd p) w:=by
 intro n;induction n with
 |zero=>
  intro p v u r k h;cases p with
  |non=>cases (show v=.non from r);cases k;exact⟨_,.none⟩
  |bl b=>cases (show v=.bl b from r);cases k;exact⟨_,.bool b⟩
  |int i=>cases (show v=.int i from r);obtain⟨t,rfl⟩:=k;exact⟨_,.int i t⟩
  |str x=>cases (show v=.str x from r);obtain⟨t,rfl⟩:=k;exact⟨_,.str x t⟩
  |_=>simp[cA]at h
 |succ n y=>
  intro p v u r k h;cases p with
  |non=>cases (show v=.non from r);cases k;exact⟨_,.none⟩
  |bl b=>cases (show v=.bl b from r);cases k;exact⟨_,.bool b⟩
  |int i=>cases (show v=.int i from r);obtain⟨t,rfl⟩:=k;exact⟨_,.int i t⟩
  |str x=>cases (show v=.str x from r);obtain⟨t,rfl⟩:=k;exact⟨_,.str x t⟩
  |dct A T=>simp[cA]at h
  |tup z=>obtain⟨a,K,rfl,l,j⟩:=r;cases k;obtain⟨g,f,⟨o,e,c,m,d⟩,S⟩:=I.tuple l.sq;obtain⟨w,q⟩:=iL y j f (by simpa[cA] using h);rw[pd];exact⟨w,reads_tuple_at e c d (by simpa using q)⟩
  |lst z=>obtain⟨a,K,rfl,l,j⟩:=r;cases k;obtain⟨g,f,⟨o,m,e,c,_,d⟩,S⟩:=I.list l.sq;obtain⟨w,q⟩:=iL y j f (by simpa[cA] using h);rw[pd];exact⟨_,tN e c d (by simpa using q)⟩
  |ro z=>obtain⟨a,K,rfl,l,j⟩:=r;cases k;obtain⟨g,f,⟨o,m,e,c,_,d⟩,S⟩:=I.list l.sq;obtain⟨w,q⟩:=iL y j f (by simpa[cA] using h);rw[pd];exact⟨_,tN e c d (by simpa using q)⟩
end
noncomputable def oM(f:D->Option P):List D->Option (List P)
 | []=>some []
 |d::r=>(f d).bind λv=>(oM f r).map λT=>v::T
def eI(S:U):Nat->D->Option P
 |_,.p v=>some v
 |0,.ref _=>none
 |n+1,.ref i=>match S[i]? with
  |some (.lst d)=>(oM (eI S n) d).map .lst
  |some (.fz v)=>some v
  |_=>none
@[simp] theorem uM(S:U)(n:Nat)(v:P):eI S n (.p v)=some v:=by cases n<;>rfl
theorem Bz(S:U)(n:Nat):∀T:List P,oM (eI S n) (T.map .p)=some T
 | []=>rfl
 |v::r=>by simp[oM,Bz S n r]
section
variable{X:Cx}{B:PN}{J:L2.St}{H:Hp}{s:Shared}{F:Aa}{m:List Addr}{S:U}
theorem qK(o:∀{d:D}{v:V}{u:Value}{p:P},RD X.K F H m d v->RelV v u->eI S n d=some p->cA a0 p=true->∃c,Reads s.heap u (pd p) c) :
  ∀{f:List D}{b:List V}{t:LV}{k:List P},cN X.K F H m f b->ba b t->oM (eI S n) f=some k->(∀d ∈ k,cA a0 d=true)->∃c,ReadsAll s.heap t (jf k) c
 | [],b,t,k,r,v,q,_=>by cases (show b=[] from r);cases v;cases q;exact⟨_,.nil⟩
 |d::f,b,t,k,r,v,q,h=>by
  obtain⟨x,B,rfl,p,r⟩:=r;obtain⟨y,j,q⟩:∃a,eI S n d=some a/\(oM (eI S n) f).map (λT=>a::T)=some k:=by
   cases e:eI S n d with
   |none=>simp[oM,e]at q
   |some a=>exact⟨a,rfl,by simpa[oM,e] using q⟩
  obtain⟨C,l,rfl⟩:∃a,oM (eI S n) f=some a/\k=y::a:=by
   cases e:oM (eI S n) f with
   |none=>rw[e]at q;cases q
   |some a=>rw[e]at q;cases q;exact⟨a,rfl,rfl⟩
  cases v with
  |cons K z=>obtain⟨c,g⟩:=o p K j (h y (.head _));obtain⟨A,w⟩:=qK o r z l λe i=>h e (.tail _ i);exact⟨_,.cons g w⟩
theorem dL(I:Inv X B J H s)(y:Rel X.K F H m S):∀(n k:Nat){d:D}{v:V}{u:Value}{p:P},RD X.K F H m d v->RelV v u->eI S n d=some p->cA k p=true->∃b,Reads s.heap u (pd p) b:=by
 intro n;induction n with
 |zero=>
  intro k d v u p r x q h;cases d with
  |p w=>rw[uM]at q;cases q;exact ig I k r x h
  |ref i=>cases q
 |succ n C=>
  intro k d v u p r x q h;cases d with
  |p w=>rw[uM]at q;cases q;exact ig I k r x h
  |ref i=>
   obtain⟨a,rfl,g⟩:=r;have A:i < S.length:=by rw[<- y.len];exact(bw.mp g).1
   obtain⟨o,j⟩:∃o,S[i]? = some o:=⟨S[i],by simp[A]⟩;have l:=y.obj i a o g j;simp only[eI,j]at q;cases o with
   |fz w=>cases q;exact ig I k l x h
   |dct M t=>cases q
   |ins _ _ _=>cases q
   |dtn _ _=>cases q
   |dtt _ _=>cases q
   |fn _=>cases q
   |lst t=>
    dsimp only at q;cases e:oM (eI S n) t with
    |none=>rw[e]at q;cases q
    |some Q=>
     rw[e]at q;cases q;cases k with
     |zero=>simp[cA]at h
     |succ k=>obtain⟨R,K,G⟩:=l;cases x;obtain⟨E,f,⟨o,N,z,c,_,d⟩,L⟩:=I.list (iB.of K);obtain⟨b,q⟩:=qK (a0:=k) (λr x q h=>C k r x q h) G f e (by simpa[cA] using h);rw[pd];exact⟨_,tN z c d (by simpa using q)⟩
theorem mJ(l:Rel X.K F H m S)(r:RD X.K F H m u v)(q:eI S n u=some p)(f:∀s,p≠.lst s/\p≠.tup s):RP X.K F H p v:=by
 cases u with
 |p w=>rw[uM]at q;cases q;exact r
 |ref i=>
  cases n with
  |zero=>cases q
  |succ n=>
   obtain⟨a,rfl,h⟩:=r;have k:i < S.length:=by rw[<- l.len];exact(bw.mp h).1
   obtain⟨o,x⟩:∃o,S[i]? = some o:=⟨S[i],by simp[k]⟩;have b:=l.obj i a o h x;simp only[eI,x]at q;cases o with
   |fz w=>cases q;exact b
   |dct t d=>cases q
   |ins _ _ _=>cases q
   |dtn _ _=>cases q
   |dtt _ _=>cases q
   |fn _=>cases q
   |lst d=>
    dsimp only at q;cases e:oM (eI S n) d with
    |none=>rw[e]at q;cases q
    |some c=>rw[e]at q;cases q;exact absurd rfl (f c).1
end
inductive rEI(K:FG)(g:D->D->U->Option P)(x:V)(y:V)(H:Hp)(Q:VK):Prop
 |mk (F:Aa) (m:List Addr) (S:U) (d:D) (e:D) (v:P) (h0_:Rel K F H m S) (h1_:RD K F H m d x) (h2_:RD K F H m e y) (h3_:g d e S=some v) (h4_:∀u F' H',Grow F H F' H'->RP K F' H' v u->Q u H'):rEI K g x y H Q
noncomputable def rE(K:FG)(g:D->D->U->Option P):R2:=λx y H Q=>rEI K g x y H Q
@[simp] def dH(g:D->D->U->Option P)(a b:EE)(L:Lc)(S:U):tyV:=bG (a L S) λx e=>bG (b L e) λy h=>(g x y h).map λv=>(v,h)
section
variable{X:Cx}{a b:Expr}{C t:EE}{N:Pos}
theorem Be(h:tV X.K (dH a0 C t) J H Q):Kt (rE X.K a0) (tE X.K C) (tE X.K t) J H Q:=by
 obtain⟨F,m,L,S,d,K,r,l,q,k⟩:=h;obtain⟨x,a,P,q⟩:=ag q;obtain⟨y,s,A,q⟩:=ag q;refine⟨F,m,L,S,x,a,r,l,P,λv p B M b I D=>?_⟩;refine⟨p,B,L,a,y,s,I,l.mono b,A,λu i n N c f E=>?_⟩;cases e:a0 x y s with
 |none=>rw[e]at q;cases q
 |some z=>rw[e]at q;cases q;exact⟨i,n,K,x,y,_,f,RD.mono c D,E,e,λw j o g G=>k w j n o (b.trans (c.trans g.stp)) (f.grow g) G⟩
theorem Nc(o:i_ X (compareOp u) (rE X.K v))(x:Y X a (tE X.K C))(e:Y X b (tE X.K t))(m:behindInMarks u b=false):Y X (.Compare a [u] [b] N) (tV X.K (dH v C t)):=
 (Bt o x e m).imp' λ_ _ _ h=>Be h
theorem M4(o:i_ X (compareOp op) (rE X.K u))(c:Y X a (tE X.K C))(w:Y X b (tE X.K t))(g:behindInMarks op b=false):PT X (.Compare a [op] [b] N) (tQ X.K (bV (dH u C t))):=
 (Bo o c w g).imp' λJ H Q h=>by
  refine Be ?_;obtain⟨F,m,L,S,d,y,r,l,q,k⟩:=h;obtain⟨x,z,f,q⟩:=ag q;cases x with
  |bl b=>cases q;exact⟨F,m,L,S,_,_,r,l,f,λv e i n s j p=>⟨_,p,k e i n s j⟩⟩
  |_=>cases q
end
def IR(x y:P):Option Bool:=match C5 x y with
 |some (.bl b)=>some b
 |_=>if (cA 20 x && cA 20 y)=true then some (eA (pd x) (pd y)) else none
def GB(d e:D)(S:U):Option P:=(eI S 9 d).bind λx=>(eI S 9 e).bind λy=>(IR x y).map .bl
def Di(x y:P):Option Bool:=match Md x y with
 |some (.bl b)=>some b
 |_=>if (cA 20 x && cA 20 y)=true then some (!PyData.eqv (pd x) (pd y)) else none
def Dk(d e:D)(S:U):Option P:=(eI S 9 d).bind λx=>(eI S 9 e).bind λy=>(Di x y).map .bl
noncomputable def lv(c:D)(S:U):Option (List b0):=match c with
 | .p (.dct k _)=>some k
 | .ref i=>match S[i]? with
  |some (.dct k _)=>some k
  |some (.fz (.dct k _))=>some k
  |_=>none
 |_=>none
noncomputable def CQ(k:b0)(s:List b0):Bool:=s.any λh=>decide (h=k)
def MF(d c:D)(S:U):Option Bool:=match lv c S with
 |some s=>(eI S 9 d).bind λx=>(cR x).map λk=>CQ k s
 |none=>none
def L3(d c:D)(S:U):Option P:=(MF d c S).map .bl
noncomputable def eC:D->Bool
 | .p .non=>true
 |_=>false
def vK(d e:D)(_:U):Option P:=match e with
 | .p .non=>some (.bl (eC d))
 |_=>none
def dB(d e:D)(_:U):Option P:=match e with
 | .p .non=>some (.bl (!eC d))
 |_=>none
theorem yD(h:C5 x v=some b):(∀s,x≠.lst s/\x≠.tup s)/\∀s,v≠.lst s/\v≠.tup s:=by
 refine⟨λs=>⟨λe=>?_,λe=>?_⟩,λs=>⟨λe=>?_,λe=>?_⟩⟩
 .subst e;cases v<;>cases h
 .subst e;cases v<;>cases h
 .subst e;cases x<;>cases h
 .subst e;cases x<;>cases h
section
variable{X:Cx}
theorem N7(o:X.A.units+64 < cLine):i_ X (compareOp .Eq) (rE X.K GB):=by
 intro B s J H x y v u Q I j z h;obtain⟨F,m,S,d,e,r,l,g,i,q,k⟩:=h;unfold GB at q;cases t:eI S 9 d with
 |none=>rw[t]at q;cases q
 |some a=>
  rw[t]at q;cases p:eI S 9 e with
  |none=>rw[p]at q;cases q
  |some b=>
   rw[p]at q;simp only[jE]at q;cases n:IR a b with
   |none=>rw[n]at q;cases q
   |some c=>
    rw[n]at q;cases q;unfold IR at n;split at n
    .rename_i G w;cases n;obtain⟨K,P⟩:=yD w;exact N8 (by lia) B s J H x y v u Q I j z ⟨F,a,b,.bl c,l.ft,mJ l g t K,mJ l i p P,w,k⟩
    .split at n
     .rename_i f;rw[ar]at f;cases n;obtain⟨D,A⟩:=dL I l 9 20 g j t f.1;obtain⟨E,C⟩:=dL I l 9 20 i z p f.2;exact eq_dataH A C (jT f.1) (jT f.2) o ⟨.bl _,H,I,rfl,k _ F H .refl rfl⟩
     .cases n
theorem C3(h:Md x v=some b):(∀s,x≠.lst s/\x≠.tup s)/\∀s,v≠.lst s/\v≠.tup s:=by
 refine⟨λs=>⟨λe=>?_,λe=>?_⟩,λs=>⟨λe=>?_,λe=>?_⟩⟩
 .subst e;cases v<;>cases h
 .subst e;cases v<;>cases h
 .subst e;cases x<;>cases h
 .subst e;cases x<;>cases h
theorem NZ(o:X.A.units+64 < cLine):i_ X (compareOp .NotEq) (rE X.K Dk):=by
 intro B s J H x y v u Q I j z h;obtain⟨F,m,S,d,e,r,l,g,i,q,k⟩:=h;unfold Dk at q;cases t:eI S 9 d with
 |none=>rw[t]at q;cases q
 |some a=>
  rw[t]at q;cases p:eI S 9 e with
  |none=>rw[p]at q;cases q
  |some b=>
   rw[p]at q;simp only[jE]at q;cases n:Di a b with
   |none=>rw[n]at q;cases q
   |some c=>
    rw[n]at q;cases q;unfold Di at n;split at n
    .rename_i G w;cases n;obtain⟨K,P⟩:=C3 w;exact QR B s J H x y v u Q I j z ⟨F,a,b,.bl c,l.ft,mJ l g t K,mJ l i p P,w,k⟩
    .split at n
     .rename_i f;rw[ar]at f;cases n;obtain⟨D,A⟩:=dL I l 9 20 g j t f.1;obtain⟨E,C⟩:=dL I l 9 20 i z p f.2;exact ne_dataH A C (jT f.1) (jT f.2) o ⟨.bl _,H,I,rfl,k _ F H .refl rfl⟩
     .cases n
theorem mL(x:P):∀s:List P,(jf s).any (λy=>eA y (pd x))=s.any λy=>eA (pd y) (pd x)
 | []=>rfl
 |y::r=>by rw[jf,dv,dv,mL x r]
theorem E5(h:v.all (cA 19)=true):vM (jf v)=true/\p6 (jf v)≤20:=by have l:=fN 20 (.lst v) h;simp only[pd,Dx,sg]at l;have x:=l.2;exact⟨l.1,by lia⟩
theorem Ce:(gD u v).isSome=CQ v (u.map (·.1)):=by
 induction u with
 |nil=>rfl
 |cons p r i=>
  unfold CQ at i ⊢;by_cases h:p.1=v
  .rw [ie h,az,dv,gY h];rfl
  .rw [gC h,i,az,dv,bj h];rfl
theorem F6{K:FG}{F:Aa}{H:Hp}{m:List Addr}{S:U}{c:D}{y:V}{s:List b0}(r:Rel K F H m S)(p:RD K F H m c y)(q:lv c S=some s):∃a k,y=.ref a/\H a=some (.dK k)/\k.map (·.1)=s:=by
 unfold lv at q;split at q
 .cases q;obtain⟨a,k,e,_,hk,h,_⟩:=p;exact⟨a,k,e,hk,h⟩
 .rename_i i;obtain⟨a,rfl,x⟩:=p;split at q
  .rename_i o;cases q;obtain⟨k,hk,h,_⟩:=r.obj i a _ x o;exact⟨a,k,rfl,hk,h⟩
  .rename_i o;cases q;obtain⟨b,k,e,_,hk,h,_⟩:=r.obj i a _ x o;cases e;exact⟨a,k,rfl,hk,h⟩
  .cases q
 .cases q
theorem N4(A:X.A.units+64 < cLine):i_ X (compareOp .In) (rE X.K L3):=by
 intro B s J H x y v u Q I K P h;obtain⟨F,m,S,d,e,r,l,j,o,q,k⟩:=h;unfold L3 MF at q;cases c:lv e S with
 |some C=>
  rw[c]at q;dsimp only at q;cases f:eI S 9 d with
  |none=>rw[f]at q;cases q
  |some a=>
   rw[f]at q;simp only[jE]at q;cases n:cR a with
   |none=>rw[n]at q;cases q
   |some w=>rw[n]at q;cases q;obtain⟨b,g,rfl,hk,p⟩:=F6 l o c;have i:RP X.K F H a x:=mJ l j f λE=>⟨λz=>(by subst z;cases n),λz=>(by subst z;cases n)⟩;cases P;cases ip n i;exact Rk (by lia) I (j8.k hk) K λD t=>⟨.bl _,H,t,rfl,by rw[Ce,p];exact k _ F H .refl rfl⟩
 |none=>rw[c]at q;cases q
theorem N3:i_ X (compareOp .Is) (rE X.K vK):=by
 intro B s J H x y v u Q I c t h;obtain⟨F,m,S,d,e,r,l,n,f,q,k⟩:=h;unfold vK at q;split at q
 .cases q;cases (show y=.non from f);refine Lj B s J H x _ v u Q I c t ⟨rfl,?_⟩;have:decide (x=.non)=eC d:=by
   cases d with
   |ref i=>obtain⟨a,rfl,_⟩:=n;rfl
   |p w=>
    cases w with
    |non=>cases (show x=.non from n);rfl
    |bl b=>cases (show x=.bl b from n);rfl
    |int b=>cases (show x=.int b from n);rfl
    |str b=>cases (show x=.str b from n);rfl
    |_=>(obtain⟨a,g,rfl,_⟩:=n;rfl)
  rw[this];exact k _ F H .refl rfl
 .cases q
theorem E4:i_ X (compareOp .IsNot) (rE X.K dB):=by
 intro B s J H x y v u Q I c t h;obtain⟨F,m,S,d,e,r,l,n,f,q,k⟩:=h;unfold dB at q;split at q
 .cases q;cases (show y=.non from f);refine Ig B s J H x _ v u Q I c t ⟨rfl,?_⟩;have:decide (x=.non)=eC d:=by
   cases d with
   |ref i=>obtain⟨a,rfl,_⟩:=n;rfl
   |p w=>
    cases w with
    |non=>cases (show x=.non from n);rfl
    |bl b=>cases (show x=.bl b from n);rfl
    |int b=>cases (show x=.int b from n);rfl
    |str b=>cases (show x=.str b from n);rfl
    |_=>(obtain⟨a,g,rfl,_⟩:=n;rfl)
  rw[this];exact k _ F H .refl rfl
 .cases q
end
noncomputable def qS:List kj->List P->Lc->Option Lc
 | [],[],L=>some L
 |g::s,v::T,L=>match g v L with
  |some h=>qS s T h
  |none=>none
 |_,_,_=>none
def bD(g:List kj):kj:=λv L=>match v with
 | .tup T=>qS g T L
 |_=>none
theorem wJ:∀{s:List kj}{T:List P}{L x:Lc},qS s T L=some x->T.length=s.length
 | [],[],_,_,_=>rfl
 | [],_::_,_,_,h=>by cases h
 |_::_,[],_,_,h=>by cases h
 |g::s,v::T,L,x,h=>by
  unfold qS at h;split at h
  .rw [aV,aV,wJ h]
  .cases h
inductive gTsI(K:FG)(gs:List kj)(xs:List V)(J:L2.St)(H:Hp)(Q:L2.St->Hp->Prop):Prop
 |mk (F:Aa) (m:List Addr) (L:Lc) (vs:List P) (L':Lc) (h0_:RL K F H m J L) (h1_:b7 K F H vs xs) (h2_:qS gs vs L=some L') (h3_:∀J',RL K F H m J' L'->Q J' H):gTsI K gs xs J H Q
noncomputable def SM(K:FG)(g:List kj):Mu:=λx J H Q=>gTsI K g x J H Q
inductive GsOk(X:Cx):Ab->List kj->Prop where
 |nil:GsOk X [] []
 |cons {x:Str}{p:Pos}{es:Ab}{g:kj}{gs:List kj}:PG X (.Name x p) (gT X.K g)->GsOk X es gs->GsOk X (.Name x p::es) (g::gs)
section
variable{X:Cx}{N:Pos}
theorem se:assignEach (.Name x p::es) v=(false,assign (.Name x p) v)::assignEach es v:=rfl
theorem GsOk.len(h:GsOk X es v)(e:Env):(assignEach es e).length=v.length/\(assignEach es e).findIdx? (·.1)=none:=by
 induction h with
 |nil=>exact⟨rfl,rfl⟩
 |cons _ _ i=>rw[se];refine⟨by rw[aV,aV,i.1],?_⟩;simp only[List.findIdx?_cons,i.2];rfl
theorem GsOk.pgs(h:GsOk X es gs):O4 X es (SM X.K gs):=by
 induction h with
 |nil=>
  intro B s J H f u Q I a ⟨F,m,L,T,e,l,r,q,k⟩;cases T with
  |nil=>cases q;cases (show f=[] from r);exact H0 B s J H [] u Q I a ⟨rfl,k J l⟩
  |cons _ _=>cases q
 |cons g _ i=>
  intro B s J H f u Q I a ⟨F,m,L,T,e,l,r,q,k⟩;cases T with
  |nil=>cases q
  |cons v T=>
   unfold qS at q;split at q
   .rename_i n b;obtain⟨x,t,rfl,p,r⟩:=r;refine EF g i rfl B s J H _ u Q I a ⟨x,t,rfl,F,m,L,v,n,l,p,b,λd c=>?_⟩;exact⟨F,m,n,T,e,c,r,q,k⟩
   .cases q
theorem LZ(c:X.c=true)(h:GsOk X es u):PG X (.Tuple es n N) (gT X.K (bD u)):=
 PG.imp' (K5 c h.pgs (h.len _).1 (h.len _).2) λv J H Q z=>by
  obtain⟨F,m,L,d,x,l,p,q,k⟩:=z;cases d with
  |tup T=>obtain⟨a,s,rfl,t,r⟩:=p;have e:=wJ (show qS u T L=some x from q);exact⟨a,s,rfl,t.sq,by rw[<- r.length];exact e,F,m,L,T,x,l,r,q,k⟩
  |_=>cases q
def Jj(K:FG)(a:Addr):It:=
 ⟨λi H=>∃s x,iB K H a s/\s[i]? = some x,λi H x h=>∃p y,x=.ref p/\H p=none/\h=bN H p (.tup [.int i,y])/\∀s,iB K H a s->s[i]? = some y,λi H=>∃s,iB K H a s/\s.length≤i⟩
theorem Ch{P:Program}{w:World}{K:FG}{es:Ab}{n:Nat}(a e t:Addr)(C:e≠t):Turn P w K (.Tuple es n N) (Jj K a) [e,t] e (λi h=>(∃l,IsEnum h e t i l)/\h.IsListIter t a i) where
 mem:=by simp
 obj:=λi h st b p=>by
  obtain⟨⟨l,A⟩,⟨o,ho,c,d⟩⟩:=st;have:b=e\/b=t:=by simpa using p
  rcases this with rfl|rfl
  .exact⟨_,A,λv z=>by have z':Data.fields _=Data.cell v:=z;cases z'⟩
  .exact⟨o,ho,λv z=>by rw[d]at z;cases z⟩
 keep:=λi h h' st k=>by obtain⟨⟨l,A⟩,y⟩:=st;exact⟨⟨l,k e (by simp) _ A⟩,y.at λo q=>k t (by simp) o q⟩
 item:=by
  intro X hP hw hK f i B s J H E I T st hg;subst hP hw hK;obtain⟨xs,x,V,hx⟩:=hg;obtain⟨its,rv,pl,hz⟩:=I.list V;obtain⟨u,hu,ru⟩:=rv.get hx;obtain⟨⟨l,A⟩,y⟩:=st;obtain⟨f0,f1,f2,f3,f4,f5⟩:=T e (by simp);obtain⟨M,Q,g2,Z,g4,g5⟩:=T t (by simp);refine wpAny_pyNext_enum_item A y pl.isList (x:=u) (by simpa using hu) C λh1 ho1 G ht1 hz1 hk1=>?_
  refine⟨_,rfl,Dv (s:={ s with heap:=h1,toks:=s.toks+1 }) ho1 λR he2 F=>?_⟩;replace F:dX e h1 R:=F;have D:e < s.heap.objs.size:=aC A;have S:∀b o,b≠e->b≠t->s.heap.get? b=some o->R.get? b=some o:=λb o b1 b2 q=>(F.2 b b1).trans (hk1 b o b1 b2 q);have L:R.get? s.heap.objs.size=some { cls:=.type "tuple",data:=.seq #[.int i s.toks,u] }:=(F.2 _ (bO D)).trans ht1;have j:H s.heap.objs.size=none:=I.h.fresh (ah _);have W:∀{b:Addr}{o:HO},H b=some o->b≠e/\b≠t:=λ{b o} q=>⟨λz=>(by rw[z,f0]at q;cases q),λz=>(by rw[z,M]at q;cases q)⟩;have g:∀b,b ∉ [e,t]->b≠e/\b≠t:=λb p=>⟨λz=>p (by simp[z]),λz=>p (by simp[z])⟩;have I':Inv X B J (bN H s.heap.objs.size (.tup [.int i,x])) { s with heap:=R,gens:=s.gens,drawn:=s.drawn,toks:=s.toks+1 }:=by
   refine I.step (ch:=[e,t]) (λb p=>?_) (λb o _ _ f q _=>S b o (g b f).1 (g b f).2 q) (λb o _ _ f q _=>⟨o.slots,S b o (g b f).1 (g b f).2 q⟩) (λb o _ q n=>?_) (λb o f q=>⟨o,S b o (g b f).1 (g b f).2 q⟩)
    (λb ys q=>?_) (λb o ys q=>?_) (λb q=>?_) (λm hm=>?_) (λb u' q=>?_) I.bare
   .have:b=e\/b=t:=by simpa using p
    rcases this with rfl|rfl
    .exact⟨f3,f1,f4,f5⟩
    .exact⟨Z,Q,g4,g5⟩
   .rw [al (bb (aC q))];exact n
   .rw [al (bz q j)];exact q
   .rw [al (bz q j)];exact q
   .rw [al (bz q j)];exact q
   .obtain⟨o,es,ep,ho,r⟩:=hm;exact⟨o,es,ep,S _ o (aI f1) (aI Q) ho,r⟩
   .by_cases p:b=s.heap.objs.size
    .subst p;rw[aF]at q;cases q;exact⟨by show 2≤sizeLine;decide,[.int i s.toks,u],.cons ⟨_,rfl⟩ (.cons ru .nil),⟨_,L,⟨rfl,_,rfl⟩,rfl⟩⟩
    .rw [al p]at q;refine(I.h b u' q).stay (λc v f z=>S c v ?_ ?_ z) (λc z=>by rw[al (bz z j)];exact z) λc ys z=>by rw[al (bz z j)];exact z
     .rcases f with rfl|f
      .exact (W q).1
      .exact (W f).1
     .rcases f with rfl|f
      .exact (W q).2
      .exact (W f).2
  refine⟨.ref s.heap.objs.size,_,I',rfl,⟨s.heap.objs.size,x,rfl,j,rfl,λys hy=>by rw[I.list_inj hy V];exact hx⟩,⟨⟨u,by simpa using he2⟩,G.at λo q=>(F.2 t (aI C)).trans q⟩,λb p=>?_⟩;have hb':b=e\/b=t:=by simpa using p
  obtain⟨oi,hoi,_⟩:=id y;rcases hb' with rfl|rfl
  .rw [al (bb D)];exact f0
  .rw [al (bb (aC hoi))];exact M
 done:=by intro X hP hw hK f i B s J H E I T st hg;subst hP hw hK;obtain⟨xs,V,hx⟩:=hg;obtain⟨its,rv,pl,hz⟩:=I.list V;obtain⟨⟨l,A⟩,y⟩:=st;obtain⟨M,Q,g2,Z,g4,g5⟩:=T t (by simp);have hl:=rv.length;exact wpAny_pyNext_enum_end (I.o.hd f) A y pl.isList (by simp;lia) λh' eb=>⟨rfl,I.turned (t':=s.toks) (λb o p e=>eb b o p e) M Q Z g4 g5⟩
 self:=λ_ _ _ _ _ st h=>by obtain⟨⟨l,A⟩,_⟩:=st;exact tt A h
noncomputable def cq(k:Int):List P->List P
 | []=>[]
 |x::r=>.tup [.int k,x]::cq (k+1) r
theorem k8:∀{T:List P}{k:Int}{i:Nat}{v:P},(cq k T)[i]? = some v->∃x,T[i]? = some x/\v=.tup [.int (k+i),x]
 | [],_,_,_,h=>by simp[cq]at h
 |x::r,k,0,v,h=>⟨x,rfl,by simpa[cq] using h.symm⟩
 |x::r,k,i+1,v,h=>by obtain⟨y,a,e⟩:=k8 (T:=r) (k:=k+1) (i:=i) (by simpa[cq] using h);refine⟨y,by simpa using a,?_⟩;rw[e];congr 3;lia
theorem d5:∀(T:List P)(k:Int),(cq k T).length=T.length
 | [],_=>rfl
 |_::r,k=>by rw[cq,aV,aV,d5 r]
@[simp] def Q8(a:EV)(L:Lc)(S:U):D2:=bG (a L S) λv h=>match v with
 | .lst x=>some (cq 0 x,h)
 | .ro x=>some (cq 0 x,h)
 |_=>none
theorem Fv{K:FG}{F:Aa}{m:List Addr}{H:Hp}{a:Addr}{T:List P}{s:List V}(t:∀h k n,Stp F m H h k n->iB K n a s)(r:b7 K F H T s):Mw K (Jj K a) (cq 0 T) F m H:=by
 intro h k n st;have q:=t h k n st;have l:=r.length;refine⟨λi v e=>?_,⟨s,q,by rw[d5,l];exact ah _⟩⟩;obtain⟨d,c,rfl⟩:=k8 e;obtain⟨x,f,p⟩:=r.get c;refine⟨⟨s,x,q,f⟩,λz u y=>?_⟩;obtain⟨g,y,rfl,b,rfl,w⟩:=y;have:y=x:=by have:=w s q;rw[f]at this;cases this;rfl
 subst this;refine⟨h,cg b,RP.newTup b ⟨_,_,rfl,?_,_,_,rfl,RP.mono st p,rfl⟩⟩;show V.int (i:Int)=V.int (0+(i:Int));rw[cO]
theorem iE{es:Ab}{n:Nat}{a:Expr}{C:EV}{p h:Pos}(hg:Gl X "enumerate")(hm:X.g "enumerate"=none)(ha:Y X a (tV X.K C))(G:starEach [a] X.e=[(false,eval a X.e)]):PI X (.Tuple es n N) (.Call (.Name "enumerate" p) [a] [] h) (tI X.K (Q8 C)):=by
 intro B s J H R I ⟨F,m,L,S,T,S',r,l,q,k⟩;obtain⟨v,A,e1,q⟩:=ag q;have hA:PA X [a] (qm X.K (aB C aR)):=Gw ha Jf (by rw[G];rfl);refine Call_ (jV I hg hm zw (jG (cG (hA h B s J H (λt f=>∃c d,Stp F m H c d f/\Rel X.K c f d A/\b7 X.K c f [v] t) I ⟨F,m,L,S,[v],A,r,l,?_,λt c d f x j K=>⟨c,d,x,j,K⟩⟩) λus x ⟨t,f,w,Q,c,d,st,j,K⟩=>?_) (by rw[G];rfl) rfl))
 .simp only[aB,aR,e1,ak]
 obtain⟨x1,rfl,M⟩:=xY K;obtain⟨u,rfl,ru⟩:=vals1 Q;have D:∀{a:Addr}{t:List V},x1=.ref a->iB X.K f a t->R (Jj X.K a) f->wx X (call (.type "enumerate") [u]) (λv x=>wx X (pyIter v) (PM X B J (.Tuple es n N) R) X.xe x) X.xe x:=λ{a t} e hq q=>by
  subst e;cases ru;obtain⟨its,Q,pl,hz⟩:=w.list hq;refine call_enumerate_list pl.isList λh' E o hsz hk=>?_
  refine tt E ?_;have g:∀b,x.heap.objs.size≤b->f b=none:=λb y=>w.h.fresh y;refine⟨x.heap.objs.size+1,[x.heap.objs.size+1,x.heap.objs.size],_,_,f,rfl,w.kept (t':=x.toks) hk,Ch a _ _ (bO (jH _)),⟨⟨_,E⟩,o⟩,λb y=>?_,q⟩;have z:b=x.heap.objs.size+1\/b=x.heap.objs.size:=by simpa using y
  rcases z with rfl|rfl
  .exact w.fpOk (iD _) (g _ (iD _))
  .exact w.fpOk (ah _) (g _ (ah _))
 cases v with
 |lst ds=>cases q;obtain⟨a,t,rfl,i,P⟩:=M;exact D rfl i.sq (k _ c d f st j (Fv (λW m2 Z s=>(i.kp s.kp).sq) P))
 |ro ds=>cases q;obtain⟨a,t,rfl,i,P⟩:=M;exact D rfl i.sq (k _ c d f st j (Fv (λW m2 Z s=>(i.kp s.kp).sq) P))
 |_=>cases q
end
open PySem.AutoSeq1 (wpAny_loadPart')
theorem Gd(n:Nat):(iu n=true)=(n≤1000000):=by unfold iu;simp
variable{d:Type}{Q:d->Shared->Prop}
theorem Pr(h:c=false)(k:wpAny M A b Q E s):wpAny M A (if c=true then a else b) Q E s:=by rw[h,af bx];exact k
theorem SI(h:c=true)(k:wpAny M A a Q E s):wpAny M A (if c=true then a else b) Q E s:=by rw[h,ac rfl];exact k
theorem wO(a:Array Value)(n:Nat):∀b:Array Value,((List.replicate n a).foldl (·++·) b).size=b.size+n * a.size:=by
 induction n with
 |zero=>intro b;simp
 |succ n i=>intro b;rw[cF,fI,i,Ax,lY];lia
theorem Ht(l:Addr)(i:Array Value)(n:Nat)(e:Option Addr)(k:Array (OV))(x:Int)(u:Tok)(c:-1000000 < x/\x < 1000000)(m:(i.isEmpty ||x == 1)=true) :
  Meets (Builtin.«tuple.__mul__» ⟨[.ref l,.int x u],[]⟩) (λ_ R s=>s.heap.get? l=some { cls:=.type "tuple",dict:=e,data:=.seq i n,slots:=k }/\R (.ok (.ret (Value.ref l))) s):=
 .of_wp λprog w A R s h=>by
  obtain⟨p,g,d,t,os⟩:=s;obtain⟨a,h⟩:=h;have f:=yR;have b:=yS
  wp_walk using lD a
  refine Pr (by rw[bj (by lia),bj (by lia)];rfl) ?_
  wp_walk using lD a
  exact⟨_,rfl,h⟩
theorem Hs(l:Addr)(i:Array Value)(n:Nat)(c:Option Addr)(q:Array (OV))(x:Int)(u:Tok)(H:-1000000 < x/\x < 1000000)(f:¬(i.isEmpty ||x == 1)=true)(z:i.size * x.toNat≤1000000) :
  Meets (Builtin.«tuple.__mul__» ⟨[.ref l,.int x u],[]⟩) (fun _ R s=>s.heap.get? l=some { cls:=.type "tuple",dict:=c,data:=.seq i n,slots:=q } /\
   R (.ok (.ret (Value.ref s.heap.objs.size))) { s with heap:=s.heap.push { cls:=Value.type "tuple",data:=Data.seq ((List.replicate x.toNat i).foldl (·++·) #[]) } }):=
 .of_wp λprog w A R s h=>by
  obtain⟨S,g,d,K,os⟩:=s;obtain⟨a,h⟩:=h;have y:=yR;have o:=yS
  wp_walk using lD a
  refine Pr (by rw[bj (by lia),bj (by lia)];rfl) ?_
  wp_walk using lD a
  have k:i.isEmpty=false:=by
   cases e:i.isEmpty with
   |false=>rfl
   |true=>rw[e]at f;simp at f
  by_cases b:x≤0
  .refine SI (by rw[gY b];rfl) ?_;have m:x.toNat=0:=by lia
   rw[m]at h
   wp_walk using lD a
   exact⟨_,rfl,h⟩
  .refine Pr (by rw[bj b,k];rfl) ?_;have p:(i.size:Int) * x≤1000000:=by
    have:((i.size * x.toNat:Nat):Int)≤1000000:=by lia
    rw[yY,yZ (by lia)]at this;exact this
   have r:¬(i.size:Int) * x > (2 ^ 63-1) / 8:=by lia
   dsimp only;rw[af r];have F:(1000000:Int)≤(sizeLine:Int):=by decide
   refine Pr (show JN _=false from bj (by lia)) ?_;have t:¬(pe (λv j=>v++j) #[] (List.replicate x.toNat i)).size > sizeLine:=by
    have e:=wO i x.toNat #[];rw[e];have:x.toNat * i.size≤1000000:=by rw[kP];exact z
    have:(1000000:Nat)≤sizeLine:=by decide
    simp only[bc,pf];lia
   wp_walk using lD a
   exact⟨_,rfl,h⟩
theorem HJ(a:Int)(t:Tok)(l:Addr)(i:Array Value)(n:Nat)(x:Option Addr)(e:Array (OV)) :
  Meets (Builtin.«int.__rmul__» ⟨[.int a t,.ref l],[]⟩) (λ_ R s=>s.heap.get? l=some { cls:=.type "tuple",dict:=x,data:=.seq i n,slots:=e }/\R (.ok (.ret Value.notImplemented)) s):=
 .of_wp λprog w A R s h=>by
  obtain⟨p,g,d,f,os⟩:=s;obtain⟨k,h⟩:=h
  wp_walk
  exact⟨_,rfl,h⟩
theorem CF:fillsNumberSlot (.type "tuple") "mul"=pure false:=
 PySem.fillsNumberSlot_seq (id:="tuple.__mul__") (r:=some (.builtin "tuple.__rmul__")) o5.lookup (by decide +kernel) zm.lookup (by decide +kernel)
theorem KO:seqRepeat? (.type "tuple")=pure (some (.builtin "tuple.__mul__")):=by unfold seqRepeat?;rw[Dq (T:="tuple") (name:="__mul__") (id:="tuple.__mul__") o5.lookup (by decide +kernel)];first|rfl|(rw[Dq (T:="tuple") (name:="__rmul__") (id:="tuple.__rmul__") zm.lookup (by decide +kernel)];rfl)
section
variable{X:Cx}
theorem yw(i:LV)(k:Nat):(List.replicate k i.toArray).foldl (·++·) #[]=(List.replicate k i).flatten.toArray:=by
 have:∀(m:Nat)(b:LV),(List.replicate m i.toArray).foldl (·++·) b.toArray=(b++(List.replicate m i).flatten).toArray:=by
  intro m;induction m with
  |zero=>intro b;simp
  |succ m x=>intro b;rw[cF,fI,List.append_toArray,x,cF,gn,fK]
 have h:=this k [];rw[eR]at h;exact h
theorem A9(r:ba u v):∀k:Nat,ba (List.replicate k u).flatten (List.replicate k v).flatten
 |0=>.nil
 |k+1=>by rw[cF,cF,gn,gn];exact r.append (A9 r k)
theorem LC(x:List d)(k:Nat):(List.replicate k x).flatten.length=x.length * k:=by
 induction k with
 |zero=>rfl
 |succ k i=>rw[cF,gn,aZ,i,zI];lia
def m7:P->P->Option P
 | .tup s,.int n=>if (iu (s.length * n.toNat) && decide (n.natAbs < 1000000))=true then some (.tup (List.replicate n.toNat s).flatten) else none
 |x,y=>vq x y
theorem Lm:oU X (binaryOp .Mult) m7:=by
 intro B s J H x y v u Q I M N h;obtain⟨F,z,S,d,W,G,L,q,k⟩:=h;have f:vq z S=some d->wx X (binaryOp .Mult v u) (EP X B J Q) X.xe s:=λq=>N0 B s J H x y v u Q I M N ⟨F,z,S,d,W,G,L,q,k⟩
 cases z with
 |tup j=>
  cases S with
  |int n=>
   simp only[m7]at q;split at q
   .rename_i g;rw[ar,Gd]at g;have h1:=aJ g.2;cases q;obtain⟨a,D,rfl,R,C⟩:=G;cases (show y=.int n from L);cases M;obtain⟨t,rfl⟩:=N;have K:=C.length;obtain⟨i,r,⟨o,e,c,m,E⟩,hz⟩:=I.tuple R.sq;have l:=r.length;obtain⟨oc,A,ot,os⟩:=o;dsimp only at c E;subst c E;refine Du (T:="tuple") (U:="int") (by decide) ⟨_,e,rfl⟩ (λZ=>pP Z n t) CF y7 o0 KO y9.lookup
     (gJ o0 (pP s n t) y8 (y_ _ _) (HJ n t a i.toArray m A os) ⟨e,rfl,⟨_,e,rfl⟩,?_⟩)
    by_cases p:(i.toArray.isEmpty ||n == 1)=true
    .refine gJ o5 ⟨_,e,rfl⟩ zi (zn _ _) (Ht a i.toArray m A os n t (by lia) p) ⟨e,⟨.ref a,H,I,rfl,k _ F H .refl ?_⟩⟩;have V:(List.replicate n.toNat j).flatten=j:=by
      rw[uu]at p;rcases p with p|p
      .have:i=[]:=by simpa using p
       have:j=[]:=g_ (by rw[K,l,this];rfl);subst this;simp
      .have:n=1:=by simpa using p
       subst this;simp
     rw[V];exact⟨a,D,rfl,R,C⟩
    .refine gJ o5 ⟨_,e,rfl⟩ zi (zn _ _) (Hs a i.toArray m A os n t (by lia) p (by rw[bc,<- l,<- K];exact g.1)) ⟨e,?_⟩;rw[yw];have w:H s.heap.objs.size=none:=I.h.fresh (ah _);have P:(List.replicate n.toNat D).flatten.length≤sizeLine:=by
      rw[LC,<- K];exact au g.1 (by decide)
     refine⟨.ref s.heap.objs.size,_,I.laid (t':=s.toks) (o:=.tup (List.replicate n.toNat D).flatten) (λb ob q=>aO _ q) (ah _) ⟨P,_,A9 r n.toNat,n0.new _ _⟩,rfl,k _ F _ (cg w) (.newTup w (C.rep n.toNat))⟩
   .cases q
  |_=>exact f q
 |_=>exact f q
noncomputable def i7:List P->Option P
 | [.lst x]=>some (.lst x)
 | [.ro x]=>some (.lst x)
 | [.tup x]=>some (.lst x)
 |_=>none
noncomputable def eY:List P->Option P
 | [.lst x]=>some (.tup x)
 | [.ro x]=>some (.tup x)
 | [.tup x]=>some (.tup x)
 |_=>none
theorem Gg:eE X (.type "list") (rC X.K i7):=by
  intro B s J H m u Q I r h;obtain⟨F,b,d,c,f,q,k⟩:=h;unfold i7 at q;split at q;all_goals first
    |(cases q;done)
    | (cases q
       obtain⟨x,rfl,p⟩:=xY f;obtain⟨a,y,rfl,t,n⟩:=p;first
         |exact na B s J H _ u Q I r ⟨a,y,rfl,.inl t.sq,λl e=>k _ _ _ (cj e) (.newLst e n)⟩
         |exact na B s J H _ u Q I r ⟨a,y,rfl,.inr t.sq,λl e=>k _ _ _ (cj e) (.newLst e n)⟩)
theorem C_:eE X (.type "tuple") (rC X.K eY):=by
  intro B s J H m u Q I r h;obtain⟨F,b,d,c,f,q,k⟩:=h;unfold eY at q;split at q;all_goals first
    |(cases q;done)
    | (cases q
       obtain⟨x,rfl,p⟩:=xY f;obtain⟨a,y,rfl,t,n⟩:=p;first
         |exact lw B s J H _ u Q I r ⟨a,y,rfl,.inl ⟨t.sq,λl e=>k _ F _ (cg e) (.newTup e n)⟩⟩
         |exact lw B s J H _ u Q I r ⟨a,y,rfl,.inr ⟨t.sq,k _ F H .refl ⟨a,y,rfl,t,n⟩⟩⟩)
noncomputable def oF:List P->Option P
 | [.int i]=>some (.int (if i < 0 then -i else i))
 |_=>none
theorem Jb:eE X (.builtin "abs") (rC X.K oF):=by
 intro B s J H n u Q I r h;obtain⟨F,e,d,f,a,q,k⟩:=h;unfold oF at q;split at q
 .cases q;obtain⟨x,rfl,p⟩:=xY a;exact Ge B s J H _ u Q I r ⟨_,by rw[show x=_ from p],k _ F H .refl rfl⟩
 .cases q
variable{e:Expr}{es:Ab}{fs:jB}{p N:Pos}
theorem JV(g:Gl X "list")(m:X.g "list"=none)(a:PA X (e::es) (qm X.K fs))(x:starEach (e::es) X.e=(false,eval e X.e)::starEach es X.e)(h:(backTo N (starEach es X.e)).any (·.1)=false) :
  Y X (.Call (.Name "list" p) (e::es) [] N) (tV X.K (cQ i7 fs)):=xI Gg g m tP a (by decide) (by decide) x h
theorem Hh(g:Gl X "tuple")(m:X.g "tuple"=none)(a:PA X (e::es) (qm X.K fs))(x:starEach (e::es) X.e=(false,eval e X.e)::starEach es X.e)(h:(backTo N (starEach es X.e)).any (·.1)=false) :
  Y X (.Call (.Name "tuple" p) (e::es) [] N) (tV X.K (cQ eY fs)):=xI C_ g m Hb a (by decide) (by decide) x h
theorem M7(g:Gl X "abs")(m:X.g "abs"=none)(a:PA X (e::es) (qm X.K fs))(x:starEach (e::es) X.e=(false,eval e X.e)::starEach es X.e)(h:(backTo N (starEach es X.e)).any (·.1)=false) :
  Y X (.Call (.Name "abs" p) (e::es) [] N) (tV X.K (cQ oF fs)):=Kh Jb g m G9 a (by decide) (by decide) x h
@[simp] def fR(r:EE)(a:EV)(L:Lc)(S:U):vV:=bG (r L S) λd h=>match dw d h with
 |none=>none
 |some _=>bG (a L h) λx e=>match dw d e,x with
  |some (i,s),.lst y=>if iu (s.length+y.length)=true then some (.p .non,e.set i (.lst (s++y.map .p))) else none
  |_,_=>none
def vn(r:EE):EE:=λL S=>bG (r L S) λd h=>match dw d h with
 |some (i,_)=>some (.p .non,h.set i (.lst []))
 |none=>none
end
section
variable{X:Cx}{o e:Expr}{I k:EE}{C:EV}{j h N:Pos}
theorem Hl(ho:Y X o (tE X.K I))(he:Y X e (tV X.K C))(E:starEach [e] X.e=[(false,eval e X.e)])
  (f:attributeBase o "extend" X.e (eval o X.e)=eval o X.e) (c:(j.endLine == h.line)=true):Y X (.Call (.Attribute o "extend" j) [e] [] h) (tE X.K (fR I C)):=
 (Js o6 zc PySem.F.type_list_extend CH ho (eW he ik (by rw[E];rfl)) f (by rw[E];rfl) c (by rw[E];rfl) rfl).imp' λJ H Q hz=>by
  obtain⟨F,m,L,S,d,S',r,l,q,k⟩:=hz;obtain⟨x,B,e1,q⟩:=ag q;refine⟨F,m,L,S,x,B,r,l,e1,λv F1 m1 H1 Z V T=>?_⟩;cases D:dw x B with
  |none=>rw[D]at q;cases q
  |some z=>
   obtain⟨i,ds⟩:=z;rw[D]at q;dsimp only at q;obtain⟨rfl,es⟩:=iM D;obtain⟨a,rfl,hm⟩:=id T;obtain⟨xs,hH,rs⟩:=V.obj i a _ hm es;refine⟨.inl ⟨rfl,xs,iB.of hH⟩,?_⟩;obtain⟨y,N,e2,q⟩:=ag q;refine⟨F1,m1,L,B,y,N,V,l.mono Z,e2,λu P G A s2 M p2=>?_⟩;cases s:dw (.ref i) N with
   |none=>rw[s]at q;cases q
   |some z=>
    obtain⟨i2,ds2⟩:=z;rw[s]at q;obtain⟨e3,n⟩:=iM s;cases e3;cases y with
    |lst ys=>
     dsimp only at q;split at q
     .rename_i hf;cases q;obtain⟨a2,e4,t⟩:=RD.mono s2 T;cases e4;obtain⟨g,p,w⟩:=M.obj i a _ t n;obtain⟨b,K,rfl,tb,W⟩:=p2;have R:∀K,A a≠some (.tup K):=λK z=>by rw[p]at z;cases z
      have st:Stp P G A P G (bN A a (.lst (g++K))):=eT M t n trivial R;refine⟨a,b,g,K,rfl,rfl,p,tb.2,by rw[<- w.length,<- W.length];exact iU hf,?_⟩;exact k .non P G _ (Z.trans (s2.trans st)) (M.set t n trivial R ⟨_,aF,cN.mono st (w.append (cN.ofP W))⟩) rfl
     .cases q
    |_=>cases q
theorem Ka(A:Y X o (tE X.K I))(b:attributeBase o "clear" X.e (eval o X.e)=eval o X.e)(n:(j.endLine == h.line)=true):Y X (.Call (.Attribute o "clear" j) [] [] h) (tE X.K (vn I)):=
 (Ld o6 y' PySem.F.type_list_clear E_ A b n).imp' λJ H Q B=>by
  obtain⟨F,m,L,S,d,E,r,l,q,k⟩:=B;obtain⟨x,u,P,q⟩:=ag q;refine⟨F,m,L,S,x,u,r,l,P,λv e p s D w C=>?_⟩;cases f:dw x u with
  |none=>rw[f]at q;cases q
  |some z=>
   obtain⟨i,G⟩:=z;rw[f]at q;cases q;obtain⟨rfl,es⟩:=iM f;obtain⟨a,rfl,t⟩:=id C;obtain⟨y,c,M⟩:=w.obj i a _ t es;have g:∀K,s a≠some (.tup K):=λK z=>by rw[c]at z;cases z
   have st:Stp e p s e p (bN s a (.lst [])):=eT w t es trivial g;refine⟨.inl ⟨rfl,y,iB.of c⟩,a,y,rfl,rfl,c,?_⟩;exact k .non e p _ (D.trans st) (w.set t es trivial g ⟨_,aF,rfl⟩) rfl
noncomputable abbrev sf:=Lc->U->Option (List D×U)
noncomputable abbrev Nn:=Option (List D×U)
inductive tDsI(K:FG)(f:sf)(J:L2.St)(H:Hp)(Q:List V->Hp->Prop):Prop
 |mk (F:Aa) (m:List Addr) (L:Lc) (S:U) (ds:List D) (S':U) (h0_:Rel K F H m S) (h1_:RL K F H m J L) (h2_:f L S=some (ds,S')) (h3_:∀xs F' m' H',Stp F m H F' m' H'->Rel K F' H' m' S'->cN K F' H' m' ds xs->Q xs H'):tDsI K f J H Q
noncomputable def Co(K:FG)(f:sf):TA:=λJ H Q=>tDsI K f J H Q
@[simp] def fC(_L:Lc)(S:U):Nn:=some ([],S)
@[simp] def bC(a:EE)(r:sf)(L:Lc)(S:U):Nn:=bG (a L S) λx h=>bG (r L h) λs e=>some (x::s,e)
variable{es:Ab}{fs:sf}
theorem OG:PA X [] (Co X.K fC):=ik.imp' λJ H Q h=>by obtain⟨F,m,L,S,d,x,r,l,q,k⟩:=h;cases q;exact k [] F m H .refl r rfl
theorem L8(u:Y X e (tE X.K k))(g:PA X es (Co X.K fs))(i:starEach (e::es) X.e=(false,eval e X.e)::starEach es X.e):PA X (e::es) (Co X.K (bC k fs)):=
 (eW u g i).imp' λJ H Q z=>by obtain⟨F,m,L,S,d,t,r,l,q,h⟩:=z;obtain⟨x,a,p,q⟩:=ag q;obtain⟨B,D,w,q⟩:=ag q;cases q;refine⟨F,m,L,S,x,a,r,l,p,λv f j C s P o=>?_⟩;refine⟨f,j,L,a,B,t,P,l.mono s,w,λT b y c n A K=>?_⟩;exact h (v::T) b y c (s.trans n) A ⟨v,T,rfl,RD.mono n o,K⟩
noncomputable abbrev GF:=List D->U->Option (D×U)
inductive spRI(K:FG)(g:GF)(vs:List V)(H:Hp)(Q:VK):Prop
 |mk (F:Aa) (m:List Addr) (ds:List D) (S:U) (d:D) (S':U) (h0_:Rel K F H m S) (h1_:cN K F H m ds vs) (h2_:g ds S=some (d,S')) (h3_:∀v F' m' H',Stp F m H F' m' H'->Rel K F' H' m' S'->RD K F' H' m' d v->Q v H'):spRI K g vs H Q
noncomputable def mI(K:FG)(g:GF):Sp:=λT H Q _=>spRI K g T H Q
@[simp] def gM(g:GF)(a:sf)(L:Lc)(S:U):vV:=bG (a L S) λd h=>g d h
theorem Kc(G:FnOk X.p X.w X.K X.g X.b og u f fd ps (mI X.K a0))(P:Room u X.A)(o:Gl X x)(K:X.g x=some (.ref f))(hk:dD X.K (.ref f)=true)(y:Binds X.K fd ps [])
  (j:PA X (e::es) (Co X.K fs)) (h:(x == ("__debug__":Str))=false) (z:starEach (e::es) X.e=(false,eval e X.e)::starEach es X.e) (a:(backTo N (starEach es X.e)).any (·.1)=false) :
  Y X (.Call (.Name x p) (e::es) [] N) (tE X.K (gM a0 fs)):=
 (pG G P o K hk y .nil qG j h z a).imp' λJ H Q A=>by obtain⟨F,m,L,S,d,g,r,l,q,u⟩:=A;obtain⟨k,n,i,q⟩:=ag q;refine⟨F,m,L,S,k,n,r,l,i,λR b B t s E p=>?_⟩;show mI X.K a0 (R++[]) t Q E0;rw[cP];exact⟨b,B,k,n,d,g,E,p,q,λv c C w M I D=>u v c C w (s.trans M) I D⟩
noncomputable def ww(n:Nat):D->Bool
 | .p _=>true
 | .ref i=>decide (i < n)
def Iu(n:Nat):SO->Bool
 | .lst d=>d.all (ww n)
 | .dct _ d=>d.all (ww n)
 | .fz _=>true
 | .ins _ _ d=>d.all (ww n)
 | .dtn _ d=>d.all (ww n)
 | .dtt _ d=>d.all (ww n)
 | .fn o=>o.all (ww n)
def trunc(n:Nat)(S:U):U:=if (S.take n).all (Iu n)=true then S.take n else S
@[simp] def fx(g:GF)(a:sf)(L:Lc)(S:U):tyV:=bG (a L S) λs h=>bG (g s h) λd x=>bG (toP 9 d x) λv e=>some (v,trunc h.length e)
end
section
variable{K:FG}{F:Aa}{H:Hp}{m:List Addr}{S:U}
theorem RD.low(h:RD K F H m u v)(l:ww n u=true):RD K F H (m.take n) u v:=by
 cases u with
 |p w=>exact h
 |ref i=>obtain⟨a,e,x⟩:=h;exact⟨a,e,by rw[g9 (aJ l)];exact x⟩
theorem cN.low:∀{s:List D}{a:List V},cN K F H m s a->s.all (ww n)=true->cN K F H (m.take n) s a
 | [],_,h,_=>h
 |d::s,_,h,l=>by obtain⟨x,r,e,k,f⟩:=h;rw[c_,ar]at l;exact⟨x,r,e,k.low l.1,cN.low f l.2⟩
theorem Rel.trunc(r:Rel K F H m S)(B:n≤m.length)(h:(S.take n).all (Iu n)=true):Rel K F H (m.take n) (S.take n) where
 len:=by rw[g6,g6,r.len]
 nd:=r.nd.sublist (Ac _ _)
 obj:=λi a o b p=>by
  have u:i < n:=by have:=(bw.mp b).1;rw[g6]at this;lia
  rw[g9 u]at b;have lo:=a_.mp h o (a8 p);rw[g9 u]at p;have t:=r.obj i a o b p;cases o with
  |lst q=>obtain⟨A,x,s⟩:=t;exact⟨A,x,s.low lo⟩
  |dct g q=>obtain⟨k,x,e,s⟩:=t;exact⟨k,x,e,s.low lo⟩
  |fz v=>exact t
  |ins c g q=>obtain⟨C,j,k,l,x,e,s⟩:=t;exact⟨C,j,k,l,x,e,s.low lo⟩
  |dtn g q=>obtain⟨k,x,e,P,s⟩:=t;exact⟨k,x,e,P,s.low lo⟩
  |dtt g q=>obtain⟨k,x,e,s⟩:=t;exact⟨k,x,e,s.low lo⟩
  |fn D=>intro d hd;obtain⟨v,y,z⟩:=t d hd;subst hd;exact⟨v,y,z.low lo⟩
 sep:=λi a o b p w f=>by
  have u:i < n:=by have:=(bw.mp b).1;rw[g6]at this;lia
  rw[g9 u]at b p;exact r.sep i a o b p w f
 trk:=λa h=>r.trk a (uj h)
 ft:=r.ft
theorem Stp.trunc(s:Stp F m H u v H'):Stp F m H u (v.take m.length) H':=by
 obtain⟨n,e⟩:=s.pre;have x:v.take m.length=m:=by rw[e];simp
 rw[x];exact⟨⟨[],by simp⟩,s.oth,s.frz,s.frk,s.tup,s.trk,s.nf,λ_ h=>.inl h,s.cod⟩
end
section
variable{X:Cx}{e:Expr}{es:Ab}{fs:sf}{N:Pos}
theorem Hj(G:FnOk X.p X.w X.K X.g X.b og u f fd ps (mI X.K a0))(hr:Room u X.A)(Z:Gl X x)(hm:X.g x=some (.ref f))(hk:dD X.K (.ref f)=true)(V:Binds X.K fd ps [])
  (T:PA X (e::es) (Co X.K fs)) (b:(x == ("__debug__":Str))=false) (W:starEach (e::es) X.e=(false,eval e X.e)::starEach es X.e) (w:(backTo N (starEach es X.e)).any (·.1)=false) :
  Y X (.Call (.Name x p) (e::es) [] N) (tV X.K (fx a0 fs)):=
 (pG G hr Z hm hk V .nil qG T b W w).imp' λJ H Q hz=>by
  obtain⟨F,m,L,S,d,S',r,l,q,u⟩:=hz;obtain⟨z,h,I,q⟩:=ag q;obtain⟨E,D,M,q⟩:=ag q;obtain⟨v1,a,R,q⟩:=ag q;cases q;refine⟨F,m,L,S,z,h,r,l,I,λxs B g C A K p1=>?_⟩;show mI X.K a0 (xs++[]) C Q E0;rw[cP];refine⟨B,g,z,h,E,D,K,p1,M,λv F2 i y s2 r2 p2=>?_⟩;obtain⟨j,s3,P,l3,o⟩:=nI 9 R r2 p2;have st:=s2.trans s3;have s:=K.len;by_cases c:(a.take h.length).all (Iu h.length)=true
  .have t:Ev.trunc h.length a=a.take h.length:=ac c;rw[t]at u;have k:g.length≤i.length:=by
    obtain⟨nn,e⟩:=st.pre;rw[e,aZ];lia
   have rt:=P.trunc (n:=h.length) (by rw[<- s];exact k) c;refine u v j (i.take g.length) y (A.trans st.trunc) ?_ o;rw[s];exact rt
  .have t:Ev.trunc h.length a=a:=af c;rw[t]at u;exact u v j i y (A.trans st) P o
end
section
variable{X:Cx}{a b c e o i g:Expr}{C t q r z:EV}{I k:EE}{N G:Pos}
def rG (i:Expr):Prop:=∀(o:Expr) (N:Pos) (e:Env) (v:Value),assign (.Subscript o i N) e v=(do
 let h <- holding [v] (eval o e)
 let iv <- holding [v,h] (eval i e)
 standAt N
 holding [v,h,iv] (setItem h iv v)
 release [v,h,iv] [])
def Ei(o:EE)(k v:EV):ES:=λL S=>bG (v L S) λy x=>bG (o L x) λd a=>bG (k L a) λz h=>match dw d h,z with
 |some (i,s),.int n=>match Dj s.length n with
  |some j=>some (.nx,L,h.set i (.lst (s.set j (.p y))))
  |none=>none
 |_,_=>none
theorem cN.setAt{K:FG}{F:Aa}{H:Hp}{m:List Addr}{d:D}{v:V}(h:RD K F H m d v):∀{s:List D}{e:List V}(j:Nat),cN K F H m s e->cN K F H m (s.set j d) (e.set j v)
 | [],_,_,r=>by cases (show _=([]:List V) from r);exact rfl
 |_::_,_,0,r=>by obtain⟨x,a,rfl,p,r⟩:=r;exact⟨v,a,rfl,h,r⟩
 |_::_,_,j+1,r=>by obtain⟨x,a,rfl,p,r⟩:=r;exact⟨x,_,rfl,p,cN.setAt h j r⟩
theorem MW(ho:Y X o (tE X.K I))(hi:Y X i (tV X.K r))(hv:Y X g (tV X.K z))(hs:swapsWith g (some (.Subscript o i G)) N.line X.e=pure false)(hw:swappedStores [.Subscript o i G] g X.e=pure none)(A:rG i) :
  PS X (.Assign [.Subscript o i G] g N) (kr X.K (Ei I r z)):=(Ez hv (K6 ho hi Ee (A o G X.e)) hs hw).imp' λD J H hz=>by
 obtain⟨F,m,L,S,fl,L',S',h,l,q,k⟩:=hz;obtain⟨y,Q,e1,q⟩:=ag q;obtain⟨d,R,e2,q⟩:=ag q;obtain⟨e,T,e3,q⟩:=ag q;refine⟨F,m,L,S,y,Q,h,l,e1,λv M W H1 c r1 p1=>?_⟩;refine⟨M,W,L,Q,d,R,r1,l.mono c,e2,λx F2 m2 H2 p r2 p2=>?_⟩;refine⟨F2,m2,L,R,e,T,r2,(l.mono c).mono p,e3,λw s b f u E p3=>?_⟩;cases P:dw d T with
 |none=>rw[P]at q;cases q
 |some t=>
  obtain⟨j,ds⟩:=t;rw[P]at q;cases e with
  |int n=>
   dsimp only at q;cases K:Dj ds.length n with
   |none=>rw[K]at q;cases q
   |some C=>
    rw[K]at q;cases q;obtain⟨rfl,es⟩:=iM P;obtain⟨a,rfl,B⟩:=RD.mono u p2;obtain⟨xs,V,rs⟩:=E.obj j a _ B es;have pv:RD X.K s f b (.p y) v:=RD.mono u (RD.mono p (show RD X.K M H1 W (.p y) v from p1));cases (show w=.int n from p3);have Z:∀zs,f a≠some (.tup zs):=λzs e=>by rw[V]at e;cases e
    have st:Stp s b f s b (bN f a (.lst (xs.set C v))):=eT E B es trivial Z;refine⟨a,xs,n,C,rfl,rfl,V,by rw[<- rs.length];exact K,?_⟩;exact k J s b _ (c.trans (p.trans (u.trans st))) (E.set B es trivial Z ⟨_,aF,cN.mono st (cN.setAt pv C rs)⟩) (((l.mono c).mono p).mono (u.trans st))
  |_=>cases q
def jd(o:EE)(k v:EV):ES:=λL S=>match xW o k v L S with
 |some r=>some r
 |none=>Ei o k v L S
theorem MX(j:X.A.units+1 < cLine)(d:Y X o (tE X.K I))(v:Y X i (tV X.K r))(u:Y X g (tV X.K z))(w:swapsWith g (some (.Subscript o i G)) N.line X.e=pure false)(hw:swappedStores [.Subscript o i G] g X.e=pure none)(t:rG i) :
  PS X (.Assign [.Subscript o i G] g N) (kr X.K (jd I r z)):=λB s J H D x h=>by
 obtain⟨F,m,L,S,b,n,f,a,l,q,k⟩:=h;cases c:xW I r z L S with
 |some e=>
  have p:some e=some (b,n,f):=by have:=q;unfold jd at this;rw[c]at this;exact this
  cases p;exact PY j d v u w B s J H D x ⟨F,m,L,S,b,n,f,a,l,c,k⟩
 |none=>
  have p:Ei I r z L S=some (b,n,f):=by have:=q;unfold jd at this;rw[c]at this;exact this
  exact MW d v u w hw t B s J H D x ⟨F,m,L,S,b,n,f,a,l,p,k⟩
@[simp] def nH(g n:P->P->Option P)(a b c:EV)(L:Lc)(S:U):tyV:=bG (a L S) λx e=>bG (b L e) λy h=>match g x y with
 |some (.bl true)=>bG (c L h) λz s=>(n y z).map λv=>(v,s)
 |some (.bl false)=>some (.bl false,h)
 |_=>none
theorem wZ{g c:P->P->Option P}{J:L2.St}{H:Hp}{Q:VK}(h:tV X.K (nH g c C t q) J H Q):xP (rP X.K g) (rP X.K c) (tV X.K C) (tV X.K t) (tV X.K q) J H Q:=by
 obtain⟨F,m,L,S,d,S',r,l,a,k⟩:=h;obtain⟨x,o,e1,a⟩:=ag a;obtain⟨y,K,e2,a⟩:=ag a;refine⟨F,m,L,S,x,o,r,l,e1,λv N m1 H1 G r1 p1=>?_⟩;refine⟨N,m1,L,o,y,K,r1,l.mono G,e2,λu R i H2 I B A=>?_⟩;cases b:g x y with
 |none=>rw[b]at a;cases a
 |some z=>
  rw[b]at a;cases z with
  |bl e=>
   refine⟨R,x,y,_,B.ft,RP.mono I p1,A,b,λw f j p p3=>⟨e,p3,?_⟩⟩;have qx:Stp F m H f i j:=G.trans (I.trans p.stp);have D:=B.grow p;cases e with
   |false=>rw[af bx];cases a;exact k _ f i j qx D rfl
   |true=>
    rw[ac rfl];dsimp only at a;obtain⟨z,Z,e3,a⟩:=ag a;refine⟨f,i,L,K,z,Z,D,l.mono qx,e3,λw' T m4 H4 M E p4=>?_⟩;cases s:c y z with
    |none=>rw[s]at a;cases a
    |some z2=>rw[s]at a;cases a;exact⟨T,y,z,_,E.ft,RP.mono M (RP.grow p A),p4,s,λw2 V W n p5=>k w2 V m4 W (qx.trans (M.trans n.stp)) (E.grow n) p5⟩
  |_=>cases a
theorem Kb(n:oU X (compareOp op) v)(o:oU X (compareOp u) g')(x:Y X a (tV X.K C))(e:Y X b (tV X.K t))(s:Y X c (tV X.K q))(m:lastMarks [op,u] [b,c]=false) :
  Y X (.Compare a [op,u] [b,c] N) (tV X.K (nH v g' C t q)):=(ET n o x e s m).imp' λ_ _ _ h=>wZ h
theorem JS(z:oU X (compareOp op) u)(o:oU X (compareOp op') g')(g:Y X a (tV X.K C))(i:Y X b (tV X.K t))(j:Y X c (tV X.K q))(y:lastMarks [op,op'] [b,c]=false) :
  PT X (.Compare a [op,op'] [b,c] N) (tQ X.K (bV (nH u g' C t q))):=(Eu z o g i j y).imp' λJ H Q h=>by
 refine wZ ?_;obtain⟨F,m,L,S,d,A,r,l,e,k⟩:=h;obtain⟨x,B,w,e⟩:=ag e;cases x with
 |bl b=>cases e;exact⟨F,m,L,S,_,_,r,l,w,λv n K f s P p=>⟨_,p,k n K f s P⟩⟩
 |_=>cases e
def xO:P->Option Bool
 | .non=>some false
 | .bl b=>some b
 | .int i=>some (i != 0)
 | .str x=>if iu x.length=true then some ((x.length:Int) != 0) else none
 | .tup s=>some (!s.isEmpty)
 | .lst s=>some (!s.isEmpty)
 | .ro s=>some (!s.isEmpty)
 | .dct k _=>some (!k.isEmpty)
def Hu:D->U->Option Bool
 | .p v,_=>xO v
 | .ref i,S=>match S[i]? with
  |some (.lst d)=>some (!d.isEmpty)
  |some (.dct k _)=>some (!k.isEmpty)
  |some (.fz v)=>xO v
  |_=>none
@[simp] def bT(f:EE)(L:Lc)(S:U):MC:=bG (f L S) λd h=>(Hu d h).map λb=>(b,h)
theorem iP{x:List d}{y:List l}(h:x.length=y.length):x.isEmpty=y.isEmpty:=by cases x<;>cases y<;>first|rfl|simp at h
theorem Bb(p:RP X.K F H w v)(h:xO w=some u):Mr X.K v H u:=by
 cases w with
 |non=>cases (show v=.non from p);cases h;rfl
 |bl b=>cases (show v=.bl b from p);cases h;rfl
 |int b=>cases (show v=.int b from p);cases h;rfl
 |str x=>
  cases (show v=.str x from p);simp only[xO]at h;split at h
  .rename_i c;cases h;exact⟨iU c,rfl⟩
  .cases h
 |tup d=>obtain⟨a,s,rfl,t,r⟩:=p;cases h;exact .inr (.inl ⟨s,t.sq,by rw[iP r.length]⟩)
 |lst d=>obtain⟨a,s,rfl,t,r⟩:=p;cases h;exact .inl ⟨s,t.sq,by rw[iP r.length]⟩
 |ro d=>obtain⟨a,s,rfl,t,r⟩:=p;cases h;exact .inl ⟨s,t.sq,by rw[iP r.length]⟩
 |dct n d=>obtain⟨a,k,rfl,_,hk,e,r⟩:=p;cases h;exact .inr (.inr ⟨k,hk,by rw[<- e];cases k<;>rfl⟩)
theorem yT(h:Y X e (tE X.K k))(D:∀o,isTrue e X.e o=(do let v <- o;standAt e.pos;holding [v] (truthy v))):PT X e (tQ X.K (bT k)):=
 (Et h D).imp' λJ H Q E=>by
  obtain⟨F,m,L,S,d,N,r,l,q,s⟩:=E;obtain⟨x,P,B,q⟩:=ag q;cases n:Hu x P with
  |none=>rw[n]at q;cases q
  |some t=>
   rw[n]at q;cases q;refine⟨F,m,L,S,x,_,r,l,B,λv z G K I c i=>⟨_,?_,s z G K I c⟩⟩;cases x with
   |p w=>exact Bb i n
   |ref j=>
    obtain⟨a,rfl,g⟩:=i;simp only[Hu]at n;split at n
    .rename_i A f;cases n;obtain⟨M,u,y⟩:=c.obj j a _ g f;exact .inl ⟨M,iB.of u,by rw[iP y.length]⟩
    .rename_i R A f;cases n;obtain⟨b,u,C,y⟩:=c.obj j a _ g f;exact .inr (.inr ⟨b,u,by rw[<- C];cases b<;>rfl⟩)
    .rename_i w f;exact Bb (c.obj j a _ g f) n
    .cases n
@[simp] def xV(g:kj)(f:EV)(L:Lc)(S:U):Ba:=bG (f L S) λv x=>match g v L with
 |some h=>some (.nx,h,x)
 |none=>none
theorem PX(p:Y X e (tV X.K C))(d:PG X tg (gT X.K u))(w:swapsWithSole [tg] e N.line X.e=pure false)(hw:swappedStores [tg] e X.e=pure none)(t:(assignEach [tg] X.e).map (·.2)=[assign tg X.e]) :
  PS X (.Assign [tg] e N) (kr X.K (xV u C)):=(Ez p d w hw t).imp' λD J H z=>by
 obtain⟨F,m,L,S,P,o,K,r,l,q,k⟩:=z;obtain⟨v,b,c,q⟩:=ag q;refine⟨F,m,L,S,v,b,r,l,c,λx h a n s y j=>?_⟩;cases g:u v L with
 |none=>rw[g]at q;cases q
 |some L2=>rw[g]at q;cases q;exact⟨h,a,L,v,_,l.mono s,j,g,λf i=>k f h a n s y i⟩
def m9:P->P->Option P
 | .tup [],.tup s=>some (.tup s)
 |x,y=>vr x y
theorem Mj{M:Program}{w:World}{A:Around}{E:VP}{s:Shared}{t b:Addr}{a:LV}{Q:VP}(n:IsTup s.heap t #[])(e:IsTup s.heap b a.toArray)(h:Q (.ref b) s):wpAny (model M w) A (binaryOp .Add (.ref t) (.ref b)) Q E s:=by obtain⟨o,g,k,m,l⟩:=id n;obtain⟨p,x,f,r,c⟩:=id e;cases o;cases p;cases k;cases l;cases f;cases c;exact xh ⟨_,g,rfl⟩ ⟨_,x,rfl⟩ xo xj tF tG (tJ _ _) (tuple_addW0 t b #[] a.toArray m r _ _ _ _ rfl) ⟨g,x,h⟩
theorem Ln:oU X (binaryOp .Add) m9:=by
 intro B s J H x y v u Q I r m h;obtain⟨F,e,n,d,t,c,p,q,k⟩:=h;have o:vr e n=some d->wx X (binaryOp .Add v u) (EP X B J Q) X.xe s:=λq=>N9 B s J H x y v u Q I r m ⟨F,e,n,d,t,c,p,q,k⟩
 cases e with
 |tup f=>
  cases n with
  |tup es=>
   cases f with
   |nil=>cases q;obtain⟨a,P,rfl,S,z⟩:=c;obtain⟨b,D,rfl,K,C⟩:=id p;cases (show P=[] from z);cases r;cases m;obtain⟨w,l,g,_⟩:=I.tuple S.sq;obtain⟨i,A,j,_⟩:=I.tuple K.sq;cases l;exact Mj g j ⟨.ref b,H,I,rfl,k _ F H .refl p⟩
   |cons _ _=>exact o q
  |_=>cases f<;>exact o q
 |_=>exact o q
def yL(K:FG)(m:SV)(x:Str)(v:P):Prop:=∃u w,m x=some u/\RelV w u/\∀F H,RP K F H v w
theorem M'(g:Gl X x)(h:yL X.K X.g x v)(hd:(x == ("__debug__":Str))=false):Y X (.Name x N) (tV X.K (vC v)):=by obtain⟨u,w,m,r,p⟩:=h;exact xC (Ic g m r hd) p
end
section
variable{X:Cx}{a:Expr}{C:EE}{p N:Pos}
end
noncomputable def iO(f:Str):LS->List D->Option D
 |k::h,d::s=>if k=f then some d else iO f h s
 |_,_=>none
noncomputable def putK(f:Str):LS->LS
 | []=>[f]
 |k::s=>if k=f then k::s else k::putK f s
noncomputable def rN(f:Str)(y:D):LS->List D->List D
 | [],_=>[y]
 |k::h,d::s=>if k=f then y::s else d::rN f y h s
 |_::_,[]=>[]
def kg(K:FG)(c:Str)(C:Addr):Prop:=pZ K mainGlobals c=some (some (.ref C))
variable{K:FG}
theorem kg.inj(h:kg K c v)(x:kg K c u):v=u:=by have:=h.symm.trans x;cases this;rfl
def PV(K:FG)(A:Str->Str->Bool):Prop:=∀c f,A c f=true->∃C,kg K c C/\Cls K C/\lU K C f
section
variable{K:FG}{F:Aa}{H:Hp}{m:List Addr}
theorem BB:∀{a:List (Str×V)}{s:List D}{d:D},cN K F H m s (a.map (·.2))->iO f (a.map (·.1)) s=some d->∃v,a.lookup f=some v/\RD K F H m d v
 | [],s,d,_,h=>by cases s<;>cases h
 |(k,x)::r,s,d,p,h=>by
  cases s with
  |nil=>cases h
  |cons q s=>
   obtain⟨y,w,e,c,t⟩:=p;simp only[az,jC]at e;obtain⟨rfl,rfl⟩:=e;simp only[az,iO]at h;split at h
   .rename_i hk;cases h;subst hk;exact⟨x,by simp[fH],c⟩
   .rename_i hk;obtain⟨v,n,b⟩:=BB t h;exact⟨v,by rw[pu,show(f == k)=false by simpa using λz=>hk z.symm];exact n,b⟩
theorem BA:∀{v:List (Str×V)},(v.map (·.1)).contains f=false->v.lookup f=none
 | [],_=>rfl
 |(k,x)::r,h=>by simp only[az,List.contains_cons,As]at h;rw[pu,h.1];exact BA h.2
theorem Es(h:RD K F H m u v):∀{s:List (Str×V)}{d:List D},cN K F H m d (s.map (·.2))->(i3 f v s).map (·.1)=putK f (s.map (·.1))/\cN K F H m (rN f u (s.map (·.1)) d) ((i3 f v s).map (·.2))
 | [],d,n=>⟨rfl,v,[],rfl,h,rfl⟩
 |(k,x)::r,d,n=>by
  cases d with
  |nil=>cases (show _=([]:List V) from n)
  |cons t d=>
   obtain⟨z,p,e,b,a⟩:=n;simp only[az,jC]at e;obtain⟨rfl,rfl⟩:=e;by_cases hk:k=f
   .simp only[i3,hk,jJ,az,putK,rN];first|exact⟨rfl,v,_,rfl,h,a⟩|exact⟨trivial,v,_,rfl,h,a⟩
   .obtain⟨i,c⟩:=Es h a;simp only[i3,hk,jK,az,putK,rN];exact⟨by rw[i],x,_,rfl,b,c⟩
end
section
variable{X:Cx}{o e g:Expr}{f:Str}{N G j:Pos}{I z:EE}{A:Str->Str->Bool}{es:Ab}{fs:sf}
@[simp] def dR(A:Str->Str->Bool)(o:EE)(f:Str)(L:Lc)(S:U):vV:=bG (o L S) λd h=>match d with
 | .ref i=>match h[i]? with
  |some (.ins c k s)=>if A c f=true then (iO f k s).map λz=>(z,h) else none
  |_=>none
 |_=>none
theorem Qj(B:PV X.K A)(V:Y X o (tE X.K I))(G:attributeBase o f X.e (eval o X.e)=eval o X.e):Y X (.Attribute o f N) (tE X.K (dR A I f)):=(Lb V G).imp' λJ H Q Z=>by
 obtain⟨F,m,L,S,d,S',r,l,q,k⟩:=Z;obtain⟨x,u,y,q⟩:=ag q;refine⟨F,m,L,S,x,u,r,l,y,λv b m1 t s1 n p1=>?_⟩;cases x with
 |p w=>cases q
 |ref i=>
  obtain⟨a,rfl,R⟩:=p1;dsimp only at q;split at q
  .rename_i c ks g W;split at q
   .rename_i E;cases h:iO f ks g with
    |none=>rw[h]at q;cases q
    |some z=>rw[h]at q;cases q;obtain⟨C,j,s,P,D,rfl,rs⟩:=n.obj i a _ R W;obtain⟨C',e,M,T⟩:=B c f E;cases kg.inj P e;obtain⟨v,K,p3⟩:=BB rs h;exact⟨a,C,j,s,v,rfl,D,M,T,K,k v b m1 t s1 n p3⟩
   .cases q
  .cases q
@[simp] def oj(A:Str->Str->Bool)(o:EE)(f:Str)(v:EE)(L:Lc)(S:U):Ba:=bG (v L S) λy x=>bG (o L x) λd h=>match d with
 | .ref i=>match h[i]? with
  |some (.ins c k s)=>if (A c f && decide (k.length < 900))=true then some (.nx,L,h.set i (.ins c (putK f k) (rN f y k s))) else none
  |_=>none
 |_=>none
theorem MY(hA:PV X.K A)(ho:Y X o (tE X.K I))(hv:Y X g (tE X.K z))(e:swapsWith g (some (.Attribute o f G)) N.line X.e=pure false):PS X (.Assign [.Attribute o f G] g N) (kr X.K (oj A I f z)):=(K0 ho hv e).imp' λD J H hz=>by
 obtain⟨F,m,L,S,fl,L',S',r,l,q,k⟩:=hz;obtain⟨y,Q,e1,q⟩:=ag q;obtain⟨d,S2,e2,q⟩:=ag q;refine⟨F,m,L,S,y,Q,r,l,e1,λv Z m1 H1 E r1 p1=>?_⟩;refine⟨Z,m1,L,Q,d,S2,r1,l.mono E,e2,λx n P b M B p2=>?_⟩;cases d with
 |p w=>cases q
 |ref i=>
  obtain⟨a,rfl,K⟩:=p2;dsimp only at q;split at q
  .rename_i c ks ds e;split at q
   .rename_i j;rw[ar]at j;cases q;obtain⟨C,t,s,R,T,rfl,rs⟩:=B.obj i a _ K e;obtain⟨C',u,hc,hn⟩:=hA c f j.1;cases kg.inj R u;have hl:s.length < 1000:=by have:=aJ j.2;rw[aX]at this;lia
    have V:∀W,b a≠some (.tup W):=λW h=>by rw[T]at h;cases h
    have st:Stp n P b n P (bN b a (.ins C t (i3 f v s))):=eT B K e trivial V;obtain⟨i1,i2⟩:=Es (f:=f) (RD.mono st (RD.mono M p1)) (cN.mono st rs);exact⟨a,C,t,s,rfl,T,hc,hn,hl,k J n P _ (E.trans (M.trans st)) (B.set K e trivial V ⟨C,t,_,R,aF,i1,i2⟩) ((l.mono E).mono (M.trans st))⟩
   .cases q
  .cases q
@[simp] def dQ(M:Str->Str->Option GF)(o:EE)(y:Str)(a:sf)(L:Lc)(S:U):vV:=bG (o L S) λd h=>match d with
 | .ref i=>match h[i]? with
  |some (.ins c k _)=>match M c y with
   |some g=>if k.contains y=true then none else bG (a L h) λT x=>g (.ref i::T) x
   |none=>none
  |_=>none
 |_=>none
def PP(X:Cx)(M:Str->Str->Option GF):Prop:=∀c y g,M c y=some g->∃C k f d p,kg X.K c C/\Cls X.K C/\Meth X.K C y f/\FnOk X.p X.w X.K X.g X.b og k f d p (mI X.K g)/\Room k X.A/\Binds X.K d p []
variable{M:Str->Str->Option GF}{y:Str}
theorem sD(hM:PP X M){t:TE}{ta:TA}(b:∀C k f u j g,Cls X.K C->Meth X.K C y f->FnOk X.p X.w X.K X.g X.b og k f u j (mI X.K g)->Room k X.A->Binds X.K u j []->Y X e (Ea C y (mI X.K g) [] E0 (tE X.K I) (Co X.K fs))):Y X e (tE X.K (dQ M I y fs)):=by
 intro B s J H Q n h;obtain⟨F,m,L,S,d,S',r,l,q,k⟩:=h;obtain⟨x,P,e1,q⟩:=ag q;cases x with
 |p w=>cases q
 |ref i=>
  dsimp only at q;split at q
  .rename_i c ks ds hs;split at q
   .rename_i g hg;split at q
    .cases q
    .rename_i hk;obtain⟨T,A,e2,q⟩:=ag q;obtain⟨C,kk,f,u,j,ec,hc,hm,hF,hr,hb⟩:=hM c y g hg;refine b C kk f u j g hc hm hF hr hb B s J H Q n ⟨F,m,L,S,.ref i,P,r,l,e1,λv R m1 H1 G E D=>?_⟩;obtain⟨a,rfl,o⟩:=id D;obtain⟨C',dx,K,z,hH,rfl,rs⟩:=E.obj i a _ o hs;cases kg.inj ec z;refine⟨a,dx,K,rfl,hH,BA (by simpa using hk),R,m1,L,P,T,A,E,l.mono G,e2,λxs W m2 H2 N r2 p2=>?_⟩;show mI X.K g (V.ref a::(xs++[])) H2 Q E0;rw[cP];exact⟨W,m2,.ref i::T,A,d,S',r2,⟨_,_,rfl,RD.mono N D,p2⟩,q,λv Z m3 H3 s3 r3 p3=>k v Z m3 H3 (G.trans (N.trans s3)) r3 p3⟩
   .cases q
  .cases q
theorem M9(x:PP X M)(s:Y X o (tE X.K I))(a:PA X (e::es) (Co X.K fs))(hst:starEach (e::es) X.e=(false,eval e X.e)::starEach es X.e)(h:(backTo N (starEach es X.e)).any (·.1)=false)
  (n:eval (.Call (.Attribute o y j) (e::es) [] N) X.e=(do
   let v <- eval o X.e
   standAt j.atName
   let (f,first) <- holding [v] (getMethod v y u)
   callWith N f first (backTo N (starEach (e::es) X.e)) (backToKw N (keywordEach [] X.e)))) :
  Y X (.Call (.Attribute o y j) (e::es) [] N) (tE X.K (dQ M I y fs)):=
 sD (t:=tE X.K I) (ta:=Co X.K fs) x λC k f d p g c m F r b=>Ia s c m F r b .nil qG a hst h n
theorem JY(i:PP X M)(B:Y X o (tE X.K I))
  (E:eval (.Call (.Attribute o y j) [] [] N) X.e=(do
   let u <- eval o X.e
   standAt j.atName
   let (f,first) <- holding [u] (getMethod u y pl)
   callWith N f first (backTo N (starEach [] X.e)) (backToKw N (keywordEach [] X.e)))) :
  Y X (.Call (.Attribute o y j) [] [] N) (tE X.K (dQ M I y fC)):=
 sD (t:=tE X.K I) (ta:=Co X.K fC) i λC k f fd ps g K A p D z=>(EG B K A p D z .nil qG E).imp' λJ H Q h=>by obtain⟨F,m,L,S,d,n,r,l,q,k⟩:=h;refine⟨F,m,L,S,d,n,r,l,q,λv e R x s' Z V=>?_⟩;obtain⟨a,c,fs,rfl,w,P,s,T,L2,S2,ds,b,r2,l2,W,G⟩:=k v e R x s' Z V;cases W;exact⟨a,c,fs,rfl,w,P,G [] s T x .refl r2 rfl⟩
@[simp] def qZ(g:GF)(c:Str)(a:sf)(L:Lc)(S:U):vV:=bG (a L S) λT h=>match g (.ref h.length::T) (h++[.ins c [] []]) with
 |some (.p .non,x)=>some (.ref h.length,x)
 |_=>none
theorem M_{C f:Addr}{o:FuncData}{K:LS}{k:Nat}{x:Str}{p:Pos}{g:GF}(M:Mk X.K C f)(G:FnOk X.p X.w X.K X.g X.b og k f o K (mI X.K g))(hr:Room (k+1) X.A)(hg:Gl X x)(hm:X.g x=some (.ref C))(Z:kg X.K x C)(hb:Binds X.K o K [])
  (ha:PA X (e::es) (Co X.K fs)) (i:(x == ("__debug__":Str))=false) (he:starEach (e::es) X.e=(false,eval e X.e)::starEach es X.e) (z:(backTo N (starEach es X.e)).any (·.1)=false) :
  Y X (.Call (.Name x p) (e::es) [] N) (tE X.K (qZ g x fs)):=
 (Ib M G hr hg hm hb .nil qG ha i he z).imp' λJ H Q hz=>by
  obtain⟨F,m,L,S,d,S',r,l,q,k⟩:=hz;obtain⟨T,t,R,q⟩:=ag q;refine⟨F,m,L,S,T,t,r,l,R,λxs s a b s1 P p1=>λy h hy w j=>?_⟩;split at q
  .rename_i _ S2 V;cases q;have A:Stp s a b s a (bN b h (.own y)):=dZ w;have r2:Rel X.K s (bN b h (.own y)) a t:=P.new w;have u:bN b h (.own y) y=none:=by rw[al (aI j)];exact hy
   have B:Stp s a (bN b h (.own y)) s (a++[y]) (bN (bN b h (.own y)) y (.ins C h [])):=dF u;have r3:Rel X.K s (bN (bN b h (.own y)) y (.ins C h [])) (a++[y]) (t++[.ins x [] []]):=r2.own u ⟨C,h,[],Z,aF,rfl,rfl⟩;rw[cP];have c:(a++[y])[t.length]? = some y:=by rw[<- P.len,bI (ah _)];simp
   refine⟨s,a++[y],.ref t.length::T,_,.p .non,_,r3,⟨_,_,rfl,⟨y,rfl,c⟩,cN.mono B (cN.mono A p1)⟩,V,λv E m4 I D r4 p4=>⟨p4,?_⟩⟩;refine k (.ref y) E m4 I (s1.trans (A.trans (B.trans D))) r4 ⟨y,rfl,?_⟩;obtain⟨n,W⟩:=D.pre;rw[W,bL (bw.mp c).1];exact c
  .cases q
end
theorem Lz(h:attributeBase o y v (eval o v)=eval o v)(e:methodCallForm (u.length+([]:List Keyword).length) (backTo N (starEach u v)) (backToKw N (keywordEach [] v))=true)(l:(j.endLine == N.line)=true) :
  eval (.Call (.Attribute o y j) u [] N) v=(do
   let ov <- eval o v
   standAt j.atName
   let (f,first) <- holding [ov] (getMethod ov y (do return (<- importBound o v).getD true))
   callWith N f first (backTo N (starEach u v)) (backToKw N (keywordEach [] v))):=by
 have x:methodCallPos true o v j N=pure N:=by unfold methodCallPos;rw[l];rfl
 have a:∀ov,methodCall o y j N v ov (u.length+([]:List Keyword).length) (backTo N (starEach u v)) (backToKw N (keywordEach [] v))=(do
   let (f,first) <- holding [ov] (getMethod ov y (do return (<- importBound o v).getD true))
   callWith N f first (backTo N (starEach u v)) (backToKw N (keywordEach [] v))):=λov=>by
  unfold methodCall;rw[e,x];rfl
 have s:eval (.Call (.Attribute o y j) u [] N) v=(do
  let ov <- attributeBase o y v (eval o v)
  standAt j.atName
  methodCall o y j N v ov (u.length+([]:List Keyword).length) (backTo N (starEach u v)) (backToKw N (keywordEach [] v))):=by rfl
 rw[s,h];simp only[a]
section
variable{X:Cx}{o e g:Expr}{f:Str}{N G L:Pos}{I:EE}{z:EV}{A:Str->Str->Bool}
def Ej(i:Nat)(v:EV):ES:=λL S=>match L[i]? with
 |some (some (.p (.int a)))=>bG (v L S) λy h=>match y with
  | .int b=>some (.nx,L.set i (some (.p (.int (a+b)))),h)
  |_=>none
 |_=>none
theorem P2(i:Nat)(d:X.N.Nodup)(h:Y X e (tV X.K z))(g:X.N[i]? = some x)(j:L2.Loc X.e.scope x)(u:X.fn x=true\/X.e.scope.names.lookup x=some .local):PS X (.AugAssign (.Name x G) .Add e N) (kr X.K (Ej i z)):=
 (K1 d g j h LW u).imp' λD J H o=>by
  obtain⟨F,m,L,S,M,C,E,r,l,q,k⟩:=o;unfold Ej at q;split at q
  .rename_i a w;obtain⟨y,I,t,q⟩:=ag q;cases y with
   |int b=>cases q;obtain⟨B,p,P⟩:=l.at' i _ w;cases (show B=.int a from P);refine⟨_,p,F,m,L,S,_,_,r,l,t,λv s f n c A K=>?_⟩;cases (show v=.int b from K);exact⟨a,b,rfl,rfl,k _ s f n c A ((l.mono c).set (show RD X.K s n f (.p (.int (a+b))) (.int (a+b)) from rfl) i)⟩
   |_=>cases q
  .cases q
end
open PySem.W (KasT kas_sort kas_ask kas_item kat_run kat_snds kat_lt kat_kind KatTups KatLex kat_nil kat_cons kat_yes kat_no kat_one)
noncomputable def OB{d:Type}(lt:Nat->Nat->Option Bool):KasT d->Option d
 | .ret a=>some a
 | .ask i j k=>match lt i j with
  |some b=>OB lt (k b)
  |none=>none
theorem FU{d:Type}{lt:Nat->Nat->Option Bool}{c:Nat->Nat->(Bool->Shared->Prop)->Shared->Prop}{Q:d->Shared->Prop}{s:Shared}(x:∀i j b C,lt i j=some b->C b s->c i j C s){a:d}(q:Q a s) :
  ∀(t:KasT d),OB lt t=some a->t.kasWp c Q s
 | .ret _,h=>by cases h;exact q
 | .ask i j k,h=>by
  simp only[OB]at h;split at h
  .rename_i b e;exact x i j b _ e (FU x q (k b) h)
  .cases h
section
variable{prog:Program}{w:World}{A:Around}{E:VP}{s:Shared}{D:Addr}{T:LV}
theorem wP(few:T.length < 2):((arrOf (SortSt.mk' general' (T.toArray.zip T.toArray) #[] 7 none)).map (·.2))=T.toArray:=by
 have same:(T.toArray.zip T.toArray).map (·.2)=T.toArray:=by
  rcases T with _|⟨v,_|⟨u,r⟩⟩
  .simp
  .simp
  .exact absurd few (by simp)
 exact same
theorem FS(few:T.length < 2)(a:s.heap.get? D=some (seqObj "list" T.toArray v))
  (g:∀x c,(∀b o,b≠D->s.heap.get? b=some o->x.get? b=some o)->x.get? D=some (seqObj "list" T.toArray c)->u (.done (.ret .none)) { s with heap:=x }) :
  wpAny (model prog w) A (Builtin.«list.sort» ⟨[.ref D],[]⟩) u E s:=by
 have m:T.length+1≤sizeLine:=by rw[nz];lia
 have cond:T.toArray.size < 2:=by simpa using few
 have h:=zy a λ_=>(#[]:Array Value);rw[list_sort_plain];refine ab <|listItems_at a rfl <|ab <|zt a rfl (ab <|seqEpoch_at h rfl <|ab <|xl (ab <|AF (fE ?_) (bX _)) (by simpa using tX m)) (by simpa using tX m) (bX _);simp only[cond,jJ];have k:∀b o,(s.heap.update D (jD λ_=>(#[]:Array Value))).get? b=some o->((((s.heap.update D (jD λ_=>(#[]:Array Value))).push { cls:=.type "tuple",data:=.seq T.toArray }).push { cls:=.type "list",data:=.seq ([]:LV).toArray })).get? b=some o:=
  λ_ _ q=>aO _ (aO _ q)
 have t:=k D _ h;refine ab <|ao <|ab <|ao ?_;refine ab <|seqEpoch_at t rfl <|ab <|zt t rfl ?_ (bX _) (by rw[wP few];simpa using zN (tX m));rw[wP few];have MS:=zy t λ_=>T.toArray;simp only[bne_self_eq_false,uv,jK,failedOf];refine ao (g _ _ (λb o n e=>?_) MS);exact((lV _ D _).2 b n).trans (k b o (((lV s.heap D _).2 b n).trans e))
theorem xa(q:∀a u,Q a u->v a u):∀(t:KasT d)(u:Shared),t.kasWp (kas_ask prog w A κ T) Q u->t.kasWp (kas_ask prog w A κ T) v u
 | .ret a,u,h=>q a u h
 | .ask _ _ k,_,h=>cD h (λb u e=>xa q (k b) u e) λ_ _ x=>x
theorem HD{f:Heap}{L l:Addr}{m:SV}{d:PN}{a:String}{o:Obj}{n:Nat}{G:VP}(F:Fr f L s.heap m)(N:News f L s.heap d)(hT:a="list"\/a="tuple")(ho:s.heap.get? l=some o)(hc:o.cls=.type a)(hd:o.data=.seq T.toArray n)(C:T.length < 64)
  (h1:T.length < 2->∀D g c,s.heap.get? D=none->Fr f L g m->News f L g ((D,seqObj "list" T.toArray c)::d)->G (.ref D) { s with heap:=g })
  (h2:2≤T.length->∀D e g,s.heap.get? D=none->(∀q ∈ d,q.1≠D)->Fr f L g m->News f L g ((D,seqObj "list" #[] e)::d) ->
   wpAny (model prog w) A.in1.in1 (keyKind' T.toArray) (λR u=>(kas_sort T.length).kasWp (kas_ask prog w A.in1.in1 R T) (λp u=>Dz f L m D e (p.toList.map λi=>T.getD i Value.none) (λu=>G (.ref D) u) u) u) (λ_ _=>False) { s with heap:=g }) :
  wpAny (model prog w) A (call (.builtin "sorted") [.ref l]) G E s:=by
 have y:T.length≤sizeLine:=by rw[nz];lia
 refine Calls.call_function_entry (b:=Builtin.«sorted») kind_sorted plain_sorted entry_sorted (args_sorted1 (.ref l)) (ab (m:=checkCount "sorted" 1 1 1) <|ao <|ab <|wpAny_collect_seq l hT ho hc hd (λh k=>ab <|AF ?_ y) y);have t:∀b,b=h.objs.size->s.heap.get? b=none:=λb hb=>by
  cases q:s.heap.get? b with
  |none=>rfl
  |some u=>exact absurd (aC (k b u q)) (by rw[hb];exact eQ _)
 have Q:∀b u,s.heap.get? b=some u->(h.push { cls:=.type "list",data:=.seq T.toArray }).get? b=some u:=λb u e=>aO _ (k b u e);have H:(h.push { cls:=.type "list",data:=.seq T.toArray }).get? h.objs.size=some (seqObj "list" T.toArray 0):=br _ rfl;have S:h.objs.size≠L:=λz=>by obtain⟨u,_,_,e,_⟩:=F.ns;rw[t L z.symm]at e;cases e
 have K:f.get? h.objs.size=none:=by
  rcases q:f.get? h.objs.size with _|u
  .rfl
  .have:=F.keep _ _ q;rw[t _ rfl]at this;cases this
 have neN:∀q ∈ d,q.1≠h.objs.size:=λq hq z=>by have:=(N q hq).1;rw[t _ z]at this;cases this
 have P:=F.keeps Q;have B:=N.keeps Q;refine ab (fE (nB (b:=Builtin.«list.sort») slot_list_sort ⟨_,H,rfl⟩ entry_list_sort ?_ (args_list_sort _)));by_cases few:T.length < 2
 .refine FS (s:={ s with heap:=h.push { cls:=.type "list",data:=.seq T.toArray } }) few H λg c M e=>⟨_,rfl,ao ⟨_,rfl,h1 few _ g c (t _ rfl) ⟨?_,λb u q=>?_,F.above⟩ λq j=>?_⟩⟩
  .obtain⟨u,es,Z,X,r⟩:=P.ns;exact⟨u,es,Z,M L u S.symm X,r⟩
  .exact M b u (λz=>by rw[z,K]at q;cases q) (P.keep b u q)
  .rcases aN.mp j with rfl|j
   .exact⟨e,S,K⟩
   .exact⟨M _ _ (neN q j) (B q j).1,(B q j).2⟩
 .refine PySem.W.kat_list_sort (s:={ s with heap:=h.push { cls:=.type "list",data:=.seq T.toArray } }) P B H S K neN (by lia) C λe g V W=>?_;refine cD (h2 (by lia) _ e g (t _ rfl) neN V W) (λR u hu=>?_) λ_ _ x=>x;exact xa (λp v I=>I.mono λv I=>⟨_,rfl,ao ⟨_,rfl,I⟩⟩) _ _ hu
end
noncomputable def Sw:P->P->Option Bool
 | .tup [.str a,.int i],.tup [.str b,.int j]=>some (if a=b then decide (i < j) else decide (a.cps.toList < b.cps.toList))
 |_,_=>none
noncomputable def IG:P->Bool
 | .tup [.str _,.int _]=>true
 |_=>false
theorem IF(h:IG v=true):∃a i,v=.tup [.str a,.int i]:=by
 unfold IG at h;split at h
 .exact⟨_,_,rfl⟩
 .cases h
def wv(d:List P)(i j:Nat):Option Bool:=match d[i]?,d[j]? with
 |some x,some y=>Sw x y
 |_,_=>none
def qz(d:List P):Option (List P):=if d.length < 2 then some d else if d.length < 64 then (OB (wv d) (kas_sort d.length)).bind λp=>if p.size < 64 then some (p.toList.map λi=>d.getD i .non) else none else none
def sortable(d:List P):Bool:=d.all IG
def ng(d:List P):Option P:=if sortable d=true then (qz d).map .lst else none
def KV(h:Heap)(d:P)(v:Value):Prop:=∃x i a o n t u,d=.tup [.str x,.int i]/\v=.ref a/\h.get? a=some o/\o.cls=.type "tuple"/\o.data=.seq #[.str x t,.int i u] n
variable{l:Type}
theorem jS:∀{s:List d}{a:List l}{i:Nat}{x:d},Paired R s a->s[i]? = some x->∃y,a[i]? = some y/\R x y
 |_,_,_,_,.nil,h=>by simp at h
 |_,_,0,x,.cons (b:=b) r _,h=>⟨b,rfl,by simp at h;subst h;exact r⟩
 |_,_,i+1,x,.cons _ n,h=>by obtain⟨y,e,r⟩:=jS (i:=i) n (by simpa using h);exact⟨y,by simpa using e,r⟩
theorem ij{d l:Type}{R:d->l->Prop}:∀{x:List d}{y:List l},Paired R x y->x.length=y.length
 |_,_,.nil=>rfl
 |_,_,.cons _ r=>by rw[aV,aV,ij r]
section
variable{prog:Program}{w:World}{A:Around}{E:VP}{s:Shared}
theorem Je{d:List P}{T:LV}{i j:Nat}{b:Bool}{C:Bool->Shared->Prop}(r:Paired (KV s.heap) d T)(h:wv d i j=some b)(c:C b s):kas_ask prog w A (tuples' true) T i j C s:=by
 unfold wv at h;split at h
 .rename_i x y m t;obtain⟨_,u,l,p,o,D,K,G,L,rfl,rfl,g,S,n⟩:=jS r m;obtain⟨_,v,z,q,H,E,B,I,M,rfl,rfl,f,F,k⟩:=jS r t;cases h;unfold kas_ask;rw[kU,kU,u,v];refine kat_lt g n f k (kat_cons (AN ?_));by_cases e:l=z
  .rw [ac e]at c;rw[gY e];refine kat_yes (kat_cons (AM ?_));by_cases a:(p == q)=true
   .rw [a];rw[bj (by rw[eq_of_beq a];exact Int.lt_irrefl _)]at c;exact kat_yes (kat_nil c)
   .rw [Bool.not_eq_true]at a;rw[a];exact kat_no (kat_one _ _ (zB (show PySem.W.BoolBack C (.bool _) s from c)))
  .rw [af e]at c;rw[bj e];exact kat_no (oneLt_str c)
 .cases h
theorem wD:∀{s:List P}{T:LV},Paired (KV a0) s T->∃fs,KatTups a0 T fs/\fs.length=s.length/\∀v ∈ fs,∃x t,v=Value.str x t
 |_,_,.nil=>⟨[],.nil,rfl,λ_ z=>nomatch z⟩
 |d::s,_,.cons k r=>by
  obtain⟨fs,f,h,e⟩:=wD r;obtain⟨x,i,a,o,n,t,u,rfl,rfl,b,c,hd⟩:=k;refine⟨.str x t::fs,.cons (xs:=#[.str x t,.int i u]) b c hd rfl f,by rw[aV,aV,h],λv m=>?_⟩;rcases aN.mp m with rfl|m
  .exact⟨x,t,rfl⟩
  .exact e v m
theorem IA{d:List P}{T:LV}(r:Paired (KV s.heap) d T)(m:2≤T.length) :
  wpAny (model prog w) A (keyKind' T.toArray) (λk h=>h=s/\∀i j b C,wv d i j=some b->C b h->kas_ask prog w A k T i j C h) (λ_ _=>False) s:=by
 obtain⟨fs,f,x,a⟩:=wD r;refine kat_kind (T:=.type "str") f (by rw[x,ij r];lia) (λv n=>?_) rfl ⟨rfl,λi j b C e c=>Je r e c⟩;obtain⟨i,t,rfl⟩:=a v n;exact PySem.W.Looks.of_peek (K:=[]) (λ_ _ z=>nomatch z) rfl
end
section
variable{X:Cx}
theorem Fq{B:PN}{J:L2.St}{H:Hp}{s:Shared}(I:Inv X B J H s){F:Aa}:∀{e:List P}{f:List V}{k:LV},b7 X.K F H e f->ba f k->sortable e=true->Paired (KV s.heap) e k
 | [],_,_,h,r,_=>by cases (show _=([]:List V) from h);cases r;exact .nil
 |d::e,_,_,h,r,q=>by
  obtain⟨x,D,rfl,w,g⟩:=h;obtain⟨l,z⟩:=Bool.and_eq_true_iff.mp (show(IG d && sortable e)=true from q);cases r with
  |cons S K=>refine .cons ?_ (Fq I g K z);obtain⟨y,i,rfl⟩:=IF l;obtain⟨a,E,rfl,C,_,_,rfl,b,_,_,rfl,c,m⟩:=w;cases S;cases b;cases c;cases m;obtain⟨j,A,⟨o,v,p,n,hd⟩,_⟩:=I.tuple C.sq;obtain⟨_,_,rfl,⟨t,rfl⟩,u,rfl⟩:=vals2 A;exact⟨y,i,a,o,n,t,u,rfl,rfl,v,p,hd⟩
theorem Ni(r:ba u v)(i:Nat):RelV (u.getD i .non) (v.getD i Value.none):=by
 rw[kU,kU];cases e:u[i]? with
 |none=>
  have l:=ij r;have:v[i]? = none:=by rw[Ap]at e ⊢;lia
  rw[this];rfl
 |some x=>obtain⟨y,h,a⟩:=jS r e;rw[h];exact a
theorem A_{x:List V}{t:LV}(r:ba x t):∀p:List Nat,ba (p.map λi=>x.getD i .non) (p.map λi=>t.getD i Value.none)
 | []=>.nil
 |i::p=>.cons (Ni r i) (A_ r p)
theorem El{K:FG}{F:Aa}{H:Hp}{s:List P}{h:List V}(r:b7 K F H s h):∀p:List Nat,b7 K F H (p.map λi=>s.getD i .non) (p.map λi=>h.getD i .non)
 | []=>rfl
 |i::p=>by
  refine⟨_,_,rfl,?_,El r p⟩;show RP K F H (s.getD i P.non) (h.getD i V.non);rw[kU,kU];cases e:s[i]? with
  |none=>
   have l:=r.length;have:h[i]? = none:=by rw[Ap]at e ⊢;lia
   rw[this];rfl
  |some d=>obtain⟨x,a,n⟩:=r.get e;rw[a];exact n
theorem sJ{B:PN}{J:L2.St}{H:Hp}{s:Shared}{r:Heap}{A:Nat}{m:SV}(I:Inv X B J H s)(y:s.heap.Ns X.e.locals m)(a:r.Ns X.e.locals m)(k:∀b o,b≠X.e.locals->s.heap.get? b=some o->r.get? b=some o):Inv X B J H { s with heap:=r,toks:=A }:=by
 have L:∀b u,H b=some u->b≠X.e.locals:=λb u e z=>by rw[z,I.free]at e;cases e
 refine I.step (g':=s.gens) (d':=s.drawn) (ch:=[]) (λ_ z=>nomatch z) (λb o h _ _ e _=>k b o h e) (λb o h _ _ e _=>⟨o.slots,k b o h e⟩) (λ_ _ _ _ n=>n) (λb o _ e=>?_) (λ_ _ e=>e) (λ_ _ _ e=>e) (λ_ e=>e) (λK l=>?_) (λb u e=>?_) I.bare
 .by_cases h:b=X.e.locals
  .subst h;obtain⟨P,_,_,w,_⟩:=a;exact⟨P,w⟩
  .exact⟨o,k b o h e⟩
 .obtain⟨o,es,C,S,hd,D,t⟩:=y;obtain⟨E,i,g,f,d,F,p⟩:=l;rw[S]at f;cases f;rw[hd]at d;cases d;have:m=K:=funext λx=>(t x).symm.trans (p x);rw[<- this];exact a
 .refine (I.h b u e).stay (λc v j q=>k c v ?_ q) (λ_ q=>q) λ_ _ q=>q;rcases j with z|z
  .rw [z];exact L b u e
  .exact L c _ z
theorem wC{g h x:Heap}{L:Addr}{m:SV}(k:∀b o,g.get? b=some o->h.get? b=some o)(F:Fr g L x m)(N:News g L x (nq g h L)):∀b o,b≠L->h.get? b=some o->x.get? b=some o:=λb o a e=>by
 cases q:g.get? b with
 |some u=>have:=k b u q;rw[e]at this;cases this;exact F.keep b _ q
 |none=>exact(N (b,o) (wu a q e)).1
theorem Ls{P:Program}{w:World}{H:Hp}{h:Heap}{a:Addr}{o:HO}(x:cW P w H h a o):∃u,h.get? a=some u:=by
 cases o with
 |lst s=>obtain⟨_,_,_,_,e⟩:=x;exact⟨_,e⟩
 |tup s=>obtain⟨_,_,_,_,e,_⟩:=x;exact⟨_,e⟩
 |dK k=>obtain⟨_,_,_,_,_,_,_,e,_⟩:=x;exact⟨_,e⟩
 |dT k=>obtain⟨_,_,_,_,_,_,_,e,_⟩:=x;exact⟨_,e⟩
 |dN k=>obtain⟨_,_,_,_,_,_,_,e,_⟩:=x;exact⟨_,e⟩
 |set S n=>obtain⟨_,_,_,_,e,_⟩:=x;exact⟨_,e⟩
 |ins C d fs=>obtain⟨_,_,_,e,_⟩:=x;exact⟨_,e⟩
 |own y=>exact x
 |xd fs=>obtain⟨_,⟨_,_,_,e,_⟩,_⟩:=x;exact⟨_,e⟩
 |rng lo i=>obtain⟨_,_,_,e⟩:=x;exact⟨_,e⟩
 |frz b u=>exact⟨_,x.1⟩
 |tbl=>obtain⟨_,e,_⟩:=(show rF H h a from x);exact⟨_,e⟩
 |met f y=>exact⟨_,(show h.get? a=some _ from x)⟩
 |ext c=>exact x.2.1
theorem FD{B:PN}{J:L2.St}{H:Hp}{s:Shared}{D:Addr}(I:Inv X B J H s)(h:s.heap.get? D=none):H D=none:=by
 cases q:H D with
 |none=>rfl
 |some v=>obtain⟨u,e⟩:=Ls (I.h D v q);rw[h]at e;cases e
theorem CN{B:PN}{J:L2.St}{H:Hp}{s:Shared}{t:Heap}{S:Nat}{m:SV}{D:Addr}{u:HO}(I:Inv X B J H s)(y:s.heap.Ns X.e.locals m)(h:t.Ns X.e.locals m)(k:∀b o,b≠X.e.locals->s.heap.get? b=some o->t.get? b=some o)(j:s.heap.get? D=none)(i:cW X.p X.w (bN H D u) t D u):Inv X B J (bN H D u) { s with heap:=t,toks:=S }:=by
 have f:=FD I j;have M:∀b o,s.heap.get? b=some o->b≠D:=λb o e z=>by rw[z,j]at e;cases e
 have a:∀b v,H b=some v->b≠D:=λb v e z=>by rw[z,f]at e;cases e
 have F:=sJ (A:=S) I y h k;refine I.step (g':=s.gens) (d':=s.drawn) (ch:=[]) (λ_ z=>nomatch z) (λb o L _ _ e _=>k b o L e) (λb o L _ _ e _=>⟨o.slots,k b o L e⟩) (λb o _ e n=>(al (M b o e)).trans n) (λb o _ e=>?_) (λb Q e=>(al (a b _ e)).trans e) (λb o v e=>(al (a b _ e)).trans e) (λb e=>(al (a b _ e)).trans e) (λG A=>?_) (λb v e=>?_) I.bare
 .by_cases L:b=X.e.locals
  .subst L;obtain⟨N,_,_,g,_⟩:=h;exact⟨N,g⟩
  .exact⟨o,k b o L e⟩
 .obtain⟨o,es,R,C,hd,T,p⟩:=y;obtain⟨V,P,K,r,d,E,w⟩:=A;rw[C]at r;cases r;rw[hd]at d;cases d;have:m=G:=funext λx=>(p x).symm.trans (w x);rw[<- this];exact h
 .by_cases l:b=D
  .subst l;rw[aF]at e;cases e;exact i
  .rw [al l]at e;exact(F.h b v e).stay (λ_ _ _ q=>q) (λc q=>(al (a c _ q)).trans q) (λc Q q=>(al (a c _ q)).trans q) (λc W q=>(al (a c _ q)).trans q)
theorem vu:eE X (.builtin "sorted") (λxs H Q=>∃F a P S b,xs=[.ref a]/\(iB X.K H a P\/ny X.K H a P)/\b7 X.K F H S P/\sortable S=true/\qz S=some b/\∀l z,H l=none->b7 X.K F H b z->Q (.ref l) (bN H l (.lst z))):=by
 intro B s J H xs us Q I r h;obtain⟨F,a,P,S,b,rfl,G,L,hs,k,q⟩:=h;obtain⟨u,rfl,rx⟩:=vals1 r;cases rx;obtain⟨m,R⟩:=I.fr;have w:∀(T:String)(hT:T="list"\/T="tuple")(t:LV)(o:Obj)(n:Nat),ba P t->s.heap.get? a=some o->o.cls=.type T->o.data=.seq t.toArray n->wx X (call (.builtin "sorted") [.ref a]) (EP X B J Q) X.xe s:=by
  intro T hT t o n M E C hd;have hl1:=L.length;have hl2:=ij M;have y:S.length < 64:=by
   unfold qz at k;split at k
   .lia
   .split at k
    .lia
    .cases k
  have A:∀(z:List V)(j:LV)(D:Addr)(f:Heap)(c:Nat),ba z j->b7 X.K F H b z->j.length≤64->s.heap.get? D=none->Fr X.b X.e.locals f m->News X.b X.e.locals f ((D,seqObj "list" j.toArray c)::nq X.b s.heap X.e.locals)->EP X B J Q (.ref D) { s with heap:=f }:=
   λz j D f c vz rz hz K d N=>⟨.ref D,_,CN (S:=s.toks) I R.ns d.ns (wC I.bk d λp hp=>N p (.tail _ hp)) K (show cW X.p X.w _ f _ (.lst z) from ⟨by rw[ij vz,nz];lia,j,c,vz,(N _ (.head _)).1⟩),rfl,q _ z (FD I K) rz⟩
  refine HD R (E7 (g:=X.b)) hT E C hd (by lia) (λfew D f c K d N=>?_) λtwo D e f K ne d N=>?_
  .unfold qz at k;rw[ac (by lia)]at k;cases k;exact A P t D f c M L (by lia) K d N
  .unfold qz at k;rw[af (by lia),ac y]at k;obtain⟨p,ep,k⟩:=tL.mp k;split at k;case isFalse=>cases k
   rename_i ps;cases k;have I1:Inv X B J H { s with heap:=f }:=sJ (A:=s.toks) I R.ns d.ns (wC I.bk d λp hp=>N p (.tail _ hp));have Z:OB (wv S) (kas_sort t.length)=some p:=by rw[<- hl2,<- hl1];exact ep
   refine cD (IA (s:={ s with heap:=f }) (Fq I1 L M hs) two) (λκ v hv=>?_) λ_ _ x=>x;obtain⟨rfl,W⟩:=hv;exact FU (a:=p) (Q:=λp u=>Dz X.b X.e.locals m D e (p.toList.map λi=>t.getD i Value.none) (λu=>EP X B J Q (.ref D) u) u) W (PySem.W.KasFin.intro d N (.head ne) λh2 c F2 N2=>A _ _ D h2 c (A_ M p.toList) (El L p.toList) (by rw[aX,mB];lia) K F2 N2) _ Z
 rcases G with G|G
 .obtain⟨t,r',pl,hz⟩:=I.list G;obtain⟨o,E,C,n,hd⟩:=pl.isList;exact w "list" (.inl rfl) t o n r' E C hd
 .obtain⟨t,r',⟨o,E,C,n,hd⟩,hz⟩:=I.tuple G;exact w "tuple" (.inr rfl) t o n r' E C hd
noncomputable def MB:List D->Option (List P)
 | []=>some []
 | .p v::r=>(MB r).map (v::·)
 | .ref _::_=>none
theorem D1:∀{d:List D}{T:List P},MB d=some T->d=T.map .p
 | [],T,h=>by cases h;rfl
 | .p v::r,T,h=>by
  cases e:MB r with
  |none=>simp only[MB,e]at h;cases h
  |some w=>simp only[MB,e]at h;cases h;rw[D1 e];rfl
 | .ref _::_,T,h=>by cases h
theorem Jq:∀{T:List P}{s:List V},cN K F H m (T.map .p) s->b7 K F H T s
 | [],_,h=>h
 |_::_,_,h=>by obtain⟨x,r,e,a,n⟩:=h;exact⟨x,r,e,a,Jq n⟩
noncomputable def HF:P->Option (List P)
 | .lst x=>some x
 | .ro x=>some x
 | .tup x=>some x
 |_=>none
def HH:D->U->Option (List P)
 | .p v,_=>HF v
 | .ref i,S=>match S[i]? with
  |some (.lst d)=>MB d
  |some (.fz v)=>HF v
  |_=>none
@[simp] def DY(r:EE)(L:Lc)(S:U):tyV:=bG (r L S) λd h=>match HH d h with
 |some x=>(ng x).map λv=>(v,h)
 |none=>none
theorem Bi(p:RP K F H w v)(h:HF w=some u):∃a y,v=.ref a/\(iB K H a y\/ny K H a y)/\b7 K F H u y:=by
 cases w with
 |tup d=>obtain⟨a,y,rfl,t,r⟩:=p;cases h;exact⟨a,y,rfl,.inr t.sq,r⟩
 |lst d=>obtain⟨a,y,rfl,t,r⟩:=p;cases h;exact⟨a,y,rfl,.inl t.sq,r⟩
 |ro d=>obtain⟨a,y,rfl,t,r⟩:=p;cases h;exact⟨a,y,rfl,.inl t.sq,r⟩
 |_=>cases h
theorem HG(r:Rel K F H m S)(p:RD K F H m u v)(h:HH u S=some xs):∃a y,v=.ref a/\(iB K H a y\/ny K H a y)/\b7 K F H xs y:=by
 cases u with
 |p w=>exact Bi p h
 |ref i=>
  obtain⟨a,rfl,x⟩:=p;simp only[HH]at h;split at h
  .rename_i d es;obtain⟨y,e,s⟩:=r.obj i a _ x es;rw[D1 h]at s;exact⟨a,y,rfl,.inl (iB.of e),Jq s⟩
  .rename_i w es;exact Bi (r.obj i a _ x es) h
  .cases h
theorem DV(j:Gl X "sorted")(y:X.g "sorted"=none)(i:Y X e (tE X.K k))(n:starEach [e] X.e=[(false,eval e X.e)]:=by rfl):Y X (.Call (.Name "sorted" p) [e] [] N) (tV X.K (DY k)):=
 (mK vu j y Ha (eW i ik (by rw[n];rfl)) (by decide) (by decide) (by rw[n];rfl) rfl).imp' λJ H Q s=>by
  obtain⟨F,m,L,S,d,I,r,l,q,h⟩:=s;obtain⟨x,t,w,q⟩:=ag q;refine⟨F,m,L,S,x,t,r,l,w,λv c P G D f A=>?_⟩;split at q
  .rename_i b g;unfold ng at q;split at q
   .rename_i n;cases o:qz b with
    |none=>rw[o]at q;cases q
    |some u=>rw[o]at q;cases q;obtain⟨a,E,rfl,K,B⟩:=HG f A g;exact⟨c,a,E,b,u,rfl,K,B,n,o,λz M s C=>h _ _ P _ (D.trans (cj s).stp) (f.grow (cj s)) (.newLst s C)⟩
   .cases q
  .cases q
end
noncomputable def SA(K:FG)(e:Bool)(a:Addr):It:=if e=true then Jj K a else PU K a
inductive tIOI(K:FG)(en:Bool)(fe:EE)(J:L2.St)(H:Hp)(R:It->Hp->Prop):Prop
 |mk (F:Aa) (m:List Addr) (L:Lc) (S:U) (j:Nat) (S':U) (ds:List D) (h0_:Rel K F H m S) (h1_:RL K F H m J L) (h2_:fe L S=some (.ref j,S')) (h3_:S'[j]? = some (.lst ds)) (h4_:∀a F' m' H',Stp F m H F' m' H'->Rel K F' H' m' S'->m'[j]? = some a->R (SA K en a) H'):tIOI K en fe J H R
section
variable{X:Cx}{N:Pos}
theorem yI:eE X (.type "range") (λx H Q=>∃j:Int,x=[.int j]/\∀r,H r=none->Q (.ref r) (bN H r (.rng 0 j))):=by intro B s J H x n Q I r h;obtain⟨j,rfl,q⟩:=h;obtain⟨u,rfl,a⟩:=vals1 r;obtain⟨t,rfl⟩:=a;refine call_range_1 ?_;exact⟨.ref s.heap.objs.size,_,I.laid (o:=.rng 0 j) (λb o e=>aO _ e) (ah _) ⟨_,_,_,br _ rfl⟩,rfl,q _ (I.h.fresh (ah _))⟩
theorem sv:∀{s:List d}{e:List l},s.length=e.length->(∀(i:Nat) x y,s[i]? = some x->e[i]? = some y->R x y)->Paired R s e
 | [],[],_,_=>.nil
 | [],_::_,h,_=>by simp at h
 |_::_,[],h,_=>by simp at h
 |x::s,y::e,h,k=>.cons (k 0 x y rfl rfl) (sv (by simpa using h) λi a b n f=>k (i+1) a b (by simpa using n) (by simpa using f))
theorem yi(h:ItemsOf (λi v=>∃t,v=Value.int (0+i * 1) t) u n):ba ((List.range n).map λ(i:Nat)=>V.int (i:Int)) u.toList:=by
 obtain⟨z,f⟩:=h;refine sv (by simp[z]) λi x y a b=>?_;rw[b9]at a;cases e:(List.range n)[i]? with
 |none=>rw[e]at a;cases a
 |some k=>
  rw[e]at a;cases a;have hk:k=i:=by have:=bw.mp e;obtain⟨c,s⟩:=this;simpa using s.symm
  subst hk;obtain⟨t,rfl⟩:=f k y (by simpa using b);exact⟨t,by simp⟩
theorem w9(a:X.c=true):eE X (.type "list") (λk H Q=>∃r j,k=[.ref r]/\H r=some (.rng 0 j)/\j.natAbs < 1000000/\∀l,H l=none->Q (.ref l) (bN H l (.lst ((List.range j.toNat).map λ(i:Nat)=>V.int (i:Int))))):=by
 intro B s J H k y Q I r h;obtain⟨p,j,rfl,m,g,q⟩:=h;obtain⟨u,rfl,d⟩:=vals1 r;cases d;obtain⟨t,u,v,o⟩:=I.h p _ m;refine call_list_range (n:=j.toNat) (I.o.hd a) o (small_one (by lia) (by lia) (by lia) (by lia)) (by rw[AE];split<;>lia) (by lia) λf w x c hk e b=>?_
 exact⟨.ref s.heap.objs.size,_,I.laid (t':=w) hk (ah _) (show cW X.p X.w _ f _ (.lst _) from ⟨by rw[aX,z5];exact au (by lia:j.toNat≤1000000) (by decide),x.toList,c,yi b,by simpa using e⟩),rfl,q _ (I.h.fresh (ah _))⟩
@[simp] def Nl(a:EV)(L:Lc)(S:U):tyV:=bG (a L S) λv h=>match v with
 | .int j=>if decide (j.natAbs < 1000000)=true then some (.lst (intsFrom 0 j.toNat),h) else none
 |_=>none
theorem v9:∀s:List Nat,b7 K F H (s.map λ(i:Nat)=>P.int (0+(i:Int))) (s.map λ(i:Nat)=>V.int (i:Int))
 | []=>rfl
 |i::s=>⟨_,_,rfl,by show V.int _=V.int _;rw[cO],v9 s⟩
theorem Hi{a:Expr}{C:EV}{p G i y:Pos}(h:X.c=true)(A:Gl X "list")(D:X.g "list"=none)(g:Gl X "range")(s:X.g "range"=none)(K:Y X a (tV X.K C))(t:starEach [a] X.e=[(false,eval a X.e)])
  : Y X (.Call (.Name "list" p) [.Call (.Name "range" G) [a] [] y] [] i) (tV X.K (Nl C)):=
 (nO (w9 h) A D tP (eW (nO yI g s boot_range (eW K ik (by rw[t];rfl)) (by decide) (by decide) (by rw[t];rfl) rfl) ik rfl) (by decide) (by decide) rfl rfl).imp' λJ H Q e=>by
  obtain⟨F,m,L,S,d,N,r,l,q,k⟩:=e;obtain⟨x,u,o,q⟩:=ag q;refine⟨F,m,L,S,x,u,r,l,o,λv f E b M I p=>?_⟩;cases x with
  |int j=>
   dsimp only at q;split at q
   .rename_i P;have B:j.natAbs < 1000000:=aJ P;cases q;cases (show v=.int j from p);refine⟨j,rfl,λw n=>⟨w,j,rfl,aF,B,λz e=>?_⟩⟩;have c:Grow f b f (bN b w (.rng 0 j)):=cg n;exact k _ _ E _ (M.trans (c.stp.trans (cj e).stp)) ((I.grow c).grow (cj e)) (.newLst e (v9 _))
   .cases q
  |_=>cases q
end
section
variable{X:Cx}{N:Pos}
theorem Ci{prog:Program}{w:World}{A:Around}{E:VP}{s:Shared}{t l:Addr}{i:Array Value}{v u:Value}{lo x:Option Int}{Q:VP}(h:IsTup s.heap t i)(a:s.heap.IsSliceOf l v u .none)(p:IsPart v lo)(b:IsPart u x)
  (k:HT.eJ i.size 0 lo=0) (f:HT.eJ i.size i.size x=i.size) (q:Q (.ref t) s):wpAny (model prog w) A (getItem (.ref t) (.ref l)) Q E s:=by
 have T:s.TypeIs (.ref l) "slice":=by obtain⟨o,e,n,_⟩:=a;exact⟨o,e,n⟩
 unfold getItem;try with_reducible refine fE ?_
 first|refine ab (ao ?_)|skip
 refine ab (AW h.typeIs (by decide) ?_);refine ab (pY (name:=Str.ofString "__getitem__") h.typeIs jF (nB jF h.typeIs zA ?_ (zz _ _)));show wpAny _ _ (Dw (.ref t) >>= _) _ _ s;refine ab (zu h (ab (lC T ?_)));rw[ac (by decide)];refine ab (HT.jc a p b ?_);rw[k,f];have y:((((0:Nat):Int) == 0 && (1:Int) == 1 && (i.size-0) == i.size)=true):=by simp
 show wpAny _ _ (if ((((0:Nat):Int) == 0 && (1:Int) == 1 && (i.size-0) == i.size)=true) then _ else _) _ _ s;rw[ac y];refine ab (ab (lC h.typeIs ?_));refine ao ?_;rw[ac (by rfl)];first
  |exact ab (ao (ao ⟨_,rfl,ao q⟩))
  |exact ab (pS (ao ⟨_,rfl,ao q⟩))
  |exact ao ⟨_,rfl,ao q⟩
theorem Ed:JI X (λx lo n H Q=>∃a e,x=.ref a/\ny X.K H a e/\HT.eJ e.length 0 lo=0/\HT.eJ e.length e.length n=e.length/\Q (.ref a) H):=by
 intro B s J H x v w g lo n d Q I m b p u h;obtain⟨a,e,rfl,c,k,f,q⟩:=h;cases m;obtain⟨i,r,t,_⟩:=I.tuple c;have l:i.toArray.size=e.length:=by rw[bc];exact r.length.symm
 exact⟨"tuple",_,jF.lookup,t.typeIs,Ci t b p u (by rw[l];exact k) (by rw[l];exact f) ⟨.ref a,H,I,rfl,q⟩⟩
def Mb:P->Option Int->Option Int->Option P
 | .tup s,lo,h=>some (.tup (cut s lo h))
 |x,lo,h=>Tc x lo h
@[simp] def qe(a:EV)(lo n:EO)(L:Lc)(S:U):tyV:=bG (a L S) λx h=>bG (lo L h) λi e=>bG (n L e) λj s=>(Mb x i j).map λv=>(v,s)
theorem Qa{e:Expr}{lo A:Option Expr}{C:EV}{P K:EO}{N p2:Pos}(Z:Y X e (tV X.K C))(hl:PO X lo (tO X.K P))(hh:PO X A (tO X.K K)):Y X (.Subscript e (.Slice lo A none p2) N) (tV X.K (qe C P K)):=
 (wd (Bh.or (KC.or Ed)) Z hl hh).imp' λJ H Q hz=>by
  obtain⟨F,m,L,S,d,S',r,l,q,k⟩:=hz;obtain⟨x,z,R,q⟩:=ag q;obtain⟨i,o,T,q⟩:=ag q;obtain⟨j,M,V,q⟩:=ag q;refine⟨F,m,L,S,x,z,r,l,R,λv D m1 H1 g r1 p1=>?_⟩;refine⟨D,m1,L,z,i,o,r1,l.mono g,T,λE m2 H2 y r2=>?_⟩;refine⟨E,m2,L,o,j,M,r2,(l.mono g).mono y,V,λG b I B c=>?_⟩;have u:=RP.mono B (RP.mono y p1);have w:=g.trans (y.trans B);cases x with
  |lst f=>cases q;obtain⟨a,s,rfl,t,n⟩:=u;exact .inl ⟨a,s,rfl,t.sq,λp h=>k _ _ b _ (w.trans (cj h).stp) (c.grow (cj h)) (.newLst h (n.cut i j))⟩
  |ro f=>cases q;obtain⟨a,s,rfl,t,n⟩:=u;exact .inl ⟨a,s,rfl,t.sq,λp h=>k _ _ b _ (w.trans (cj h).stp) (c.grow (cj h)) (.newLst h (n.cut i j))⟩
  |tup f=>
   obtain⟨a,s,rfl,t,n⟩:=u;cases q;by_cases hw:HT.eJ s.length 0 i=0/\HT.eJ s.length s.length j=s.length
   .have W:cut f i j=f:=by
     unfold cut;rw[n.length,hw.1,hw.2,mf,tW,<- n.length,mj]
    rw[W]at k;exact .inr (.inr ⟨a,s,rfl,t.sq,hw.1,hw.2,k _ G b I w c ⟨a,s,rfl,t,n⟩⟩)
   .exact .inr (.inl ⟨a,s,rfl,t.sq,hw,λp h=>k _ _ b _ (w.trans (cg h).stp) (c.grow (cg h)) (.newTup h (n.cut i j))⟩)
  |_=>cases q
abbrev lO:List P->Option P:=sV
variable{e:Expr}{es:Ab}{fs:jB}{p:Pos}
theorem JW(g:Gl X "int")(m:X.g "int"=none)(a:PA X (e::es) (qm X.K fs))(x:starEach (e::es) X.e=(false,eval e X.e)::starEach es X.e)(h:(backTo N (starEach es X.e)).any (·.1)=false) :
  Y X (.Call (.Name "int" p) (e::es) [] N) (tV X.K (cQ lO fs)):=xI Ja g m zD a (by decide) (by decide) x h
inductive PEs(X:Cx):Ab->List EV->Prop
 |nil:PEs X [] []
 |cons {e es f fs}:Y X e (tV X.K f)->PEs X es fs->PEs X (e::es) (f::fs)
@[simp] def D0(a b c:EV)(L:Lc)(S:U):tyV:=bG (a L S) λd h=>bG (b L h) λy x=>bG (c L x) λz e=>match d with
 | .dct s T=>match cR y with
  |some k=>some ((bW k s T).getD z,e)
  |none=>none
 |_=>none
theorem sj:∀{k:List (b0×V)}{d:List P},b7 K F H d (k.map (·.2))->bW u (k.map (·.1)) d=none->gD k u=none
 | [],d,r,h=>rfl
 |(a,v)::k,[],r,h=>by have:=r.length;simp at this
 |(a,v)::k,f::d,r,h=>by
  obtain⟨x,c,e,p,s⟩:=r;rw[az]at e;injection e with b n;simp only[az,bW]at h;by_cases hk:a=u
  .rw [ac hk]at h;cases h
  .rw [af hk]at h;rw[<- n]at s;rw[gC (p:=(a,v)) hk];exact sj s h
theorem JX{o a b:Expr}{I C t:EV}{D E:Pos}(hu:X.A.units+1 < cLine)(ho:Y X o (tV X.K I))(ha:Y X a (tV X.K C))(hb:Y X b (tV X.K t))(m:M2 X o "get" D a b E):Y X (.Call (.Attribute o "get" D) [a,b] [] E) (tV X.K (D0 I C t)):=
 (EM hu ho ha hb m).imp' λJ H Q hz=>by
  obtain⟨F,m,L,S,d,S',r,l,q,k⟩:=hz;obtain⟨x,A,Z,q⟩:=ag q;obtain⟨y,B,e2,q⟩:=ag q;obtain⟨z,V,e3,q⟩:=ag q;refine⟨F,m,L,S,x,A,r,l,Z,λv R m1 H1 K r1 p1=>?_⟩;cases x with
  |dct ks W=>
   obtain⟨a,s,rfl,i,hk,ek,ra⟩:=id p1;refine⟨a,rfl,.inl ⟨s,.inl hk⟩,?_⟩;refine⟨R,m1,L,A,y,B,r1,l.mono K,e2,λvy T m2 H2 f r2 p2=>?_⟩;refine⟨T,m2,L,B,z,V,r2,(l.mono K).mono f,e3,λvz P G p c M p3=>?_⟩;have h:p a=some (.dK s):=(f.trans c).frk _ _ i hk;have e:=b7.mono c (b7.mono f ra);have py:=RP.mono c p2;dsimp only at q;split at q
   .rename_i j u;cases q;have g:=ip u py;subst g ek;have N:=K.trans (f.trans c);cases n:bW j (s.map (·.1)) W with
    |none=>have hm:=sj e n;refine⟨none,by rw[<- hm];exact j8.k h,?_⟩;rw[n]at k;exact k vz P G p N M p3
    |some w=>obtain⟨v,h1,h2⟩:=nG e n;refine⟨some v,by rw[<- h1];exact j8.k h,?_⟩;rw[n]at k;exact k v P G p N M h2
   .cases q
  |_=>cases q
def O7(w:World):List DictEntry->List (Str×P)->Prop
 | [],[]=>True
 |e::es,(k,p)::r=>(∃t,e.key=.str k t)/\e.hash=hashStr w k/\(∃v,RelV v e.val/\∀K F H,RP K F H p v)/\O7 w es r
 |_,_=>False
def RC(w:World)(K:FG)(m:SV)(x:Str)(k:List (Str×P)):Prop:=
 ∃a o es e,m x=some (.ref a)/\K.lookup a=some o/\o.ExactDict/\o.data=.dict es e/\O7 w es.toList k/\(k.map (·.1)).Nodup
end
noncomputable def Nt:List b0->List P->Option (List (Str×P))
 | [],[]=>some []
 | .inr k::s,v::T=>(Nt s T).map λr=>(k,v)::r
 |_,_=>none
noncomputable def FC:P->Bool
 | .dct _ _=>true
 |_=>false
def nu(w:World)(K:FG)(m:SV)(x:Str)(v:P):Prop:=(FC v=false->yL K m x v)/\∀s T,v=.dct s T->∃k,Nt s T=some k/\RC w K m x k
variable{x:Str}
theorem nu.plain(h:yL K u x v)(a:FC v=false):nu w K u x v:=⟨λ_=>h,λk T e=>by subst e;cases a⟩
end Ev
namespace Ev
open PySem PySem.Spec PyProof.Rows L2
theorem wM(f:Nat->β->Sem (ForInStep β))(I:Nat->β->Shared->Prop)(Q:β->Shared->Prop)(k:Nat)
  (turn:∀i b s,i < k->I i b s->wpAny M A (f i b) (λr s'=>match r with | .yield b'=>I (i+1) b' s' | .done b'=>Q b' s') E s)
  (fin:∀b s,I k b s->Q b s) (b:β) (h:I 0 b s):wpAny M A (forIn [0:k] b f) Q E s:=by
 rw[Std.Legacy.Range.forIn_eq_forIn_range'];refine AQ f (λrest b s=>∃i,rest=zX i (k-i)/\i≤k/\I i b s) Q (λx rest b s ⟨i,e,hi,hI⟩=>?_) (λb s ⟨i,e,hi,hI⟩=>?_) _ b ⟨0,by simp[Std.Legacy.Range.size],bX _,h⟩
 .obtain⟨m,hm⟩:∃m,k-i=m+1:=by
   cases q:k-i with
   |zero=>rw[q]at e;simp at e
   |succ m=>exact⟨m,rfl⟩
  rw[hm,uh]at e;injection e with e1 e2;subst e1;refine cD (turn x b s (by lia) hI) (λr s' hr=>?_) λ_ _ z=>z;cases r with
  |done b'=>exact hr
  |yield b'=>exact⟨x+1,by rw[e2];congr 1;lia,by lia,hr⟩
 .have:k-i=0:=by
   cases q:k-i with
   |zero=>rfl
   |succ m=>rw[q,uh]at e;cases e
  have:i=k:=by lia
  subst this;exact fin b s hI
section
open PySem.SeqAt PySem.MeetsSeq
open PySem.AutoSeq1 (wpAny_loadPart')
theorem Cj(l:Addr)(items:Array Value)(n:Nat)(dd:Option Addr)(sl:Array (OV))(x:Value)(e:Value->Bool)(j:Nat)(hj:j < items.size)
  (hit:e items[j]=true) (hno:∀m (hm:m < items.size),m < j->e items[m]=false) :
  Meets (Builtin.«tuple.index» ⟨[.ref l,x],[]⟩)
   (λA R s=>s.heap.get? l=some { cls:=.type "tuple",dict:=dd,data:=.seq items n,slots:=sl }/\(∀y,y ∈ items->EqAt A.in1 s y x (e y))/\R (.ok (.ret (.int j s.toks))) { s with toks:=s.toks+1 }):=
 .of_wp λprog w A R s h=>by
  obtain⟨hp,g,d,tk,os⟩:=s;obtain⟨hl,he,h⟩:=h
  wp_walk using lD hl,wM _ (λi b s'=>i≤j/\b.1=none/\s'=⟨hp,g,d,tk,os⟩) _
  case turn=>
   rintro i b s' hi ⟨hij,hb,rfl⟩;have hi':i < items.size:=by lia
   rw[Ay hi'];refine ab (he _ (Array.getElem_mem hi') prog w _ _ ?_);by_cases hc:i=j
   .subst hc;rw[hit]
    wp_walk
    exact⟨_,rfl,h⟩
   .rw [hno i hi' (by lia)]
    wp_walk
    exact⟨by lia,rfl,rfl⟩
  case fin=>rintro b s' ⟨hij,_,_⟩;exact absurd hij (by lia)
  case h=>exact⟨bX _,rfl,rfl⟩
end
def lI(ps:List P)(y:P):Option Nat:=if (ps.all (cA 19) && cA 19 y)=true then (jf ps).findIdx? λz=>eA z (pd y) else none
@[simp] def xK(fa fb:EV)(L:Lc)(S:U):tyV:=bG (fa L S) λv x=>match v with
 | .lst ps=>bG (fb L x) λy h=>(lI ps y).map λ(i:Nat)=>(.int (i:Int),h)
 | .tup ps=>bG (fb L x) λy h=>(lI ps y).map λ(i:Nat)=>(.int (i:Int),h)
 |_=>none
section
variable{X:Cx}{pins:PN}{J:L2.St}{H:Hp}{s:Shared}{F:Aa}{ps:List P}{y:P}{vy:V}{u:Value}{i:Nat}{Q:VK}{a:Addr}
theorem uS:∀qs:List P,(jf qs).length=qs.length
 | []=>rfl
 |q::qs=>by simp[jf,uS qs]
theorem FH(o:X.A.units+64 < cLine)(I:Inv X pins J H s)(d:RP X.K F H y vy)(g:RelV vy u)(e:lI ps y=some i){v:Array Value}{f:List Addr}(k:ReadsAll s.heap v.toList (jf ps) f) :
  ∃t:i < v.size,eA (l7 s.heap v[i]) (pd y)=true/\(∀m (x:m < v.size),m < i->eA (l7 s.heap v[m]) (pd y)=false)/\v.size=ps.length /\
   ∀z,z ∈ v->SeqAt.EqAt X.A.in1 s z u (eA (l7 s.heap z) (pd y)):=by
 unfold lI at e;split at e;case isFalse=>cases e
 rename_i c;rw[ar]at c;obtain⟨j,w⟩:=ig I 19 d g c.2;have l:=E5 c.1;have q:=fN 19 _ c.2;obtain⟨t,b,r⟩:=Ar.mp e;have n:=SeqAt.readsAll_map _ _ _ l.1 k;have h:v.size=(jf ps).length:=by rw[<- n];simp
 have a:∀(m:Nat)(x:m < v.size),l7 s.heap v[m]=(jf ps)[m]'(h ▸ x):=λm x=>by
  have:(v.toList.map (l7 s.heap))[m]? = (jf ps)[m]?:=by rw[n]
  rw[b9,Array.getElem?_toList,Ay x,bo (h ▸ x)]at this;simpa using this
 refine⟨by lia,?_,λm x p=>?_,by rw[h,uS],SeqAt.items_eqAt k w l.1 q.1 (by lia)⟩
 .rw [a];exact b
 .rw [a];simpa using r m p
theorem FF(e:lI ps y=some i):ps.all (cA 19)=true:=by
 unfold lI at e;split at e
 .rename_i h;rw[ar]at h;exact h.1
 .cases e
theorem yG(P:X.A.units+64 < cLine)(I:Inv X pins J H s)(p:RP X.K F H (.lst ps) (.ref a))(D:RP X.K F H y vy)(G:RelV vy u)(e:lI ps y=some i)(q:Q (.int i) H) :
  wx X (call (.builtin "list.index") [.ref a,u]) (EP X pins J Q) X.xe s:=by
 have S:=FF e;obtain⟨N,b⟩:=ig I 20 p (show RelV (.ref a) (.ref a) from rfl) (by simpa[cA] using S);rw[pd]at b;cases b with
 | @list l o L n _ c x k f w=>
  obtain⟨j,t,v,V,d⟩:=FH P I D G e w;obtain⟨oc,B,C,h⟩:=o;dsimp only at k f;subst k f;have T:ps.length≤sizeLine:=by obtain⟨M,xs,m,K,E⟩:=p;cases m;obtain⟨z,A,Z,r,R,_⟩:=I.lstM K.2;have W:=E.length;lia
  have g:sizeLine < 2 ^ 63:=by decide
  exact gJ zj ⟨_,x,rfl⟩ PySem.F.entry_list_index (PySem.F.args_list_index_2 _ _) (SeqAt.list_indexAt a L n B h u _ i j (by lia) t v) ⟨x,d,⟨.int i,H,I.tok _,⟨_,rfl⟩,q⟩⟩
theorem w5(hu:X.A.units+64 < cLine)(I:Inv X pins J H s)(px:RP X.K F H (.tup ps) (.ref a))(py:RP X.K F H y vy)(ru:RelV vy u)(e:lI ps y=some i)(q:Q (.int i) H) :
  wx X (call (.builtin "tuple.index") [.ref a,u]) (EP X pins J Q) X.xe s:=by
 have ho:=FF e;obtain⟨as,ra⟩:=ig I 20 px (show RelV (.ref a) (.ref a) from rfl) (by simpa[cA] using ho);rw[pd]at ra;cases ra with
 | @tuple l o vs n _ as' h1 h2 h3 h4=>obtain⟨hi,e1,e2,hz,eq⟩:=FH hu I py ru e h4;obtain⟨oc,od,odt,osl⟩:=o;dsimp only at h2 h3;subst h2 h3;exact gJ zo ⟨_,h1,rfl⟩ PySem.F.entry_tuple_index (PySem.F.args_tuple_index_2 _ _) (Cj a vs n od osl u _ i hi e1 e2) ⟨h1,eq,⟨.int i,H,I.tok _,⟨_,rfl⟩,q⟩⟩
theorem JZ(hu:X.A.units+64 < cLine)(ho:Y X o (tV X.K fo))(he:Y X e (tV X.K fe))(hs:starEach [e] X.e=[(false,eval e X.e)])
  (w:attributeBase o "index" X.e (eval o X.e)=eval o X.e) (j:(M.endLine == g.line)=true):Y X (.Call (.Attribute o "index" M) [e] [] g) (tV X.K (xK fo fe)):=by
 intro pins s J H Q I ⟨F,m,L,S,d,S',r,l,q,k⟩;obtain⟨x,Z,e1,q⟩:=ag q;refine Ds w (by rw[hs];rfl) j rfl (cG (ho pins s J H (λv c=>∃f K,Stp F m H f K c/\Rel X.K f c K Z/\RP X.K f c x v) I ⟨F,m,L,S,x,Z,r,l,e1,λv f K c s1 r1 B=>⟨f,K,s1,r1,B⟩⟩) λu s1 hz=>?_);obtain⟨v,c,I1,ru,f,K,T,r1,B⟩:=hz;have t:∀(id:String)(ps:List P),bG (fe L Z) (λy S2=>(lI ps y).map λ(i:Nat)=>((.int (i:Int):P),S2))=some (d,S') ->
   (∀(s:Shared)(h:Hp)(n:Aa)(y:P)(vy:V)(C:Value)(i:Nat),Inv X pins J h s->(∀p,RP X.K f c p v->RP X.K n h p v)->RP X.K n h y vy->RelV vy C->lI ps y=some i->Q (.int i) h->wx X (call (.builtin id) [u,C]) (EP X pins J Q) X.xe s) ->
   wx X (callWith g (.builtin id) [u] (backTo g (starEach [e] X.e)) []) (EP X pins J Q) X.xe s1:=by
  intro id ps q hc;obtain⟨y,S2,e2,q⟩:=ag q;obtain⟨i,E,q⟩:=dW.mp q;cases q;rw[hs];refine kN rfl (lX (du (cG (he pins s1 J c (λvy h=>∃n A,Stp f K c n A h/\Rel X.K n h A S'/\RP X.K n h y vy) I1 ⟨f,K,L,Z,y,S',r1,l.mono T,e2,λv n A h s2 r2 G=>⟨n,A,s2,r2,G⟩⟩) λC s2 ⟨vy,h,D,ruy,n,A,W,r2,G⟩=>gm ?_)));exact hc s2 h n y vy C i D (λp R=>RP.mono W R) G ruy E (k _ n A h (T.trans W) r2 rfl)
 cases x with
 |lst ps=>obtain⟨a,xs,rfl,hq,rp⟩:=id B;cases (show u=Value.ref a from ru);obtain⟨z,its,n',rr,hl,N⟩:=I1.lstM hq.2;exact⟨"list","list.index",o6,zj,PySem.F.type_list_index,⟨_,N,rfl⟩,λb eb=>by cases eb;exact⟨_,N,rfl⟩,t _ ps q λs h n y vy C i D R py ry E q=>yG hu D (R _ B) py ry E q⟩
 |tup ps=>obtain⟨a,xs,rfl,hq,rp⟩:=id B;cases (show u=Value.ref a from ru);obtain⟨its,rr,o,N,⟨ec,n',ed⟩,en⟩:=I1.tupleN hq.sq;exact⟨"tuple","tuple.index",PySem.F.plainAttrs_tuple,zo,PySem.F.type_tuple_index,⟨_,N,ec⟩,λb eb=>by cases eb;exact⟨_,N,en⟩,t _ ps q λs h n y vy C i D R py ry E q=>w5 hu D (R _ B) py ry E q⟩
 |_=>cases q
end
variable{L:Type}
noncomputable def cC[DecidableEq L](k:L):List L->List D->Option D
 |h::s,v::x=>if h=k then some v else cC k s x
 |_,_=>none
noncomputable def dq[DecidableEq L](k:L)(v:D):List L->List D->List L×List D
 |h::s,w::x=>if h=k then (h::s,v::x) else (h::(dq k v s x).1,w::(dq k v s x).2)
 |_,_=>([k],[v])
def dA:List P->Option (List b0)
 | []=>some []
 |p::r=>(cR p).bind λk=>(dA r).map λs=>k::s
noncomputable def lF(d:D)(S:U):Option (Nat×List (List b0)×List D):=match d with
 | .ref i=>match S[i]? with
  |some (.dtt k v)=>some (i,k,v)
  |_=>none
 |_=>none
theorem pH(h:lF d S=some (i,k,n)):d=.ref i/\S[i]? = some (.dtt k n):=by
 unfold lF at h;split at h
 .split at h
  .rename_i e;cases h;exact⟨rfl,e⟩
  .cases h
 .cases h
section
variable{K:FG}{F:Aa}{H:Hp}{m:List Addr}
theorem ji:∀{ps:List P}{s:List b0}{a:List V},dA ps=some s->b7 K F H ps a->a=s.map kV
 | [],s,a,h,r=>by cases h;exact r
 |p::ps,s,a,h,r=>by
  obtain⟨x,m,rfl,b,c⟩:=r;unfold dA at h;cases e:cR p with
  |none=>rw[e]at h;cases h
  |some k=>
   rw[e]at h;cases n:dA ps with
   |none=>rw[n]at h;cases h
   |some f=>rw[n]at h;cases h;rw[az,ip e b,ji n c]
theorem jQ[DecidableEq L]:∀{C:List (L×V)}{s:List D},cN K F H m s (C.map (·.2)) ->
  match cC k (C.map (·.1)) s with|some d=>∃v,gD C k=some v/\RD K F H m d v|none=>gD C k=none
 | [],s,r=>by have:s=[]:=g_ r.length;subst this;rfl
 |(h,v)::C,[],r=>by have:=r.length;simp at this
 |(h,v)::C,d::s,r=>by
  obtain⟨x,b,e,p,a⟩:=r;rw[az]at e;injection e with n f;rw[<- f]at a;simp only[az,cC];by_cases hk:h=k
  .rw [ac hk];exact⟨v,ie (p:=(h,v)) hk,by rw[show v=x from n];exact p⟩
  .rw [af hk,gC (p:=(h,v)) hk];exact jQ a
theorem nL[DecidableEq L](f:RD K F H m y u):∀{C:List (L×V)}{s:List D},(C.map (·.1)).Nodup->cN K F H m s (C.map (·.2)) ->
  (L2.putK C k u).map (·.1)=(dq k y (C.map (·.1)) s).1/\cN K F H m (dq k y (C.map (·.1)) s).2 ((L2.putK C k u).map (·.2))
 | [],s,_,r=>by have:s=[]:=g_ r.length;subst this;exact⟨rfl,u,[],rfl,f,rfl⟩
 |(h,w)::C,[],_,r=>by have:=r.length;simp at this
 |(h,w)::C,d::s,p,r=>by
  obtain⟨x,B,e,A,G⟩:=r;rw[az]at e p;injection e with g i;subst g;subst i;obtain⟨b,t⟩:=bP.mp p;simp only[az,dq];by_cases hk:h=k
  .subst hk;rw[ac rfl];have same:∀l:List (L×V),h ∉ l.map (·.1)->l.map (λv=>if v.1=h then (v.1,u) else v)=l:=by
    intro l;induction l with
    |nil=>intro _;rfl
    |cons q l P=>
     intro n;rw[az]at n;have j:¬q.1=h:=λz=>n (by rw[<- z];exact aH)
     rw[az,af j,P λz=>n (aG _ z)]
   have a:L2.putK ((h,w)::C) h u=(h,u)::C:=by unfold L2.putK;rw[ac (by simp),az,ac rfl,same C b]
   rw[a];exact⟨rfl,u,_,rfl,f,G⟩
  .rw [af hk];obtain⟨o,S⟩:=nL (k:=k) f t G;have a:L2.putK ((h,w)::C) k u=(h,w)::L2.putK C k u:=by
    unfold L2.putK;rw[dv,bj (show ¬(h,w).1=k from hk),kW];by_cases c:(C.any λv=>decide (v.1=k))=true
    .rw [ac c,ac c,az,af (show ¬(h,w).1=k from hk)]
    .rw [af c,af c];rfl
   rw[a,az,az,o];exact⟨rfl,w,_,rfl,A,S⟩
end
section
variable{X:Cx}{pos G:Pos}{o T:Expr}{c:Ab}{fo:EE}{fs:jB}{fv:EV}
@[simp] def yA(_L:Lc)(S:U):vV:=some (.ref S.length,S++[.dtt [] []])
theorem J1:Y X (.Dict [] [] pos) (tE X.K yA):=EK.imp' λJ H Q z=>by obtain⟨F,m,L,S,d,x,r,l,q,k⟩:=z;cases q;intro p h;refine k (.ref p) F (m++[p]) _ (dF h) (r.own h ⟨[],aF,rfl,rfl⟩) ⟨p,rfl,?_⟩;rw[<- r.len,bI (ah _)];simp
@[simp] def wS(o:EE)(k:jB)(L:Lc)(S:U):vV:=bG (o L S) λd x=>bG (k L x) λps h=>match lF d h,dA ps with
 |some (_,s,v),some B=>if few ps=true then (cC B s v).map λz=>(z,h) else none
 |_,_=>none
theorem IB(b:X.A.units+1 < cLine):Gy X (λx y H Q=>∃a v,x=.ref a/\j8 H a y (some v)/\(∃C,H a=some (.dT C))/\Q v H):=by intro T l pins s J H x y v u Q I c m h f;obtain⟨a,w,rfl,g,⟨C,hk⟩,q⟩:=h;cases c;obtain⟨_,_,_,_,o,_,_,e,k,_⟩:=I.h a _ hk;exact o8 ⟨o,e,k.1⟩ AU.lookup (sO b I g m λp t n r=>⟨w,H,n,r,q⟩) f
theorem Qg {N} (hu:X.A.units+1 < cLine) (ho:Y X o (tE X.K fo)) (hk:PA X c (qm X.K fs)) (hs:nr (.Tuple c N G)):Y X (.Subscript o (.Tuple c N G) pos) (tE X.K (wS fo fs)):=
 (EI (IB hu) ho (uR hk) hs).imp' λJ H Q hz=>by
  obtain⟨F,m,L,S,d,S',r,l,q,k⟩:=hz;obtain⟨x,K,W,q⟩:=ag q;obtain⟨ps,P,Z,q⟩:=ag q;refine⟨F,m,L,S,x,K,r,l,W,λv T m1 H1 I r1 p1=>?_⟩;refine⟨T,m1,L,K,ps,P,r1,l.mono I,Z,λR y m2 V M E G=>?_⟩;cases s:lF x P with
  |none=>rw[s]at q;cases q
  |some t=>
   obtain⟨j,ks,vs⟩:=t;rw[s]at q;cases h:dA ps with
   |none=>rw[h]at q;cases q
   |some B=>
    rw[h]at q;dsimp only at q;split at q
    .rename_i hf;obtain⟨z,eg,q⟩:=dW.mp q;cases q;obtain⟨rfl,n⟩:=pH s;obtain⟨a,rfl,hm⟩:=RD.mono M p1;obtain⟨C,f,u,rs⟩:=E.obj j a _ hm n;subst u;have A:=jQ (k:=B) rs;rw[eg]at A;obtain⟨w,ev,i⟩:=A;refine⟨by rw[<- G.length];exact lK hf,λb D=>?_⟩;have p:a≠b:=λz=>by rw[z,D]at f;cases f
     have e:bN V b (.tup R) a=some (.dT C):=by rw[al p];exact f
     have g:=cg (F:=y) (o:=.tup R) D;rw[ji h G]at e g ⊢;refine⟨a,w,rfl,by rw[<- ev];exact j8.t e aF,⟨C,e⟩,?_⟩;exact k w y m2 _ (I.trans (M.trans g.stp)) (E.grow g) (RD.mono g.stp i)
    .cases q
@[simp] def sL(o:EE)(k:jB)(L:Lc)(S:U):vV:=bG (o L S) λd h=>match lF d h with
 |none=>none
 |some _=>bG (k L h) λps x=>match lF d x,dA ps with
  |some (_,s,v),some B=>if few ps=true then some ((cC B s v).getD (.p .non),x) else none
  |_,_=>none
theorem Na {N} (hu:X.A.units+1 < cLine) (ho:Y X o (tE X.K fo)) (hk:PA X c (qm X.K fs)) (I:M1 X o "get" ap (.Tuple c N G) cp) :
  Y X (.Call (.Attribute o "get" ap) [.Tuple c N G] [] cp) (tE X.K (sL fo fs)):=
 (ER hu ho (uR hk) I).imp' λJ H Q hz=>by
  obtain⟨F,m,L,S,d,S',r,l,q,k⟩:=hz;obtain⟨x,p,e1,q⟩:=ag q;refine⟨F,m,L,S,x,p,r,l,e1,λv F1 m1 H1 V r1 p1=>?_⟩;cases e:lF x p with
  |none=>rw[e]at q;cases q
  |some t1=>
   obtain⟨j,ks1,vs1⟩:=t1;rw[e]at q;dsimp only at q;obtain⟨ps,Z,e2,q⟩:=ag q;obtain⟨rfl,y⟩:=pH e;obtain⟨a,rfl,hm⟩:=id p1;obtain⟨s,A,_,_⟩:=r1.obj j a _ hm y;refine⟨a,rfl,.inr ⟨s,.inl A⟩,?_⟩;refine⟨F1,m1,L,p,ps,Z,r1,l.mono V,e2,λus f m2 H2 W R G=>?_⟩;cases i:lF (.ref j) Z with
   |none=>rw[i]at q;cases q
   |some t=>
    obtain⟨j2,ks,vs⟩:=t;rw[i]at q;cases u:dA ps with
    |none=>rw[u]at q;cases q
    |some B=>
     rw[u]at q;dsimp only at q;split at q
     .rename_i hf;cases q;obtain⟨h,K⟩:=pH i;cases h;obtain⟨a',e4,M⟩:=RD.mono W p1;cases e4;obtain⟨C,P,E,rs⟩:=R.obj j a _ M K;subst E;have n:=jQ (k:=B) rs;refine⟨by rw[<- G.length];exact lK hf,λb hb=>?_⟩;have D:a≠b:=λz=>by rw[z,hb]at P;cases P
      have h:bN H2 b (.tup us) a=some (.dT C):=by rw[al D];exact P
      have g:=cg (F:=f) (o:=.tup us) hb;rw[ji u G]at h g ⊢;refine⟨gD C B,j8.t h aF,?_⟩;cases eg:cC B (C.map (·.1)) vs with
      |none=>rw[eg]at n k;rw[show gD C B=none from n];exact k .non f m2 _ (V.trans (W.trans g.stp)) (R.grow g) rfl
      |some z=>rw[eg]at n k;obtain⟨w,ev,T⟩:=n;rw[ev];exact k w f m2 _ (V.trans (W.trans g.stp)) (R.grow g) (RD.mono g.stp T)
     .cases q
@[simp] def Eh(o:EE)(k:jB)(v:EV)(L:Lc)(S:U):Ba:=bG (v L S) λy a=>bG (o L a) λd e=>bG (k L e) λps h=>match lF d h,dA ps with
 |some (i,s,x),some B=>if (s.Nodup/\few s=true/\few ps=true) then some (.nx,L,h.set i (.dtt (dq B (.p y) s x).1 (dq B (.p y) s x).2)) else none
 |_,_=>none
theorem MU {N} (hu:X.A.units+1 < cLine) (ho:Y X o (tE X.K fo)) (hk:PA X c (qm X.K fs)) (hv:Y X T (tV X.K fv)) (hs:swapsWith T (some (.Subscript o (.Tuple c N G) h)) pos.line X.e=pure false) :
  PS X (.Assign [.Subscript o (.Tuple c N G) h] T pos) (kr X.K (Eh fo fs fv)):=(Bp hu ho (uR hk) hv hs).imp' λD J H hz=>by
 obtain⟨F,m,L,S,fl,L',S',r,l,q,k⟩:=hz;obtain⟨y,A,e1,q⟩:=ag q;obtain⟨d,E,e2,q⟩:=ag q;obtain⟨ps,I,e3,q⟩:=ag q;refine⟨F,m,L,S,y,A,r,l,e1,λv K V H1 s r1 p1=>?_⟩;refine⟨K,V,L,A,d,E,r1,l.mono s,e2,λx F2 m2 H2 e r2 G=>?_⟩;refine⟨F2,m2,L,E,ps,I,r2,(l.mono s).mono e,e3,λus P W H3 n r3 p3=>?_⟩;cases w:lF d I with
 |none=>rw[w]at q;cases q
 |some t=>
  obtain⟨j,ks,vs⟩:=t;rw[w]at q;cases p:dA ps with
  |none=>rw[p]at q;cases q
  |some B=>
   rw[p]at q;dsimp only at q;split at q
   .rename_i u;cases q;obtain⟨rfl,c⟩:=pH w;refine⟨by rw[<- p3.length];exact lK u.2.2,λb hb=>?_⟩;have M:=cg (F:=P) (o:=.tup us) hb;have i:=r3.grow M;have f:=M.stp (m:=W);obtain⟨a,rfl,g⟩:=RD.mono f (RD.mono n G);obtain⟨C,R,hk,rs⟩:=i.obj j a _ g c;subst hk;have pv:=RD.mono f (RD.mono n (RD.mono e (show RD X.K K H1 V (.p y) v from p1)));obtain⟨h1,h2⟩:=nL (k:=B) pv u.1 rs;have Z:∀zs,bN H3 b (.tup us) a≠some (.tup zs):=λzs z=>by rw[R]at z;cases z
    have st:=eT (o:=.dT (L2.putK C B v)) i g c trivial Z;have hl:C.length < sizeLine:=by have Q:(C.map (·.1)).length≤1000000:=aJ u.2.1;rw[aX]at Q;exact jI Q (by decide)
    refine⟨a,_,rfl,xg.t (k:=B) R ?_ hl,?_⟩
    .rw [ji p p3];exact aF
    .exact k J P W _ (s.trans (e.trans (n.trans (f.trans st)))) (i.set g c trivial Z ⟨_,aF,h1,cN.mono st h2⟩) ((((l.mono s).mono e).mono n).mono (f.trans st))
   .cases q
end
section
variable{X:Cx}{pins:PN}{J:L2.St}{H:Hp}{s:Shared}{a:Addr}{C:List (b0×V)}{B:b0}{u r:Value}{x:V}{A:Around}{E:VP}
theorem F5(I:Inv X pins J H s)(e:H a=some (.dK C))(K:C.length < sizeLine)(S:RelV (kV B) u)(o:RelV x r)
  (t:∀v w n,gD C B=some v->RelV v w->Inv X pins J H n->Q w n) (p:gD C B=none->∀n,Inv X pins J (bN H a (.dK (L2.putK C B x))) n->Q r n) :
  wpAny (model X.p X.w) A (call (.builtin "dict.setdefault") [.ref a,u,r]) Q E s:=by
 obtain⟨z,hd,F,l,k⟩:=JF I.h e;have h:=l.val B;refine pT zp k.typeIs PySem.F.entry_dict_setdefault (PySem.F.args_dict_setdefault_3 _ _ _) (kt_meets_setdefault (cc X.p X.w) a (oo S) hd r)
  ⟨F,k,by rw[<- l.length];exact z,λv f=>?_,λc m d j=>?_⟩
 .cases q:gD C B with
  |none=>rw[q,f]at h;cases h
  |some b=>rw[q,f]at h;exact t b v _ q h (I.tok _)
 .have q:gD C B=none:=by
   cases q:gD C B with
   |none=>rfl
   |some b=>rw[q,c]at h;cases h
  refine p q _ ?_;have g:∃q,m.get? a=some q:=let ⟨q,_,_,i,_⟩:=d;⟨q,i⟩
  have y:(L2.putK C B x).length≤sizeLine:=by have:=kz C B x;lia
  exact m5 I (by rw[e];exact True.intro) j g (FY y hd (l.put B o) d)
end
section
variable{X:Cx}{o e f:Expr}{ap cp:Pos}{fo fd:EE}{fk:EV}
@[simp] def mZ(o:EE)(k:EV)(d:EE)(L:Lc)(S:U):vV:=bG (o L S) λx a=>match mN x a with
 |none=>none
 |some _=>bG (k L a) λz e=>bG (d L e) λy h=>match mN x h,cR z with
  |some (i,s,v),some B=>if (s.Nodup/\few s=true) then match cC B s v with
    |some w=>some (w,h)
    |none=>some (y,h.set i (.dct (dq B y s v).1 (dq B y s v).2))
   else none
  |_,_=>none
theorem Hk(ho:Y X o (tE X.K fo))(he:Y X e (tV X.K fk))(hf:Y X f (tE X.K fd))(n:M2 X o "setdefault" ap e f cp):Y X (.Call (.Attribute o "setdefault" ap) [e,f] [] cp) (tE X.K (mZ fo fk fd)):=by
 intro pins s J H Q I ⟨F,m,L,S,d,S',r,l,q,k⟩;obtain⟨x,S1,e1,q⟩:=ag q;refine xp n.base n.few n.line tH zp PySem.F.type_dict_setdefault
  (cG (ho pins s J H (λv P=>∃b i,Stp F m H b i P/\Rel X.K b P i S1/\RD X.K b P i x v) I ⟨F,m,L,S,x,S1,r,l,e1,λv b i P s1 r1 p1=>⟨b,i,s1,r1,p1⟩⟩) λu s1 ⟨v,P,I1,ru,b,i,R,r1,p1⟩=>?_)
 cases D:mN x S1 with
 |none=>rw[D]at q;cases q
 |some t1=>
  obtain⟨j,ks1,vs1⟩:=t1;rw [D] at q;dsimp only at q;obtain⟨z,S2,e2,q⟩:=ag q;obtain⟨y,S3,e3,q⟩:=ag q;obtain⟨rfl,es1⟩:=uT D;obtain⟨a,rfl,hm⟩:=id p1;obtain⟨kvs1,hH1,_,_⟩:=r1.obj j a _ hm es1;cases (show u=Value.ref a from ru);obtain⟨t1,t2,_⟩:=yo I1 (.inl ⟨kvs1,.inl hH1⟩);refine⟨t1,t2,?_⟩;rw [n.trees];refine kN rfl (lX (du (cG (he pins s1 J P (fun vz A=>∃c N,Stp b i P c N A/\Rel X.K c A N S2/\RP X.K c A z vz) I1 ⟨b,i,L,S1,z,S2,r1,l.mono R,e2,fun v c N A s2 r2 G=>⟨c,N,s2,r2,G⟩⟩) fun uz s2 ⟨vz,A,I2,rz,c,N,T,r2,G⟩=>
   du (cG (hf pins s2 J A (λvy g=>∃p K,Stp c N A p K g/\Rel X.K p g K S3/\RD X.K p g K y vy) I2 ⟨c,N,L,S2,y,S3,r2,(l.mono R).mono T,e3,λv p K g s3 W p3=>⟨p,K,s3,W,p3⟩⟩) λuy s3 ⟨vy,g,I3,ry,p,K,qx,W,p3⟩=>gm ?_))))
  cases eo:mN (.ref j) S3 with
  |none=>rw[eo]at q;cases q
  |some t=>
   obtain⟨j2,ks,vs⟩:=t;rw[eo]at q;cases ek:cR z with
   |none=>rw[ek]at q;cases q
   |some B=>
    rw[ek]at q;dsimp only at q;split at q
    .rename_i hc;obtain⟨e4,E⟩:=uT eo;cases e4;obtain⟨a',e5,M⟩:=RD.mono (T.trans qx) p1;cases e5;obtain⟨C,hH,hk,rs⟩:=W.obj j a _ M E;subst hk;have V:=jQ (k:=B) rs;have pz:=RP.mono qx G;have ez:=ip ek pz;subst ez;have hl:C.length < sizeLine:=by
      have h9:(C.map (·.1)).length≤1000000:=aJ hc.2;rw[aX]at h9;exact jI h9 (by decide)
     have stA:=R.trans (T.trans qx);refine F5 I3 hH hl rz ry (λv w s' ev rv I'=>?_) λev s' I'=>?_
     .cases Z:cC B (C.map (·.1)) vs with
      |none=>rw[Z]at V;rw[show gD C B=none from V]at ev;cases ev
      |some w'=>rw[Z]at V q;dsimp only at q;cases q;obtain⟨v',h,rd⟩:=V;rw[ev]at h;cases h;exact⟨v,g,I',rv,k v p K g stA W rd⟩
     .cases Z:cC B (C.map (·.1)) vs with
      |some w'=>rw[Z]at V;obtain⟨v',h,_⟩:=V;rw[ev]at h;cases h
      |none=>
       rw[Z]at q;dsimp only at q;cases q;obtain⟨h1,h2⟩:=nL (k:=B) p3 hc.1 rs;have nt:∀zs,g a≠some (.tup zs):=λzs z=>by rw[hH]at z;cases z
       have st:=eT (o:=.dK (L2.putK C B vy)) W M E trivial nt;exact⟨vy,_,I',ry,k vy p K _ (stA.trans st) (W.set M E trivial nt ⟨_,aF,h1,cN.mono st h2⟩) (RD.mono st p3)⟩
    .cases q
end
end Ev
set_option tactic.hygienic false
namespace PySem
open PySem PyProof.Rows
section
variable{prog:Program}{w:World}{A:Around}{E:VP}{s:Shared}
theorem qh(t:s.heap.IsTupleIter k h i)(f:s.heap.IsTuple h n)(b:n[i]? = some x)
  (e:∀a,a.IsTupleIter k h (i+1)->dX k s.heap a->Q x { s with heap:=a }):wpAny (model prog w) A (fF (.ref k)) Q E s:=by
 have T:=t.typeIs;obtain⟨⟨q,v,m,r⟩,o,c,hd⟩:=id t;obtain⟨u,l,_,p,d⟩:=f;dsimp only at c hd;subst c hd;unfold fF;apply ab;apply pY (name:=Str.ofString "__next__") T o7;refine nB o7 T zd ?_ (zf _);repeat first|with_reducible refine ab (dt o rfl (x:=.ref h) rfl ?_)|wp_step
 rw[d];apply ao;simp only[oZ,b];apply ab;apply AH o rfl (by simp);refine ao ⟨x,rfl,ao (e _ ⟨_,t5 _ o rfl,rfl,?_⟩ (lV ..))⟩;simp[yU,rawInt]
theorem mF(m:A.handled=none)(t:s.heap.IsTupleIter k h i)(p:s.heap.IsTuple h n)(q:n[i]? = none)
  (b:∀a e,tZ k s.heap a->(∃o,a.get? e=some o/\o.cls=.type "StopIteration")->E (.ref e) { s with heap:=a }):wpAny (model prog w) A (fF (.ref k)) Q E s:=by
 have T:=t.typeIs;obtain⟨⟨j,y,v,u⟩,r,c,hd⟩:=id t;obtain⟨z,l,_,g,d⟩:=p;dsimp only at c hd;subst c hd;unfold fF;apply ab;apply pY (name:=Str.ofString "__next__") T o7;refine nB o7 T zd ?_ (zf _);repeat first|with_reducible refine ab (dt r rfl (x:=.ref h) rfl ?_)|wp_step
 rw[d];apply ao;simp only[oZ,q];have f:A.in1.handled=none:=m;repeat first|assumption|wp_step
 unfold raiseNew;apply ab;apply wpAny_handled;rw[f];apply wpAny_throw;exact b _ _ (((lV ..).extBut.push _).push _) ⟨_,br _ rfl,rfl⟩
def GG(t:Bool)(h:Heap)(i l:Addr)(k:Nat):Prop:=if t=true then h.IsTupleIter i l k else h.IsListIter i l k
def O1(t:Bool)(h:Heap)(l:Addr)(y:Array Value):Prop:=if t=true then h.IsTuple l y else h.IsList l y
theorem GG.extBut(x:GG n h a l i)(s:tZ b h k)(e:a≠b):GG n k a l i:=by
 cases n
 .exact Heap.IsListIter.extBut x s e
 .exact Heap.IsTupleIter.extBut x s e
theorem O1.extBut(x:O1 n h a q)(s:tZ b h k)(e:a≠b):O1 n k a q:=by
 cases n
 .exact Heap.IsList.extBut x s e
 .exact Heap.IsTuple.extBut x s e
theorem GG.obj(x:GG k h a l i):∃o,h.get? a=some o/\(∃v,o.data=.fields v)/\∀s,s.get? a=some o->GG k s a l i:=by
 cases k
 .obtain⟨o,e,c,d⟩:=x;exact⟨o,e,⟨_,d⟩,λs n=>⟨o,n,c,d⟩⟩
 .obtain⟨o,e,c,d⟩:=x;exact⟨o,e,⟨_,d⟩,λs n=>⟨o,n,c,d⟩⟩
theorem Fw(t:GG q s.heap k h i)(f:O1 q s.heap h n)(b:n[i]? = some x)
  (e:∀a,GG q a k h (i+1)->dX k s.heap a->Q x { s with heap:=a }):wpAny (model prog w) A (fF (.ref k)) Q E s:=by
 cases q
 .exact xx t f b e
 .exact qh t f b e
def gH(h:Heap)(z TI TO:Addr)(f x:Value):Prop:=h.get? z=some { cls:=.type "zip",data:=.fields #[f,x,.bool false,.ref TI,.ref TO] }
def eF(h:Heap)(T:Addr)(a b:Value):Prop:=h.get? T=some { cls:=.type "tuple",data:=.seq #[a,b] }
theorem DL (l y:Addr) (xs ys:Array Value):Meets (Builtin.«zip.__new__» ⟨[.type "zip",.ref l,.ref y],[]⟩) (fun _ R s=>s.heap.IsList l xs/\s.heap.IsTuple y ys /\
  ∀v S F TI TO z,(∀b o,s.heap.get? b=some o->v.get? b=some o)->s.heap.objs.size≤S->S < F->F < TI->TI < TO->TO < z->v.IsListIter S l 0->v.IsTupleIter F y 0->eF v TI (.ref S) (.ref F)->eF v TO .none .none ->
   gH v z TI TO .none (.bool false)->R (.ok (.ret (.ref z))) { s with heap:=v }):=
 .of_wp λprog w A R s h=>by
  obtain⟨i,g,d,Z,os⟩:=s;obtain⟨B,C,h⟩:=h;have X:=sub_zip;have L:Heap.IsList (Shared.heap ⟨i,g,d,Z,os⟩) l xs:=B;have P:zR (Shared.heap ⟨i.push { cls:=.type "list_iterator",data:=.fields #[.ref l,.int 0 0] },g,d,Z,os⟩) y ys:=C.push _
  wp_walk using xt L,tu P
  have j:∀(u n x a f c:Heap)(r t p q m:Obj),n=u.push r->x=n.push t->a=x.push p->f=a.push q->c=f.push m->r.isFreed=false->t.isFreed=false->p.isFreed=false->q.isFreed=false->m.isFreed=false ->
    (∀b o,u.get? b=some o->c.get? b=some o)/\u.objs.size < n.objs.size/\n.objs.size < x.objs.size/\x.objs.size < a.objs.size/\a.objs.size < f.objs.size /\
    c.get? u.objs.size=some r/\c.get? n.objs.size=some t/\c.get? x.objs.size=some p/\c.get? a.objs.size=some q/\c.get? f.objs.size=some m:=by
   intro u n x a f c r t p q m E G I M N f1 f2 f3 f4 f5;have Q:n.get? u.objs.size=some r:=by rw[E];exact br _ f1
   have T:x.get? n.objs.size=some t:=by rw[G];exact br _ f2
   have V:a.get? x.objs.size=some p:=by rw[I];exact br _ f3
   have W:f.get? a.objs.size=some q:=by rw[M];exact br _ f4
   have g5:c.get? f.objs.size=some m:=by rw[N];exact br _ f5
   have u2:∀b o,n.get? b=some o->x.get? b=some o:=λb o e=>by rw[G];exact aO _ e
   have D:∀b o,x.get? b=some o->a.get? b=some o:=λb o e=>by rw[I];exact aO _ e
   have K:∀b o,a.get? b=some o->f.get? b=some o:=λb o e=>by rw[M];exact aO _ e
   have H:∀b o,f.get? b=some o->c.get? b=some o:=λb o e=>by rw[N];exact aO _ e
   exact⟨λb o e=>H _ _ (K _ _ (D _ _ (u2 _ _ (by rw[E];exact aO _ e)))),aC Q,aC T,aC V,aC W,H _ _ (K _ _ (D _ _ (u2 _ _ Q))),H _ _ (K _ _ (D _ _ T)),H _ _ (K _ _ V),H _ _ W,g5⟩
  let r:Obj:={ cls:=.type "list_iterator",data:=.fields #[.ref l,.int 0 0] }
  let n:=i.push r
  let t:Obj:={ cls:=.type "tuple_iterator",data:=.fields #[.ref y,.int 0 0] }
  let x:=n.push t
  let p:Obj:={ cls:=.type "tuple",data:=.seq #[.ref i.objs.size,.ref n.objs.size] }
  let a:=x.push p
  let q:Obj:={ cls:=.type "tuple",data:=.seq #[.none,.none] }
  let f:=a.push q
  let m:Obj:={ cls:=.type "zip",data:=.fields #[.none,.bool false,.bool false,.ref x.objs.size,.ref a.objs.size] }
  obtain⟨k,s1,s2,s3,s4,a1,a2,a3,a4,a5⟩:=j i n x a f (f.push m) r t p q m rfl rfl rfl rfl rfl rfl rfl rfl rfl rfl;exact⟨_,rfl,h (f.push m) i.objs.size n.objs.size x.objs.size a.objs.size f.objs.size k (ah _) s1 s2 s3 s4 ⟨_,a1,rfl,rfl⟩ ⟨_,a2,rfl,rfl⟩ a3 a4 a5⟩
end
section
variable{prog:Program}{w:World}{A:Around}{E:VP}{s:Shared}
theorem De(h:Q (s.heap.get? a) s):wpAny M A (loadIfAlive a) Q E s:=λx p _=>by unfold loadIfAlive;rw[Sem.wp_loadIfAlive];exact(Sem.wp_pure ..).mpr h
theorem qQ{z TI TO T:Addr}{f:Bool}{o:Obj}{Q:Bool->Shared->Prop}(a:gH s.heap z TI TO (rawInt T) (.bool f))(n:s.heap.get? T=some o)
  (h:∀e,gH e z TI TO (rawInt T) (.bool true)->dX z s.heap e->Q false { s with heap:=e }):wpAny (model prog w) A (oW (.ref z)) Q E s:=by
 unfold oW;apply ab;refine dt (show s.heap.get? z=some _ from a) rfl (x:=rawInt T) rfl ?_;unfold rawInt;dsimp only;apply ab;refine De ?_;rw[oZ,n];rw[af (by simp)];apply ab;refine dt (show s.heap.get? z=some _ from a) rfl (x:=.bool f) rfl ?_;cases f with
 |true=>rw[af (by decide)];exact ao (h s.heap a ⟨rfl,λ_ _=>rfl⟩)
 |false=>rw[ac (by decide)];apply ab;refine AH (show s.heap.get? z=some _ from a) rfl (by simp) (ao (h _ ?_ (lV ..)));unfold gH;rw[t5 _ (show s.heap.get? z=some _ from a) rfl];simp[yU]
theorem B9{z TI TO i a l r T:Addr}{P:Bool}{k:Nat}{S F:Array Value}{x y:Value}{oT:Obj}{Q:VP}(d:gH s.heap z TI TO (rawInt T) (.bool P))(I:eF s.heap TI (.ref i) (.ref a))(G:s.heap.get? T=some oT)
  (B:s.heap.IsListIter i l k) (C:s.heap.IsTupleIter a r k) (p:s.heap.IsList l S) (q:s.heap.IsTuple r F) (M:S[k]? = some x) (R:F[k]? = some y)
  (g:i≠z) (j:a≠z) (X:l≠z) (Z:r≠z) (H:a≠i) (n6:r≠i) (n7:l≠a) (n8:l≠i) (n9:r≠a)
  (D:∀m:Heap,gH m z TI TO (rawInt T) (.bool true)->m.IsListIter i l (k+1)->m.IsTupleIter a r (k+1)->(∀c o,c≠z->c≠i->c≠a->s.heap.get? c=some o->m.get? c=some o) ->
   Q (.ref m.objs.size) { s with heap:=m.push { cls:=.type "tuple",data:=.seq #[x,y] } }) :
  wpAny (model prog w) A (Builtin.«zip.__next__» ⟨[.ref z],[]⟩) (λt s'=>∃h,t=.done (.ret h)/\Q h s') E s:=by
 unfold Builtin.«zip.__next__»;apply ab;apply ao;apply ab;refine dt (show s.heap.get? z=some _ from d) rfl (x:=.bool false) rfl ?_;apply ab;refine dt (show s.heap.get? z=some _ from d) rfl (x:=.ref TI) rfl ?_;apply ab;refine iW (show s.heap.get? TI=some _ from I) rfl ?_;dsimp only;rw[af (by simp)];apply ab;refine qQ d G λh0 u b=>?_
 rw[af (by simp)];apply ab;rw[<- pE];show wpAny _ _ (forIn [Value.ref i,Value.ref a] _ _) _ _ _;rw[iH];apply ab;apply ab;apply fE;show wpAny _ _ (fF (.ref i) >>= _) _ _ _;apply ab;refine xx (B.extBut b.extBut g) (p.extBut b.extBut X) M λha V n=>ao ?_;dsimp only;apply ao;dsimp only;rw[iH];apply ab;apply ab;apply fE;show wpAny _ _ (fF (.ref a) >>= _) _ _ _;apply ab;refine qh ((C.extBut b.extBut j).extBut n.extBut H) ((q.extBut b.extBut Z).extBut n.extBut n6) R λL W f=>ao ?_;dsimp only;apply ao;dsimp only;rw[zY];apply ao;dsimp only;apply ab;refine xl (hsz:=by show 2≤sizeLine;decide) (ao ⟨_,rfl,D L ?_ ?_ W ?_⟩)
 .exact f.extBut _ _ (aI j) (n.extBut _ _ (aI g) u)
 .exact V.extBut f.extBut (aI H)
 .exact λc o N v K e=>f.extBut _ _ K (n.extBut _ _ v (b.extBut _ _ N e))
theorem DM{z TI TO i f n T:Addr}{t:Bool}{k:Nat}{m:Array Value}{S:Obj}{Q:Fin->Shared->Prop}(u:A.handled=none)(a:gH s.heap z TI TO (rawInt T) (.bool t))(I:eF s.heap TI (.ref i) (.ref f))(d:s.heap.get? T=some S)
  (p:s.heap.IsListIter i n k) (l:s.heap.IsList n m) (g:m[k]? = none) (y:i≠z) (H:n≠z)
  (q:∀h e,(∀c o,c≠z->c≠i->s.heap.get? c=some o->h.get? c=some o)->(∃o,h.get? e=some o/\o.cls=.type "StopIteration")->E (.ref e) { s with heap:=h }) :
  wpAny (model prog w) A (Builtin.«zip.__next__» ⟨[.ref z],[]⟩) Q E s:=by
 unfold Builtin.«zip.__next__»;apply ab;apply ao;apply ab;refine dt (show s.heap.get? z=some _ from a) rfl (x:=.bool false) rfl ?_;apply ab;refine dt (show s.heap.get? z=some _ from a) rfl (x:=.ref TI) rfl ?_;apply ab;refine iW (show s.heap.get? TI=some _ from I) rfl ?_;dsimp only;rw[af (by simp)];apply ab;refine qQ a d λF j b=>?_
 rw[af (by simp)];apply ab;rw[<- pE];show wpAny _ _ (forIn [Value.ref i,Value.ref f] _ _) _ _ _;rw[iH];apply ab;apply ab;apply fE;show wpAny _ _ (fF (.ref i) >>= _) _ _ _;apply ab;exact Dn u (p.extBut b.extBut y) (l.extBut b.extBut H) g λh e x o=>q h e (λc K N v r=>x _ _ v (b.extBut _ _ N r)) o
end
section
variable{prog:Program}{w:World}{A:Around}{E:VP}{s:Shared}
theorem B_{tp:Bool}{k:Nat}{z TI TO i d D l:Addr}{xs ys:Array Value}{x y p q:Value}{Q:VP}(H:gH s.heap z TI TO .none (.bool false))(L:eF s.heap TI (.ref i) (.ref d))(M:eF s.heap TO p q)
  (h1:s.heap.IsListIter i D k) (h2:GG tp s.heap d l k) (R:s.heap.IsList D xs) (V:O1 tp s.heap l ys) (hx:xs[k]? = some x) (hy:ys[k]? = some y)
  (n1:i≠z) (n2:d≠z) (n3:D≠z) (n4:l≠z) (n5:d≠i) (n6:l≠i) (G:TO≠z) (n8:TO≠i) (n9:TO≠d) (n10:l≠TO)
  (hQ:∀(g:Heap) (T:Addr),gH g z TI TO (rawInt T) (.bool false)->g.IsListIter i D (k+1)->GG tp g d l (k+1)->eF g TO x y->eF g T x y->T=s.heap.objs.size->(∀c o,c≠z->c≠i->c≠d->c≠TO->s.heap.get? c=some o->g.get? c=some o) ->
   Q (.ref T) { s with heap:=g }) :
  wpAny (model prog w) A (Builtin.«zip.__next__» ⟨[.ref z],[]⟩) (λI s'=>∃h,I=.done (.ret h)/\Q h s') E s:=by
 unfold Builtin.«zip.__next__»;apply ab;apply ao;apply ab;refine dt (show s.heap.get? z=some _ from H) rfl (x:=.bool false) rfl ?_;apply ab;refine dt (show s.heap.get? z=some _ from H) rfl (x:=.ref TI) rfl ?_;apply ab;refine iW (show s.heap.get? TI=some _ from L) rfl ?_;dsimp only;rw[af (by simp)];apply ab;unfold oW;apply ab;refine dt (show s.heap.get? z=some _ from H) rfl (x:=.none) rfl (ao ?_);rw[ac rfl];apply ab;apply pS;apply ab;refine dt (show s.heap.get? z=some _ from H) rfl (x:=.ref TO) rfl ?_;dsimp only;apply ab;refine pW (show s.heap.get? z=some _ from H) (by simp) λh0 W b=>?_
 apply ab;show wpAny _ _ (forIn [(Value.ref i,0),(Value.ref d,1)] _ _) _ _ _;rw[iH];apply ab;apply ab;apply xk;show wpAny _ _ (fF (.ref i) >>= _) _ _ _;apply ab;refine xx (h1.extBut b.extBut n1) (R.extBut b.extBut n3) hx λha ia n=>ao ?_;dsimp only;have P:ha.get? TO=some { cls:=.type "tuple",data:=.seq #[p,q] }:=n.extBut _ _ n8 (b.extBut _ _ G M);apply ab;refine iW P rfl ?_;dsimp only;apply ab;refine A3 (s:={ s with heap:=ha }) P λhb j f=>?_;replace j:hb.get? TO=some { cls:=.type "tuple",data:=.seq #[x,q] }:=j;apply ab;apply wpAny_letGo;apply ao;dsimp only;rw[iH];apply ab;apply ab;apply xk;show wpAny _ _ (fF (.ref d) >>= _) _ _ _;apply ab;refine Fw (((h2.extBut b.extBut n2).extBut n.extBut n5).extBut f.extBut (aI n9)) (((V.extBut b.extBut n4).extBut n.extBut n6).extBut f.extBut n10) hy λhc ic m=>ao ?_;dsimp only;have B:hc.get? TO=some { cls:=.type "tuple",data:=.seq #[x,q] }:=m.extBut _ _ n9 j;apply ab;refine iW B rfl ?_;dsimp only;apply ab;refine A3 (s:={ s with heap:=hc }) B λhd u t=>?_;replace u:hd.get? TO=some { cls:=.type "tuple",data:=.seq #[x,y] }:=u;apply ab;apply wpAny_letGo;apply ao;dsimp only;rw[zY];apply ao;dsimp only;apply ab;refine iW u rfl ?_;dsimp only;apply ab;refine xl (hsz:=by show 2≤sizeLine;decide) ?_;have S:hd.get? z=some { cls:=.type "zip",data:=.fields #[.ellipsis,.bool false,.bool false,.ref TI,.ref TO] }:=t.extBut _ _ (aI G) (m.extBut _ _ (aI n2) (f.extBut _ _ (aI G) (n.extBut _ _ (aI n1) W)));have C:=aC S;have X:(hd.push { cls:=.type "tuple",data:=.seq #[x,y] }).get? z=some { cls:=.type "zip",data:=.fields #[.ellipsis,.bool false,.bool false,.ref TI,.ref TO] }:=aO _ S;apply ab;unfold GH;dsimp only;apply ab;refine pW X (by simp) λhe Z F=>?_;refine pW Z (by simp) λhf hz7 K=>?_;have a:∀c o,c≠z->hd.get? c=some o->hf.get? c=some o:=λc o N e=>K.extBut _ _ N (F.extBut _ _ N (aO _ e));refine ao ⟨_,rfl,hQ hf hd.objs.size hz7 ?_ ?_ (a _ _ G u) ?_ ?_ ?_⟩
 .exact (((ia.extBut f.extBut (aI n8)).extBut m.extBut (aI n5)).extBut t.extBut (aI n8)).at λo e=>a _ o n1 e
 .obtain⟨o,e,_,r⟩:=(ic.extBut t.extBut (aI n9)).obj;exact r _ (a _ o n2 e)
 .exact K.extBut _ _ (bO C) (F.extBut _ _ (bO C) (br _ rfl))
 .show hd.objs.size=s.heap.objs.size;rw[t.1,m.1,f.1,n.1,b.1]
 .exact λc o N v c3 c4 e=>a c o N (t.extBut _ _ c4 (m.extBut _ _ c3 (f.extBut _ _ c4 (n.extBut _ _ v (b.extBut _ _ N e)))))
theorem DN(H:A.handled=none)(a:gH s.heap z TI TO .none (.bool false))(T:eF s.heap TI (.ref d) (.ref I))
  (i:s.heap.IsListIter d g k) (l:s.heap.IsList g M) (S:M[k]? = none) (t:d≠z) (K:g≠z)
  (y:∀h e,(∀c o,c≠z->c≠d->s.heap.get? c=some o->h.get? c=some o)->(∃o,h.get? e=some o/\o.cls=.type "StopIteration")->E (.ref e) { s with heap:=h }) :
  wpAny (model prog w) A (Builtin.«zip.__next__» ⟨[.ref z],[]⟩) Q E s:=by
 unfold Builtin.«zip.__next__»;apply ab;apply ao;apply ab;refine dt (show s.heap.get? z=some _ from a) rfl (x:=.bool false) rfl ?_;apply ab;refine dt (show s.heap.get? z=some _ from a) rfl (x:=.ref TI) rfl ?_;apply ab;refine iW (show s.heap.get? TI=some _ from T) rfl ?_;dsimp only;rw[af (by simp)];apply ab;unfold oW;apply ab;refine dt (show s.heap.get? z=some _ from a) rfl (x:=.none) rfl (ao ?_);rw[ac rfl];apply ab;apply pS;apply ab;refine dt (show s.heap.get? z=some _ from a) rfl (x:=.ref TO) rfl ?_;dsimp only;apply ab;refine pW (show s.heap.get? z=some _ from a) (by simp) λB r b=>?_
 apply ab;show wpAny _ _ (forIn [(Value.ref d,0),(Value.ref I,1)] _ _) _ _ _;rw[iH];apply ab;apply ab;apply xk;show wpAny _ _ (fF (.ref d) >>= _) _ _ _;apply ab;refine Dn H (i.extBut b.extBut t) (l.extBut b.extBut K) S λh e x o=>?_;have n:=x _ _ (aI t) r;refine pW (s:={ s with heap:=h }) n (by simp) λj F f=>y j e (λc p N v u=>f.extBut _ _ N (x _ _ v (b.extBut _ _ N u))) ?_;obtain⟨p,m,c⟩:=o;have P:e≠z:=λq=>by rw[q,n]at m;cases m;exact absurd (show Value.type "zip"=Value.type "StopIteration" from c) (by decide)
 exact⟨p,f.extBut _ _ P m,c⟩
end
theorem vN:typeLookup (.type "zip") "keys"=pure none:=by rw[xn,xw];kernel_rfl
theorem p':typeLookup (.type "zip") "__getattr__"=pure none:=by rw[xn,xw];kernel_rfl
theorem nD:entryFor table "zip.__getattribute__"=some Builtin.«object.__getattribute__»:=
 entryFor_alias (id':="object.__getattribute__") (by kernel_rfl) (by decide +kernel) (by decide +kernel) (by kernel_rfl)
section
variable{prog:Program}{w:World}{A:Around}{E:VP}{s:Shared}
theorem DK(z TI TO:Addr)(f0 f1:Value)(u:Tok):Meets (Builtin.«object.__getattribute__» ⟨[.ref z,.str "keys" u],[]⟩) (λA R s=>gH s.heap z TI TO f0 f1/\raisesAttr (.ref z) "keys" A R s):=
 .of_wp λprog w A R s hs=>by
  obtain⟨hp,g,d,tk,os⟩:=s;obtain⟨hx,hs⟩:=hs;unfold gH at hx;have hT:(⟨hp,g,d,tk,os⟩:Shared).TypeIs (.ref z) "zip":=⟨_,hx,rfl⟩;have nk:=vN;unfold Builtin.«object.__getattribute__»;repeat any_goals first|assumption|wp_step
  exact wpAny_raiseAttrError hs.1 hs.2 (attrMsg_fits (by decide +kernel) (by size_fits))
theorem B8(q:gH s.heap z TI TO l j)(i:A.handled=none)
  (h:∀x v,(∀b o,s.heap.get? b=some o->x.get? b=some o)->Q none { s with heap:=x,toks:=v }):wpAny (model prog w) A (getAttr? (.ref z) "keys") Q E s:=by
 obtain⟨p,g,d,v,os⟩:=s;have T:∀t,(⟨p,g,d,t,os⟩:Shared).TypeIs (.ref z) "zip":=λ_=>⟨_,q,rfl⟩;have j:=AX;have y:=tB.lookup;have H:=tB.bind (.ref z);have S:=p';have step:∀(n:Nat)(u:Tok)(m:VP)(f:VP),(∀x c e,zS p x e (.ref z) "keys"->f (.ref e) ⟨x,g,d,c,os⟩) ->
   wpAny (model prog w) A (call (Value.builtin "zip.__getattribute__") ([Value.ref z]++[Value.str "keys" u]) []) m f ⟨p,g,d,n,os⟩:=λn u m f k=>
  gJ tB (T _) nD (F.args_zip_getattribute_2 _ _) (DK z TI TO _ _ u) ⟨q,i,k⟩
 unfold getAttr?;unfold getAttrBy?;unfold getAttrBy;repeat any_goals first|assumption|exact T _|(with_reducible refine step _ _ _ _ λx t e a=>?_)|wp_step
 have r:=a.there;obtain⟨K,P,r⟩:=r;repeat any_goals first|assumption|wp_step
 exact h _ _ a.keeps
end
section
variable{prog:Program}{w:World}{A:Around}{E:VP}{s:Shared}
theorem DJ(n:s.TypeIs (.ref z) "zip")
  (h:wpAny (model prog w) A.in1 (Builtin.«zip.__next__» ⟨[.ref z],[]⟩) (λf x=>∃v,f=.done (.ret v)/\Q (some v) x) (λe x=>∃a o,e=.ref a/\x.heap.get? a=some o/\o.cls=.type "StopIteration"/\Q none x) s) :
  wpAny (model prog w) A (pyNext (.ref z)) Q E s:=by
 unfold pyNext;apply ab;apply wpAny_attempt;refine pY (name:=Str.ofString "__next__") n y0 (nB y0 n F.entry_zip_next (cD h (λf x ⟨v,e,q⟩=>⟨v,e,ao q⟩) λe x ⟨a,o,k,c,m,q⟩=>?_) (F.args_zip_next_1 _));subst k;apply ab;exact AR (T:="StopIteration") (b:=true) ⟨_,c,m⟩ isSubtype_stop (ao q)
def Jg(d:Addr)(h:Heap)(z TI TO i x l a:Addr)(k:Nat):Prop:=eF h TI (.ref i) (.ref x)/\h.IsListIter i l k/\h.IsTupleIter x a k /\
 ((k=0/\gH h z TI TO .none (.bool false)/\eF h TO .none .none)\/∃(T:Addr)(o:Obj)(f:Bool),gH h z TI TO (rawInt T) (.bool f)/\h.get? T=some o/\T≠z/\T≠i/\T≠x/\T≠d)
structure ZAp(d z TI TO i1 i2 l1 l2:Addr):Prop where
 nd:[d,z,TI,TO,i1,i2].Nodup
 l1n:l1 ∉ [d,z,TI,TO,i1,i2]
 l2n:l2 ∉ [d,z,TI,TO,i1,i2]
theorem Jg.typeIs(x:Jg d s.heap z TI TO n q l g k):s.TypeIs (.ref z) "zip":=by
 obtain⟨_,_,_,⟨_,h,_⟩|⟨T,o,f,h,_⟩⟩:=x
 .exact⟨_,h,rfl⟩
 .exact⟨_,h,rfl⟩
theorem Jg.but(x:Jg d h z TI TO q g l j k)(p:ZAp d z TI TO q g l j)(s:dX d h I):Jg d I z TI TO q g l j k:=by
 have n:=p.nd;simp only[bP,aN,de,cZ,kQ]at n;obtain⟨b,c,m,r⟩:=x;refine⟨s.extBut _ _ (aI n.1.2.1) b,c.extBut s.extBut (aI n.1.2.2.2.1),m.extBut s.extBut (aI n.1.2.2.2.2),?_⟩;rcases r with ⟨e,a,t⟩|⟨T,o,v,a,t,w,u,i,f⟩
 .exact .inl ⟨e,s.extBut _ _ (aI n.1.1) a,s.extBut _ _ (aI n.1.2.2.1) t⟩
 .exact .inr ⟨T,o,v,s.extBut _ _ (aI n.1.1) a,s.extBut _ _ f t,w,u,i,f⟩
theorem DP(p:ZAp d z TI TO I M l1 l2)(a:Jg d s.heap z TI TO I M l1 l2 k)(hd:s.heap.get? d=some od)(l:s.heap.IsList l1 xs)(b:s.heap.IsTuple l2 ys)(B:xs[k]? = some x)(C:ys[k]? = some y)
  (P:∀h T,Jg d h z TI TO I M l1 l2 (k+1)->eF h T x y->T≠d->(∀c o,c ∉ [z,TO,I,M]->s.heap.get? c=some o->h.get? c=some o)->Q (some (.ref T)) { s with heap:=h }) :
  wpAny (model prog w) A (pyNext (.ref z)) Q E s:=by
 have X:=p.nd;have V:=p.l1n;have W:=p.l2n;simp only[bP,aN,de,cZ,kQ]at X V W;refine DJ a.typeIs ?_;obtain⟨m,g,i,R⟩:=a;rcases R with ⟨e,v,t⟩|⟨T,Z,f1,v,t,G,L,N,t4⟩
 .subst e;refine B_ (tp:=true) v m t g i l b B C (by grind) (by grind) (by grind) (by grind) (by grind) (by grind) (by grind) (by grind) (by grind) (by grind) λh T S F K _ D q5 q=>?_
  have fresh:∀c o,s.heap.get? c=some o->T≠c:=λc o f z=>absurd (aC f) (by rw[<- z,q5];exact eQ _);obtain⟨oi1,j,_⟩:=g;obtain⟨oi2,H,_⟩:=i;exact P h T ⟨q _ _ (by grind) (by grind) (by grind) (by grind) m,F,K,.inr ⟨T,_,false,S,D,fresh _ _ v,fresh _ _ j,fresh _ _ H,fresh _ _ hd⟩⟩ D (fresh _ _ hd) λc o n f=>q c o (λz=>n (by simp[z])) (λz=>n (by simp[z])) (λz=>n (by simp[z])) (λz=>n (by simp[z])) f
 .refine B9 v m t g i l b B C (by grind) (by grind) (by grind) (by grind) (by grind) (by grind) (by grind) (by grind) (by grind) λh S F K q=>?_;have dl:d < h.objs.size:=aC (q _ _ (by grind) (by grind) (by grind) hd);have u:∀c o,h.get? c=some o->(h.push { cls:=.type "tuple",data:=.seq #[x,y] }).get? c=some o:=λc o e=>aO _ e;refine P _ _ ⟨u _ _ (q _ _ (by grind) (by grind) (by grind) m),?_,?_,.inr ⟨T,Z,true,u _ _ S,u _ _ (q _ _ G L N t),G,L,N,t4⟩⟩ (br _ rfl) (bO dl) λc o n f=>u _ _ (q c o (λz=>n (by simp[z])) (λz=>n (by simp[z])) (λz=>n (by simp[z])) f)
  .obtain⟨o,e,r⟩:=F;exact⟨o,u _ _ e,r⟩
  .obtain⟨o,e,r⟩:=K;exact⟨o,u _ _ e,r⟩
theorem Hg(u:A.handled=none)(p:ZAp d z TI TO j I M l2)(a:Jg d s.heap z TI TO j I M l2 k)(l:s.heap.IsList M xs)(i:xs[k]? = none)
  (v:∀h,(∀c o,c ∉ [z,TO,j,I]->s.heap.get? c=some o->h.get? c=some o)->Q none { s with heap:=h }):wpAny (model prog w) A (pyNext (.ref z)) Q E s:=by
 have S:=p.nd;have H:=p.l1n;simp only[bP,aN,de,cZ,kQ]at S H;refine DJ a.typeIs ?_;obtain⟨r,t,F,y⟩:=a;rcases y with ⟨e,n,g⟩|⟨T,P,K,n,g,B,C,D,G⟩
 .subst e;exact DN u n r t l i (by grind) (by grind) λh e q n=>by obtain⟨o,b,m⟩:=n;exact⟨e,o,rfl,b,m,v h λc o x f=>q c o (λz=>x (by simp[z])) (λz=>x (by simp[z])) f⟩
 .exact DM u n r g t l i (by grind) (by grind) λh e q ⟨o,b,m⟩=>⟨e,o,rfl,b,m,v h λc o x f=>q c o (λz=>x (by simp[z])) (λz=>x (by simp[z])) f⟩
end
section
variable{prog:Program}{w:World}{K:Type}[DecidableEq K]{t:KeyKind prog w K}{A:Around}{E:VP}{R:Result->Shared->Prop}
inductive ZipsAt(knd:KeyKind prog w K):LV->LV->List (K×Value)->Prop
 |nil {vs:LV}:ZipsAt knd [] vs []
 |cons {key v:Value}{k:K}{us vs:LV}{kvs:List (K×Value)}:knd.is k key=true->ZipsAt knd us vs kvs->ZipsAt knd (key::us) (v::vs) ((k,v)::kvs)
set_option tactic.hygienic true in
theorem yB(hh:A.handled=none){u:Heap}(p:ZAp d z TI TO i1 i2 l1 l2)(fr:∀a ∈ [d,z,TI,TO,i1,i2],u.get? a=none)(L:u.IsList l1 j)(hl2:u.IsTuple l2 ys) :
  ∀(n:List (K×Value))(i:Nat)(f:List (K×Value))(s:Shared),(∀b o,u.get? b=some o->s.heap.get? b=some o)->Jg d s.heap z TI TO i1 i2 l1 l2 i->s.heap.DictOf t d f->ZipsAt t (j.toList.drop i) (ys.toList.drop i) n ->
   ((f++n).map (·.1)).Nodup->(f++n).length≤sizeLine->i+n.length=j.size ->
   (∀l t',(∀b o,u.get? b=some o->l.get? b=some o)->l.DictOf t d (f++n)->R (.ok (.ret .none)) { s with heap:=l,toks:=t' }) ->
   codeAny (model prog w) A (.builtin "dict.update.loop" ⟨[.ref d,.ref z,rawInt i,.none],[]⟩) R s:=by
 have nd:=p.nd;simp only[bP,aN,de,cZ,kQ]at nd;have P:∀b o,u.get? b=some o->b ∉ [d,z,TI,TO,i1,i2]:=λb o e m=>by rw[fr b m]at e;cases e
 have dz:d ∉ [z,TO,i1,i2]:=by simp only[aN,de,cZ,kQ];grind
 intro n;induction n with
 |nil=>
  intro i f s C y hd X N Z hi h;have I:j[i]? = none:=by simp at hi ⊢;lia
  have H:s.heap.IsList l1 j:=by obtain⟨o,S,r⟩:=L;exact⟨o,C _ _ S,r⟩
  refine tm F.entry_dict_update_loop ?_;rw[pD F.plain_dict_update_loop _];unfold Builtin.«dict.update.loop»;show wpAny _ A.in1 (pyNext (.ref z) >>= _) _ _ s;refine ab (Hg hh p y H I λl D=>?_);show wpAny _ A.in1 (yP d [] >>= _) _ _ _;rw[cP]at h;apply ab;apply ao;apply ao;refine h l s.toks (λb o e=>D b o (λm=>P b o e (by simp only[aN,de,cZ]at m ⊢;grind)) (C b o e)) ?_;obtain⟨o,c,ep,S,r⟩:=hd;exact⟨o,c,ep,D _ _ dz S,r⟩
 |cons kv n ih=>
  intro i f s C y hd X N Z hi h;have H:s.heap.IsList l1 j:=by obtain⟨o,S,r⟩:=L;exact⟨o,C _ _ S,r⟩
  have M:s.heap.IsTuple l2 ys:=by obtain⟨o,S,r⟩:=hl2;exact⟨o,C _ _ S,r⟩
  generalize er:j.toList.drop i=us at X;generalize c:ys.toList.drop i=vs at X;cases X with
  |cons hk hps=>
   rename_i B v k us' vs';have hx:j[i]? = some B:=by have:=cY (·[0]?) er;simpa using this
   have hy:ys[i]? = some v:=by have:=cY (·[0]?) c;simpa using this
   have er':j.toList.drop (i+1)=us':=by rw[<- ud,er];rfl
   have es':ys.toList.drop (i+1)=vs':=by rw[<- ud,c];rfl
   obtain⟨od,ed1,ed2,Q,hdr⟩:=id hd;refine tm F.entry_dict_update_loop ?_;rw[pD F.plain_dict_update_loop _];unfold Builtin.«dict.update.loop»;show wpAny _ A.in1 (pyNext (.ref z) >>= _) _ _ s;refine ab (DP p y Q H M hx hy λW T za g hTd D=>?_);have kp1:∀b o,u.get? b=some o->W.get? b=some o:=λb o e=>D b o (λm=>P b o e (by simp only[aN,de,cZ]at m ⊢;grind)) (C b o e);have hd1:W.DictOf t d f:=⟨od,ed1,ed2,D _ _ dz Q,hdr⟩;show wpAny _ A.in1 (holding [Value.ref T] _ >>= _) _ _ _;apply ab;apply fE;apply ab;apply AI;unfold yO;refine ab (lC (T:="tuple") ⟨_,g,rfl⟩ ?_);rw[ac (by decide)];refine ab (iW (show W.get? T=some _ from g) rfl (ao ?_));show wpAny _ A.in1 (holding [B,v] (dictSet d B v)) _ _ _;refine fE ?_;refine wpAny_dictSet_pairs (s:={ s with heap:=W }) hk hd1 (λh2 G V=>?_) (by simp at Z;lia);have hnk:k ∉ f.map (·.1):=by intro hm;rw[jM,jN]at N;exact N.2.2 _ hm _ (by simp) rfl
   have est:stored f k v=f++[(k,v)]:=by unfold stored;rw[af];intro E;obtain⟨x,hx1,hx2⟩:=ph.mp E;exact hnk (aU.mpr ⟨x,hx1,aJ hx2⟩)
   rw[est]at G;refine ao ⟨tf F.plain_dict_update_loop _,?_⟩;have kp2:∀b o,u.get? b=some o->h2.get? b=some o:=λb o e=>V.extBut _ _ (λq=>P b o e (by simp[q])) (kp1 b o e);have e1:f++(k,v)::n=(f++[(k,v)])++n:=by simp
   rw[e1]at N Z h;exact ih (i+1) (f++[(k,v)]) { s with heap:=h2,toks:=s.toks+1 } kp2 (za.but p V) G (er' ▸ es' ▸ hps) N Z (by simp at hi;lia) λl t' k1 k2=>h l t' k1 k2
end
section
variable{prog:Program}{w:World}{K:Type}[DecidableEq K]{t:KeyKind prog w K}{A:Around}{E:VP}{s:Shared}
theorem w4(l:s.heap.IsList n I)(e:s.heap.IsTuple q M)
  (h:∀x i a TI TO z,(∀b o,s.heap.get? b=some o->x.get? b=some o)->s.heap.objs.size≤i->i < a->a < TI->TI < TO->TO < z->x.IsListIter i n 0->x.IsTupleIter a q 0->eF x TI (.ref i) (.ref a)->eF x TO .none .none ->
   gH x z TI TO .none (.bool false)->Q (.ref z) { s with heap:=x }):wpAny (model prog w) A (call (.type "zip") [.ref n,.ref q]) Q E s:=by
 refine callType_new F.called_zip (by decide) (F.typeCall_zip_2 _ _) (F.newCall_zip_2 _ _) (λj=>F.args_object_init_3 j _ _) F.entry_zip_new (DL n q I M) ⟨l,e,λx i a TI TO z k c m r t p v d u g f=>?_⟩;show _/\_;exact⟨⟨_,f,rfl⟩,h x i a TI TO z k c m r t p v d u g f⟩
theorem r_{k:Heap}(hh:A.handled=none)(k0:∀b o,k.get? b=some o->s.heap.get? b=some o)(H:k.IsList l1 xs)(S:k.IsTuple l2 ys)
  (i:k.objs.size≤I) (D:I < M) (G:M < TI) (P:TI < TO) (j:TO < z) (b1:s.heap.IsListIter I l1 0) (b2:s.heap.IsTupleIter M l2 0) (b3:eF s.heap TI (.ref I) (.ref M)) (b4:eF s.heap TO .none .none) (y:gH s.heap z TI TO .none (.bool false))
  (hp:ZipsAt t xs.toList ys.toList C) (hn:(C.map (·.1)).Nodup) (hz:C.length≤sizeLine) (hi:C.length=xs.size)
  (h:∀d X,(∀b o,k.get? b=some o->d.get? b=some o)->d.DictOf t s.heap.objs.size C->Q (.ref s.heap.objs.size) { s with heap:=d,toks:=X }) :
  wpAny (model prog w) A (call (.type "dict") [.ref z]) Q E s:=by
 have fresh:(s.heap.push { cls:=.type "dict",data:=.dict #[] }).DictOf t s.heap.objs.size []:=.new s.heap;have u:∀b o,s.heap.get? b=some o->(s.heap.push { cls:=.type "dict",data:=.dict #[] }).get? b=some o:=λb o=>aO _;have q:z < s.heap.objs.size:=aC y;have K:=AK (prog:=prog) (w:=w) (A:=A.in1) (E:=E) (s:=s) (Value.ref z) (Q₁:=λx z=>x=.ref s.heap.objs.size/\z={ s with heap:=s.heap.push { cls:=.type "dict",data:=.dict #[] } }) ⟨rfl,rfl⟩;apply AG y2 (y6 (.ref z)) y3 K;rintro _ _ ⟨e,e'⟩;subst e e';generalize s.heap.push { cls:=.type "dict",data:=.dict #[] }=h1 at fresh u;refine⟨fresh.typeIs,y4 (.ref s.heap.objs.size) (.ref z),?_⟩;unfold Builtin.«dict.__init__» yQ;apply ab;apply ab;apply Do fresh.typeIs;apply ao;show wpAny _ _ (oV "dict.__init__" s.heap.objs.size (.ref z) [] .none) _ _ _;unfold oV;refine ab (lC (T:="zip") ⟨_,u _ _ y,rfl⟩ ?_);rw[ac (by decide)];refine ab (B8 (u _ _ y) hh λh2 tk k2=>?_);rw[ac (by rfl)];refine ab (pS ?_);have g:∀b o,s.heap.get? b=some o->h2.get? b=some o:=λb o e=>k2 b o (u b o e);have R:h2.DictOf t s.heap.objs.size []:=by obtain⟨o,c,ep,ho,r⟩:=fresh;exact⟨o,c,ep,k2 _ _ ho,r⟩
 refine ab (wpAny_pyIter_zip (z:=z) (TI:=TI) (TO:=TO) (f0:=.none) (g _ _ y) ?_);refine ao ⟨tf F.plain_dict_update_loop _,?_⟩;have V:l1 < k.objs.size:=by obtain⟨o,e,_⟩:=H;exact aC e
 have W:l2 < k.objs.size:=by obtain⟨o,e,_⟩:=S;exact aC e
 have f:∀{a b n:Nat},a < b->b < n->a < n:=λh d=>kO h d;have N:=f D G;have v:=f N P;have L:=f v j;have Z:=f L q;have c5:=f G P;have c6:=f c5 j;have c7:=f c6 q;have c8:=f P j;have c9:=f c8 q;have ca:=f j q;have low:∀{l n:Nat},l < k.objs.size->k.objs.size≤n->l≠n:=λh d=>bb (bF h d);have ge:∀n ∈ [s.heap.objs.size,z,TI,TO,I,M],k.objs.size≤n:=λn B=>by
  simp only[aN,de,cZ]at B;rcases B with rfl|rfl|rfl|rfl|rfl|rfl
  .exact au i (eP Z)
  .exact au i (eP L)
  .exact au i (eP N)
  .exact au i (eP v)
  .exact i
  .exact au i (eP D)
 have p:ZAp s.heap.objs.size z TI TO I M l1 l2:=by refine⟨?_,λm=>low V (ge _ m) rfl,λm=>low W (ge _ m) rfl⟩;simp only[bP,aN,de,cZ,kQ,mh,not_false_eq_true,and_true];exact⟨⟨bO q,bO c9,bO ca,bO Z,bO c7⟩,⟨bO c8,bO j,bO L,bO c6⟩,⟨bb P,bO N,bO G⟩,⟨bO v,bO c5⟩,bb D⟩
 refine yB (A:=A.in1) (t:=t) (u:=k) hh p (λn B=>?_) H S C 0 [] _ (λb o e=>g b o (k0 b o e)) ⟨g _ _ b3,?_,?_,.inl ⟨rfl,g _ _ y,g _ _ b4⟩⟩ R (by simpa using hp) (by simpa using hn) (by simpa using hz) (by lia) λd X q1 q2=>?_
 .cases e:k.get? n with
  |none=>rfl
  |some o=>exact absurd rfl (low (aC e) (ge n B))
 .obtain⟨o,e,r⟩:=b1;exact⟨o,g _ _ e,r⟩
 .obtain⟨o,e,r⟩:=b2;exact⟨o,g _ _ e,r⟩
 .exact⟨rfl,h d X q1 q2⟩
end
end PySem
set_option tactic.hygienic true
namespace Ev
open PySem PySem.Spec PyProof.Rows L2
@[simp] def yz(fa fb:EV)(L:Lc)(S:U):vV:=bG (fa L S) λx a=>bG (fb L a) λy h=>match x,y with
 | .lst k,.tup v=>match dA k with
  |some B=>if (B.Nodup/\few k=true/\B.length≤v.length) then some (.ref h.length,h++[.dct B ((v.take B.length).map .p)]) else none
  |none=>none
 |_,_=>none
theorem A4:∀{B:List b0}{s i:LV}{x:List V},ba (B.map kV) s->ba x i->B.length≤x.length->ZipsAt (cc g w) s i (B.zip i)/\L2.KV (B.zip x) (B.zip i)
 | [],_,i,x,h,_,_=>by cases h;exact⟨.nil,.nil⟩
 |k::B,_,_,[],h,_,l=>absurd l (by simp)
 |k::B,_,_,y::x,h,e,l=>by
  cases h with
  |cons r t=>
   cases e with
   |cons n f=>obtain⟨a,b⟩:=A4 (g:=g) (w:=w) t f (by simpa using l);exact⟨.cons (oo r) a,.cons ⟨rfl,n⟩ b⟩
theorem nC:∀{xs:List L}{ys:List n},xs.length≤ys.length->(xs.zip ys).map (·.1)=xs/\(xs.zip ys).map (·.2)=ys.take xs.length
 | [],ys,_=>by simp
 |x::xs,[],h=>absurd h (by simp)
 |x::xs,y::ys,h=>by obtain⟨a,b⟩:=nC (xs:=xs) (ys:=ys) (by simpa using h);simp[a,b]
section
variable{X:Cx}{a b:Expr}{fa fb:EV}{p G N v:Pos}
theorem J0(hc:X.c=true)(gd:Gl X "dict")(md:X.g "dict"=none)(gz:Gl X "zip")(mz:X.g "zip"=none)(ha:Y X a (tV X.K fa))(hb:Y X b (tV X.K fb))(hs:starEach [a,b] X.e=[(false,eval a X.e),(false,eval b X.e)])(W:starEach [b] X.e=[(false,eval b X.e)])(hz:bootBuiltins "zip"=some (.type "zip")) :
  Y X (.Call (.Name "dict" p) [.Call (.Name "zip" G) [a,b] [] v] [] N) (tE X.K (yz fa fb)):=by
 intro pins s J H Q I ⟨F,m,L,S,d,S',r,l,q,k⟩;obtain⟨x,S1,e1,q⟩:=ag q;obtain⟨y,S2,e2,q⟩:=ag q;have hh:X.A.handled=none:=I.o.hd hc;refine iX (jV I gd md zE ?_ (by decide) (by decide));refine jG (du ?_) rfl rfl;refine iX (jV I gz mz hz ?_ (by decide) (by decide));refine jG ?_ (by rw [hs,W]) (by rw [W];rfl);rw [hs];refine du (cG (ha pins s J H (fun h g=>∃n P,Stp F m H n P g/\Rel X.K n g P S1/\RP X.K n g x h) I ⟨F,m,L,S,x,S1,r,l,e1,fun h n P g s1 r1 p1=>⟨n,P,s1,r1,p1⟩⟩) fun u s1 ⟨h,g,I1,ru,n,P,st1,r1,p1⟩=>
  du (cG (hb pins s1 J g (λh C=>∃f D,Stp n P g f D C/\Rel X.K f C D S2/\RP X.K f C y h) I1 ⟨n,P,L,S1,y,S2,r1,l.mono st1,e2,λh f D C E r2 G=>⟨f,D,E,r2,G⟩⟩) λu2 E ⟨v2,C,M,ru2,f,D,st2,r2,G⟩=>gm ?_))
 cases x with
 |lst ks=>
  cases y with
  |tup vs=>
   dsimp only at q;cases ek:dA ks with
   |none=>rw[ek]at q;cases q
   |some B=>
    rw[ek]at q;dsimp only at q;split at q
    .rename_i c;cases q;obtain⟨ax,xs,rfl,hq,rp⟩:=RP.mono st2 p1;obtain⟨ay,ys,rfl,ta,rq⟩:=G;cases (show u=Value.ref ax from ru);cases (show u2=Value.ref ay from ru2);obtain⟨z1,Z,n1,rx,V,ex⟩:=M.lstM hq.2;obtain⟨i,ry,ity,hzy⟩:=M.tuple ta.sq;have exs:=ji ek rp;subst exs;have K:B.length≤ys.length:=by rw[<- rq.length];exact c.2.2
     obtain⟨za,zk⟩:=A4 (g:=X.p) (w:=X.w) rx ry K;have hl2:B.length≤i.length:=by rw[<- ry.length];exact K
     obtain⟨zf1,zf2⟩:=nC (xs:=B) (ys:=ys) K;obtain⟨A,_⟩:=nC (xs:=B) (ys:=i) hl2;have R:(B.zip i).length=Z.toArray.size:=by have:=cY l_ A;rw[aX]at this;rw[this,bc,<- V,aX]
     have hkz:(B.zip i).length≤sizeLine:=by rw[R,bc,<- V];exact z1
     have T:E.heap.IsList ax Z.toArray:=⟨_,ex,rfl,n1,rfl⟩;refine w4 T ity λe i1 i2 TI TO z k0 a1 a2 a3 a4 a5 b1 b2 b3 b4 b5=>gm ?_;refine r_ (t:=cc X.p X.w) (s:={ E with heap:=e }) (k:=E.heap) hh k0 T ity a1 a2 a3 a4 a5 b1 b2 b3 b4 b5 (by simpa using za) (by rw[A];exact c.1) hkz R λh'' t' k1 dd=>?_;have j:E.heap.objs.size≤e.objs.size:=eP (jI a1 (kO a2 (kO a3 (kO a4 (kO a5 (aC b5))))));have hf:C e.objs.size=none:=M.h.fresh j;have hsm:(e.objs.size == sysModules)=false:=by have:=M.big;simp only[gZ];exact bO (bF this j)
     have hkv:(B.zip ys).length≤sizeLine:=by have e1:=cY l_ zf1;have e2:=cY l_ A;rw[aX]at e1 e2;lia
     have I3:=M.laid (a:=e.objs.size) (o:=.dK (B.zip ys)) (t':=t') k1 j ⟨hkv,hsm,_,zk,dd⟩;refine⟨.ref e.objs.size,_,I3,rfl,k (.ref e.objs.size) f (D++[e.objs.size]) _ (st1.trans (st2.trans (dF hf))) (r2.own hf ⟨_,aF,zf1,?_⟩) ⟨e.objs.size,rfl,?_⟩⟩
     .rw [zf2,ua];exact(cN.mono (dF hf) (cN.ofP rq)).take _
     .rw [<- r2.len,bI (ah _)];simp
    .cases q
  |_=>cases q
 |_=>cases y<;>cases q
end
end Ev
namespace Ev
open PySem PySem.Spec PyProof.Rows L2
noncomputable def Q9:P->Bool
 | .tup _=>true
 |_=>false
def eD(k:P):Bool:=Q9 k && (cA 8 k && Nk.kd (pd k))
noncomputable def rO(d:D)(S:U):Option (Nat×List P×List D):=match d with
 | .ref i=>match S[i]? with
  |some (.dtn k v)=>some (i,k,v)
  |_=>none
 |_=>none
theorem Bv(h:rO d S=some (i,k,q)):d=.ref i/\S[i]? = some (.dtn k q):=by
 unfold rO at h;split at h
 .split at h
  .cases h;exact⟨rfl,by assumption⟩
  .cases h
 .cases h
def lf(k:P)(s:List P):Bool:=s.any λq=>eA (pd q) (pd k)
def ME(d c:D)(S:U):Option Bool:=match d,rO c S with
 | .p k,some (_,s,_)=>if (eD k && s.all eD)=true then some (lf k s) else none
 |_,_=>none
def hY(d c:D)(S:U):Option P:=(ME d c S).map λb=>.bl (!b)
section
variable{X:Cx}{f:PN}{J:L2.St}{H:Hp}{s:Shared}{F:Aa}
theorem qL(I:Inv X f J H s)(g:eD k=true)(r:RP X.K F H k y):vH s.heap (pd k) y:=by
 unfold eD at g;simp only[ar]at g;obtain⟨t,o,h⟩:=g;cases k with
 |tup e=>obtain⟨b,z,rfl,x⟩:=r;obtain⟨a,d⟩:=ig I 8 (p:=.tup e) (v:=.ref b) (u:=.ref b) ⟨b,z,rfl,x⟩ rfl o;exact⟨b,rfl,h,(fN 8 _ o).2,a,d⟩
 |_=>cases t
theorem u3(I:Inv X f J H s):∀{v:List (PyData×V×V)}{h:List P},h.all eD=true->v.map (·.1)=jf h->b7 X.K F H h (v.map (·.2.1))->∀p ∈ v,vH s.heap p.1 p.2.1
 | [],_,_,_,_,_,a=>nomatch a
 |q::v,h,g,e,r,p,a=>by
  cases h with
  |nil=>cases r
  |cons k h=>
   rw[c_,ar]at g;rw[az,jf]at e;injection e with n b;obtain⟨x,w,c,m,t⟩:=r;injection c with z d;subst z d;rcases aN.mp a with rfl|a
   .rw [n];exact qL I g.1 m
   .exact u3 I g.2 b t p a
theorem mS(g:eD k=true):Nk.kd (pd k)=true:=by unfold eD at g;simp only[ar]at g;exact g.2.2
theorem yq(g:eD k=true):∀{kvs:List (PyData×V×V)}{ks:List P},ks.all eD=true->kvs.map (·.1)=jf ks->yr kvs (pd k)=lf k ks
 | [],ks,_,e=>by
  cases ks with
  |nil=>rfl
  |cons _ _=>cases e
 |q::kvs,ks,h,e=>by
  cases ks with
  |nil=>cases e
  |cons p ks=>rw[c_,ar]at h;rw[az,jf]at e;injection e with e1 e2;have ih:=yq g h.2 e2;unfold yr lf at ih ⊢;rw[dv,dv,ih,e1];congr 1;rw[kX,Nk.eqv_kd _ _ (mS h.1) (mS g),decide_eq_true_iff]
theorem LY(h:ME d c S=some b):∃k i s v,d=.p k/\rO c S=some (i,s,v)/\eD k=true/\s.all eD=true/\b=lf k s:=by
 unfold ME at h;split at h
 .split at h
  .rename_i e x;rw[ar]at x;cases h;exact⟨_,_,_,_,rfl,e,x.1,x.2,rfl⟩
  .cases h
 .cases h
end
section
variable{X:Cx}
theorem E2(G:X.A.units+64 < cLine):i_ X (compareOp .NotIn) (rE X.K hY):=by
 intro f s J H x y v u Q I D E h;obtain⟨F,m,S,d,e,r,C,P,A,q,k⟩:=h;unfold hY at q;obtain⟨b,j,rfl⟩:=dW.mp q;obtain⟨z,i,L,N,rfl,o,g,c,rfl⟩:=LY j;obtain⟨rfl,p⟩:=Bv o;obtain⟨a,rfl,l⟩:=A;obtain⟨K,w,n,B,_⟩:=C.obj i a _ l p;cases E;refine Io (by lia) I w (u3 I c n B) (qL I g P) D λM t=>⟨.bl _,H,t,rfl,?_⟩
 rw[yq g c n];exact k _ F H .refl rfl
end
section
variable{X:Cx}{B C:Pos}{o i n:Expr}{G:EE}{M N:EV}{j l z:TE}
def NJ(X:Cx)(j l z:TE):TS:=λD J H=>z J H λv e=>j J e λx n=>l J n λy h=>∃a k d,x=.ref a/\h a=some (.dN k)/\(∀f s,Inv X f J h s->vH s.heap d y/\∀p ∈ k,vH s.heap p.1 p.2.1)/\yr k d=false/\k.length < sizeLine/\D.nx J (bN h a (.dN (k++[(d,y,v)])))
theorem HR(E:X.A.units+9 < cLine)(P:Y X o j)(F:Y X i l)(G:Y X n z)(A:swapsWith n (some (.Subscript o i C)) B.line X.e=pure false):PS X (.Assign [.Subscript o i C] n B) (NJ X j l z):=by intro f s J H D I h;refine Dr (cG (G f s J H _ I h) λr s1 ⟨v,b,m,V,Q⟩=>cG (P f s1 J b _ m Q) λu s2 ⟨x,c,t,W,R⟩=>cG (F f s2 J c _ t R) λiv s3 L=>?_) A;obtain⟨y,H3,k,Z,a,M,d,q,e,g,N,K,T⟩:=L;subst q;obtain rfl:u=Value.ref a:=W;obtain⟨w,S⟩:=g f s3 k;exact Od E k e S w Z V N K λs4 p=>⟨J,_,p,T⟩
def sk(o:EE)(k v:EV):ES:=λL S=>bG (v L S) λy x=>bG (o L x) λd a=>bG (k L a) λe h=>match rO d h with
 |some (i,s,n)=>if (eD e && (s.all eD && (few s && !lf e s)))=true then some (.nx,L,h.set i (.dtn (s++[e]) (n++[.p y]))) else none
 |none=>none
theorem we(k:P):∀s:List P,jf (s++[k])=jf s++[pd k]
 | []=>rfl
 |x::s=>by rw[pi,jf,jf,we k s,pi]
theorem MV(hu:X.A.units+9 < cLine)(ho:Y X o (tE X.K G))(hk:Y X i (tV X.K M))(hv:Y X n (tV X.K N))(hs:swapsWith n (some (.Subscript o i C)) B.line X.e=pure false) :
  PS X (.Assign [.Subscript o i C] n B) (kr X.K (sk G M N)):=(HR hu ho hk hv hs).imp' λD J H hz=>by
 obtain⟨F,m,L,S,fl,L',S',r,l,q,k⟩:=hz;obtain⟨y,V,e1,q⟩:=ag q;obtain⟨d,W,e2,q⟩:=ag q;obtain⟨e,Z,e3,q⟩:=ag q;refine⟨F,m,L,S,y,V,r,l,e1,λv Q m1 H1 b r1 p1=>?_⟩;refine⟨Q,m1,L,V,d,W,r1,l.mono b,e2,λx F2 m2 H2 c r2 p2=>?_⟩;refine⟨F2,m2,L,W,e,Z,r2,(l.mono b).mono c,e3,λP R m3 T p A p3=>?_⟩;cases u:rO d Z with
 |none=>rw[u]at q;cases q
 |some t=>
  obtain⟨j,ks,vs⟩:=t;rw[u]at q;dsimp only at q;split at q
  .rename_i hc;simp only[ar,mx]at hc;obtain⟨g1,g2,g3,g4⟩:=hc;cases q;obtain⟨rfl,g⟩:=Bv u;obtain⟨a,rfl,K⟩:=RD.mono p p2;obtain⟨h,hH,w,E,rs⟩:=A.obj j a _ K g;have nt:∀zs,T a≠some (.tup zs):=λzs z=>by rw[hH]at z;cases z
   have st:=eT (o:=.dN (h++[(pd e,P,v)])) A K g trivial nt;have pv:=RD.mono st (RD.mono p (RD.mono c (show RD X.K Q H1 m1 (.p y) v from p1)));have pk:RP X.K R (bN T a (.dN (h++[(pd e,P,v)]))) e P:=RP.kp st.kp p3;have hl:h.length < sizeLine:=by have h9:ks.length≤1000000:=aJ g3;have h8:=E.length;rw[aX]at h8;exact jI (by lia) (show(1000000:Nat) < sizeLine by decide)
   refine⟨a,h,pd e,rfl,hH,λf s I=>⟨qL I g1 p3,u3 I g2 w E⟩,(yq g1 g2 w).trans g4,hl,?_⟩;refine k J R m3 _ (b.trans (c.trans (p.trans st))) (A.set K g trivial nt ⟨_,aF,?_,?_,?_⟩) ((((l.mono b).mono c).mono p).mono st)
   .rw [jM,w,we];rfl
   .rw [jM];exact b7.append (b7.kp st.kp E) ⟨_,_,rfl,pk,rfl⟩
   .rw [jM];exact cN.append (cN.mono st rs) ⟨_,_,rfl,pv,rfl⟩
  .cases q
end
def Q'(x c:P):Option Bool:=match c with
 | .lst s=>if (s.all (cA 19) && cA 19 x)=true then some (s.any λy=>eA (pd y) (pd x)) else none
 | .tup s=>if (s.all (cA 19) && cA 19 x)=true then some (s.any λy=>eA (pd y) (pd x)) else none
 |_=>none
def Pq(d c:D)(S:U):Option Bool:=(eI S 9 d).bind λx=>(eI S 9 c).bind λy=>Q' x y
def wL(d c:D)(S:U):Option P:=(lv c S).elim ((Pq d c S).map .bl) λ_=>L3 d c S
section
variable{X:Cx}{f:PN}{J:L2.St}{H:Hp}{s:Shared}{F:Aa}{m:List Addr}{S:U}{d e:D}{x y:V}{v u:Value}{b:Bool}{Q:VK}
theorem LX(A:X.A.units+64 < cLine)(I:Inv X f J H s)(i:RelV x v)(j:RelV y u)(p:Rel X.K F H m S)(w:RD X.K F H m d x)(g:RD X.K F H m e y)(q:Pq d e S=some b) :
  (Q (.bl b) H->wx X (compareOp .In v u) (EP X f J Q) X.xe s)/\(Q (.bl (!b)) H->wx X (compareOp .NotIn v u) (EP X f J Q) X.xe s):=by
 unfold Pq at q;cases c:eI S 9 d with
 |none=>rw[c]at q;cases q
 |some B=>
  rw[c]at q;cases t:eI S 9 e with
  |none=>rw[t]at q;cases q
  |some K=>
   rw[t]at q;simp only[jE]at q;cases K with
   |lst P=>
    simp only[Q']at q;split at q
    .rename_i h;rw[ar]at h;cases q;obtain⟨z,r⟩:=dL I p 9 20 g j t (by simpa[cA] using h.1);obtain⟨o,n⟩:=dL I p 9 19 w i c h.2;have l:=E5 h.1;have a:=fN 19 _ h.2;rw[pd]at r;exact⟨λk=>SeqAt.in_list_reads r n l.1 a.1 (by lia) ⟨.bl _,H,I,rfl,by rw[mL];exact k⟩,λk=>SeqAt.notIn_list_reads r n l.1 a.1 (by lia) ⟨.bl _,H,I,rfl,by rw[mL];exact k⟩⟩
    .cases q
   |tup P=>
    simp only[Q']at q;split at q
    .rename_i h;rw[ar]at h;cases q;obtain⟨z,r⟩:=dL I p 9 20 g j t (by simpa[cA] using h.1);obtain⟨o,n⟩:=dL I p 9 19 w i c h.2;have l:=E5 h.1;have a:=fN 19 _ h.2;rw[pd]at r;exact⟨λk=>SeqAt.in_tuple_reads r n l.1 a.1 (by lia) ⟨.bl _,H,I,rfl,by rw[mL];exact k⟩,λk=>SeqAt.notIn_tuple_reads r n l.1 a.1 (by lia) ⟨.bl _,H,I,rfl,by rw[mL];exact k⟩⟩
    .cases q
   |_=>cases q
end
section
variable{X:Cx}
theorem N5(n:X.A.units+64 < cLine):i_ X (compareOp .In) (rE X.K wL):=by
 intro f s J H x y v u Q I t w h;obtain⟨F,m,S,d,e,r,l,p,c,q,k⟩:=h;unfold wL at q;cases a:lv e S with
 |some i=>rw[a]at q;exact N4 n f s J H x y v u Q I t w ⟨F,m,S,d,e,r,l,p,c,q,k⟩
 |none=>rw[a]at q;obtain⟨b,g,rfl⟩:=dW.mp (show(Pq d e S).map P.bl=some r from q);exact(LX n I t w l p c g).1 (k _ F H .refl rfl)
end
section
variable{X:Cx}{B:Pos}{a b c:Expr}{r:EB}{t I:EE}{L T:EV}
end
end Ev
namespace L2
open PySem PySem.Spec PyProof.Rows
end L2
namespace Ev
open PySem PySem.Spec PyProof.Rows L2
section
variable{X:Cx}{a:Expr}{t:EE}{p B:Pos}
noncomputable def wF(T:String)(d:D)(S:U):Option Bool:=match d with
 | .p (.bl _)=>if T="bool" then some true else none
 | .p (.int _)=>if T="int" then some true else if T="bool" then some false else none
 | .ref i=>(match S[i]? with
  |some (.lst _)=>if T="list" then some true else none
  |_=>none)
 |_=>none
@[simp] def oh(T:String)(f:EE)(L:Lc)(S:U):tyV:=bG (f L S) λd h=>(wF T d h).map λb=>(.bl b,h)
theorem C9(T:k="list"\/k="bool"\/k="int"):eE X (.builtin "isinstance") (λP H Q=>∃F m S d b x,P=[x,.ty k]/\Rel X.K F H m S/\RD X.K F H m d x/\wF k d S=some b/\Q (.bl b) H):=by
 intro f s J H P W Q I r ⟨F,m,S,d,b,x,e,M,pd,v,q⟩;subst e;obtain⟨u,N,rfl,y,K⟩:=vals2 r;cases (show N=Value.type k from K);have g:∀A,EP X f J Q (.bool b) { s with toks:=A }:=λA=>⟨.bl b,H,I.tok _,rfl,q⟩
 unfold wF at v;cases d with
 |p w=>
  cases w with
  |bl c=>
   dsimp only at v;split at v
   .rename_i h;subst h;cases v;cases (show x=.bl c from pd);cases (show u=Value.bool c from y);exact ui PySem.W.kitx_bool I.kIn True.intro rfl (λz=>nomatch z) g
   .cases v
  |int i=>
   cases (show x=.int i from pd);obtain⟨t,rfl⟩:=(show ∃t,u=Value.int i t from y);dsimp only at v;split at v
   .rename_i h;subst h;cases v;exact ui DC I.kIn True.intro rfl (λz=>nomatch z) g
   .split at v
    .rename_i h;subst h;cases v;exact ui DC I.kIn True.intro rfl (λz=>nomatch z) g
    .cases v
  |_=>cases v
 |ref j=>
  obtain⟨a,rfl,E⟩:=pd;dsimp only at v;cases l:S[j]? with
  |none=>rw[l]at v;cases v
  |some o=>
   rw[l]at v;cases o with
   |lst R=>
    dsimp only at v;split at v
    .rename_i h;subst h;cases v;obtain⟨P,D,V⟩:=M.obj j a _ E l;cases y;obtain⟨G,_,L,_⟩:=I.list (iB.of D);obtain⟨o,n,B,C,_⟩:=L;exact ui PySem.W.kitx_list I.kIn ⟨o,B,C⟩ rfl (λz=>nomatch z) g
    .cases v
   |_=>cases v
theorem DR(T:h="list"\/h="bool"\/h="int")(K:Gl X "isinstance")(P:X.g "isinstance"=none)(e:Gl X g)(n:X.g g=none)(o:bootBuiltins g=some (.type h))(z:Y X a (tE X.K t))
  (A:g≠"__name__") (hd:(g == ("__debug__":Str))=false) (c:starEach [a,.Name g p2] X.e=[(false,eval a X.e),(false,eval (.Name g p2) X.e)]):Y X (.Call (.Name "isinstance" p) [a,.Name g p2] [] B) (tV X.K (oh h t)):=
 (mK (C9 T) K P G' (eW z (eW (Ie (v:=.ty h) e n o rfl A hd) ik rfl) (by rw[c];rfl)) (by decide) (by decide) (by rw[c];rfl) rfl).imp' λJ H Q C=>by obtain⟨F,m,L,S,d,E,r,l,q,k⟩:=C;obtain⟨x,G,j,q⟩:=ag q;obtain⟨b,y,q⟩:=dW.mp q;cases q;exact⟨F,m,L,S,_,_,r,l,j,λv f w i s u D=>⟨f,w,_,x,b,v,rfl,u,D,y,k _ f w i s u rfl⟩⟩
end
noncomputable def x4:List D->Option (List P)
 | []=>some []
 | .p v::r=>(x4 r).map (v::·)
 | .ref _::_=>none
theorem uQ:∀{d:List D}{p:List P},x4 d=some p->d=p.map .p
 | [],_,h=>by cases h;rfl
 | .p v::r,p,h=>by obtain⟨qs,e,rfl⟩:=dW.mp h;rw[az,<- uQ e]
 | .ref _::_,_,h=>by cases h
def mM(d:D)(S:U):Option (Nat×List P):=(dw d S).bind λz=>(x4 z.2).map λp=>(z.1,p)
@[simp] def DZ(a:EE)(lo s:EO)(L:Lc)(S:U):tyV:=bG (a L S) λd x=>bG (lo L x) λi e=>bG (s L e) λj h=>(mM d h).map λz=>(.lst (cut z.2 i j),h)
theorem x0{K:FG}{F:Aa}{H:Hp}{m:List Addr}:∀{s:List P}{h:List V},cN K F H m (s.map .p) h->b7 K F H s h
 | [],_,r=>r
 |p::s,_,r=>by obtain⟨x,n,rfl,a,e⟩:=r;exact⟨x,n,rfl,a,x0 e⟩
theorem P'{X:Cx}{e:Expr}{lo g:Option Expr}{t:EE}{u w:EO}{B p2:Pos}(V:Y X e (tE X.K t))(Z:PO X lo (tO X.K u))(W:PO X g (tO X.K w)):Y X (.Subscript e (.Slice lo g none p2) B) (tV X.K (DZ t u w)):=
 (wd Bh V Z W).imp' λJ H Q hz=>by obtain⟨F,m,L,S,d,P,r,l,q,k⟩:=hz;obtain⟨x,b,A,q⟩:=ag q;obtain⟨i,c,C,q⟩:=ag q;obtain⟨j,S3,D,q⟩:=ag q;obtain⟨⟨n,ps⟩,E,q⟩:=dW.mp q;obtain⟨⟨n',ds⟩,G,I⟩:=tL.mp E;obtain⟨ps',M,N⟩:=dW.mp I;cases N;cases q;obtain⟨rfl,R⟩:=iM G;cases uQ M;refine⟨F,m,L,S,_,b,r,l,A,λv o m1 H1 s r1 p1=>?_⟩;refine⟨o,m1,L,b,i,c,r1,l.mono s,C,λK m2 H2 f r2=>?_⟩;refine⟨K,m2,L,c,j,P,r2,(l.mono s).mono f,D,λF3 m3 H3 z y=>?_⟩;obtain⟨a,rfl,hm⟩:=RD.mono z (RD.mono f p1);obtain⟨xs,T,rs⟩:=y.obj _ a _ hm R;exact⟨a,xs,rfl,iB.of T,λp h=>k _ _ m3 _ ((s.trans (f.trans z)).trans (cj h).stp) (y.grow (cj h)) (.newLst h ((x0 rs).cut i j))⟩
end Ev
namespace PySem
open PySem PyProof.Rows
section
variable{prog:Program}{w:World}{A:Around}{E:VP}{s:Shared}
theorem CZ(u:A.handled=none)(n t:Addr)(k:t≠n)(m:Array Value):Draws prog w A n [n,t] m.size (λi v=>m[i]? = some v) (λi h=>h.IsTupleIter n t i/\h.IsTuple t m) where
 live:=λ_ _ st=>by obtain⟨⟨o,g,_⟩,_⟩:=st;exact⟨o,g⟩
 frame:=λ_ _ _ st hk=>⟨st.1.at λo e=>hk n (by simp) o e,st.2.at λo e=>hk t (by simp) o e⟩
 item:=λi s Q E f st d=>by obtain⟨a,b⟩:=st;exact qh a b (x:=m[i]) (by simp[f]) λp c r=>d _ p s.toks (by simp[f]) ⟨c,b.extBut r.extBut k⟩ r
 done:=λs Q E st q=>by obtain⟨a,b⟩:=st;exact mF u a b (by simp) q
theorem C0(a:A.handled=none)(f:g[k]? = none):Draws prog w A it [it,q] k (λ_ _=>True) (λj h=>j=k/\h.IsTupleIter it q k/\h.IsTuple q g) where
 live:=λ_ _ st=>by obtain⟨_,⟨o,b,_⟩,_⟩:=st;exact⟨o,b⟩
 frame:=λ_ _ _ st hk=>⟨st.1,st.2.1.at λo e=>hk it (by simp) o e,st.2.2.at λo e=>hk q (by simp) o e⟩
 item:=λi s Q E n st _=>absurd st.1 (bb n)
 done:=λs Q E st x=>mF a st.2.1 st.2.2 f x
theorem uF{h:Heap}(t:h.IsTuple k q)(e:h.IsTupleIter g k i):k≠g:=λz=>by subst z;obtain⟨o,s,a,_⟩:=t;obtain⟨n,x,c,_⟩:=e;rw[s]at x;cases x;rw[a]at c;simp at c
theorem uG{i:Int}(t:h.IsTuple k q)(s:IsEnum h e g i x):e≠k:=λz=>by subst z;obtain⟨o,a,c,_⟩:=t;rw[show h.get? e=_ from s]at a;cases a;simp at c
theorem CV (t:Addr) (r:Array Value):Meets (Builtin.«enumerate.__new__» ⟨[.type "enumerate",.ref t],[]⟩) (fun _ R s=>s.heap.IsTuple t r /\
  ∀a,IsEnum a (s.heap.objs.size+1) s.heap.objs.size 0 .none->a.IsTupleIter s.heap.objs.size t 0->a.objs.size=s.heap.objs.size+2->(∀b o,s.heap.get? b=some o->a.get? b=some o)->R (.ok (.ret (.ref (s.heap.objs.size+1)))) { s with heap:=a }):=
 .of_wp λprog w A R s h=>by
  obtain⟨p,g,d,H,os⟩:=s;obtain⟨m,h⟩:=h;have u:=sub_enumerate;obtain⟨⟨S,i,j,y⟩,l,e,n,hd⟩:=id m;dsimp only at e hd;subst e hd;have T:zR (Shared.heap ⟨p,g,d,H,os⟩) t r:=m
  wp_walk using tw l
  let k:Obj:={ cls:=.type "tuple_iterator",data:=.fields #[.ref t,.int 0 0] }
  let v:Obj:={ cls:=.type "enumerate",data:=.fields #[.none,.bool false,.ref p.objs.size,rawInt 0,.none,.none] }
  have z:(p.push k).objs.size=p.objs.size+1:=l0 ..;have q:IsEnum ((p.push k).push v) (p.objs.size+1) p.objs.size 0 .none:=by rw[<- z];exact br _ rfl
  have f:=h _ q ⟨_,aO _ (br _ rfl),rfl,rfl⟩ ((l0 ..).trans (by rw[z])) λb o x=>aO _ (aO _ x);rw[show Array.size p.objs+1=(p.push k).objs.size from z.symm]at f;apply wpAny_stack_any;intro st;apply ao;split
  .rename_i c _ _ _ _ _;rcases c == Value.type "enumerate" with _|_;all_goals
    wp_walk using tw l,tu T
    exact⟨_,rfl,f⟩
  .wp_walk using tw l,tu T
   exact⟨_,rfl,f⟩
theorem yH(t:s.heap.IsTuple k q)
  (h:∀x,IsEnum x (s.heap.objs.size+1) s.heap.objs.size 0 .none->x.IsTupleIter s.heap.objs.size k 0->x.objs.size=s.heap.objs.size+2->(∀b o,s.heap.get? b=some o->x.get? b=some o)->Q (.ref (s.heap.objs.size+1)) { s with heap:=x }) :
  wpAny (model prog w) A (call (.type "enumerate") [.ref k]) Q E s:=callType_new F.called_enumerate (by decide) (F.typeCall_enumerate_1 _) (F.newCall_enumerate_1 _) (λj=>F.args_object_init_2 j _) F.entry_enumerate_new (CV k q) ⟨t,λx e i z hk=>⟨⟨_,e,rfl⟩,h x e i z hk⟩⟩
end
end PySem
namespace Ev
open PySem PySem.Spec PyProof.Rows L2
section
variable{X:Cx}{B:Pos}
def O6(K:FG)(a:Addr):It:=
 ⟨λi H=>∃s x,ny K H a s/\s[i]? = some x,λi H x h=>∃p y,x=.ref p/\H p=none/\h=bN H p (.tup [.int i,y])/\∀s,ny K H a s->s[i]? = some y,λi H=>∃s,ny K H a s/\s.length≤i⟩
theorem xN{P:Program}{w:World}{K:FG}{es:Ab}{n:Nat}(a e g:Addr)(Q:e≠g):Turn P w K (.Tuple es n B) (O6 K a) [e,g] e (λi h=>(∃l,IsEnum h e g i l)/\h.IsTupleIter g a i) where
 mem:=by simp
 obj:=λi h st b y=>by
  obtain⟨⟨l,C⟩,⟨o,ho,c,d⟩⟩:=st;have:b=e\/b=g:=by simpa using y
  rcases this with rfl|rfl
  .exact⟨_,C,λv z=>by have z':Data.fields _=Data.cell v:=z;cases z'⟩
  .exact⟨o,ho,λv z=>by rw[d]at z;cases z⟩
 keep:=λi h h' st k=>by obtain⟨⟨l,C⟩,j⟩:=st;exact⟨⟨l,k e (by simp) _ C⟩,j.at λo q=>k g (by simp) o q⟩
 item:=by
  intro X hP hw hK p i f s J H E I hf st hg;subst hP hw hK;obtain⟨xs,x,hq,hx⟩:=hg;obtain⟨N,rv,pl,hz⟩:=I.tuple hq;obtain⟨u,hu,ru⟩:=rv.get hx;obtain⟨⟨l,C⟩,j⟩:=st;obtain⟨f0,f1,f2,f3,f4,f5⟩:=hf e (by simp);obtain⟨Z,g1,g2,g3,g4,g5⟩:=hf g (by simp);have W:s.heap.IsTuple a N.toArray:=pl;have hai:=uF W j;have hae:=uG W C;have D:=CZ (prog:=X.p) (w:=X.w) (A:=X.A.in1) (I.o.hd p) g a hai N.toArray;refine wpAny_pyNext_enum_itemD D C ⟨j,W⟩ (by simpa using (bw.mp hu).1) Q (by simp[Q,hae]) λu2 h1 tk V ho1 G ht1 hz1 hk1=>?_
  obtain⟨G,_⟩:=G;have hu3:u2=u:=by simp[hu]at V;exact V.symm
  subst hu3;refine⟨_,rfl,Dv (s:={ s with heap:=h1,toks:=tk+1 }) ho1 λh2 he2 M=>?_⟩;replace M:dX e h1 h2:=M;have R:e < s.heap.objs.size:=aC C;have L:∀b o,b≠e->b≠g->s.heap.get? b=some o->h2.get? b=some o:=λb o b1 b2 q=>(M.2 b b1).trans (hk1 b o b1 b2 q)
  have T:h2.get? s.heap.objs.size=some { cls:=.type "tuple",data:=.seq #[.int i tk,u2] }:=(M.2 _ (bO R)).trans ht1;have F:H s.heap.objs.size=none:=I.h.fresh (ah _);have ne:∀{b:Addr}{o:HO},H b=some o->b≠e/\b≠g:=λ{b o} q=>⟨λz=>(by rw[z,f0]at q;cases q),λz=>(by rw[z,Z]at q;cases q)⟩;have S:∀b,b ∉ [e,g]->b≠e/\b≠g:=λb y=>⟨λz=>y (by simp[z]),λz=>y (by simp[z])⟩;have I':Inv X f J (bN H s.heap.objs.size (.tup [.int i,x])) { s with heap:=h2,gens:=s.gens,drawn:=s.drawn,toks:=tk+1 }:=by
   refine I.step (ch:=[e,g]) (λb y=>?_) (λb o _ _ p q _=>L b o (S b p).1 (S b p).2 q) (λb o _ _ p q _=>⟨o.slots,L b o (S b p).1 (S b p).2 q⟩) (λb o _ q n=>?_) (λb o p q=>⟨o,L b o (S b p).1 (S b p).2 q⟩)
    (λb ys q=>?_) (λb o ys q=>?_) (λb q=>?_) (λm hm=>?_) (λb u' q=>?_) I.bare
   .have:b=e\/b=g:=by simpa using y
    rcases this with rfl|rfl
    .exact⟨f3,f1,f4,f5⟩
    .exact⟨g3,g1,g4,g5⟩
   .rw [al (bb (aC q))];exact n
   .rw [al (bz q F)];exact q
   .rw [al (bz q F)];exact q
   .rw [al (bz q F)];exact q
   .obtain⟨o,es,ep,ho,r⟩:=hm;exact⟨o,es,ep,L _ o (aI f1) (aI g1) ho,r⟩
   .by_cases y:b=s.heap.objs.size
    .subst y;rw[aF]at q;cases q;exact⟨by show 2≤sizeLine;decide,[.int i tk,u2],.cons ⟨_,rfl⟩ (.cons ru .nil),⟨_,T,⟨rfl,_,rfl⟩,rfl⟩⟩
    .rw [al y]at q;refine(I.h b u' q).stay (λc v p z=>L c v ?_ ?_ z) (λc z=>by rw[al (bz z F)];exact z) λc ys z=>by rw[al (bz z F)];exact z
     .rcases p with rfl|p
      .exact (ne q).1
      .exact (ne p).1
     .rcases p with rfl|p
      .exact (ne q).2
      .exact (ne p).2
  refine⟨.ref s.heap.objs.size,_,I',rfl,⟨s.heap.objs.size,x,rfl,F,rfl,λys hy=>by rw[I.tuple_inj hy hq];exact hx⟩,⟨⟨u2,by simpa using he2⟩,G.at λo q=>(M.2 g (aI Q)).trans q⟩,λb y=>?_⟩;have hb':b=e\/b=g:=by simpa using y
  obtain⟨oi,hoi,_⟩:=id j;rcases hb' with rfl|rfl
  .rw [al (bb R)];exact f0
  .rw [al (bb (aC hoi))];exact Z
 done:=by intro X hP hw hK p i f s J H E I hf st hg;subst hP hw hK;obtain⟨xs,hq,hx⟩:=hg;obtain⟨N,rv,pl,hz⟩:=I.tuple hq;obtain⟨⟨l,C⟩,j⟩:=st;obtain⟨Z,g1,g2,g3,g4,g5⟩:=hf g (by simp);have hl:=rv.length;have W:s.heap.IsTuple a N.toArray:=pl;exact wpAny_pyNext_enum_endD (C0 (prog:=X.p) (w:=X.w) (A:=X.A.in1) (I.o.hd p) (it:=g) (q:=a) (g:=N.toArray) (k:=i) (by simp;lia)) C ⟨rfl,j,W⟩ λh' eb=>⟨rfl,I.turned (t':=s.toks) (λb o y e=>eb b o y e) Z g1 g3 g4 g5⟩
 self:=λ_ _ _ _ _ st h=>by obtain⟨⟨l,C⟩,_⟩:=st;exact tt C h
theorem IC{K:FG}{F:Aa}{m:List Addr}{H:Hp}{a:Addr}{c:List P}{s:List V}(w:∀h k n,Stp F m H h k n->ny K n a s)(r:b7 K F H c s):Mw K (O6 K a) (cq 0 c) F m H:=by
 intro h k n st;have q:=w h k n st;have l:=r.length;refine⟨λi v e=>?_,⟨s,q,by rw[d5,l];exact ah _⟩⟩;obtain⟨d,t,rfl⟩:=k8 e;obtain⟨x,f,p⟩:=r.get t;refine⟨⟨s,x,q,f⟩,λz g y=>?_⟩;obtain⟨j,y,rfl,b,rfl,u⟩:=y;have:y=x:=by have:=u s q;rw[f]at this;cases this;rfl
 subst this;refine⟨h,cg b,RP.newTup b ⟨_,_,rfl,?_,_,_,rfl,RP.mono st p,rfl⟩⟩;show V.int (i:Int)=V.int (0+(i:Int));rw[cO]
@[simp] def lH(a:EV)(L:Lc)(S:U):D2:=bG (a L S) λv h=>match v with
 | .lst x=>some (cq 0 x,h)
 | .ro x=>some (cq 0 x,h)
 | .tup x=>some (cq 0 x,h)
 |_=>none
theorem SK{es:Ab}{n:Nat}{a:Expr}{t:EV}{p c:Pos}(A:Gl X "enumerate")(D:X.g "enumerate"=none)(o:Y X a (tV X.K t))(j:starEach [a] X.e=[(false,eval a X.e)]):PI X (.Tuple es n B) (.Call (.Name "enumerate" p) [a] [] c) (tI X.K (lH t)):=by
 intro f s J H R I ⟨F,m,L,S,Z,N,r,l,q,k⟩;obtain⟨v,Q,z,q⟩:=ag q;cases v with
 |lst i=>exact iE A D o j f s J H R I ⟨F,m,L,S,Z,N,r,l,by unfold Q8;rw[z];exact q,k⟩
 |ro i=>exact iE A D o j f s J H R I ⟨F,m,L,S,Z,N,r,l,by unfold Q8;rw[z];exact q,k⟩
 |tup i=>
  have hA:PA X [a] (qm X.K (aB t aR)):=Gw o Jf (by rw[j];rfl);refine Call_ (jV I A D zw (jG (cG (hA c f s J H (λy x=>∃e d,Stp F m H e d x/\Rel X.K e x d Q/\b7 X.K e x [.tup i] y) I ⟨F,m,L,S,[.tup i],Q,r,l,?_,λy e d x h M G=>⟨e,d,h,M,G⟩⟩) λus h ⟨y,x,w,V,e,d,st,M,G⟩=>?_) (by rw[j];rfl) rfl))
  .simp only[aB,aR,z,ak]
  obtain⟨x1,rfl,px⟩:=xY G;obtain⟨u,rfl,ru⟩:=vals1 V;cases q;obtain⟨b,y,rfl,W,ra⟩:=px;have kk:=k _ e d x st M (IC (λF2 m2 H2 s=>(W.kp s.kp).sq) ra);cases ru;obtain⟨E,V,pl,hz⟩:=w.tuple W.sq;refine yH (show h.heap.IsTuple b E.toArray from pl) λh' T C hsz hk=>?_;refine tt T ?_;have g:∀b,h.heap.objs.size≤b->x b=none:=λb K=>w.h.fresh K;refine⟨h.heap.objs.size+1,[h.heap.objs.size+1,h.heap.objs.size],_,_,x,rfl,w.kept (t':=h.toks) hk,xN b _ _ (bO (jH _)),⟨⟨_,T⟩,C⟩,λb K=>?_,kk⟩;have P:b=h.heap.objs.size+1\/b=h.heap.objs.size:=by simpa using K
  rcases P with rfl|rfl
  .exact w.fpOk (iD _) (g _ (iD _))
  .exact w.fpOk (ah _) (g _ (ah _))
 |_=>cases q
end
end Ev
set_option tactic.hygienic false
namespace Ev
open PySem PySem.Spec PyProof.Rows L2
section
variable{X:Cx}{M:PN}{J:L2.St}{H:Hp}{s:Shared}
set_option tactic.hygienic true in
theorem Iy(G:FnOk X.p X.w X.K X.g X.b og k fe fd ps sp)(E:Room (k+1) X.A)(V:X.g "ends_on"=some (.ref fe))(hk:dD X.K (.ref fe)=true)(c:Binds X.K fd ps [])
  (I:Inv X M J H s) (W:s.heap.get? f=some (wA p1 p2 p3 p4 p5 T pm c' ctv)) (F:s.heap.CodeRec (.ref c') yg) (Q:s.heap.IsCell T (some l)) (Z:RelV vb l) (rv:RelV v t) (h:sp [vb,v] H g E0) :
  wx X (call (.ref f) [t]) (EP X M J g) X.xe s:=by
 refine pR (PySem.W.kla_callFunE (body:=u0 p2 p3 p4 p5) E.depth W rfl rfl rfl rfl F ?_);rw[show bindArgs (PySem.W.kla_fn "<lambda>" yg (wB p1) (u0 p2 p3 p4 p5) oN [(Str.ofString "board",T)] pm (.ref c') ctv) ⟨[t],[]⟩=pure [(Str.ofString "standing",t)] from rfl];refine ao (A2 (show ∀x ∈ oN.names,x.2≠.cell by decide) (show ∀x ∈ [(Str.ofString "standing",t)],oN.names.lookup x.1=some .local by simp) (λa p y=>⟨I.nolimit.fresh _ y,?_⟩) rfl);have m:∀b o,s.heap.get? b=some o->a.get? b=some o:=λb o e=>y.extBut b o (bb (aC e)) (aO _ e);have S:a.IsCell T (some l):=let ⟨o,e,d⟩:=Q;⟨o,m _ _ e,d⟩
 have K:a.Ns mainGlobals X.g:=I.mod.glob.keeps λb o e=>m b o (I.bk b o e);have D:X.K.In a:=I.o.mod.kin.keeps λb o e=>m b o (I.bk b o e);have R:[l,t].length=ps.length:=G.len _ _ _ _ h;refine PySem.W.kla_codeExpr (iX (tR rfl rfl (zF K V ?_) (by decide)));refine p_ (h₀:=X.b) I.o.mod.kin hk ?_ rfl rfl;show wpAny _ _ (spliced ((false,eval (.Name "board" p3) _)::(false,eval (.Name "standing" p4) _)::[])) _ _ _;refine du (pQ (A1 rfl rfl rfl S (du (pQ (xu rfl rfl p rfl (gm ⟨D,?_⟩))))));refine pR (nA (G.run _ (_::X.k) { s with heap:=a,toks:=s.toks+1 } H ⟨[l,t],[]⟩ [l,t] [vb,v] g E0 (E.deeper _) ⟨Au I.o.frames,I.o.mod,λb o e=>⟨m b o (I.bs b o e).1,(I.bs b o e).2⟩,?_,?_,?_,λP N=>I.base.tbls P (I.o.tab P N),I.h.kept m,I.bare⟩ (c _ [l,t] D R) (.cons Z (.cons rv .nil)) h) λr s' i=>?_)
 .refine au (au I.o.bsz I.sz) ?_;exact eP p.lt
 .refine .cons (show ScopeKind.function≠ScopeKind.module by decide) rfl p (zT (au I.o.bsz I.sz)) (I.stack.of_keeps λb o e _=>⟨o,m b o e,rfl⟩)
 .intro b c;have c:b=s.heap.objs.size\/b ∈ CT X.k:=aN.mp c;rcases c with rfl|c
  .exact I.h.fresh (ah _)
  .exact I.stkFree b c
 .cases r with
  |error e=>exact False.elim i
  |ok L=>
   cases L with
   |ret w=>
    obtain⟨v',j,os,u,un,A,C,q⟩:=i;refine I.after ⟨v',j,os,u,⟨λb o e n c _=>?_,λb o e n c _=>?_,λb o e n B=>un.free b o (m b o e) n B,λb o e B=>un.there b o (m b o e) B,un.tups,un.frzs,un.tbls⟩,A,C,q⟩
    .refine un.keep b o (m b o e) n (λz=>?_) (by simp);have z:b=s.heap.objs.size\/b ∈ CT X.k:=aN.mp z;rcases z with rfl|z
     .exact absurd (aC e) (eQ _)
     .exact c z
    .exact un.slot b o (m b o e) n (aG _ c) (by simp)
   |next=>exact False.elim i
   |brk=>exact False.elim i
   |cont=>exact False.elim i
theorem Fm{E:VP}{Q:VP}{c P K:Addr}{p1 p2 p3 p4 p5:Pos}(I:Inv X M J H s)(i:X.e.code=.ref c)(C:p0 X.b c P)(hP:P ∈ ce X.K)(hq:X.e.qual++Str.ofString "<lambda>"=yg)(cl:X.e.cells.lookup (Str.ofString "board")=some K)
  (k:∀f h l pm p w F j,Inv X M J j { s with heap:=w,toks:=F }->(j=bN H f (.frz (wA p1 p2 p3 p4 p5 K pm h p) (.own f))\/H h=none/\h≠f/\j=bN (bN H h (.frz l (.own P))) f (.frz (wA p1 p2 p3 p4 p5 K pm h p) (.own f)))->H f=none->j h=some (.frz l (.own P))->ym l->Q (.ref f) { s with heap:=w,toks:=F }) :
  wx X (eval (.Lambda (wB p1) (u0 p2 p3 p4 p5) oN uZ) X.e) Q E s:=by
 have y:H P=some .tbl:=I.base.tbls P (I.o.tab P hP);obtain⟨ps,e0,z⟩:=(show rF H s.heap P from I.h P _ y);have C':=C.keeps I.bk;obtain⟨bm,ob,b1,b2,b3,b4,b5,b6⟩:=I.mod.bmain;have B:s.heap.Ns mainGlobals X.g:=I.mod.glob.keeps I.bk;have hgP:mainGlobals≠P:=λq=>by obtain⟨o,es,ep,e,hd,_⟩:=B;rw[q,e0]at e;cases e;cases hd
 have S:bm≠P:=λq=>by have e:=I.bk _ _ b3;rw[q,e0]at e;cases e;cases b4
 have hbG:bm≠mainGlobals:=λq=>by obtain⟨o,es,ep,e,hd,_⟩:=I.mod.glob;rw[q,e]at b3;cases b3;rw[hd]at b6;cases b6
 have hB:s.heap.BuiltinsAt X.g P:=⟨bm,ob,b1,b2,hbG,S,I.bk _ _ b3,b4,b5,b6⟩;have N:closureFor oN X.e=pure [(Str.ofString "board",K)]:=by
  have:cellOf X.e (Str.ofString "board")=pure K:=by unfold cellOf;rw[cl]
  simp[closureFor,this]
 refine PySem.W.kla_eval rfl ?_;rw[hq];rcases z with rfl|⟨h,l,rfl,h1,h2⟩
 .refine PySem.W.kla_makeFunction (mg:=X.g) N I.o.glob B i C' e0 trivial rfl hgP hB λh p w F Z A T V W=>?_;obtain⟨x,l,vs,t,ex,ec,d1,d2⟩:=V;cases ex;have L:H h=none:=I.h.fresh A;have D:∀b,H b=none->b≠P:=λb n q=>by rw[q,y]at n;cases n
  have g:∀b o,H b=some o->b≠h:=λb o e q=>by rw[q,L]at e;cases e
  have hs':s.heap.objs.size≤w.objs.size:=au A (eP T);have I1:Inv X M J (bN H h (.frz l (.own P))) { s with heap:=w,toks:=F }:=by
   refine I.step (g':=s.gens) (d':=s.drawn) (ch:=[]) (λ_ z=>nomatch z) (λb o _ _ _ e n=>Z b o (D b n) e) (λb o _ _ _ e n=>⟨o.slots,Z b o (D b n) e⟩) (λb o _ e n=>?_) (λb o _ e=>?_) (λb xs q=>(al (g b _ q)).trans q) (λb o u q=>(al (g b _ q)).trans q) (λb q=>(al (g b _ q)).trans q) (λm hm=>?_) (λb u q=>?_) I.bare
   .rw [al (bb (bF (aC e) A))];exact n
   .by_cases G:b=P
    .subst G;exact⟨_,W⟩
    .exact⟨o,Z b o G e⟩
   .obtain⟨o,es,ep,ho,r⟩:=hm;exact⟨o,es,ep,Z _ o (D _ I.free) ho,r⟩
   .by_cases G:b=h
    .subst G;rw[aF]at q;cases q;exact⟨ec,⟨l,ec⟩⟩
    .rw [al G]at q;by_cases S:b=P
     .subst S;rw[y]at q;cases q;exact⟨_,W,.inr ⟨h,l,by simp,aF,vs,t,d1,d2⟩⟩
     .refine (I.h b u q).stay (λd v hd e=>Z d v (λz=>?_) e) (λd e=>(al (g d _ e)).trans e) (λd xs e=>(al (g d _ e)).trans e) (λd xs e=>(al (g d _ e)).trans e);rcases hd with hd|hd
      .exact S (hd ▸ z)
      .rw [z,y]at hd;cases hd
  have R:h≠w.objs.size:=bb T;refine k w.objs.size h l ((X.g "__name__").getD .none) p _ F _ (I1.laid (a:=w.objs.size) (o:=.frz (wA p1 p2 p3 p4 p5 K ((X.g "__name__").getD .none) h p) (.own w.objs.size)) (λb u e=>aO _ e) (ah _) ⟨br _ rfl,⟨_,br _ rfl⟩⟩) (.inr ⟨L,R,rfl⟩) (I.h.fresh hs') ?_ ⟨vs,t,d1,d2⟩;rw[al R];exact aF
 .refine PySem.W.kla_makeFunctionHit (mg:=X.g) (cv:=.ref h) N I.o.glob B i C' e0 ?_ ?_ hB λp w F hk hsz=>?_
  .exact trivial
  .simp [codeAmong,rawInt]
  .have I1:Inv X M J H { s with heap:=w,toks:=F }:=I.kept hk;have hf:H w.objs.size=none:=I1.h.fresh (ah _);refine k w.objs.size h l ((X.g "__name__").getD .none) p _ F _ (I1.laid (a:=w.objs.size) (o:=.frz (wA p1 p2 p3 p4 p5 K ((X.g "__name__").getD .none) h p) (.own w.objs.size)) (λb u e=>aO _ e) (ah _) ⟨br _ rfl,⟨_,br _ rfl⟩⟩) (.inl rfl) hf ?_ h2;rw[al (bz h1 hf)];exact h1
end
noncomputable def fnOf(d:D)(S:U):Option D:=match d with
 | .ref i=>match S[i]? with
  |some (.fn (some b))=>some b
  |_=>none
 |_=>none
theorem IP(h:fnOf d S=some b):∃i,d=.ref i/\S[i]? = some (.fn (some b)):=by
 unfold fnOf at h;split at h
 .split at h
  .cases h;exact⟨_,rfl,by assumption⟩
  .cases h
 .cases h
def qf(g:GF)(i:Nat)(a:EV):EV:=λL S=>bG (aj i L S) λf _=>(fnOf f S).elim none λb=>bG (a L S) λv h=>bG (g [b,.p v] h) λd x=>bG (toP 9 d x) λr e=>some (r,trunc h.length e)
section
variable{X:Cx}{e:Expr}{C:EV}{N p:Pos}{x:Str}{i:Nat}
theorem Kf(G:FnOk X.p X.w X.K X.g X.b og k fe fd ps (mI X.K g))(hr:Room (k+1) X.A)(hm:X.g "ends_on"=some (.ref fe))(hk:dD X.K (.ref fe)=true)(hb:Binds X.K fd ps [])
  (hx:Y X (.Name x p) (tE X.K (aj i))) (ha:Y X e (tV X.K C)) (he:starEach [e] X.e=[(false,eval e X.e)]):Y X (.Call (.Name x p) [e] [] N) (tV X.K (qf g i C)):=by
 intro M s J H Q I ⟨F,m,L,S,d,S',r,l,q,kk⟩;obtain⟨f,E,W,q⟩:=ag q;have hS:E=S:=by
  unfold aj at W;split at W
  .cases W;rfl
  .cases W
 subst hS;cases eb:fnOf f E with
 |none=>rw[eb]at q;cases q
 |some b=>
  rw[eb]at q;obtain⟨v,c,e1,q⟩:=ag (show bG (C L E) _=_ from q);obtain⟨d1,S2,e2,q⟩:=ag q;obtain⟨v1,V,e3,q⟩:=ag q;cases q;obtain⟨j,rfl,es⟩:=IP eb;refine iX (cG (hx M s J H (λv D=>∃z K,Stp F m H z K D/\Rel X.K z D K E/\RD X.K z D K (.ref j) v) I ⟨F,m,L,E,_,E,r,l,W,λv z K D s1 r1 p1=>⟨z,K,s1,r1,p1⟩⟩) λfu s1 hz=>?_);obtain⟨vf,D,I1,rf,z,K,R,r1,p1⟩:=hz;obtain⟨a,rfl,hma⟩:=p1;cases (show fu=Value.ref a from rf);obtain⟨vb,⟨p1,p2,p3,p4,p5,cr,c',P,o,oc,pm,ctv,ub,h1,h2,h3,h4,h5,h6⟩,rb⟩:=r1.obj j a _ hma es _ rfl;refine callWith_def (o:=wA p1 p2 p3 p4 p5 cr pm c' ctv) rfl ?_ he;refine cG ((eW ha ik (by rw[he];rfl)) N M s1 J D (λxs T=>∃y B A,xs=[y]/\Stp z K D B A T/\Rel X.K B T A c/\RP X.K B T v y) I1 ⟨z,K,L,E,v,c,r1,l.mono R,e1,λy B A T s2 r2 p2=>⟨y,B,A,rfl,s2,r2,p2⟩⟩) λus s2 hz=>?_;obtain⟨vs,T,I2,rv,y,B,A,ev,h,r2,p2⟩:=hz;subst ev;obtain⟨u,rfl,ru⟩:=vals1 rv;have h1':=h.cod _ _ _ h1;have h2':=h.cod _ _ _ h2;have h5':=h.cod _ _ _ h5;have oa:=(I2.h _ _ h1').1;have ocr:=(I2.h _ _ h2').1;have occ:=(I2.h _ _ h5').1;obtain⟨vs,t,d1',d2'⟩:=h6;refine⟨oa,Iy G hr hm hk hb I2 oa ⟨c',oc,vs,t,rfl,occ,d1',d2'⟩ ⟨o,ocr,h3⟩ h4 ru ?_⟩;refine⟨B,A,[b,.p v],c,d1,S2,r2,⟨vb,_,rfl,RD.mono h rb,_,_,rfl,p2,rfl⟩,e2,λw F3 m3 H3 s3 r3 p3=>?_⟩;obtain⟨F4,s4,r4,l4,p4⟩:=nI 9 e3 r3 p3;have st:=s3.trans s4;have Z:=r2.len;by_cases hc:(V.take c.length).all (Iu c.length)=true
  .have et:Ev.trunc c.length V=V.take c.length:=ac hc;rw[et]at kk;have hle:A.length≤m3.length:=by
    obtain⟨nn,e⟩:=st.pre;rw[e,aZ];lia
   have rt:=r4.trunc (n:=c.length) (by rw[<- Z];exact hle) hc;refine kk w F4 (m3.take A.length) H3 (R.trans (h.trans st.trunc)) ?_ p4;rw[Z];exact rt
  .have et:Ev.trunc c.length V=V:=af hc;rw[et]at kk;exact kk w F4 m3 H3 (R.trans (h.trans st)) r4 p4
end
noncomputable def era(H:Hp)(c:Addr):Hp:=λb=>if b=c then none else H b
section
variable{K:FG}{F B:Aa}{H j:Hp}{m G:List Addr}{S:U}{c:Addr}{x:Obj}{y:Addr}
theorem ga(h:b≠c):era H c b=H b:=af h
theorem gK(a:H c=some (.frz x (.own y)))(h:H b=some o)(n:o≠.frz x (.own y)):era H c b=some o:=by rw[ga];exact h;rintro rfl;rw[a]at h;cases h;exact n rfl
mutual
theorem RP.era(hc:H c=some (.frz x (.own y))):∀{d:P}{v:V},RP K F H d v->RP K F (era H c) d v
 | .non,_,h=>h
 | .bl _,_,h=>h
 | .int _,_,h=>h
 | .str _,_,h=>h
 | .tup _,_,h=>by obtain⟨a,xs,e,t,r⟩:=h;exact⟨a,xs,e,t.imp (λz=>gK hc z (by simp)) id,b7.era hc r⟩
 | .lst _,_,h=>by obtain⟨a,xs,e,t,r⟩:=h;exact⟨a,xs,e,⟨t.1,gK hc t.2 (by simp)⟩,b7.era hc r⟩
 | .ro _,_,h=>by obtain⟨a,xs,e,t,r⟩:=h;refine⟨a,xs,e,t.imp (λz=>?_) id,b7.era hc r⟩;obtain⟨f,o,z⟩:=z;exact⟨f,o,gK hc z (by simp)⟩
 | .dct _ _,_,h=>by obtain⟨a,kvs,e,f,t,k,r⟩:=h;exact⟨a,kvs,e,f,gK hc t (by simp),k,b7.era hc r⟩
theorem b7.era(hc:H c=some (.frz x (.own y))):∀{ds:List P}{xs:List V},b7 K F H ds xs->b7 K F (era H c) ds xs
 | [],_,h=>h
 |_::_,_,h=>by obtain⟨x,r,e,h1,h2⟩:=h;exact⟨x,r,e,RP.era hc h1,b7.era hc h2⟩
end
theorem RD.era(a:H c=some (.frz x (.own y))):∀{d:D}{v:V},RD K F H m d v->RD K F (era H c) m d v
 | .p _,_,h=>RP.era a h
 | .ref _,_,h=>h
theorem cN.era(a:H c=some (.frz x (.own y))):∀{d:List D}{s:List V},cN K F H m d s->cN K F (era H c) m d s
 | [],_,h=>h
 |_::_,_,h=>by obtain⟨x,r,e,n,k⟩:=h;exact⟨x,r,e,RD.era a n,cN.era a k⟩
noncomputable def Lw:SO->Bool
 | .fn (some _)=>false
 |_=>true
theorem RO.era(s:H c=some (.frz x (.own y)))(q:Lw o=true)(h:RO K F H m a o):RO K F (era H c) m a o:=by
 cases o with
 |lst b=>obtain⟨u,e,r⟩:=h;exact⟨u,gK s e (by simp),r.era s⟩
 |dct t b=>obtain⟨k,e,f,r⟩:=h;exact⟨k,gK s e (by simp),f,r.era s⟩
 |fz v=>exact RP.era s (show RP K F H v (.ref a) from h)
 |ins c t b=>obtain⟨C,p,k,n,e,f,r⟩:=h;exact⟨C,p,k,n,gK s e (by simp),f,r.era s⟩
 |dtn t b=>obtain⟨k,e,f,w,r⟩:=h;exact⟨k,gK s e (by simp),f,w.era s,r.era s⟩
 |dtt t b=>obtain⟨k,e,f,r⟩:=h;exact⟨k,gK s e (by simp),f,r.era s⟩
 |fn g=>intro d hd;subst hd;cases q
theorem Rel.era(r:Rel K F H m S)(k:H c=some (.frz x (.own y)))(n:¬F c)(b:c ∉ m)(t:S.all Lw=true):Rel K F (era H c) m S where
 len:=r.len
 nd:=r.nd
 obj:=λi a o s e=>(r.obj i a o s e).era k (a_.mp t o (a8 e))
 sep:=r.sep
 trk:=λa h=>by rw[ga (by rintro rfl;exact b h)];exact r.trk a h
 ft:=λa f=>by rw[ga (by rintro rfl;exact n f)];exact r.ft a f
theorem Stp.era(s:Stp F m (bN H c (.frz x (.own y))) B G j)(a:H c=none):Stp F m H B G (era j c):=by
 have n:∀{b:Addr}{o:HO},H b=some o->b≠c:=λh z=>by rw[z,a]at h;cases h
 have p:∀{b:Addr}{o:HO},H b=some o->bN H c (.frz x (.own y)) b=some o:=λh=>(al (n h)).trans h;refine⟨s.pre,λb o h k=>?_,s.frz,λb o f h=>?_,λb r h=>?_,λb h=>?_,λb h=>?_,λb h=>?_,λb o u h=>?_⟩
 .rw [ga (n h)];exact s.oth b o (p h) k
 .rw [ga (n h)];exact s.frk b o f (p h)
 .rw [ga (n h)];exact s.tup b r (p h)
 .cases q:H b with
  |none=>exact absurd q h
  |some o=>rw[ga (n q)];exact s.trk b (by rw[p q];exact λz=>nomatch z)
 .rcases s.nf b h with z|z|z
  .exact .inl z
  .by_cases e:b=c
   .subst e;exact .inr (.inl a)
   .rw [al e]at z;exact .inr (.inl z)
  .exact .inr (.inr z)
 .rcases s.nm b h with z|z
  .exact .inl z
  .by_cases e:b=c
   .subst e;exact .inr a
   .rw [al e]at z;exact .inr z
 .rw [ga (n h)];exact s.cod b o u (p h)
theorem Rel.swap(r:Rel K F H m S)(n:m[i]? = some a)(k:RO K F H m a o)(hw:¬o.own):Rel K F H m (S.set i o) where
 len:=by rw[db];exact r.len
 nd:=r.nd
 obj:=λj b u h e=>by
  by_cases x:i=j
  .subst x;rw[n]at h;cases h;have s:i < S.length:=by rw[<- r.len];exact(bw.mp n).1
   rw[bv s]at e;cases e;exact k
  .rw [aP x]at e;exact r.obj j b u h e
 sep:=λj b u h e w=>by
  by_cases x:i=j
  .subst x;have s:i < S.length:=by rw[<- r.len];exact(bw.mp n).1
   rw[bv s]at e;cases e;exact absurd w hw
  .rw [aP x]at e;exact r.sep j b u h e w
 trk:=r.trk
 ft:=r.ft
end
noncomputable def IZ:SO->SO
 | .fn _=>.fn none
 |o=>o
theorem Rel.clr{K:FG}{F:Aa}{H:Hp}{m:List Addr}{S:U}(r:Rel K F H m S):Rel K F H m (S.map IZ) where
 len:=by rw[aX];exact r.len
 nd:=r.nd
 obj:=λi a o h e=>by
  rw[b9]at e;cases q:S[i]? with
  |none=>rw[q]at e;cases e
  |some u=>
   rw[q]at e;cases e;have:=r.obj i a u h q
   cases u with
   |fn _=>exact λd z=>nomatch z
   |_=>exact this
 sep:=λi a o h e w=>by
  rw[b9]at e;cases q:S[i]? with
  |none=>rw[q]at e;cases e
  |some u=>
   rw[q]at e;cases e;cases u with
   |fn _=>exact absurd w id
   |_=>exact r.sep i a _ h q w
 trk:=r.trk
 ft:=r.ft
theorem Mh(S:U):(S.map IZ).all Lw=true:=by rw[List.all_map];refine a_.mpr λo _=>?_;cases o<;>rfl
def vo(g:GF)(i:Nat)(a:EV):EE:=λL S=>bG (a L S) λv h=>bG (aj i L h) λd _=>bG (g [.p v,.ref h.length] (h++[.fn (some d)])) λr x=>some (r,x.map IZ)
def JL(X:Cx):Prop:=X.e.qual++Str.ofString "<lambda>"=yg/\∃c P,X.e.code=.ref c/\xD X.K c P=true/\P ∈ ce X.K
theorem ja.cell{P:Program}{w:World}{H:Hp}{h:Heap}{c:Addr}{o:Obj}(ok:ja P w H h)(a:H c=none)(e:h.get? c=some o):ja P w (bN H c (.frz o (.own c))) h:=λb u q=>by
 have n:∀{b:Addr}{o:HO},H b=some o->b≠c:=λh z=>by rw[z,a]at h;cases h
 by_cases x:b=c
 .subst x;rw[aF]at q;cases q;exact⟨e,o,e⟩
 .rw [al x]at q;exact(ok b u q).stay (λ_ _ _ z=>z) (λd z=>(al (n z)).trans z) (λd s z=>(al (n z)).trans z) (λd s z=>(al (n z)).trans z)
theorem ja.era{P:Program}{w:World}{H:Hp}{h:Heap}{c:Addr}{o:Obj}(ok:ja P w H h)(a:H c=some (.frz o (.own c))):ja P w (era H c) h:=λb u q=>by
 by_cases x:b=c
 .subst x;cases (show(none:Option HO)=some u from(ac rfl).symm.trans q)
 .rw [ga x]at q;refine(ok b u q).stay (λ_ _ _ z=>z) (λd z=>gK a z (by simp)) (λd s z=>gK a z (by simp)) (λd s z=>?_);refine gK a z λw=>?_;injection w with _ w;injection w with w;exact x w
section
variable{X:Cx}{e:Expr}{C:EV}{N p:Pos}{x:Str}{i:Nat}
set_option tactic.hygienic true in
theorem Ke(G:FnOk X.p X.w X.K X.g X.b og k f fd ps (mI X.K g))(hr:Room k X.A)(hg:Gl X x)(hm:X.g x=some (.ref f))(hk:dD X.K (.ref f)=true)(W:Binds X.K fd ps [])
  (lm:JL X) (hN:X.N[i]? = some (Str.ofString "board")) (hK:X.e.scope.names.lookup (Str.ofString "board")=some .cell) (hfn:X.fn (Str.ofString "board")=true) (ha:Y X e (tV X.K C)) (hdb:(x == ("__debug__":Str))=false)
  (he:starEach [e,.Lambda (wB p1) (u0 p2 p3 p4 p5) oN uZ] X.e=(false,eval e X.e)::starEach [.Lambda (wB p1) (u0 p2 p3 p4 p5) oN uZ] X.e) :
  Y X (.Call (.Name x p) [e,.Lambda (wB p1) (u0 p2 p3 p4 p5) oN uZ] [] N) (tE X.K (vo g i C)):=by
 intro M s J H Q I ⟨F,m,L,S,d,S',r,l,q,kk⟩;obtain⟨v,S1,e1,q⟩:=ag q;obtain⟨b,S0,e0,q⟩:=ag q;obtain⟨d2,S2,e2,q⟩:=ag q;cases q;obtain⟨hq,c,P,hcode,a,hP⟩:=lm;refine iX (pI I hg hm ?_ hdb);refine p_ (h₀:=X.b) I.o.mod.kin hk ?_ he rfl;rw[he];show wpAny _ _ (spliced ((false,eval e X.e)::(false,eval (.Lambda (wB p1) (u0 p2 p3 p4 p5) oN uZ) X.e)::[])) _ _ _;have eL:L[i]? = some (some b):=by
  unfold aj at e0;split at e0
  .cases e0;assumption
  .cases e0
 obtain⟨vb,hJ,rb⟩:=l.at' i b eL;refine du (cG (ha M s J H (λv1 H1=>∃A E,Stp F m H A E H1/\Rel X.K A H1 E S1/\RP X.K A H1 v v1) I ⟨F,m,L,S,v,S1,r,l,e1,λv A E H1 s1 r1 p1=>⟨A,E,s1,r1,p1⟩⟩) λu1 s1 hz=>?_);obtain⟨v1,H1,I1,ru1,A,E,st1,r1,pv⟩:=hz;obtain⟨t,cl⟩:=I1.o.has (Str.ofString "board") (.inl hK);refine du (Fm (p1:=p1) (p2:=p2) (p3:=p3) (p4:=p4) (p5:=p5) I1 hcode (DE I1.mod.kin a) hP hq cl λj c' oc pm ctv h' tk B Z hH hf0 hc' hlam=>gm ⟨Z.kIn,?_⟩);have hf2:B j=some (.frz (wA p1 p2 p3 p4 p5 t pm c' ctv) (.own j)):=by rcases hH with rfl|⟨_,_,rfl⟩<;>exact aF
 have st2:Stp A E H1 A (E++[j]) B/\Rel X.K A B (E++[j]) (S1++[.fn none]):=by
  rcases hH with rfl|⟨hc0,hcf,rfl⟩
  .exact⟨dF hf0,r1.own hf0 λd z=>nomatch z⟩
  .have hf1:bN H1 c' (.frz oc (.own P)) j=none:=(al (aI hcf)).trans hf0;exact⟨(dZ hc0).trans (dF hf1),(r1.new hc0).own hf1 λd z=>nomatch z⟩
 obtain⟨st2,r2⟩:=st2;obtain⟨mm,_,hl⟩:=id Z.loc;obtain⟨ub,rub,lk⟩:=hl i _ _ hN hJ (.inr (.inl hK));have hcell:h'.IsCell t (some ub):=by
  rcases lk with ⟨z,_⟩|⟨_,cr',z1,z2⟩
  .have z:X.e.scope.names.lookup (Str.ofString "board")=some .local:=z;rw[hK]at z;cases z
  .rw [cl]at z1;cases z1;exact z2
 obtain⟨o,ocr,od⟩:=hcell;have D:B t=none:=Z.freeC _ _ cl;have R:∀{b:Addr}{o:HO},B b=some o->b≠t:=λh z=>by rw[z,D]at h;cases h
 have sab:X.z.heap.objs.size≤t:=Z.o.cab _ _ hfn cl;have qx:Stp A (E++[j]) B A (E++[j]) (bN B t (.frz o (.own t))):=dZ D;have hfm:(E++[j])[S1.length]? = some j:=by rw[<- r1.len,bI (ah _)];simp
 have rb3:RD X.K A (bN B t (.frz o (.own t))) (E++[j]) b vb:=RD.mono (st1.trans (st2.trans qx)) rb;have up:∀{b:Addr}{K:HO},B b=some K->bN B t (.frz o (.own t)) b=some K:=λh=>(al (R h)).trans h;have r3:Rel X.K A (bN B t (.frz o (.own t))) (E++[j]) (S1++[.fn (some b)]):=by
  have z:=(r2.new (o:=.frz o (.own t)) D).swap (i:=S1.length) (o:=.fn (some b)) hfm (λd hd=>by cases hd;exact⟨vb,⟨p1,p2,p3,p4,p5,t,c',P,o,oc,pm,ctv,ub,up hf2,aF,od,rub,up hc',hlam⟩,rb3⟩) id
  have e:(S1++[SO.fn none]).set S1.length (.fn (some b))=S1++[.fn (some b)]:=by simp
  rw[e]at z;exact z
 have hnF:¬A t:=r2.fresh_F D;have hnm:t ∉ E++[j]:=r2.fresh_m D;have hsp:mI X.K g [v1,.ref j] (bN B t (.frz o (.own t))) (λv H4=>Q v (era H4 t)) E0:=by
  refine⟨A,E++[j],[.p v,.ref S1.length],S1++[.fn (some b)],_,S2,r3,⟨_,_,rfl,RP.mono (st2.trans qx) pv,_,_,rfl,⟨j,rfl,hfm⟩,rfl⟩,e2,λw F4 m4 H4 Gz r4 p4=>?_⟩;have V:H4 t=some (.frz o (.own t)):=Gz.cod _ _ _ aF;have hF4:¬F4 t:=λz=>by
   rcases Gz.nf t z with z|z|z
   .exact hnF z
   .rw [aF]at z;cases z
   .exact hnm z
  have hm4:t ∉ m4:=λz=>by
   rcases Gz.nm t z with z|z
   .exact hnm z
   .rw [aF]at z;cases z
  exact kk w F4 m4 (era H4 t) (st1.trans (st2.trans (Gz.era D))) (r4.clr.era V hF4 hm4 (Mh _)) (p4.era V)
 have hps:[u1,Value.ref j].length=ps.length:=G.len _ _ _ _ hsp;have E3:Env0 X.p X.w X.K X.g X.b X.A X.k { s1 with heap:=h',toks:=tk } (bN B t (.frz o (.own t))):=by
  have z:=Z.env0;refine⟨z.frames,z.mod,λb K e=>⟨(z.bs b K e).1,?_⟩,z.bsz,z.funs,λb W=>?_,λT hT=>up (z.tab T hT),ja.cell z.h D ocr,z.bare⟩
  .rw [al];exact(z.bs b K e).2;rintro rfl;exact absurd (bF (aC e) (au Z.o.bsz sab)) (eQ _)
  .rw [al];exact z.frf b W;rintro rfl;rcases aN.mp (Z.stkSub b W) with W|W
   .exact Z.cne _ _ cl W
   .obtain⟨_,K,ho',_⟩:=Z.o.funs.mem W;exact absurd (bF (aC ho') sab) (eQ _)
 refine pR (nA (G.run X.A X.k _ _ ⟨[u1,.ref j],[]⟩ [u1,.ref j] [v1,.ref j] _ E0 hr E3 (W _ [u1,.ref j] Z.kIn hps) (.cons ru1 (.cons rfl .nil)) hsp) λr s' hq=>?_);cases r with
 |error e=>exact False.elim hq
 |ok fl'=>
  cases fl' with
  |ret w=>
   obtain⟨v',H4,os,bare,un,hok,rw',q4⟩:=hq;have V:H4 t=some (.frz o (.own t)):=un.frzs t o _ aF;have dn:∀{b:Addr},b≠t->B b=none->bN B t (.frz o (.own t)) b=none:=λh z=>(al h).trans z;refine Z.after ⟨v',era H4 t,os,bare,⟨λb K e n W hx=>?_,λb K e n W hx=>?_,λb K e n hx=>?_,λb K e hx=>un.there b K e hx,λb xs z=>?_,λb K u z=>?_,λb z=>?_⟩,ja.era hok V,rw',q4⟩
   .by_cases y:b=t
    .subst y;have e:h'.get? b=some K:=e;rw[ocr]at e;cases e;exact(hok _ _ V).1
    .exact un.keep b K e (dn y n) W hx
   .by_cases y:b=t
    .subst y;have e:h'.get? b=some K:=e;rw[ocr]at e;cases e;exact⟨o.slots,(hok _ _ V).1⟩
    .exact un.slot b K e (dn y n) W hx
   .by_cases y:b=t
    .exact ac y
    .rw [ga y];exact un.free b K e (dn y n) hx
   .rw [ga (R z)];exact un.tups b xs (up z)
   .rw [ga (R z)];exact un.frzs b K u (up z)
   .rw [ga (R z)];exact un.tbls b (up z)
  |next=>exact False.elim hq
  |brk=>exact False.elim hq
  |cont=>exact False.elim hq
end
end Ev
set_option tactic.hygienic true
namespace PySem
open PySem PyProof.Rows
section
variable{prog:Program}{w:World}{A:Around}{E:VP}{R:Result->Shared->Prop}
theorem sB(k:∀c o,h.get? c=some o->h'.get? c=some o)(x:(Nk.nest prog w).is h d b):(Nk.nest prog w).is h' d b:=by obtain⟨x1,x2,as,r⟩:=x;exact⟨x1,x2,as,Nk.stay _ x1 r λc o hc _ _=>k c o hc⟩
inductive PairsN(prog:Program)(w:World)(h:Heap):LV->List (PyData×Addr×Value)->Prop
 |nil:PairsN prog w h [] []
 |cons {t b:Addr}{v:Value}{d:PyData}{us:LV}{xs:List (PyData×Addr×Value)}:IsTup h t #[.ref b,v]->(Nk.nest prog w).is h d b->PairsN prog w h us xs->PairsN prog w h (.ref t::us) ((d,b,v)::xs)
def oS(w:World)(h:Heap)(d:Addr)(xs:List (PyData×Addr×Value)):Prop:=∃o es ep,h.get? d=some o/\o.ExactDict/\o.data=.dict es ep/\es.toList=xs.map (λx=>(⟨Nk.hk w x.1,.ref x.2.1,x.2.2⟩:DictEntry))/\(xs.map (·.1)).Nodup
theorem oS.of(x:oS w h d xs)(k:∀y ∈ xs,(Nk.nest prog w).is h y.1 y.2.1):h.DictOfH (Nk.nest prog w) d xs:=
 let ⟨o,es,ep,h1,h2,h3,h4,h5⟩:=x;⟨o,es,ep,h1,h2,h3,h4,k,h5⟩
theorem oS.to(x:h.DictOfH (Nk.nest prog w) d xs):oS w h d xs:=
 let ⟨o,es,ep,h1,h2,h3,h4,_,h5⟩:=x;⟨o,es,ep,h1,h2,h3,h4,h5⟩
theorem oS.at(x:oS w h d f)(k:∀o,h.get? d=some o->h'.get? d=some o):oS w h' d f:=
 let ⟨o,es,e,a,r⟩:=x;⟨o,es,e,k o a,r⟩
theorem CG(hh:A.handled=none)(hu:A.units+9 < cLine)(hd₀:h₀.get? d=none)(hi₀:h₀.get? it=none)(hdi:d≠it)(hl:h₀.IsList l items) :
  ∀(rest:List (PyData×Addr×Value))(i:Nat)(acc:List (PyData×Addr×Value))(s:Shared),(∀b o,h₀.get? b=some o->s.heap.get? b=some o)->s.heap.IsListIter it l i->oS w s.heap d acc->(∀y ∈ acc,(Nk.nest prog w).is h₀ y.1 y.2.1)->PairsN prog w h₀ (items.toList.drop i) rest ->
   ((acc++rest).map (·.1)).Nodup->(acc++rest).length≤sizeLine->i+rest.length=items.size ->
   (∀h' t',(∀b o,h₀.get? b=some o->h'.get? b=some o)->oS w h' d (acc++rest)->R (.ok (.ret .none)) { s with heap:=h',toks:=t' }) ->
   codeAny (model prog w) A (.builtin "dict.update.loop" ⟨[.ref d,.ref it,rawInt i,.none],[]⟩) R s:=by
 intro rest;induction rest with
 |nil=>
  intro i acc s kp hit hd ha hp hn hz hi h;have hl1:s.heap.IsList l items:=let ⟨o,ho,r⟩:=hl;⟨o,kp _ _ ho,r⟩
  refine tm F.entry_dict_update_loop ?_;rw[pD F.plain_dict_update_loop _];unfold Builtin.«dict.update.loop»;show wpAny _ A.in1 (pyNext (.ref it) >>= _) _ _ s;refine ab (Dp hh hit hl1 (by simp at hi ⊢;lia) λh1 eb=>?_);show wpAny _ A.in1 (yP d [] >>= _) _ _ _;rw[cP]at h;refine ab (ao (ao (h h1 s.toks (λb o e=>eb b o (λz=>by rw[z,hi₀]at e;cases e) (kp b o e)) (hd.at λo e=>eb d o hdi e))))
 |cons kv rest ih=>
  intro i acc s kp hit hd ha hp hn hz hi h;have hl1:s.heap.IsList l items:=let ⟨o,ho,r⟩:=hl;⟨o,kp _ _ ho,r⟩
  generalize er:items.toList.drop i=us at hp;cases hp with
  | @cons t b v k us1 _ hpt hk hps=>
   have hx:items[i]? = some (.ref t):=by have:=cY (·[0]?) er;simpa using this
   have er1:items.toList.drop (i+1)=us1:=by rw[<- ud,er];rfl
   refine tm F.entry_dict_update_loop ?_;rw[pD F.plain_dict_update_loop _];unfold Builtin.«dict.update.loop»;show wpAny _ A.in1 (pyNext (.ref it) >>= _) _ _ s;refine ab (Dt hit hl1 hx λh1 hit1 sb1=>?_);have kp1:∀c o,h₀.get? c=some o->h1.get? c=some o:=λc o e=>(sb1.2 c (λz=>by rw[z,hi₀]at e;cases e)).trans (kp c o e);obtain⟨ot,hot,hct,nt,hdt⟩:=hpt;have hot1:=kp1 _ _ hot;show wpAny _ A.in1 (holding [Value.ref t] _ >>= _) _ _ _;refine ab (fE (ab (AI ?_)));unfold yO;refine ab (lC (T:="tuple") ⟨ot,hot1,hct⟩ ?_);rw[ac (by decide)];refine ab (iW hot1 hdt (ao ?_));show wpAny _ A.in1 (holding [Value.ref b,v] (dictSet d (.ref b) v)) _ _ _;have dd:=(hd.at (h':=h1) λo e=>(sb1.2 d hdi).trans e).of (prog:=prog) λy hy=>sB kp1 (ha y hy);refine fE (AY (knd:=Nk.nest prog w) (s:={ s with heap:=h1 }) (hsz:=by simp at hz;lia) (show A.in1.units+8 < cLine by rw[my];lia) (sB kp1 hk) dd λh2 dd2 sb2=>?_);have hnk:k ∉ acc.map (·.1):=λhm=>by rw[jM,jN]at hn;exact hn.2.2 _ hm _ (by simp) rfl
   have none:atKey acc k=none:=by unfold atKey;rw[Option.map_eq_none_iff,List.find?_eq_none];intro y hy z;exact hnk (aU.mpr ⟨y,hy,aJ z⟩)
   rw[storedH_new none]at dd2;refine ao ⟨tf F.plain_dict_update_loop _,?_⟩;have e1:acc++(k,b,v)::rest=(acc++[(k,b,v)])++rest:=by simp
   rw[e1]at hn hz h;refine ih (i+1) (acc++[(k,b,v)]) { s with heap:=h2,toks:=s.toks+(Nk.nest prog w).draws k } (λc o e=>(sb2.2 c (λz=>by rw[z,hd₀]at e;cases e)).trans (kp1 c o e)) ?_ (.to dd2) (λy hy=>?_) (er1 ▸ hps) hn hz (by simp at hi;lia) λh3 t3 k1 k2=>h h3 t3 k1 k2
   .obtain⟨o,ho,r⟩:=hit1;exact⟨o,(sb2.2 it (aI hdi)).trans ho,r⟩
   .rcases bA.mp hy with hy|hy
    .exact ha y hy
    .cases b_.mp hy;exact hk
theorem call_dict_nest(y:A.handled=none)(V:A.units+10 < cLine)(H:s.heap.get? a=some { cls:=.type "list",data:=.seq t n })(D:PairsN prog w s.heap t.toList f)
  (B:(f.map (·.1)).Nodup) (I:f.length≤sizeLine) (R:f.length=t.size)
  (h:∀x j,(∀b o,s.heap.get? b=some o->x.get? b=some o)->oS w x s.heap.objs.size f->k (.ref s.heap.objs.size) { s with heap:=x,toks:=j }) :
  wpAny (model prog w) A (call (.type "dict") [.ref a]) k E s:=by
 have fresh:(s.heap.push { cls:=.type "dict",data:=.dict #[] }).DictOf (intKind prog w) s.heap.objs.size []:=.new s.heap;have q:oS w (s.heap.push { cls:=.type "dict",data:=.dict #[] }) s.heap.objs.size []:=⟨_,#[],0,br _ rfl,⟨rfl,rfl,rfl⟩,rfl,rfl,mh⟩;have d:∀b o,s.heap.get? b=some o->(s.heap.push { cls:=.type "dict",data:=.dict #[] }).get? b=some o:=λb o=>aO _;have p:=AK (prog:=prog) (w:=w) (A:=A.in1) (E:=E) (s:=s) (Value.ref a) (Q₁:=λv z=>v=.ref s.heap.objs.size/\z={ s with heap:=s.heap.push { cls:=.type "dict",data:=.dict #[] } }) ⟨rfl,rfl⟩;apply AG y2 (y6 (.ref a)) y3 p;rintro _ _ ⟨e,S⟩;subst e S;generalize s.heap.push { cls:=.type "dict",data:=.dict #[] }=Q at fresh d q;have i:=d _ _ H;refine⟨fresh.typeIs,y4 (.ref s.heap.objs.size) (.ref a),?_⟩;unfold Builtin.«dict.__init__» yQ;apply ab;apply ab;apply Do fresh.typeIs;apply ao;show wpAny _ _ (oV "dict.__init__" s.heap.objs.size (.ref a) [] .none) _ _ _;unfold oV;refine ab (lC (T:="list") ⟨_,i,rfl⟩ ?_);rw[ac (by decide)];refine ab (yf (name:="keys") i rfl rfl rfl F.list_no_keys (by decide) y λc W g=>?_);rw[ac (by rfl)];refine ab (pS ?_);have u:=g _ _ i;have L:∀b o,s.heap.get? b=some o->c.get? b=some o:=λb o e=>g b o (d b o e);have m:oS w c s.heap.objs.size []:=q.at λo e=>g _ _ e;refine ab (xt (l:=a) (items:=t) ⟨_,u,rfl,n,rfl⟩ ?_);refine ao ⟨tf F.plain_dict_update_loop _,?_⟩;have r:s.heap.objs.size < c.objs.size:=by obtain⟨o,_,_,C,_⟩:=m;exact aC C
 have K:s.heap.get? c.objs.size=none:=by
  cases e:s.heap.get? c.objs.size with
  |none=>rfl
  |some o=>exact absurd (aC e) (tS.mpr (eP r))
 have P:s.heap.get? s.heap.objs.size=none:=by
  cases e:s.heap.get? s.heap.objs.size with
  |none=>rfl
  |some o=>exact absurd (aC e) (eQ _)
 refine CG (A:=A.in1) (w:=w) y (by rw[my];lia) (h₀:=s.heap) (items:=t) (l:=a) P K (bb r) ⟨_,H,rfl,n,rfl⟩ f 0 [] _ (λb o e=>aO _ (L b o e)) ?_ (m.at λo e=>aO _ e) (λ_ G=>nomatch G) (by simpa using D) (by simpa using B) (by simpa using I) (by lia) λx j M N=>?_
 .exact⟨_,br _ rfl,rfl,rfl⟩
 .exact⟨rfl,h x j M N⟩
end
end PySem
namespace Ev
open PySem PySem.Spec PyProof.Rows L2
noncomputable def wc:List P->Option (List P×List P)
 | []=>some ([],[])
 | .tup [k,v]::r=>(wc r).map λz=>(k::z.1,v::z.2)
 |_=>none
def Jv:List P->Bool
 | []=>true
 |k::s=>!lf k s && Jv s
theorem qR(g:eD k=true):∀{ks:List P},ks.all eD=true->(lf k ks=true↔pd k ∈ jf ks)
 | [],_=>by simp[lf,jf]
 |q::ks,h=>by rw[c_,ar]at h;have ih:=qR g h.2;unfold lf at ih ⊢;rw[dv,uu,ih,jf,aN,Nk.eqv_kd _ _ (mS h.1) (mS g)];exact⟨λz=>z.imp Eq.symm id,λz=>z.imp Eq.symm id⟩
theorem E8:∀{s:List P},s.all eD=true->Jv s=true->(jf s).Nodup
 | [],_,_=>mh
 |k::s,h,n=>by rw[c_,ar]at h;simp only[Jv,ar,mx]at n;refine bP.mpr ⟨λz=>?_,E8 h.2 n.2⟩;rw[(qR h.1 h.2).mpr z]at n;cases n.1
theorem Cw(e:wc (p::b)=some (f,t)):∃k v s x,p=.tup [k,v]/\wc b=some (s,x)/\f=k::s/\t=v::x:=by
 unfold wc at e;split at e
 .rename_i h;cases h
 .rename_i k v r h;cases h;obtain⟨z,a,e⟩:=dW.mp e;cases e;exact⟨k,v,z.1,z.2,rfl,a,rfl,rfl⟩
 .cases e
theorem su(I:Inv X M J H s):∀{c a m:List P}{d:List V}{n:LV},b7 X.K F H c d->ba d n->wc c=some (a,m)->a.all eD=true ->
  ∃(h:List (PyData×V×V))(f:List (PyData×Addr×Value)),h.map (·.1)=jf a/\b7 X.K F H a (h.map (·.2.1))/\b7 X.K F H m (h.map (·.2.2))/\KN h f/\PySem.PairsN X.p X.w s.heap n f/\h.length=n.length
 | [],_,_,_,_,r,v,e,_=>by cases e;cases r;cases v;exact⟨[],[],rfl,rfl,rfl,.nil,.nil,rfl⟩
 |p::c,_,_,_,_,r,v,e,g=>by
  obtain⟨k,w,a,m,rfl,S,rfl,rfl⟩:=Cw e;rw[c_,ar]at g;obtain⟨x,xr,rfl,E,G⟩:=r;obtain⟨t,ys,rfl,R,N⟩:=E;obtain⟨y1,Z,rfl,q,L⟩:=QG N;cases v with
  | @cons _ u _ n v1 v2=>cases (show u=Value.ref t from v1);obtain⟨C,Q,B,_⟩:=I.tuple R.sq;obtain⟨T,W,rfl,K,A⟩:=vals2 Q;obtain⟨h,f,i,j,l,y,z,o⟩:=su I G v2 S g.2;obtain⟨b,rfl,D⟩:=qL I g.1 q;cases (show T=Value.ref b from K);exact⟨(pd k,.ref b,Z)::h,(pd k,b,W)::f,by rw[az,i];rfl,⟨_,_,rfl,q,j⟩,⟨_,_,rfl,L,l⟩,.cons ⟨rfl,rfl,A⟩ y,.cons B D z,by simp[o]⟩
def vl(C:EV):EE:=λL S=>bG (C L S) λx h=>match x with
 | .lst p=>match wc p with
  |some (k,v)=>if (k.all eD && (Jv k && few p))=true then some (.ref h.length,h++[.dtn k (v.map .p)]) else none
  |none=>none
 |_=>none
section
variable{X:Cx}{a:Expr}{C:EV}{p c1:Pos}
theorem J2(hc:X.c=true)(hu:X.A.units+10 < cLine)(gd:Gl X "dict")(md:X.g "dict"=none)(ha:Y X a (tV X.K C))(hs:starEach [a] X.e=[(false,eval a X.e)]) :
  Y X (.Call (.Name "dict" p) [a] [] c1) (tE X.K (vl C)):=by
 intro M s J H Q I ⟨F,m,L,S,d,S',r,l,q,k⟩;obtain⟨x,R,e1,q⟩:=ag q;have hh:X.A.handled=none:=I.o.hd hc;refine iX (jV I gd md zE ?_ (by decide) (by decide));refine jG ?_ (by rw[hs];rfl) rfl;rw[hs];refine du (cG (ha M s J H (λv w=>∃f t,Stp F m H f t w/\Rel X.K f w t R/\RP X.K f w x v) I ⟨F,m,L,S,x,R,r,l,e1,λv f t w e y E=>⟨f,t,e,y,E⟩⟩) λu e ⟨v,w,g,ru,f,t,G,y,E⟩=>gm ?_);cases x with
 |lst ps=>
  dsimp only at q;cases B:wc ps with
  |none=>rw[B]at q;cases q
  |some z=>
   obtain⟨ks,vs⟩:=z;rw[B]at q;dsimp only at q;split at q
   .rename_i c;simp only[ar]at c;obtain⟨Z,g2,g3⟩:=c;cases q;obtain⟨A,xs,rfl,hq,rp⟩:=E;cases (show u=Value.ref A from ru);obtain⟨zl,i,n,rv,ho⟩:xs.length≤sizeLine/\∃(i:LV)(n:Nat),ba xs i/\e.heap.get? A=some { cls:=.type "list",data:=.seq i.toArray n }:=g.h A _ hq.2;obtain⟨b,N,K,T,V,P,W,a6⟩:=su g rp rv B Z;have el:b.length=N.length:=Paired.length P;have e2:=rv.length;have D:N.map (·.1)=b.map (·.1):=by
     clear K T V W a6 el;induction P with
     |nil=>rfl
     |cons h _ ih=>rw[az,az,ih,h.1]
    refine PySem.call_dict_nest hh hu ho (by simpa using W) (by rw[D,K];exact E8 Z g2) (by lia) (by simp;lia) λh' t' k1 k2=>?_;have j:w e.heap.objs.size=none:=g.h.fresh (ah _);obtain⟨ob,es,ep,h1,h2,h3,h4,h5⟩:=k2;have I3:=g.laid (a:=e.heap.objs.size) (o:=.dN b) (t':=t') k1 (ah _) ⟨by lia,gZ.mpr (aI (bb g.big)),N,P,ob,es,ep,h1,h2,h3,h4,h5⟩;refine⟨.ref e.heap.objs.size,_,I3,rfl,k (.ref e.heap.objs.size) f (t++[e.heap.objs.size]) _ (G.trans (dF j)) (y.own j ⟨_,aF,K,b7.kp (dF (m:=t) j).kp T,cN.mono (dF j) (cN.ofP V)⟩) ⟨e.heap.objs.size,rfl,?_⟩⟩;rw[<- y.len,bI (ah _)];simp
   .cases q
 |_=>cases q
end
theorem EW{K:FG}{F B:Aa}{m G:List Addr}{H j:Hp}{S:U}{p:Addr}{c:SO}(st:Stp F m H B G j)(r:Rel K B j G S)(t:H p=none)(l:¬B p)(y:p ∉ G)(v:j p≠none)(q:RO K B j (G++[p]) p c) :
  Stp F m H B (G++[p]) j/\Rel K B j (G++[p]) (S++[c]):=by
 have g:Kp B G j B (G++[p]) j:=⟨⟨[p],rfl⟩,λ_ h=>h,λ_ _ _ h=>h,λ_ _ h=>h,λ_ _ _ h=>h⟩;have lt:∀{i:Nat}{a:Addr},(G++[p])[i]? = some a->i < G.length\/(i=G.length/\a=p):=λ{i a} e=>by
  rcases tU i G.length with h|h
  .exact .inl h
  .rw [bI h]at e;have d:i-G.length=0:=by
    rcases zP (i-G.length) with z|z
    .exact z
    .rw [pB (by simp;lia)]at e;cases e
   rw[d]at e;exact .inr ⟨by lia,by simpa using e.symm⟩
 refine⟨⟨?_,st.oth,st.frz,st.frk,st.tup,st.trk,st.nf,λb f=>?_,st.cod⟩,⟨by rw[aZ,aZ,r.len];rfl,?_,λi a o s x=>?_,λi a o s x w=>?_,λa k=>?_,r.ft⟩⟩
 .obtain⟨n,e⟩:=st.pre;exact⟨n++[p],by rw[e,fK]⟩
 .rcases bA.mp f with f|f
  .exact st.nm b f
  .have:b=p:=by simpa using f
   subst this;exact .inr t
 .rw [jN];refine⟨r.nd,by simp,λa k b f e=>?_⟩;have:b=p:=by simpa using f
  subst this;subst e;exact y k
 .rcases lt s with h|⟨h,rfl⟩
  .rw [bL h]at s;rw[bL (by rw[<- r.len];exact h)]at x;exact(r.obj i a o s x).kp g λu z=>z
  .subst h;rw[r.len,bI (ah _)]at x;simp at x;subst x;exact q
 .rcases lt s with h|⟨h,rfl⟩
  .rw [bL h]at s;rw[bL (by rw[<- r.len];exact h)]at x;exact r.sep i a o s x w
  .exact l
 .rcases bA.mp k with k|k
  .exact r.trk a k
  .have:a=p:=by simpa using k
   subst this;exact v
def vm(f v:EV):EE:=λL S=>bG (f L S) λk x=>bG (v L x) λy h=>if eD k=true then some (.ref h.length,h++[.dtn [k] [.p y]]) else none
theorem J8{X:Cx}{N:Pos}{ke ve:Expr}{fk fv:EV}(hu:X.A.units+9 < cLine)(hk:Y X ke (tV X.K fk))(hv:Y X ve (tV X.K fv)):Y X (.Dict [some ke] [ve] N) (tE X.K (vm fk fv)):=by
 intro M s J H Q I ⟨F,m,L,S,d,S',r,l,q,k⟩;obtain⟨e,G,e1,q⟩:=ag q;obtain⟨y,S2,e2,q⟩:=ag q;split at q;case isFalse=>cases q
 rename_i g;cases q;have i:H s.heap.objs.size=none:=I.h.fresh (ah _);have I1:=I.laid (a:=s.heap.objs.size) (o:=.dN []) (h':=s.heap.push { cls:=.type "dict",data:=.dict #[] }) (t':=s.toks) (fun _ _ q=>aO _ q) (ah _) (FX s.heap I.big);refine wpAny_Dict_any rfl rfl (by simp) (by simp) (pairTrees_cons_walk (cG (hk M _ J _ (fun v j=>∃w P,Stp F m (bN H s.heap.objs.size (.dN [])) w P j/\Rel X.K w j P G/\RP X.K w j e v) I1 ⟨F,m,L,S,e,G,r.new i,l.mono (dZ i),e1,fun v w P j s2 Z p2=>⟨w,P,s2,Z,p2⟩⟩) fun ku s2 ⟨kv,j,I2,rk,w,P,B,Z,pk⟩=>
  cG (hv M s2 J j (λv n=>∃h f,Stp w P j h f n/\Rel X.K h n f S2/\RP X.K h n y v) I2 ⟨w,P,L,G,y,S2,Z,(l.mono (dZ i)).mono B,e2,λv h f n s3 C p3=>⟨h,f,s3,C,p3⟩⟩) λD s3 ⟨vv,n,E,rv,h,f,qx,C,pv⟩=>pairTrees_nil_walk ?_))
 have t:=B.trans qx;have K:s.heap.objs.size ∉ m:=r.fresh_m i;have c:n s.heap.objs.size=some (.dN []):=t.oth _ _ aF K;have W:¬h s.heap.objs.size:=λz=>by
  rcases t.nf _ z with z|z|z
  .exact r.fresh_F i z
  .rw [aF]at z;cases z
  .exact K z
 have nm:s.heap.objs.size ∉ f:=λz=>by
  rcases t.nm _ z with z|z
  .exact K z
  .rw [aF]at z;cases z
 have nt:∀zs,n s.heap.objs.size≠some (.tup zs):=λzs z=>by rw[c]at z;cases z
 have nc:∀x u,n s.heap.objs.size≠some (.frz x (.own u)):=λx u z=>by rw[c]at z;cases z
 have A:RP X.K h n e kv:=RP.mono qx pk;obtain⟨b,T,ky⟩:=qL E g A;subst T;cases (show ku=Value.ref b from rk);obtain⟨z,hd,xs,rel,dd⟩:=FW E.h c (λp hp=>nomatch hp);cases rel;show wpAny _ _ (storeAll s.heap.objs.size [(Value.ref b,D)]) _ _ _;have es:storeAll s.heap.objs.size [(Value.ref b,D)]=(do dictSet s.heap.objs.size (Value.ref b) D;pure PUnit.unit):=by unfold storeAll;simp
 rw[es];refine ab (AY (knd:=Nk.nest X.p X.w) (hsz:=bX _) (show(X.A).units+8 < cLine by lia) ky dd λh' R hs=>ao ?_);have kb:Kp h f n h f (bN n s.heap.objs.size (.dN [(pd e,.ref b,vv)])):=Kp.bump W nt nc;have st:Stp F m H h f (bN n s.heap.objs.size (.dN [(pd e,.ref b,vv)])):=((dZ i).trans t).bump i;have ob:RO X.K h (bN n s.heap.objs.size (.dN [(pd e,.ref b,vv)])) (f++[s.heap.objs.size]) s.heap.objs.size (.dtn [e] [.p y]):=
  ⟨_,aF,rfl,⟨_,_,rfl,RP.kp kb A,rfl⟩,⟨_,_,rfl,RP.kp kb pv,rfl⟩⟩
 obtain⟨a1,a2⟩:=EW st (C.bump W nm nt nc) i W nm (by rw[aF];exact λz=>nomatch z) ob;obtain⟨q,V,ep,hq,h2,h3,h4,_,h5⟩:=R;refine⟨.ref s.heap.objs.size,_,m5 (N:=.dN [(pd e,.ref b,vv)]) E (by rw[c];exact True.intro) hs ⟨q,hq⟩ ⟨show 1≤sizeLine by decide,hd,[(pd e,b,D)],.cons ⟨rfl,rfl,rv⟩ .nil,q,V,ep,hq,h2,h3,h4,h5⟩,rfl,k _ h _ _ a1 a2 ⟨_,rfl,?_⟩⟩;rw[<- C.len,bI (ah _)];simp
section
variable{X:Cx}{u:Scope}{I:LS}{L:List Nat}{n:Nat}
theorem JR(i:Nat)(hN:X.N.Nodup)(h:BlockOk X u I L n)(w:X.c=true)
  (W:rJ X tg iter f L n g fc fe) (hg:∀s H C y,PG (inn X u I s H C y) tg (gT X.K g)) (hc:∀s H C y,PIfs (inn X u I s H C y) z fc) (he:∀s H C y,Y (inn X u I s H C y) t (tV X.K fe))
  (o:closureFor u X.e=pure (lN u X.e)) (Z:swapsWith (.ListComp t [⟨tg,iter,z,0⟩] u N) (some (.Name x px)) T.line X.e=pure true:=by rfl)
  (hs:∀x,foldedSetIterable iter X.e x=pure x:=by intro _;rfl) (R:X.N[i]? = some x:=by rfl) (hx:Loc X.e.scope x:=by first|exact Or.inl rfl|exact Or.inr rfl)
  (hf:X.fn x=true\/X.e.scope.names.lookup x=some .local:=by first|exact .inl rfl|exact .inr rfl|assumption) :
  PS X (.Assign [.Name x px] (.ListComp t [⟨tg,iter,z,0⟩] u N) T) (kr X.K (aD i (q_ f))):=by
 intro M s J H D b ⟨F,m,c,S,fl,L',S',r,l,q,k⟩;obtain⟨d,S1,e1,q⟩:=ag q;cases q;obtain⟨v,S2,e2,e3⟩:=ag e1;rw[Dm _ _ _ _ Z];refine ab (tj (ab ?_));show wpAny _ _ (do let _ <- comprehension (.ListComp t [⟨tg,iter,z,0⟩] u N) u X.e _ (newList []) false (eval iter X.e) (some (assign (.Name x px) X.e))) _ _ s;obtain⟨wi,hi,W⟩:=W;obtain⟨ok,vs,S3,ds,rfl,P,hw,e4⟩:=W J H F m c S v _ r l e2;cases e3;refine ab (cD (k9 (use:=some (assign (.Name x px) X.e)) (Q:=λ_ s'=>SP X M D .next s') h w hi hg hc he o hs b r l hw P e4 λp B G j sx C xs I' st0 r0 f hC h0 h1 h2 h3 hz=>?_) (λ_ s' hq=>ao (ao hq)) λ_ _ e=>e);obtain⟨mC,V⟩:=hz;obtain⟨st,r'⟩:=ri st0 r0 f;have rp:RD X.K B j (G++[p]) (.ref S2.length) (.ref p):=⟨p,rfl,by rw[<- r0.len,bI (ah _)];simp⟩;refine xq (nJ I' hN R hx (v:=.ref p) rfl (λs' E A=>?_) hf);refine⟨mC,?_,λh' sb=>⟨_,j,E.letGo sb hC h0 h1 h2 h3,k _ _ (G++[p]) j st r' ((l.mono st).set (d:=.ref S2.length) rp i)⟩⟩;obtain⟨a,sbA,K⟩:=A;refine V.sameBut sbA ?_;rcases K with K|K
 .rw [K];exact h1
 .exact aI (h2 x a K)
end
@[simp] def rc(g:GF)(a:jB)(L:Lc)(S:U):vV:=bG (a L S) λp h=>(g (p.map .p) []).elim none λz=>(mM z.1 z.2).elim none λw=>some (.ref h.length,h++[.lst (w.2.map .p)])
section
variable{X:Cx}{e:Expr}{es:Ab}{Q:jB}{N:Pos}
theorem Kg(G:FnOk X.p X.w X.K X.g X.b og k f fd ps (mI X.K g))(hr:Room k X.A)(hg:Gl X x)(hm:X.g x=some (.ref f))(hk:dD X.K (.ref f)=true)(hb:Binds X.K fd ps [])
  (ha:PA X (e::es) (qm X.K Q)) (T:(x == ("__debug__":Str))=false) (he:starEach (e::es) X.e=(false,eval e X.e)::starEach es X.e) (V:(backTo N (starEach es X.e)).any (·.1)=false) :
  Y X (.Call (.Name x p) (e::es) [] N) (tE X.K (rc g Q)):=
 (pG G hr hg hm hk hb .nil qG ha T he V).imp' λJ H s hz=>by
  obtain⟨F,m,L,S,d,S',r,l,q,k⟩:=hz;obtain⟨I,y,e1,q⟩:=ag q;cases M:g (I.map .p) [] with
  |none=>rw[M]at q;cases q
  |some z=>
   obtain⟨d1,E⟩:=z;rw[M]at q;replace q:(mM d1 E).elim none (λw=>some (D.ref y.length,y++[SO.lst (w.2.map .p)]))=some (d,S'):=q;cases R:mM d1 E with
   |none=>rw[R]at q;cases q
   |some w=>obtain⟨i,zs⟩:=w;rw[R]at q;cases q;obtain⟨⟨i',us⟩,e4,e5⟩:=tL.mp R;obtain⟨zs',e6,e7⟩:=dW.mp e5;cases e7;obtain⟨rfl,t⟩:=iM e4;cases uQ e6;refine⟨F,m,L,S,I,y,r,l,e1,λxs Z K B s1 P p1=>?_⟩;show mI X.K g (xs++[]) B s E0;rw[cP];refine⟨Z,[],I.map .p,[],_,E,⟨rfl,by simp,by simp,by simp,by simp,P.ft⟩,cN.ofP p1,M,λv A m2 C n W p2=>?_⟩;obtain⟨a,rfl,c⟩:=p2;have j:B a=none:=(n.nm a (a8 c)).elim (λz=>by cases z) id;have s0:Stp Z K B A K C:=⟨⟨[],by simp⟩,λb o h _=>n.oth b o h (by simp),n.frz,n.frk,n.tup,n.trk,λb h=>(n.nf b h).imp id (λz=>z.imp id (λz=>by cases z)),λ_ h=>.inl h,n.cod⟩;have r0:Rel X.K A C K y:=P.stay s0 (λa u _ h=>n.oth a u h (by simp)) (λa f=>(n.nf a f).imp id (λz=>z.elim id (λz=>by cases z))) W.ft;obtain⟨ys,hH,rs⟩:=W.obj _ a _ c t;obtain⟨s3,r3⟩:=ri s0 r0 ⟨j,W.sep _ a _ c t trivial,λz=>P.trk a z j,hH,x0 rs⟩;exact k (.ref a) A (K++[a]) C (s1.trans s3) r3 ⟨a,rfl,by rw[<- P.len];simp⟩
end
end Ev
namespace Ev
open PySem PySem.Spec PyProof.Rows L2
def cI(g:GF)(p:List P):Option P:=match g (p.map .p) [] with
 |some (d,S)=>(toP 9 d S).map (·.1)
 |none=>none
@[simp] noncomputable def lc:Option (Fl×Lc×U)->Option (D×U)
 |some (.rt d,_,S)=>some (d,S)
 |some (.nx,_,S)=>some (.p .non,S)
 |_=>none
def mV(p n:Nat)(b:ES):GF:=λd S=>if d.length=p then lc (b (d.map some++List.replicate (n-d.length) none) S) else none
theorem Rel.nil{K:FG}{F:Aa}{H:Hp}(f:∀a,F a->H a≠none):Rel K F H [] []:=⟨rfl,by simp,by simp,by simp,by simp,f⟩
variable{K:FG}{H:Hp}
theorem qy(h:Pa K (cI g) A H a s):mI K g A H a s:=by
 obtain⟨F,f,d,t,r,q,k⟩:=h;unfold cI at q;cases e:g (f.map .p) [] with
 |none=>rw[e]at q;cases q
 |some z=>
  obtain⟨n,S⟩:=z;rw[e]at q;dsimp only at q;cases x:toP 9 n S with
  |none=>rw[x]at q;cases q
  |some y=>obtain⟨p,P⟩:=y;rw[x]at q;cases q;refine⟨F,[],f.map .p,[],n,S,.nil t,cN.ofP r,e,λv o B c j w i=>?_⟩;obtain⟨b,l,u,_,m⟩:=nI 9 x w i;exact k v b c ((j.trans l).toGrow u.ft) m
theorem FnOk.pure(G:FnOk a w K m base og k f d p (mI K g)):FnOk a w K m base og k f d p (Pa K (cI g)):=
 FnOk.imp G λ_ _ _ _ h=>qy h
theorem cN.toSt(r:cN K F H m s k):RL K F H m (L2.start N k) (s.map some++List.replicate (N.length-s.length) none):=by
 have l:=r.length;refine⟨by unfold L2.start;simp[l],λi d e=>?_⟩;by_cases h:i < s.length
 .rw [bL (by simpa using h),b9]at e;cases q:s[i]? with
  |none=>rw[q]at e;cases e
  |some v=>rw[q]at e;cases e;obtain⟨x,a,p⟩:=r.get q;refine⟨x,?_,p⟩;unfold L2.start;rw[bL (by simpa[<- l] using h),b9,a];rfl
 .rw [bI (by simpa using h),uo]at e;split at e<;>cases e
theorem IL{P:Program}{w:World}{K:FG}{m:SV}{base:Heap}{x u:Str}{st:Stmt}{f:Addr}{n:FuncData}{N a:LS}{k:Nat}{e:Sp}(F:Fun K x u st f n)(S:FnScope N a (bg st))(len:∀v H Q E,e v H Q E->v.length=a.length)
  (b:∀(c:Value),iZ K c u=true->∀(A:Around) (o:List Env) (s:Shared) (H:Hp) (v:List V) (Q:VK) (E:XK),Room k (A.deeper (envOfC u (bg st) s.heap.objs.size f c))->e v H Q E ->
   ∃t,oe (wT og P w K m base N u (bg st) f c A o s H E).nox (eX st) t/\t { nx:=λ_ r=>Q .non r,rt:=Q } (start N v) H):FnOk P w K m base og (k+1) f n a e:=by
 obtain⟨B,C,z,kV,g,D,j,c,y,l,rfl,lk,d⟩:=F.ex;refine Oy lk d S len λA o s H v Q E i p=>?_;obtain⟨t,h,q⟩:=b c d A o s H v Q E i p;exact⟨t,h.nox,q⟩
theorem L4{P:Program}{w:World}{K:FG}{y:SV}{base:Heap}{x u:Str}{st:Stmt}{f:Addr}{i:FuncData}{N p:LS}{k:Nat}{b:ES}(F:Fun K x u st f i)(S:FnScope N p (bg st))
  (M:∀(c:Value),iZ K c u=true->∀(A:Around) (o:List Env) (s:Shared) (H:Hp) (E:XK),Room k (A.deeper (envOfC u (bg st) s.heap.objs.size f c)) ->
   oe (wT og P w K y base N u (bg st) f c A o s H E).nox (eX st) (kr K b)):FnOk P w K y base og (k+1) f i p (mI K (mV p.length N.length b)):=by
 refine IL F S (λV H Q E h=>?_) (λc n A o s H V Q E R h=>⟨_,M c n A o s H E R,?_⟩)
 .obtain⟨F,m,a,S,d,G,C,r,q,k⟩:=h;rw[<- r.length];unfold mV at q;split at q
  .assumption
  .cases q
 .obtain⟨F,m,a,S,d,G,C,r,q,k⟩:=h;unfold mV at q;split at q
  .cases e:b (a.map some++List.replicate (N.length-a.length) none) S with
   |none=>rw[e]at q;cases q
   |some z=>
    obtain⟨l,L,I⟩:=z;rw[e]at q;refine⟨F,m,_,S,l,L,I,C,r.toSt,e,λW t j g D B Z=>?_⟩;cases l with
    |nx=>cases q;exact k .non t j g D B rfl
    |bk=>cases q
    |ct=>cases q
    |rt X=>intro v T;cases q;exact k v t j g D B T
  .cases q
theorem FR{P:Program}{w:World}{K:FG}{g:SV}{base:Heap}{f:Addr}{x:FuncData}{p:LS}{k:Nat}:FnOk P w K g base og k f x p (mI K λ_ _=>none):=by
 have n:∀v H Q E,¬mI K (λ_ _=>none) v H Q E:=λv H Q E h=>by obtain⟨F,m,b,S,d,e,_,_,q,_⟩:=h;cases q
 exact⟨λv H Q E h=>absurd h (n v H Q E),λA o s H a u v Q E _ _ _ _ h=>absurd h (n v H Q E)⟩
structure Tr where
 v:Option EV:=none
 e:Option EE:=none
 b:Option EB:=none
 w:Option EB:=none
def Tr.ofV(f:Option EV):Tr:=⟨f,f.map O,f.map λg=>bT (O g),f.map bV⟩
def Tr.ofC(f:Option EV):Tr:=⟨f,f.map O,f.map bV,f.map bV⟩
def Tr.ofE(f:Option EE):Tr:=⟨f.map vE,f,f.map bT,f.map λg=>bV (vE g)⟩
def Tr.ofB(b w:Option EB):Tr:=⟨w.map vB,w.map λg=>O (vB g),b,w⟩
structure Cn where
 N:LS
 own:LS
 deep:LS
 refs:LS
 ks:List (Str×NameKind)
 F:Str->Option GF
 G:Str->Option P
 A:Str->Str->Bool
 M:Str->Str->Option GF
 I:Str->Option GF
 L:Option GF
noncomputable def kC:LS->Str->Option Nat
 | [],_=>none
 |y::r,x=>if y=x then some 0 else (kC r x).map (·+1)
theorem qM:∀{N:LS}{x:Str}{i:Nat},kC N x=some i->N[i]? = some x
 | [],_,_,h=>by cases h
 |y::r,x,i,h=>by
  unfold kC at h;split at h
  .rename_i e;cases h;simp[e]
  .cases q:kC r x with
   |none=>rw[q]at h;cases h
   |some j=>rw[q]at h;cases h;simpa using qM q
theorem oq:∀{N:LS}{x:Str}{i:Nat},N.Nodup->N[i]? = some x->kC N x=some i
 | [],_,_,_,h=>by simp at h
 |y::r,x,0,_,h=>by
  have:y=x:=by simpa using h
  unfold kC;rw[ac this]
 |y::r,x,i+1,d,h=>by
  have a:r[i]? = some x:=by simpa using h
  have n:¬y=x:=λe=>by subst e;exact(bP.mp d).1 (a8 a)
  unfold kC;rw[af n,oq (bP.mp d).2 a];rfl
noncomputable def cM(s:List (Str×NameKind))(x:Str)(l:List NameKind):Bool:=match s.lookup x with
 |some k=>l.contains k
 |none=>false
noncomputable def i4(x:Str):Bool:=!(x == ("__debug__":Str)) && !(x == ("__classdict__":Str))
noncomputable def QZ:LS:=["listed","_law_seen"]
noncomputable def L7:LS:=[]
def R1:Operator->Option (P->P->Option P)
 | .Add=>some m9
 | .Sub=>some Ma
 | .Mult=>some m7
 | .FloorDiv=>some yC
 | .Mod=>some Me
 | .Pow=>some Mc
 |_=>none
def MP:CmpOp->Option (P->P->Option P)
 | .Lt=>some IV
 | .LtE=>some OL
 | .Gt=>some Rn
 | .GtE=>some Ro
 |_=>none
def OQ:CmpOp->Option (D->D->U->Option P)
 | .Eq=>some GB
 | .NotEq=>some Dk
 | .In=>some wL
 | .Is=>some vK
 | .IsNot=>some dB
 |_=>none
def Gb (n:Bool) (o:CmpOp):Option (D->D->U->Option P):=if n=true then (match o with
 | .NotIn=>some hY
 |_=>none) else OQ o
def qk:List (Option EV)->Option jB
 | []=>some aR
 |a::r=>a.bind λf=>(qk r).map λg=>aB f g
def Cm:List (Option EE)->Option sf
 | []=>some fC
 |a::r=>a.bind λf=>(Cm r).map λg=>bC f g
def vS(o:BoolOp):List (Option EB)->Option EB
 | []=>none
 | [a]=>a
 |a::r=>a.bind λf=>(vS o r).map λg=>match o with | .And=>kJ f g | .Or=>Dc f g
def Np(o:Option (Option EV)):Option EO:=match o with
 |none=>some il
 |some a=>a.map gS
noncomputable def Fx(t:Str):Option String:=if t=("list":Str) then some "list" else if t=("bool":Str) then some "bool" else if t=("int":Str) then some "int" else none
def Gh(f:Str):Option (List P->Option P):=
 if f=("int":Str) then some lO else if f=("list":Str) then some i7 else if f=("tuple":Str) then some eY else if f=("abs":Str) then some oF else none
noncomputable def Jc:LS:=["len","isinstance","int","bool","tuple","list","str","max","min","dict","range","abs","enumerate","sorted","all","any","sum","set","zip"]
noncomputable def sm(a s:List (Str×NameKind)):List (Str×NameKind):=a.map λ(n,k)=>if (k == .free && s.lookup n == some .cell) then (n,.cell) else (n,k)
def yJ(j:Cn)(E:Scope)(o:LS)(Q:List Nat)(n:Nat):Bool:=
 decide (E.kind=.function) && E.names.all (λx=>x.2 != .cell) && E.names.all (λx=>x.2 != .local ||E.names.lookup x.1 == some .local)
  && E.names.all (λx=>x.2 != .free ||(E.names.lookup x.1 == some .free && (j.ks.lookup x.1 == some .cell ||j.ks.lookup x.1 == some .free)))
  && decide (j.N=o.take j.N.length) && decide (o.length=j.N.length+n)
  && E.names.all (λx=>x.2 != .local ||match kC j.N x.1 with|some i=>Q.contains i|none=>true)
def u6(j:Cn)(f g:Str):Bool:=decide (f=g) && cM j.ks f [.globalImplicit]
variable{B:Type}
noncomputable def lG:List B->Option B
 | [a]=>some a
 |_=>none
noncomputable def qg{B:Type}:List B->Option (B×B)
 | [a,b]=>some (a,b)
 |_=>none
theorem d4{B:Type}{l:List B}{a:B}(h:lG l=some a):l=[a]:=by
 unfold lG at h;split at h
 .cases h;rfl
 .cases h
theorem jR{B:Type}{l:List B}{a b:B}(h:qg l=some (a,b)):l=[a,b]:=by
 unfold qg at h;split at h
 .cases h;rfl
 .cases h
theorem am{B e:Type}{x:Option B}{f:B->Option e}{r:e}(h:x.bind f=some r):∃a,x=some a/\f a=some r:=by
 cases x with
 |none=>cases h
 |some a=>exact⟨a,rfl,h⟩
theorem aA{B e:Type}{x:Option B}{f:B->e}{r:e}(h:x.map f=some r):∃a,x=some a/\r=f a:=by
 cases x with
 |none=>cases h
 |some a=>cases h;exact⟨a,rfl,rfl⟩
theorem IU{B:Type}{c:Prop}[Decidable c]{f:c->Option B}{x:B}(h:(if q:c then f q else none)=some x):c:=by
 by_cases q:c
 .exact q
 .rw [dif_neg q]at h;cases h
section
variable{e:Expr}
noncomputable def GA(e:Expr):Option Str:=if h:e.ctorIdx=23 then Expr.Name.elim e h λx _=>some x else none
theorem nR{x:Str}(h:GA e=some x):∃p,e=.Name x p:=by have c:=IU h;revert h;exact Expr.Name.elim e c λ_ p h=>by cases h;exact⟨p,rfl⟩
noncomputable def lj(e:Expr):Option (Ab):=if h:e.ctorIdx=25 then Expr.Tuple.elim e h λs _ _=>some s else none
theorem jb{s:Ab}(h:lj e=some s):∃c p,e=.Tuple s c p:=by have c:=IU h;revert h;exact Expr.Tuple.elim e c λ_ c p h=>by cases h;exact⟨c,p,rfl⟩
noncomputable def Fz(e:Expr):Option (Ab):=if h:e.ctorIdx=24 then Expr.List.elim e h λs _=>some s else none
theorem wG{s:Ab}(h:Fz e=some s):∃p,e=.List s p:=by have c:=IU h;revert h;exact Expr.List.elim e c λ_ p h=>by cases h;exact⟨p,rfl⟩
noncomputable def OZ(e:Expr):Option (Expr×Str×Pos):=if h:e.ctorIdx=20 then Expr.Attribute.elim e h λo m p=>some (o,m,p) else none
theorem Gq{o:Expr}{m:Str}{p:Pos}(h:OZ e=some (o,m,p)):e=.Attribute o m p:=by have c:=IU h;revert h;exact Expr.Attribute.elim e c λ_ _ _ h=>by cases h;rfl
noncomputable def QD(e:Expr):Option (Expr×Expr):=if h:e.ctorIdx=21 then Expr.Subscript.elim e h λo i _=>some (o,i) else none
theorem KG{o i:Expr}(h:QD e=some (o,i)):∃p,e=.Subscript o i p:=by have c:=IU h;revert h;exact Expr.Subscript.elim e c λ_ _ p h=>by cases h;exact⟨p,rfl⟩
noncomputable def RN(e:Expr):Option (Option Expr×Option Expr×Option Expr):=if h:e.ctorIdx=26 then Expr.Slice.elim e h λi j k _=>some (i,j,k) else none
theorem KD{i j k:Option Expr}(h:RN e=some (i,j,k)):∃p,e=.Slice i j k p:=by have c:=IU h;revert h;exact Expr.Slice.elim e c λ_ _ _ p h=>by cases h;exact⟨p,rfl⟩
noncomputable def Rp(e:Expr):Option (Expr×Ab×Pos):=if h:e.ctorIdx=16 then Expr.Call.elim e h λf a k p=>if k.isEmpty=true then some (f,a,p) else none else none
theorem Ml{f:Expr}{a:Ab}{p:Pos}(h:Rp e=some (f,a,p)):e=.Call f a [] p:=by
 have c:=IU h;revert h;exact Expr.Call.elim e c λ_ _ k _ h=>by
  cases k with
  |nil=>cases h;rfl
  |cons _ _=>cases h
end
def sT(e:Expr):Option (Str×Ab):=(Rp e).bind λz=>(GA z.1).map λr=>(r,z.2.1)
theorem jw{e:Expr}{r:Str}{a:Ab}(h:sT e=some (r,a)):∃p c,e=.Call (.Name r p) a [] c:=by obtain⟨⟨f,s,c⟩,x,n⟩:=am h;obtain⟨m,k,b⟩:=aA n;obtain⟨p,rfl⟩:=nR k;cases b;exact⟨p,c,Ml x⟩
def R5(e:Expr):Option ((Expr×Str×Pos)×Ab×Pos):=(Rp e).bind λz=>(OZ z.1).map λr=>(r,z.2)
def Jw(j:Cn)(f:Str)(a:Expr):Option Expr:=(sT a).bind λz=>(lG z.2).bind λb=>if (decide (f=("list":Str)) && u6 j z.1 "range")=true then some b else none
def DO(j:Cn)(f:Str)(a:Expr):Option (Expr×Expr):=(sT a).bind λz=>(qg z.2).bind λb=>if (decide (f=("dict":Str)) && u6 j z.1 "zip")=true then some b else none
def Hx(j:Cn)(T:Expr->Tr)(t e:Expr):Option jB:=(sT e).elim ((T e).v.map i5) λz=>if u6 j z.1 "range"=true then (lG z.2).bind λa=>(T a).v.map i6
  else if u6 j z.1 "enumerate"=true then (lG z.2).bind λa=>if (lj t).isSome=true then (T a).v.map lH else none
  else (T e).v.map i5
def Km(N:LS)(s:List (Str×NameKind))(k:List NameKind)(e:Expr):Option kj:=(GA e).bind λx=>if cM s x k=true then (kC N x).map av else none
def D5(N:LS)(s:List (Str×NameKind))(k:List NameKind):Ab->Option (List kj)
 | []=>some []
 |e::r=>(Km N s k e).bind λg=>(D5 N s k r).map λh=>g::h
def Hw(N:LS)(s:List (Str×NameKind))(k:List NameKind)(e:Expr):Option kj:=(lj e).elim (Km N s k e) λh=>(D5 N s k h).map bD
def im(e:Expr):LS:=((lj e).getD [e]).filterMap GA
noncomputable def oR(N:LS):LS->LS
 | []=>[]
 |t::r=>if (N.contains t ||(oR N r).contains t)=true then oR N r else t::oR N r
def Rq(N:LS)(Q:LS):List Nat:=Q.filterMap λt=>kC N t
def i0(j:Cn)(T:Cn->Expr->Tr)(y t iter:Expr)(i:Ab)(E:Scope):Option EV:=
 if (yJ j E (j.N++oR j.N (im t)) (Rq j.N (im t)) (oR j.N (im t)).length && decide (j.N++oR j.N (im t)).Nodup)=true then
  (Hw (j.N++oR j.N (im t)) (sm E.names j.ks) [.local] t).bind λg=>
   (match i with | []=>some iz | [c]=>(T ⟨j.N++oR j.N (im t),j.own.filter (λx=>!(im t).contains x),[],j.refs,sm E.names j.ks,j.F,j.G,j.A,j.M,j.I,none⟩ c).b|_=>none).bind λc=>
   (T ⟨j.N++oR j.N (im t),j.own.filter (λx=>!(im t).contains x),[],j.refs,sm E.names j.ks,j.F,j.G,j.A,j.M,j.I,none⟩ y).v.bind λe=>
   (Hx j (T j) t iter).map λh=>cx h (Rq j.N (im t)) (oR j.N (im t)).length g c e
 else none
def sI(j:Cn):Nat->Expr->Bool
 |0,_=>false
 |n+1,e=>(GA e).any (j.own.contains ·) ||(QD e).any (λz=>sI j n z.1) ||(OZ e).any (λz=>sI j n z.1) ||(R5 e).any λz=>decide (z.1.2.1=("setdefault":Str)) && sI j n z.1.1
def Jp(a:Ab):Option Expr:=(qg a).bind λz=>(Fz z.2).bind λe=>if e.isEmpty=true then some z.1 else none
def yk(e:Expr):Bool:=[20,21,23].contains e.ctorIdx ||(R5 e).isSome
def LU(e:Expr):Bool:=(GA e).any (QZ.contains ·)
noncomputable def f_(e:Expr):Bool:=e.ctorIdx == 8
def MD(j:Cn)(o:Option EE)(os:Expr)(m:Str)(s:List (Option EE))(p c:Pos):Tr:=
 if (yk os && (p.endLine == c.line) && decide (s.length < 29))=true then .ofE (o.bind λx=>(Cm s).map λa=>dQ j.M x m a) else {}
def Ly(j:Cn)(o:Expr)(m:Str)(n:Str)(a c:Pos):Bool:=decide (m=n) && sI j 4 o && yk o && (a.endLine == c.line)
def SD(a:Ab):Option (Expr×Str):=(qg a).bind λz=>(GA z.2).map λt=>(z.1,t)
def MQ(s:List Comprehension):Option (Expr×Expr×Ab):=(lG s).bind λg=>if g.is_async=0 then some (g.target,g.iter,g.ifs) else none
def RJ(j:Cn)(T:Expr->Tr)(f:Str)(s:Ab):Tr:=if (cM j.ks f [.globalImplicit] && i4 f && !s.isEmpty)=true then
  (j.I f).elim ((j.F f).elim
   ((lG s).elim
    ((SD s).elim {} λz=>if (decide (f=("isinstance":Str)) && cM j.ks z.2 [.globalImplicit])=true then (Fx z.2).elim {} (λt=>.ofV ((T z.1).e.map λx=>oh t x)) else {})
    λa=>if f=("len":Str) then .ofV ((T a).e.map eG) else if f=("sorted":Str) then .ofV ((T a).e.map DY) else
     (Jw j f a).elim ((DO j f a).elim (.ofV ((Gh f).bind λg=>(qk [(T a).v]).map λx=>cQ g x)) λz=>.ofE ((T z.1).v.bind λx=>(T z.2).v.map λy=>yz x y)) λb=>.ofV ((T b).v.map Nl))
   λg=>if j.refs.contains f=true then .ofV ((Cm (s.map λx=>(T x).e)).map λa=>fx g a) else .ofV ((qk (s.map λx=>(T x).v)).map λa=>cQ (cI g) a))
  λg=>.ofE ((Cm (s.map λx=>(T x).e)).map λa=>qZ g f a)
 else if (cM j.ks f [.local] && i4 f)=true then (lG s).elim {} λa=>.ofV (j.L.bind λg=>(kC j.N f).bind λi=>(T a).v.map λx=>qf g i x) else {}
def RK(j:Cn)(T:Expr->Tr)(o:Expr)(m:Str)(p:Pos)(s:Ab)(c:Pos):Tr:=(lG s).elim
  (if (Ly j o m "clear" p c && s.isEmpty)=true then .ofE ((T o).e.map vn) else if (decide (m=("get":Str)) && yk o && (p.endLine == c.line))=true then (qg s).elim {} (fun z=>.ofV ((T o).v.bind fun x=>(T z.1).v.bind fun y=>(T z.2).v.map fun z=>D0 x y z)) else
   (Jp s).elim (MD j (T o).e o m (s.map λx=>(T x).e) p c) λa=>if Ly j o m "setdefault" p c=true then .ofE ((T o).e.bind λx=>(T a).v.map λy=>mZ x y (dG aR)) else MD j (T o).e o m (s.map λx=>(T x).e) p c)
  λa=>if Ly j o m "append" p c=true then .ofE ((T o).e.bind λx=>(T a).e.map λy=>bM x y) else
   if Ly j o m "extend" p c=true then .ofE ((T o).e.bind λx=>(T a).v.map λy=>fR x y) else
   if (decide (m=("index":Str)) && yk o && (p.endLine == c.line))=true then .ofV ((T o).v.bind λx=>(T a).v.map λy=>xK x y) else
   (lj a).elim (MD j (T o).e o m (s.map λx=>(T x).e) p c) λe=>if Ly j o m "get" p c=true then .ofE ((T o).e.bind λx=>(qk (e.map λz=>(T z).v)).map λy=>sL x y) else MD j (T o).e o m (s.map λx=>(T x).e) p c
def Sk(j:Cn)(T:Expr->Tr)(d:Cn->Expr->Tr)(e:Expr):Tr:=match e with
  | .Constant c _ _=>match c with
   | .int i=>.ofV (some (vC (.int i)))
   | .bool i=>.ofV (some (vC (.bl i)))
   | .none=>.ofV (some (vC .non))
   | .str i=>.ofV (some (vC (.str i)))
   |_=>{}
  | .Name x _=>if (cM j.ks x [.local,.cell,.free] && i4 x)=true then .ofE ((kC j.N x).map aj) else
    if (cM j.ks x [.globalImplicit] && i4 x)=true then .ofV ((j.G x).bind λv=>if FC v=true then none else some (vC v)) else {}
  | .BinOp a p b _=>.ofV ((R1 p).bind λg=>(T a).v.bind λx=>(T b).v.map λh=>kZ g x h)
  | .UnaryOp p a _=>match p with
   | .USub=>.ofV ((T a).v.map (Nj C2))
   | .Not=>.ofB ((T a).b.map vD) ((T a).w.map vD)
   |_=>{}
  | .BoolOp p s _=>.ofB (vS p (s.map λx=>(T x).b)) (vS p (s.map λx=>(T x).w))
  | .Compare a n r _=>(lG n).elim (.ofC ((qg n).bind λo=>(qg r).bind λz=>(MP o.1).bind λg=>(MP o.2).bind λu=>(T a).v.bind λx=>(T z.1).v.bind λh=>(T z.2).v.map λz=>nH g u x h z))
    λp=>(lG r).elim {} λb=>(MP p).elim (.ofC ((Gb (LU b) p).bind λg=>(T a).e.bind λx=>(T b).e.map λh=>dH g x h)) λg=>.ofC ((T a).v.bind λx=>(T b).v.map λh=>kZ g x h)
  | .IfExp c a b _=>{ Tr.ofV ((T c).b.bind λq=>(T a).v.bind λx=>(T b).v.map λh=>Nm q x h) with b:=none }
  | .Tuple s _ _=>.ofV ((qk (s.map λx=>(T x).v)).map aK)
  | .List s _=>.ofV ((qk (s.map λx=>(T x).v)).map bu)
  | .Dict k H _=>if (k.isEmpty && H.isEmpty)=true then { e:=some oB,v:=some (vE oB) } else {}
  | .Subscript a i _=>(RN i).elim (if sI j 4 a=true then (lj i).elim (.ofE ((T a).e.bind λx=>(T i).v.map λh=>lu x h)) λs=>.ofE ((T a).e.bind λx=>(qk (s.map λz=>(T z).v)).map λh=>wS x h) else .ofV ((T a).v.bind λx=>(T i).v.map λh=>kZ rh x h))
    λz=>if z.2.2.isSome=true then {} else if sI j 4 a=true then .ofV ((T a).e.bind λx=>(Np (z.1.map λh=>(T h).v)).bind λh=>(Np (z.2.1.map λz=>(T z).v)).map λz=>DZ x h z) else .ofV ((T a).v.bind λx=>(Np (z.1.map λh=>(T h).v)).bind λh=>(Np (z.2.1.map λz=>(T z).v)).map λz=>qe x h z)
  | .Call t m k w=>if k.isEmpty=true then (GA t).elim ((OZ t).elim {} λz=>RK j T z.1 z.2.1 z.2.2 m w) (λf=>RJ j T f m) else {}
  | .Attribute o f _=>if yk o=true then .ofE ((T o).e.map λx=>dR j.A x f) else {}
  | .ListComp y l E _=>(MQ l).elim {} λz=>.ofV (i0 j d y z.1 z.2.1 z.2.2 E)
  |_=>{}
def tr(j:Cn):Nat->Expr->Tr
 |0,_=>{}
 |n+1,e=>Sk j (λx=>tr j n x) (λh x=>tr h n x) e
def LG(e:Expr):Bool:=match e with
 | .Lambda ⟨[],[⟨x,none,_⟩],none,[],[],none,[]⟩ (.Call (.Name g _) [.Name r _,.Name y _] [] _) sc p=>decide (x=Str.ofString "standing") && decide (g=Str.ofString "ends_on") && decide (r=Str.ofString "board") && decide (y=Str.ofString "standing") && decide (sc=oN) && decide (p=uZ)
 |_=>false
theorem Iz(h:LG e=true):∃p x a s n,e=.Lambda (wB p) (u0 x a s n) oN uZ:=by
 unfold LG at h;split at h
 .simp only[ar,t8]at h;obtain⟨⟨⟨⟨⟨rfl,rfl⟩,rfl⟩,rfl⟩,rfl⟩,rfl⟩:=h;exact⟨_,_,_,_,_,rfl⟩
 .cases h
def LI(j:Cn)(a:Ab):Option Expr:=(qg a).bind λz=>if (LG z.2 && j.deep.contains (Str.ofString "<lambda>") && cM j.ks (Str.ofString "board") [.cell])=true then some z.1 else none
def Nq(j:Cn)(n _k:Nat)(e:Expr):Option EE:=(sT e).elim (tr j n e).e λz=>if (cM j.ks z.1 [.globalImplicit] && i4 z.1 && !z.2.isEmpty && j.deep.contains z.1)=true then
   (j.F z.1).elim (tr j n e).e λg=>(LI j z.2).elim (if j.own.contains z.1=true then (qk (z.2.map λx=>(tr j n x).v)).map λa=>rc g a else (Cm (z.2.map λx=>(tr j n x).e)).map λa=>gM g a) λa=>(kC j.N (Str.ofString "board")).bind λi=>(tr j n a).v.map λx=>vo g i x
  else (tr j n e).e
def O_(j:Cn)(n k:Nat)(e:Expr):Option EE:=Nq j n k e
structure XOk(Γ:Cn)(X:Cx):Prop where
 hN:X.N=Γ.N
 nd:X.N.Nodup
 ks:X.e.scope.names=Γ.ks
 kd:X.e.scope.kind=.function
 calm:X.c=true
 hu:X.A.units+64 < cLine
 fns:∀x g,Γ.F x=some g->∃k f fd ps,FnOk X.p X.w X.K X.g X.b og k f fd ps (mI X.K g)/\Room k X.A/\X.g x=some (.ref f)/\dD X.K (.ref f)=true/\Binds X.K fd ps []
 blt:∀x ∈ Jc,X.g x=none
 glb:∀x v,Γ.G x=some v->nu X.w X.K X.g x v
 attrs:PV X.K Γ.A
 meths:PP X Γ.M
 mks:∀c g,Γ.I c=some g->∃C k f fd ps,kg X.K c C/\X.g c=some (.ref C)/\Mk X.K C f/\FnOk X.p X.w X.K X.g X.b og k f fd ps (mI X.K g)/\Room (k+1) X.A/\Binds X.K fd ps (if L7.contains c=true then [.none] else [])
 lam:Γ.deep.contains (Str.ofString "<lambda>")=true->JL X/\∀x,X.fn x=true
 lmf:∀g,Γ.L=some g->∃k f fd ps,FnOk X.p X.w X.K X.g X.b og k f fd ps (mI X.K g)/\Room (k+1) X.A/\X.g "ends_on"=some (.ref f)/\dD X.K (.ref f)=true/\Binds X.K fd ps []
structure Good(X:Cx)(ex:Expr)(t:Tr):Prop where
 v:∀f,t.v=some f->Y X ex (tV X.K f)
 e:∀f,t.e=some f->Y X ex (tE X.K f)
 b:∀f,t.b=some f->PT X ex (tQ X.K f)
 w:∀f,t.w=some f->Y X ex (tV X.K (vB f))
section
variable{X:Cx}{e:Expr}
theorem Good.no:Good X e {}:=⟨λ_ h=>(by cases h),λ_ h=>(by cases h),λ_ h=>(by cases h),λ_ h=>(by cases h)⟩
theorem Good.el{B:Type}{o:Option B}{b:Tr}{f:B->Tr}(h:∀a,o=some a->Good X e (f a))(x:o=none->Good X e b):Good X e (o.elim b f):=by
 cases o with
 |none=>exact x rfl
 |some a=>exact h a rfl
theorem Good.ite{c:Prop}[Decidable c]{a b:Tr}(h:c->Good X e a)(x:Good X e b):Good X e (if c then a else b):=by
 by_cases q:c
 .rw [ac q];exact h q
 .rw [af q];exact x
def Gx(e:Expr):Prop:=∀env w,isTrue e env w=(do let v <- w;standAt e.pos;holding [v] (truthy v))
theorem Good.ofV{t:Option EV}(h:∀f,t=some f->Y X e (tV X.K f))(p:Gx e):Good X e (.ofV t) where
 v:=h
 e:=λf q=>by
  cases t with
  |none=>cases q
  |some g=>cases q;exact MA (h _ rfl)
 b:=λf q=>by
  cases t with
  |none=>cases q
  |some g=>cases q;exact yT (MA (h _ rfl)) (p _)
 w:=λf q=>by
  cases t with
  |none=>cases q
  |some g=>cases q;exact A7 (h _ rfl)
theorem Good.ofC{t:Option EV}(h:∀f,t=some f->Y X e (tV X.K f))(x:∀f,t=some f->PT X e (tQ X.K (bV f))):Good X e (.ofC t) where
 v:=h
 e:=λf q=>by
  cases t with
  |none=>cases q
  |some g=>cases q;exact MA (h _ rfl)
 b:=λf q=>by
  cases t with
  |none=>cases q
  |some g=>cases q;exact x _ rfl
 w:=λf q=>by
  cases t with
  |none=>cases q
  |some g=>cases q;exact A7 (h _ rfl)
theorem Good.ofE{t:Option EE}(h:∀f,t=some f->Y X e (tE X.K f))(p:Gx e):Good X e (.ofE t) where
 v:=λf q=>by
  cases t with
  |none=>cases q
  |some g=>cases q;exact P8 (h _ rfl)
 e:=h
 b:=λf q=>by
  cases t with
  |none=>cases q
  |some g=>cases q;exact yT (h _ rfl) (p _)
 w:=λf q=>by
  cases t with
  |none=>cases q
  |some g=>cases q;exact A7 (P8 (h _ rfl))
theorem Good.ofB{b w:Option EB}(h:∀f,b=some f->PT X e (tQ X.K f))(hw:∀f,w=some f->Y X e (tV X.K (vB f))):Good X e (.ofB b w) where
 v:=λf q=>by
  cases w with
  |none=>cases q
  |some g=>cases q;exact hw _ rfl
 e:=λf q=>by
  cases w with
  |none=>cases q
  |some g=>cases q;exact MA (hw _ rfl)
 b:=h
 w:=hw
end
theorem jo{B x:Type}{o:Option B}{b r:x}{f:B->x}(h:o.elim b f=r):(∃a,o=some a/\f a=r)\/(o=none/\b=r):=by
 cases o with
 |none=>exact .inr ⟨rfl,h⟩
 |some a=>exact .inl ⟨a,rfl,h⟩
def fW(e:Expr):Prop:=∀s env,starEach (e::s) env=(false,eval e env)::starEach s env
structure RdE(e:Expr):Prop where
 st:fW e
 ix:nr e
 mr:∀op,behindInMarks op e=false
 ms:∀op op' b,lastMarks [op,op'] [b,e]=false
 ps:rG e
 sw:f_ e=false->∀t l env,swapsWith e t l env=pure false
 fs:∀env x,foldedSetIterable e env x=pure x
theorem rd_of{j:Cn}{n:Nat}{e:Expr}(h:(tr j n e).v.isSome=true\/(tr j n e).e.isSome=true):RdE e:=by
 cases n with
 |zero=>rcases h with h|h<;>cases h
 |succ n=>cases e<;>first|(rcases h with h|h<;>cases h;done)|exact⟨λ_ _=>rfl,λ_ _=>rfl,λ_=>rfl,λ_ _ _=>rfl,λ_ _ _ _=>rfl,λc _ _ _=>(by first|rfl|cases c),λ_ _=>rfl⟩
theorem hX{j:Cn}{n:Nat}{e:Expr}{f:EV}(h:(tr j n e).v=some f):RdE e:=rd_of (.inl (by rw[h];rfl))
theorem qE{j:Cn}{n:Nat}{e:Expr}{f:EE}(h:(tr j n e).e=some f):RdE e:=rd_of (.inr (by rw[h];rfl))
variable{env:Env}{u:Pos}
theorem iV(h:∀e ∈ s,fW e):(backTo u (starEach s env)).any (·.1)=false:=by
 induction s with
 |nil=>rfl
 |cons e s i=>
  rw[h e aH s env];have:=i λx a=>h x (aG _ a)
  unfold backTo at this ⊢;rw[az,dv,this];rfl
section
variable{j:Cn}{X:Cx}(h:XOk j X)
include h
theorem XOk.gl(q:cM j.ks x [.globalImplicit]=true):Gl X x:=by
 unfold Gl Env.kindOf;rw[h.ks];unfold cM at q;cases e:j.ks.lookup x with
 |none=>rw[e]at q;cases q
 |some k=>rw[e]at q;cases k<;>first|rfl|cases q
theorem XOk.vis(q:cM j.ks x [.local,.cell,.free]=true):Jh X.e.scope x:=by
 unfold Jh;rw[h.ks];unfold cM at q;cases e:j.ks.lookup x with
 |none=>rw[e]at q;cases q
 |some k=>rw[e]at q;cases k<;>first|exact .inl rfl|exact .inr (.inl rfl)|exact .inr (.inr rfl)|cases q
theorem XOk.loc(q:cM j.ks x [.local,.cell]=true):L2.Loc X.e.scope x:=by
 unfold L2.Loc;rw[h.ks];unfold cM at q;cases e:j.ks.lookup x with
 |none=>rw[e]at q;cases q
 |some k=>rw[e]at q;cases k<;>first|exact .inl rfl|exact .inr rfl|cases q
theorem XOk.local(q:cM j.ks x [.local]=true):X.e.scope.names.lookup x=some .local:=by
 rw[h.ks];unfold cM at q;cases e:j.ks.lookup x with
 |none=>rw[e]at q;cases q
 |some k=>rw[e]at q;cases k<;>first|rfl|cases q
omit h in
theorem dg{x:Str}(q:i4 x=true):(x == ("__debug__":Str))=false/\(x == ("__classdict__":Str))=false:=by unfold i4 at q;rw[ar]at q;exact⟨by simpa using q.1,by simpa using q.2⟩
theorem XOk.get(q:kC j.N x=some i):X.N[i]? = some x:=by rw[h.hN];exact qM q
omit h in
theorem gq{j:Cn}{n:Nat}:∀{s:Ab}{k:jB},(∀e ∈ s,Good X e (tr j n e))->qk (s.map λx=>(tr j n x).v)=some k->PA X s (qm X.K k)/\∀e ∈ s,fW e
 | [],k,_,q=>by cases q;exact⟨Jf,λ_ z=>by cases z⟩
 |e::s,k,g,q=>by
  obtain⟨f,b,p⟩:=am q;obtain⟨r,v,rfl⟩:=aA p;obtain⟨m,t⟩:=gq (λx a=>g x (aG _ a)) v;have b:(tr j n e).v=some f:=b;have c:fW e:=(hX b).st;refine⟨Gw ((g e aH).v f b) m (c _ _),λx a=>?_⟩;rcases aN.mp a with a|a
  .subst a;exact c
  .exact t x a
omit h in
theorem mH{j:Cn}{n:Nat}:∀{s:Ab}{k:sf},(∀e ∈ s,Good X e (tr j n e))->Cm (s.map λx=>(tr j n x).e)=some k->PA X s (Co X.K k)/\∀e ∈ s,fW e
 | [],k,_,q=>by cases q;exact⟨OG,λ_ z=>by cases z⟩
 |e::s,k,g,q=>by
  obtain⟨f,b,p⟩:=am q;obtain⟨r,v,rfl⟩:=aA p;obtain⟨m,t⟩:=mH (λx a=>g x (aG _ a)) v;have b:(tr j n e).e=some f:=b;have c:fW e:=(qE b).st;refine⟨L8 ((g e aH).e f b) m (c _ _),λx a=>?_⟩;rcases aN.mp a with a|a
  .subst a;exact c
  .exact t x a
omit h in
theorem vQ{o:BoolOp}{u:Pos}{j:Cn}{n:Nat}:∀{s:Ab}{f:EB},(∀e ∈ s,Good X e (tr j n e))->vS o (s.map λx=>(tr j n x).b)=some f->PW X (.BoolOp o s u) (tQ X.K f)
 | [],f,_,q=>by cases q
 | [a],f,g,q=>by
  cases o with
  |And=>exact M5 ((g a aH).b f q)
  |Or=>exact P4 ((g a aH).b f q)
 |a::b::s,f,g,q=>by
  obtain⟨x,k,m⟩:=am q;obtain⟨r,t,rfl⟩:=aA m;have i:=vQ (s:=b::s) (u:=u) (λx c=>g x (aG _ c)) t;cases o with
  |And=>exact P7 ((g a aH).b x k) i
  |Or=>exact Sc ((g a aH).b x k) i
omit h in
theorem vR{o:BoolOp}{u:Pos}{j:Cn}{n:Nat}:∀{s:Ab}{f:EB},(∀e ∈ s,Good X e (tr j n e))->vS o (s.map λx=>(tr j n x).w)=some f->Y X (.BoolOp o s u) (tV X.K (vB f))
 | [],f,_,q=>by cases q
 | [a],f,g,q=>Nf ((g a aH).w f q)
 |a::b::s,f,g,q=>by
  obtain⟨x,k,m⟩:=am q;obtain⟨r,t,rfl⟩:=aA m;have i:=vR (s:=b::s) (u:=u) (λx c=>g x (aG _ c)) t;cases o with
  |And=>exact Ql ((g a aH).w x k) i
  |Or=>exact Sd ((g a aH).w x k) i
omit h in
theorem uH{j:Cn}{n:Nat}{o:Option Expr}{f:EO}(g:∀e,Good X e (tr j n e))(q:Np (o.map λy=>(tr j n y).v)=some f):PO X o (tO X.K f):=by
 cases o with
 |none=>cases q;exact Lv
 |some e=>obtain⟨x,a,rfl⟩:=aA (show((tr j n e).v).map gS=some f from q);exact Lu ((g e).v x a)
theorem Mm{o:Operator}{g:P->P->Option P}(q:R1 o=some g):oU X (binaryOp o) g:=by cases o<;>first|(cases q;exact Ln)|(cases q;exact NX)|(cases q;exact Lm)|(cases q;exact Ij)|(cases q;exact N1)|(cases q;exact NY)|cases q
omit h in
theorem nX{o:CmpOp}{g:P->P->Option P}(q:MP o=some g):oU X (compareOp o) g:=by cases o<;>first|(cases q;exact QS)|(cases q;exact QT)|(cases q;exact QU)|(cases q;exact QV)|cases q
theorem IX{o:CmpOp}{g:D->D->U->Option P}(q:OQ o=some g):i_ X (compareOp o) (rE X.K g):=by cases o<;>first|(cases q;exact N7 h.hu)|(cases q;exact NZ h.hu)|(cases q;exact N5 h.hu)|(cases q;exact N3)|(cases q;exact E4)|cases q
theorem wW(q:Gb k p=some g):i_ X (compareOp p) (rE X.K g):=by
 cases k
 .exact IX h q
 .cases p<;>first|(cases q;exact E2 h.hu)|cases q
theorem I_{f:Str}{g:GF}{a:Expr}{s:Ab}{x:jB}{b u:Pos}(t:j.F f=some g)(hk:cM j.ks f [.globalImplicit]=true)(v:i4 f=true)(c:PA X (a::s) (qm X.K x))(n:∀e ∈ a::s,fW e) :
  Y X (.Call (.Name f b) (a::s) [] u) (tV X.K (cQ (cI g) x)):=by
 obtain⟨k,w,i,l,G,d,q,p,m⟩:=h.fns f g t;exact Nd (FnOk.pure G) d (h.gl hk) q p m c (dg v).1 (n a aH _ _) (iV λe r=>n e (aG _ r))
theorem w8{f:Str}{g:GF}{a:Expr}{s:Ab}{x:sf}{c u:Pos}(d:j.F f=some g)(hk:cM j.ks f [.globalImplicit]=true)(q:i4 f=true)(m:PA X (a::s) (Co X.K x))(n:∀e ∈ a::s,fW e) :
  Y X (.Call (.Name f c) (a::s) [] u) (tV X.K (fx g x))/\Y X (.Call (.Name f c) (a::s) [] u) (tE X.K (gM g x)):=by
 obtain⟨k,w,i,l,G,v,t,p,r⟩:=h.fns f g d;exact⟨Hj G v (h.gl hk) t p r m (dg q).1 (n a aH _ _) (iV fun e b=>n e (aG _ b)),
  Kc G v (h.gl hk) t p r m (dg q).1 (n a aH _ _) (iV λe b=>n e (aG _ b))⟩
theorem Mn{f:Str}{g:List P->Option P}{a:Expr}{n:Ab}{b:jB}{m u:Pos}(x:Gh f=some g)(hk:cM j.ks f [.globalImplicit]=true)(k:PA X (a::n) (qm X.K b))(c:∀e ∈ a::n,fW e) :
  Y X (.Call (.Name f m) (a::n) [] u) (tV X.K (cQ g b)):=by
 have s:=c a aH n X.e;have p:=iV (env:=X.e) (u:=u) λe s=>c e (aG _ s);unfold Gh at x;split at x
 .rename_i e;subst e;cases x;exact JW (h.gl hk) (h.blt _ (by decide)) k s p
 split at x
 .rename_i e;subst e;cases x;exact JV (h.gl hk) (h.blt _ (by decide)) k s p
 split at x
 .rename_i e;subst e;cases x;exact Hh (h.gl hk) (h.blt _ (by decide)) k s p
 split at x
 .rename_i e;subst e;cases x;exact M7 (h.gl hk) (h.blt _ (by decide)) k s p
 .cases x
theorem LR{t:Str}{T:String}{a:Expr}{f:EE}{b p u:Pos}(x:Fx t=some T)(hk:cM j.ks ("isinstance":Str) [.globalImplicit]=true)(k:cM j.ks t [.globalImplicit]=true)(s:Y X a (tE X.K f))(c:fW a) :
  Y X (.Call (.Name "isinstance" b) [a,.Name t p] [] u) (tV X.K (oh T f)):=by
 have n:starEach [a,.Name t p] X.e=[(false,eval a X.e),(false,eval (.Name t p) X.e)]:=by rw[c];rfl
 have m:=h.blt ("isinstance":Str) (by decide);unfold Fx at x;split at x
 .rename_i e;subst e;cases x;exact DR (.inl rfl) (h.gl hk) m (h.gl k) (h.blt _ (by decide)) tP s (by decide) (by decide) n
 split at x
 .rename_i e;subst e;cases x;exact DR (.inr (.inl rfl)) (h.gl hk) m (h.gl k) (h.blt _ (by decide)) G_ s (by decide) (by decide) n
 split at x
 .rename_i e;subst e;cases x;exact DR (.inr (.inr rfl)) (h.gl hk) m (h.gl k) (h.blt _ (by decide)) zD s (by decide) (by decide) n
 .cases x
omit h in
theorem mR{f g:Str}(q:u6 j f g=true):f=g/\cM j.ks f [.globalImplicit]=true:=by unfold u6 at q;rw[ar]at q;exact⟨aJ q.1,q.2⟩
theorem Jx{n:Nat}{m e:Expr}{f:jB}(g:∀x,Good X x (tr j n x))(q:Hx j (λx=>tr j n x) m e=some f):PI X m e (tI X.K f):=by
 have plain:((tr j n e).v.map i5=some f)->PI X m e (tI X.K f):=λq=>by obtain⟨x,s,rfl⟩:=aA q;exact iS ((g e).v x s)
 have d:=jo q;clear q;rcases d with ⟨⟨i,v⟩,z,q⟩|⟨_,q⟩
 .obtain⟨l,u,rfl⟩:=jw z;dsimp only at q;split at q
  .rename_i r;obtain⟨rfl,r⟩:=mR r;obtain⟨a,b,k⟩:=am q;clear q;cases d4 b;obtain⟨x,s,rfl⟩:=aA k;exact SJ (h.gl r) (h.blt ("range":Str) (by decide)) ((g a).v x s) ((hX s).st _ _)
  .split at q
   .rename_i r;obtain⟨rfl,r⟩:=mR r;obtain⟨a,b,k⟩:=am q;clear q;cases d4 b;split at k
    .rename_i t;obtain⟨x,s,rfl⟩:=aA k;obtain⟨w,t⟩:=tM.mp t;obtain⟨c,p,rfl⟩:=jb t;exact SK (h.gl r) (h.blt ("enumerate":Str) (by decide)) ((g a).v x s) ((hX s).st _ _)
    .cases k
   .exact plain q
 .exact plain q
omit h in
theorem B'{f:Str}{a b c:Expr}(q:DO j f a=some (b,c)):f="dict"/\∃r p x,a=.Call (.Name r p) [b,c] [] x/\u6 j r "zip"=true:=by
 obtain⟨⟨r,m⟩,z,n⟩:=am q;obtain⟨⟨t,v⟩,k,s⟩:=am n;clear q n;obtain⟨p,x,rfl⟩:=jw z;cases jR k;split at s
 .rename_i e;cases s;simp only[ar]at e;exact⟨aJ e.1,r,p,x,rfl,e.2⟩
 .cases s
omit h in
theorem Ff{f:Str}{a b:Expr}(q:Jw j f a=some b):f="list"/\∃r p c,a=.Call (.Name r p) [b] [] c/\u6 j r "range"=true:=by
 obtain⟨⟨r,m⟩,z,s⟩:=am q;obtain⟨t,k,e⟩:=am s;clear q s;obtain⟨p,n,rfl⟩:=jw z;cases d4 k;split at e
 .rename_i x;cases e;simp only[ar]at x;exact⟨aJ x.1,r,p,n,rfl,x.2⟩
 .cases e
omit h in
theorem wE{n:Nat}{t e:Expr}{f:jB}(q:Hx j (λx=>tr j n x) t e=some f)(env:Env)(x:Value):foldedSetIterable e env x=pure x:=by
 have s:=jo q;clear q;rcases s with ⟨⟨b,a⟩,z,q⟩|⟨_,q⟩
 .obtain⟨p,u,rfl⟩:=jw z;rfl
 .obtain⟨x,k,rfl⟩:=aA q;exact(hX k).fs _ _
theorem Gj(q:yJ j E o Q n=true):BlockOk X E o Q n:=by
 unfold yJ at q;simp only[ar]at q;obtain⟨⟨⟨⟨⟨⟨f,b⟩,c⟩,m⟩,r⟩,p⟩,v⟩:=q;have s:j.N=o.take j.N.length:=aJ r;refine⟨aJ f,λx a=>?_,λx a l=>?_,λx a l=>?_,?_,?_,λx a l i k=>?_⟩
 .simpa using a_.mp b x a
 .have:=a_.mp c x a;rw[l]at this;simpa using this
 .have:=a_.mp m x a;rw[l]at this;have t:E.names.lookup x.1=some .free/\(j.ks.lookup x.1=some .cell\/j.ks.lookup x.1=some .free):=by simpa using this
  refine⟨t.1,?_⟩;unfold Env.kindOf;rw[h.ks];exact t.2
 .rw [h.hN];exact s
 .rw [h.hN];exact aJ p
 .have:=a_.mp v x a;rw[l]at this;have e:kC j.N x.1=some i:=oq (by rw[<- h.hN];exact h.nd) (by rw[<- h.hN];exact k);rw[e]at this;simpa using this
end
theorem Ju{X:Cx}{N:LS}{s:List (Str×NameKind)}{k:List NameKind}{e:Expr}{g:kj}(f:X.N=N)(d:X.N.Nodup)(hk:∀x,cM s x k=true->L2.Loc X.e.scope x/\(X.fn x=true\/X.e.scope.names.lookup x=some .local))(q:Km N s k e=some g):∃x p,e=.Name x p/\PG X (.Name x p) (gT X.K g):=by
 obtain⟨x,b,h⟩:=am q;clear q;obtain⟨p,rfl⟩:=nR b;split at h
 .rename_i c;obtain⟨i,m,rfl⟩:=aA h;obtain⟨a,n⟩:=hk _ c;exact⟨x,p,rfl,L0 i d (by rw[f];exact qM m) a n⟩
 .cases h
theorem tg_ok{X:Cx}{N:LS}{n:List (Str×NameKind)}{k:List NameKind}{e:Expr}{g:kj}(t:X.c=true)(b:X.N=N)(d:X.N.Nodup)(hk:∀x,cM n x k=true->L2.Loc X.e.scope x/\(X.fn x=true\/X.e.scope.names.lookup x=some .local))(q:Hw N n k e=some g):PG X e (gT X.K g):=by
 have all:∀{s:Ab}{h:List kj},D5 N n k s=some h->GsOk X s h:=by
  intro s;induction s with
  |nil=>intro h q;cases q;exact .nil
  |cons e s i=>intro h q;obtain⟨g,f,m⟩:=am q;obtain⟨r,w,rfl⟩:=aA m;clear q m;obtain⟨x,p,rfl,a⟩:=Ju b d hk f;exact .cons a (i w)
 have v:=jo q;clear q;rcases v with ⟨s,z,q⟩|⟨_,q⟩
 .obtain⟨c,p,rfl⟩:=jb z;obtain⟨h,f,rfl⟩:=aA q;exact LZ t (all f)
 .obtain⟨x,p,rfl,a⟩:=Ju b d hk q;exact a
variable{E:Scope}
theorem Ep(hk:env.scope.kind=.function):(relabel E env).names=sm E.names env.scope.names:=by unfold relabel sm Env.kindOf;rw[hk];simp
variable{j:Cn}{X:Cx}{o:LS}{Q:List Nat}{n:Nat}
theorem XOk.inn(h:XOk j X)(B:BlockOk X E o Q n)(d:o.Nodup)(s:Shared)(H:Hp)(C:Addr)(f:List Addr) :
  XOk ⟨o,[],[],j.refs,sm E.names j.ks,j.F,j.G,j.A,j.M,j.I,none⟩ (Ev.inn X E o s H C f) where
 hN:=rfl
 nd:=d
 ks:=by show(relabel E X.e).names=_;rw[Ep h.kd,h.ks]
 kd:=B.kind
 calm:=h.calm
 hu:=h.hu
 fns:=h.fns
 blt:=h.blt
 glb:=h.glb
 attrs:=h.attrs
 meths:=h.meths
 mks:=h.mks
 lam:=λz=>by cases z
 lmf:=λg z=>by cases z
theorem j1(B:BlockOk X E o Q n)(I:Inv X m J H s):closureFor E X.e=pure (lN E X.e):=by
 have all:∀x ∈ E.names,x.2=.free->∃c,X.e.cells.lookup x.1=some c:=λx v h=>I.o.has x.1 (B.fr x v h).2;unfold closureFor lN;have f:∀(l:List (Str×NameKind))(a:List (Str×Addr)),(∀x ∈ l,x.2=.free->∃c,X.e.cells.lookup x.1=some c) ->
   (forIn l a fun (x:Str×NameKind) (r:List (Str×Addr))=>(do
    if x.2 == .free then do
     let c <- cellOf X.e x.1
     pure (ForInStep.yield ((x.1,c)::r))
    else pure (ForInStep.yield r):Sem (ForInStep (List (Str×Addr)))))=pure ((((l.filter λx=>x.2 == .free).map λx=>(x.1,(X.e.cells.lookup x.1).getD 0)).reverse)++a):=by
  intro l;induction l with
  |nil=>intro a _;rfl
  |cons x l i=>
   intro a h;rw[iH];by_cases hk:(x.2 == NameKind.free)=true
   .obtain⟨c,b⟩:=h x aH (by simpa using hk);rw[ac hk,um (p:=λ(x:Str×NameKind)=>x.2 == .free) hk,az,List.reverse_cons,fK];have q:cellOf X.e x.1=pure c:=by unfold cellOf;rw[b]
    rw[q,b];show(forIn l ((x.1,c)::a) _:Sem _)=_;rw[i ((x.1,c)::a) λy e=>h y (aG _ e)];rfl
   .rw [af hk,ul (p:=λ(x:Str×NameKind)=>x.2 == .free) hk];show(forIn l a _:Sem _)=_;rw[i a λy e=>h y (aG _ e)]
 have k:=f E.names [] all;rw [cP] at k;show (Bind.bind (forIn E.names [] fun (x:Str×NameKind) (r:List (Str×Addr))=>(do
    if x.2 == .free then do
     let c <- cellOf X.e x.1
     pure (ForInStep.yield ((x.1,c)::r))
    else pure (ForInStep.yield r):Sem (ForInStep (List (Str×Addr))))) λt=>pure t:Sem (List (Str×Addr)))=_
 rw[k];rfl
def nv(n:Nat):Prop:=∀(j:Cn)(X:Cx),XOk j X->∀e,Good X e (tr j n e)
theorem XOk.own(h:XOk j X)(o:LS):XOk ⟨j.N,o,j.deep,j.refs,j.ks,j.F,j.G,j.A,j.M,j.I,j.L⟩ X:=⟨h.hN,h.nd,h.ks,h.kd,h.calm,h.hu,h.fns,h.blt,h.glb,h.attrs,h.meths,h.mks,h.lam,h.lmf⟩
theorem kF{j:Cn}{X:Cx}(h:XOk j X){n:Nat}(G:nv n){y t iter:Expr}{k:Ab}{E:Scope}{f:EV}(q:i0 j (λd x=>tr d n x) y t iter k E=some f) :
  ∃o Q m g w u,BlockOk X E o Q m/\rJ X t iter f Q m g w u/\(∀s H C p,PG (inn X E o s H C p) t (gT X.K g))/\(∀s H C p,PIfs (inn X E o s H C p) k w)/\(∀s H C p,Y (inn X E o s H C p) y (tV X.K u)) /\
   ∀x,foldedSetIterable iter X.e x=pure x:=by
 unfold i0 at q;generalize N:j.N++oR j.N (im t)=o at q;generalize K:Rq j.N (im t)=Q at q;generalize D:(oR j.N (im t)).length=m at q;split at q
 .rename_i b;rw[ar]at b;obtain⟨l,P,q⟩:=am q;obtain⟨c,v,q⟩:=am q;obtain⟨e,A,q⟩:=am q;have B:BlockOk X E o Q m:=Gj h b.1;have S:o.Nodup:=aJ b.2;have i:=λs H C p=>(h.inn B S s H C p).own (j.own.filter (λx=>!(im t).contains x))
  have W:rJ X t iter f Q m l c e/\∀x,foldedSetIterable iter X.e x=pure x:=by
   .obtain⟨I,F,rfl⟩:=aA q;exact⟨OR (Jx h (G j X h) F),λx=>wE F _ x⟩
  refine⟨o,Q,m,l,c,e,B,W.1,λs H C p=>?_,λs H C p=>?_,λs H C p=>?_,W.2⟩
  .exact tg_ok h.calm rfl S (λx z=>⟨.inl ((i s H C p).local z),.inr ((i s H C p).local z)⟩) P
  .cases k with
   |nil=>cases v;exact PIfs.none
   |cons a r=>
    cases r with
    |nil=>exact PIfs.one ((G _ _ (i s H C p) a).b c v)
    |cons _ _=>cases v
  .exact (G _ _ (i s H C p) y).v e A
 .cases q
theorem wX{j:Cn}{X:Cx}(h:XOk j X){n:Nat}(G:nv n){y t iter:Expr}{k:Ab}{E:Scope}{u:Pos}{f:EV}(q:i0 j (λr x=>tr r n x) y t iter k E=some f) :
  Y X (.ListComp y [⟨t,iter,k,0⟩] E u) (tV X.K f)/\∀(i:Nat){x:Str}{c e:Pos},X.N.Nodup->swapsWith (.ListComp y [⟨t,iter,k,0⟩] E u) (some (.Name x c)) e.line X.e=pure true->X.N[i]? = some x->L2.Loc X.e.scope x->(X.fn x=true\/X.e.scope.names.lookup x=some .local) ->
   PS X (.Assign [.Name x c] (.ListComp y [⟨t,iter,k,0⟩] E u) e) (kr X.K (aD i (O f))):=by
 obtain⟨o,Q,m,P,F,K,B,W,v,d,w,g⟩:=kF h G q;exact⟨λp s J H a I q=>Nb B h.calm W v d w (j1 B I) g p s J H a I q,λi x c e N S b z l p s J H D I q=>M3 i N B h.calm W v d w (j1 B I) S g b z l p s J H D I q⟩
variable{y:Expr}{f:EV}
theorem sQ(h:XOk j X)(G:nv n)(q:i0 j (λe x=>tr e n x) y t iter i E=some f):Y X (.ListComp y [⟨t,iter,i,0⟩] E u) (tE X.K (q_ f)):=by obtain⟨o,Q,m,g,v,d,B,W,k,b,c,r⟩:=kF h G q;exact λp s J H a I q=>J_ B h.calm W k b c (j1 B I) r p s J H a I q
variable{x:Str}
theorem C7(h:XOk j X)(G:nv n)(q:i0 j (λb x=>tr b n x) y t iter a E=some f)(i:Nat)(z:swapsWith (.ListComp y [⟨t,iter,a,0⟩] E u) (some (.Name x l)) k.line X.e=pure true)
  (e:X.N[i]? = some x) (r:L2.Loc X.e.scope x) (c:X.fn x=true\/X.e.scope.names.lookup x=some .local):PS X (.Assign [.Name x l] (.ListComp y [⟨t,iter,a,0⟩] E u) k) (kr X.K (aD i (q_ f))):=by
 obtain⟨o,Q,m,K,S,F,B,W,v,d,w,g⟩:=kF h G q;exact λp s J H D I q=>JR i h.nd B h.calm W v d w (j1 B I) z g e r c p s J H D I q
theorem Eg{s:Ab}{a:Expr}(h:Jp s=some a):∃p,s=[a,.List [] p]:=by
 obtain⟨⟨c,b⟩,e,f⟩:=am h;obtain⟨m,n,x⟩:=am f;obtain⟨p,rfl⟩:=wG n;split at x
 .rename_i k;cases x;cases mi.mp k;exact⟨p,jR e⟩
 .cases x
theorem qJ{j:Cn}{o:Expr}{m n:Str}{a c:Pos}(h:Ly j o m n a c=true):m=n/\yk o=true/\(a.endLine == c.line)=true:=by unfold Ly at h;simp only[ar]at h;exact⟨aJ h.1.1.1,h.1.2,h.2⟩
theorem cV{o:Expr}{x:Str}{env:Env}(h:yk o=true):attributeBase o x env (eval o env)=eval o env:=by
 cases o with
 |Call f a k p=>
  cases f with
  |Name x q=>cases k<;>cases h
  |_=>rfl
 |_=>rfl
theorem IN(h:∀e ∈ a,fW e)(l:a.length < 29):methodCallForm (a.length+([]:List Keyword).length) (backTo u (starEach a env)) (backToKw u (keywordEach [] env))=true:=by
 unfold methodCallForm;have s:=iV (env:=env) (u:=u) h;have n:(backTo u (starEach a env)).all (λx=>!x.1)=true:=by
  rw[a_];intro x f;cases b:x.1 with
  |false=>rfl
  |true=>have:(backTo u (starEach a env)).any (·.1)=true:=ph.mpr ⟨x,f,b⟩;rw[s]at this;cases this
 rw[n];have k:(backToKw u (keywordEach [] env))=[]:=rfl;rw[k];simp;lia
theorem uI{j:Cn}{X:Cx}(h:XOk j X){n:Nat}(g:∀x,Good X x (tr j n x)){o:Expr}{m:Str}{r:Ab}{p k:Pos}:Good X (.Call (.Attribute o m p) r [] k) (MD j (tr j n o).e o m (r.map λx=>(tr j n x).e) p k):=by
 unfold MD;split
 .rename_i c;simp only[ar]at c;have l:r.length < 29:=by have:=aJ c.2;rwa [aX]at this
  refine .ofE (λf q=>?_) λ_ _=>rfl;obtain⟨x,t,q⟩:=am q;obtain⟨a,v,rfl⟩:=aA q;obtain⟨d,s⟩:=mH (λe _=>g e) v;have b:=Lz (o:=o) (y:=m) (j:=p) (N:=k) (u:=r) (v:=X.e) (cV c.1.1) (IN s l) c.1.2;cases r with
  |nil=>cases v;exact JY h.meths ((g o).e x t) b
  |cons e i=>exact M9 h.meths ((g o).e x t) d (s e aH _ _) (iV λy w=>s y (aG _ w)) b
 .exact .no
theorem Ir{j:Cn}{X:Cx}(h:XOk j X){f:Str}{g:GF}{a:Expr}{s:Ab}{x:sf}{p u:Pos}(t:j.I f=some g)(hk:cM j.ks f [.globalImplicit]=true)(v:i4 f=true)(c:PA X (a::s) (Co X.K x))(n:∀e ∈ a::s,fW e) :
  Y X (.Call (.Name f p) (a::s) [] u) (tE X.K (qZ g f x)):=by
 obtain⟨C,k,l,y,z,b,q,mk,G,d,m⟩:=h.mks f g t;have w:=n a aH s X.e;have i:=iV (env:=X.e) (u:=u) λe r=>n e (aG _ r);exact M_ mk G d (h.gl hk) q b m c (dg v).1 w i
theorem yF{g:List Comprehension}{t iter:Expr}{i:Ab}(h:MQ g=some (t,iter,i)):g=[⟨t,iter,i,0⟩]:=by
 obtain⟨⟨a,b,c,d⟩,x,p⟩:=am h;split at p
 .rename_i hd;cases p;cases (show d=0 from hd);exact d4 x
 .cases p
section
variable{j:Cn}{X:Cx}(h:XOk j X){n:Nat}(g:∀x,Good X x (tr j n x))
include h g
theorem Ko{f:Str}{z:Ab}{I D:Pos}:Good X (.Call (.Name f I) z [] D) (RJ j (λx=>tr j n x) f z):=by
 refine .ite (λs=>?_) (.ite (λs=>.el (λa u=>?_) λ_=>.no) .no);rotate_left
 .rw [ar]at s;cases d4 u;refine .ofV (λf2 q=>?_) λ_ _=>rfl;obtain⟨M,q0,q⟩:=am q;obtain⟨i,m,q⟩:=am q;obtain⟨x,p,rfl⟩:=aA q;obtain⟨k,fe,fd,ps,G,v,N,hk,l⟩:=h.lmf M q0;have Q:Jh X.e.scope f:=by
   unfold Jh;rw[h.ks];have s:=s.1;unfold cM at s;split at s
   .rename_i R E;rw[E];cases R<;>first|exact .inl rfl|cases s
   .cases s
  exact Kf G v N hk l (M8 i (h.get m) Q (dg s.2).1 (dg s.2).2) ((g _).v x p) ((hX p).st _ _)
 simp only[ar,mx]at s;cases z with
 |nil=>cases s.2
 |cons a z=>
 refine .el (λL H=>?_) λ_=>.el (λL H=>.ite (λ_=>?_) ?_) λ_=>.el (λP u=>?_) λ_=>.el (λ⟨P,t⟩ u=>?_) λ_=>.no
 .refine .ofE (λf q=>?_) λ_ _=>rfl;obtain⟨x,m,rfl⟩:=aA q;obtain⟨d,w⟩:=mH (λe _=>g e) m;exact Ir h H s.1.1 s.1.2 d w
 .refine .ofV (λf q=>?_) λ_ _=>rfl;obtain⟨x,m,rfl⟩:=aA q;obtain⟨d,w⟩:=mH (λe _=>g e) m;exact(w8 h H s.1.1 s.1.2 d w).1
 .refine .ofV (λf q=>?_) λ_ _=>rfl;obtain⟨x,m,rfl⟩:=aA q;obtain⟨d,w⟩:=gq (λe _=>g e) m;exact I_ h H s.1.1 s.1.2 d w
 .cases d4 u;refine .ite (λF=>?_) (.ite (λF=>?_) (.el (λb l=>?_) λ_=>.el (λ⟨b,c⟩ l=>?_) λ_=>?_))
  .subst F;refine .ofV (λf q=>?_) λ_ _=>rfl
   obtain⟨x,m,rfl⟩:=aA q;exact Qf (h.gl s.1.1) (h.blt _ (by decide)) ((g _).e x m) ((qE m).st _ _)
  .subst F;refine .ofV (λf q=>?_) λ_ _=>rfl
   obtain⟨x,m,rfl⟩:=aA q;exact DV (h.gl s.1.1) (h.blt _ (by decide)) ((g _).e x m) ((qE m).st _ _)
  .obtain⟨rfl,r,Z,C,rfl,v⟩:=Ff l;refine .ofV (λf q=>?_) λ_ _=>rfl;obtain⟨x,m,rfl⟩:=aA q;obtain⟨rfl,v⟩:=mR v;exact Hi h.calm (h.gl s.1.1) (h.blt _ (by decide)) (h.gl v) (h.blt _ (by decide)) ((g _).v x m) ((hX m).st _ _)
  .obtain⟨rfl,r,Z,C,rfl,v⟩:=B' l;refine .ofE (λf q=>?_) λ_ _=>rfl;obtain⟨x,m,q⟩:=am q;obtain⟨y,p,rfl⟩:=aA q;obtain⟨rfl,v⟩:=mR v;have K:starEach [c] X.e=[(false,eval c X.e)]:=(hX p).st _ _;exact J0 h.calm (h.gl s.1.1) (h.blt _ (by decide)) (h.gl v) (h.blt _ (by decide)) ((g _).v x m) ((g _).v y p) (by rw[(hX m).st,K]) K Hc
  .refine .ofV (λf q=>?_) λ_ _=>rfl;obtain⟨o,m,q⟩:=am q;obtain⟨x,p,rfl⟩:=aA q;obtain⟨d,w⟩:=gq (s:=[a]) (λe _=>g e) p;exact Mn h m s.1.1 d w
 .refine .ite (λS=>?_) .no;rw[ar]at S;cases aJ S.1;obtain⟨⟨d,w⟩,A,V⟩:=am u;obtain⟨t',B,W⟩:=aA V;cases W;obtain⟨tp,rfl⟩:=nR B;cases jR A;refine .el (λT m=>?_) λ_=>.no;refine .ofV (λf q=>?_) λ_ _=>rfl;obtain⟨x,p,rfl⟩:=aA q;exact LR h m s.1.1 S.2 ((g _).e x p) (qE p).st
theorem Kq{o:Expr}{m:Str}{w:Ab}{u i:Pos}:Good X (.Call (.Attribute o m u) w [] i) (RK j (λx=>tr j n x) o m u w i):=by
 have l:X.A.units+1 < cLine:=by have:=h.hu;lia
 refine .el (λa d=>?_) λ_=>?_
 .cases d4 d;refine .ite (λs=>?_) (.ite (λs=>?_) (.ite (λs=>?_) (.el (λA K=>.ite (λs=>?_) (uI h g)) λ_=>uI h g)))
  .obtain⟨rfl,t,v⟩:=qJ s;refine .ofE (λf q=>?_) λ_ _=>rfl;obtain⟨x,r,q⟩:=am q;obtain⟨y,k,rfl⟩:=aA q;exact Hm ((g _).e x r) ((g _).e y k) ((qE k).st _ _) (cV t) v
  .obtain⟨rfl,t,v⟩:=qJ s;refine .ofE (λf q=>?_) λ_ _=>rfl;obtain⟨x,r,q⟩:=am q;obtain⟨y,k,rfl⟩:=aA q;exact Hl ((g _).e x r) ((g _).v y k) ((hX k).st _ _) (cV t) v
  .simp only[ar]at s;cases aJ s.1.1;refine .ofV (λf q=>?_) λ_ _=>rfl;obtain⟨x,r,q⟩:=am q;obtain⟨y,k,rfl⟩:=aA q;exact JZ h.hu ((g _).v x r) ((g _).v y k) ((hX k).st _ _) (cV s.1.2) s.2
  .obtain⟨c,p,rfl⟩:=jb K;obtain⟨rfl,t,v⟩:=qJ s;refine .ofE (λf q=>?_) λ_ _=>rfl;obtain⟨x,r,q⟩:=am q;obtain⟨y,k,rfl⟩:=aA q;exact Na l ((g _).e x r) (gq (λe _=>g e) k).1 ⟨cV t,rfl,v,rfl⟩
 .refine .ite (λs=>?_) (.ite (λs=>.el (λ⟨a,b⟩ d=>?_) λ_=>.no) (.el (λa d=>.ite (λs=>?_) (uI h g)) λ_=>uI h g))
  .rw [ar]at s;obtain⟨rfl,t,v⟩:=qJ s.1;cases w with
   |cons _ _=>cases s.2
   |nil=>refine .ofE (λf q=>?_) λ_ _=>rfl;obtain⟨x,r,rfl⟩:=aA q;exact Ka ((g _).e x r) (cV t) v
  .simp only[ar]at s;cases aJ s.1.1;cases jR d;refine .ofV (λf q=>?_) λ_ _=>rfl;obtain⟨x,r,q⟩:=am q;obtain⟨y,k,q⟩:=am q;obtain⟨z,S,rfl⟩:=aA q;have P:starEach [b] X.e=[(false,eval b X.e)]:=(hX S).st _ _;have F:starEach [a,b] X.e=[(false,eval a X.e),(false,eval b X.e)]:=by rw[(hX k).st,P]
   exact JX l ((g _).v x r) ((g _).v y k) ((g _).v z S) ⟨cV s.1.2,by rw[F];rfl,s.2,by rw[F];rfl⟩
  .obtain⟨p,rfl⟩:=Eg d;obtain⟨rfl,t,v⟩:=qJ s;refine .ofE (λf q=>?_) λ_ _=>rfl;obtain⟨x,r,q⟩:=am q;obtain⟨y,k,rfl⟩:=aA q;have H:=(hX k).st;exact Hk ((g _).e x r) ((g _).v y k) (Jl Jf) ⟨cV t,by rw[H];rfl,v,by rw[H];rfl⟩
end
theorem mG:∀n,nv n
 |0=>λj X h e=>Good.no
 |n+1=>by
  have G:=mG n;intro j X h e;have g:=G j X h;cases e with
  |Constant c k p=>
   cases c with
   |int i=>exact .ofV (λf q=>by cases q;exact Qi) λ_ _=>rfl
   |bool i=>exact .ofV (λf q=>by cases q;exact Sh) λ_ _=>rfl
   |none=>exact .ofV (λf q=>by cases q;exact Qc) λ_ _=>rfl
   |str i=>exact .ofV (λf q=>by cases q;exact P_) λ_ _=>rfl
   |_=>exact .no
  |Name x p=>
   refine .ite (λw=>?_) (.ite (λw=>?_) .no)
   .rw [ar]at w;refine .ofE (λf q=>?_) λ_ _=>rfl;obtain⟨i,r,rfl⟩:=aA q;exact M8 i (h.get r) (h.vis w.1) (dg w.2).1 (dg w.2).2
   .rw [ar]at w;refine .ofV (λf q=>?_) λ_ _=>rfl;obtain⟨v,r,q⟩:=am q;split at q
    .cases q
    .rename_i hd;cases q;exact M' (h.gl w.1) ((h.glb _ v r).1 (by simpa using hd)) (dg w.2).1
  |BinOp a l b p=>refine .ofV (λf q=>?_) λ_ _=>rfl;obtain⟨o,r,q⟩:=am q;obtain⟨x,t,q⟩:=am q;obtain⟨s,d,rfl⟩:=aA q;exact Se (Mm h r) ((g _).v x t) ((g _).v s d)
  |UnaryOp l a p=>
   cases l with
   |USub=>refine .ofV (λf q=>?_) λ_ _=>rfl;obtain⟨x,r,rfl⟩:=aA q;exact Qd ((g _).v x r)
   |Not=>
    refine .ofB (λf q=>?_) λf q=>?_
    .obtain⟨x,r,rfl⟩:=aA q;exact P5 ((g _).b x r)
    .obtain⟨x,r,rfl⟩:=aA q;exact Qb ((g _).w x r)
   |_=>exact .no
  |BoolOp l K p=>exact .ofB (λf q=>(vQ (λe _=>g e) q).pt) λf q=>vR (λe _=>g e) q
  |Compare a H F p=>
   refine .el (λl A=>?_) λ_=>?_
   .cases d4 A;refine .el (λb Q=>?_) λ_=>.no
    cases d4 Q;refine .el (λP r=>?_) λ_=>?_
    .have u:∀f,((tr j n a).v.bind λx=>(tr j n b).v.map λs=>kZ P x s)=some f->Y X (.Compare a [l] [b] p) (tV X.K f)/\PT X (.Compare a [l] [b] p) (tQ X.K (bV f)):=λf q=>by
      obtain⟨x,t,q⟩:=am q;obtain⟨s,d,rfl⟩:=aA q;exact⟨Qk (nX r) ((g _).v x t) ((g _).v s d) ((hX d).mr _),P6 (nX r) ((g _).v x t) ((g _).v s d) ((hX d).mr _)⟩
     exact .ofC (λf q=>(u f q).1) λf q=>(u f q).2
    .have u:∀f,((Gb (LU b) l).bind λg=>(tr j n a).e.bind λx=>(tr j n b).e.map λs=>dH g x s)=some f->Y X (.Compare a [l] [b] p) (tV X.K f)/\PT X (.Compare a [l] [b] p) (tQ X.K (bV f)):=λf q=>by
      obtain⟨o,r,q⟩:=am q;obtain⟨x,t,q⟩:=am q;obtain⟨s,d,rfl⟩:=aA q;exact⟨Nc (wW h r) ((g _).e x t) ((g _).e s d) ((qE d).mr _),M4 (wW h r) ((g _).e x t) ((g _).e s d) ((qE d).mr _)⟩
     exact .ofC (λf q=>(u f q).1) λf q=>(u f q).2
   .have u:∀f,((qg H).bind λo=>(qg F).bind λz=>(MP o.1).bind λg=>(MP o.2).bind λP=>(tr j n a).v.bind λx=>(tr j n z.1).v.bind λs=>(tr j n z.2).v.map λz=>nH g P x s z)=some f->Y X (.Compare a H F p) (tV X.K f)/\PT X (.Compare a H F p) (tQ X.K (bV f)):=λf q=>by
     obtain⟨⟨o1,o2⟩,L,D⟩:=am q;obtain⟨⟨b,c⟩,M,p1⟩:=am D;clear q D;cases jR L;cases jR M;obtain⟨o,r,q⟩:=am p1;obtain⟨o',t,q⟩:=am q;obtain⟨x,d,q⟩:=am q;obtain⟨s,I,q⟩:=am q;obtain⟨z,S,rfl⟩:=aA q;exact⟨Kb (nX r) (nX t) ((g _).v x d) ((g _).v s I) ((g _).v z S) ((hX S).ms _ _ _),JS (nX r) (nX t) ((g _).v x d) ((g _).v s I) ((g _).v z S) ((hX S).ms _ _ _)⟩
    exact .ofC (λf q=>(u f q).1) λf q=>(u f q).2
  |IfExp c a b p=>
   have C:∀f,((tr j n c).b.bind λq=>(tr j n a).v.bind λx=>(tr j n b).v.map λs=>Nm q x s)=some f->Y X (.IfExp c a b p) (tV X.K f):=λf q=>by obtain⟨o,r,q⟩:=am q;obtain⟨x,t,q⟩:=am q;obtain⟨s,d,rfl⟩:=aA q;exact Sg ((g _).b o r) ((g _).v x t) ((g _).v s d)
   refine⟨C,λf q=>?_,λf q=>(by cases q),λf q=>?_⟩
   .obtain⟨x,r,rfl⟩:=aA (show tK O _=some f from q);exact MA (C _ r)
   .obtain⟨x,r,rfl⟩:=aA (show tK bV _=some f from q);exact A7 (C _ r)
  |Tuple K c p=>refine .ofV (λf q=>?_) λ_ _=>rfl;obtain⟨x,r,rfl⟩:=aA q;exact P9 (gq (λe _=>g e) r).1
  |List K p=>refine .ofV (λf q=>?_) λ_ _=>rfl;obtain⟨x,r,rfl⟩:=aA q;exact Qe (gq (λe _=>g e) r).1
  |Dict Z vs p=>refine .ite (λw=>?_) .no;rw[ar]at w;cases mi.mp w.1;cases mi.mp w.2;exact⟨λf q=>(by cases q;exact P8 DW),λf q=>(by cases q;exact DW),λf q=>(by cases q),λf q=>(by cases q)⟩
  |Subscript a i p=>
   have B:X.A.units+1 < cLine:=by have:=h.hu;lia
   refine .el (λ⟨lo,hi,st⟩ T=>?_) λ_=>.ite (λ_=>.el (λK N=>?_) λ_=>?_) ?_
   .obtain⟨p,rfl⟩:=KD T;cases st with
    |some _=>exact .no
    |none=>
     refine .ite (λ_=>.no) (.ite (λ_=>.ofV (λf q=>?_) λ_ _=>rfl) (.ofV (λf q=>?_) λ_ _=>rfl))
     .obtain⟨x,r,q⟩:=am q;obtain⟨s,t,q⟩:=am q;obtain⟨z,d,rfl⟩:=aA q;exact P' ((g _).e x r) (uH g t) (uH g d)
     .obtain⟨x,r,q⟩:=am q;obtain⟨s,t,q⟩:=am q;obtain⟨z,d,rfl⟩:=aA q;exact Qa ((g _).v x r) (uH g t) (uH g d)
   .obtain⟨c,p,rfl⟩:=jb N;refine .ofE (λf q=>?_) λ_ _=>rfl;obtain⟨x,r,q⟩:=am q;obtain⟨s,t,rfl⟩:=aA q;exact Qg B ((g _).e x r) (gq (λe _=>g e) t).1 λ_ _=>rfl
   .refine .ofE (λf q=>?_) λ_ _=>rfl;obtain⟨x,r,q⟩:=am q;obtain⟨s,t,rfl⟩:=aA q;exact Qh B ((g _).e x r) ((g _).v s t) (hX t).ix
   .refine .ofV (λf q=>?_) λ_ _=>rfl;obtain⟨x,r,q⟩:=am q;obtain⟨s,t,rfl⟩:=aA q;exact Sf B ((g _).v x r) ((g _).v s t) (hX t).ix
  |Call fn as Z cp=>
   refine .ite (λhk=>?_) .no;cases mi.mp hk;refine .el (λf R=>?_) λ_=>.el (λ⟨o,m,ap⟩ A=>?_) λ_=>.no
   .obtain⟨fp,rfl⟩:=nR R;exact Ko h g
   .cases Gq A;exact Kq h g
  |Attribute o f p=>refine .ite (λw=>?_) .no;refine .ofE (λf q=>?_) λ_ _=>rfl;obtain⟨x,r,rfl⟩:=aA q;exact Qj h.attrs ((g _).e x r) (cV w)
  |ListComp y gs E p=>refine .el (λ⟨tg,iter,W⟩ V=>?_) λ_=>.no;cases yF V;exact .ofV (λf q=>(wX h G q).1) λ_ _=>rfl
  |_=>exact .no
theorem Bc{j:Cn}{X:Cx}(h:XOk j X){n k:Nat}{e:Expr}{f:EE}(q:Nq j n k e=some f):Y X e (tE X.K f)/\(f_ e=false->∀t l env,swapsWith e t l env=pure false)/\fW e:=by
 have g:=mG n j X h;have F:∀{e},(tr j n e).e=some f->Y X e (tE X.K f)/\(f_ e=false->∀t l env,swapsWith e t l env=pure false)/\fW e:=λq=>⟨(g _).e f q,(qE q).sw,(qE q).st⟩;have N:=jo q;clear q;rcases N with ⟨⟨W,r⟩,z,q⟩|⟨_,q⟩
 .obtain⟨fp,V,rfl⟩:=jw z;dsimp only at q;split at q
  .rename_i c;simp only[ar,mx]at c;rcases jo q with ⟨P,u,q⟩|⟨_,q⟩
   .refine⟨?_,(λ_ _ _ _=>rfl),λ_ _=>rfl⟩;cases r with
    |nil=>cases c.1.2
    |cons a R=>
     rcases jo q with ⟨b,I,K⟩|⟨_,q⟩
     .obtain⟨⟨T,l'⟩,A,p⟩:=am I;split at p
      .rename_i y;cases p;simp only[ar]at y;cases jR A;obtain⟨p,p2,p3,p4,p5,rfl⟩:=Iz y.1.1;obtain⟨i,qi,K⟩:=am K;obtain⟨x,s,rfl⟩:=aA K;obtain⟨k,f,C,Q,G,S,H,hk,d⟩:=h.fns _ P u;obtain⟨M,w⟩:=h.lam y.1.2;have D:X.e.scope.names.lookup (Str.ofString "board")=some .cell:=by
        rw[h.ks];have z:=y.2;unfold cM at z;split at z
        .rename_i L B;rw[B];cases L<;>first|rfl|cases z
        .cases z
       exact Ke G S (h.gl c.1.1.1) H hk d M (h.get qi) D (w _) ((g _).v x s) (dg c.1.1.2).1 ((hX s).st _ _)
      .cases p
     .split at q
      .obtain⟨x,s,rfl⟩:=aA q;obtain⟨v,m⟩:=gq (λe _=>g e) s;obtain⟨k,Z,C,Q,G,S,H,o,d⟩:=h.fns _ P u;exact Kg G S (h.gl c.1.1.1) H o d v (dg c.1.1.2).1 (m a aH _ _) (iV λe E=>m e (aG _ E))
      .obtain⟨x,s,rfl⟩:=aA q;obtain⟨v,m⟩:=mH (λe _=>g e) s;exact(w8 h u c.1.1.1 c.1.1.2 v m).2
   .exact F q
  .exact F q
 .exact F q
theorem qj{j:Cn}{X:Cx}(h:XOk j X){n k:Nat}{e:Expr}{f:EE}(q:O_ j n k e=some f):Y X e (tE X.K f)/\(f_ e=false->∀t l env,swapsWith e t l env=pure false):=⟨(Bc h q).1,(Bc h q).2.1⟩
def vX(T:Stmt->Option ES):List Stmt->Option ES
 | []=>some fY
 | [s]=>T s
 |s::r=>(T s).bind λf=>(vX T r).map λg=>ai f g
noncomputable def Oj(e:Expr):Option Unit:=if h:e.ctorIdx=6 then Expr.Dict.elim e h λk v _=>if (k.isEmpty && v.isEmpty)=true then some () else none else none
theorem II{e:Expr}{u:Unit}(h:Oj e=some u):∃p,e=.Dict [] [] p:=by
 have c:=IU h;revert h;exact Expr.Dict.elim e c λk v p h=>by
  cases k with
  |cons _ _=>cases h
  |nil=>
   cases v with
   |cons _ _=>cases h
   |nil=>exact⟨p,rfl⟩
def Oi(e:Expr):Option (Expr×Expr):=if h:e.ctorIdx=6 then Expr.Dict.elim e h λs x _=>(lG s).bind λk=>k.bind λk=>(lG x).map λv=>(k,v) else none
theorem IH(h:Oi e=some (k,v)):∃p,e=.Dict [some k] [v] p:=by
 have c:=IU h;revert h;exact Expr.Dict.elim e c λb r p h=>by obtain⟨n,x,h⟩:=am h;obtain⟨f,a,h⟩:=am h;obtain⟨m,s,h⟩:=aA h;cases h;cases d4 x;cases d4 s;cases (show n=some k from a);exact⟨p,rfl⟩
def Ta(j:Cn)(e:Expr):Option Expr:=(sT e).bind λz=>(lG z.2).bind λa=>if u6 j z.1 "dict"=true then some a else none
def RH(j:Cn)(n:Nat)(t v:Expr):Option ES:=
 (GA t).elim ((QD t).elim ((OZ t).elim (if f_ v=true then none else (lj t).bind fun _=>if (lj v).isSome=true then none else (Hw j.N j.ks [.local,.cell] t).bind fun g=>(tr j n v).v.map fun z=>xV g z)
   λz=>if ((Oj v).isSome && j.deep.contains z.2.1)=true then (tr j n z.1).e.map λx=>oj j.A x z.2.1 yA else (tr j n z.1).e.bind λx=>(O_ j n 5 v).map λy=>oj j.A x z.2.1 y)
  λz=>if f_ v=true then none else (tr j n z.1).e.bind λx=>(tr j n v).v.bind λw=>if LU z.1=true then (tr j n z.2).v.map λy=>sk x y w else (lj z.2).elim ((tr j n z.2).v.map λy=>jd x y w) λe=>(qk (e.map λz=>(tr j n z).v)).map λy=>Eh x y w)
 λx=>if cM j.ks x [.local,.cell]=true then (kC j.N x).bind λi=>(if QZ.contains x=true then Ta j v else none).elim ((if QZ.contains x=true then Oi v else none).elim (if (j.deep.contains x && !f_ v)=true then (O_ j n 5 v).map (aD i) else (if j.own.contains x=true then Fz v else none).elim (if (j.own.contains x && f_ v)=true then (tr j n v).v.map λf=>aD i (q_ f) else (tr j n v).e.map (aD i)) λe=>(qk (e.map λy=>(tr j n y).v)).map λa=>aD i (dG a)) λz=>(tr j n z.1).v.bind λx=>(tr j n z.2).v.map λy=>aD i (vm x y)) λa=>(tr j n a).v.map λf=>aD i (vl f)
  else none
def Qo(j:Cn)(n:Nat)(e:Expr):Option ES:=if f_ e=true then (tr j n e).v.map λf=>be (q_ f) else
 (O_ j n 5 e).map be
def Kk(j:Cn):Nat->Stmt->Option ES
 |0,_=>none
 |n+1,st=>match st with
  | .Assign Q v _=>(lG Q).bind λt=>RH j n t v
  | .Return r _=>r.bind λe=>if j.own.contains ("return":Str)=true then Qo j n e else (tr j n e).e.map be
  | .AugAssign t p v _=>(GA t).bind λx=>if (cM j.ks x [.local,.cell] && decide (p.ctorIdx=Operator.Add.ctorIdx))=true then (kC j.N x).bind λi=>(tr j n v).v.map (Ej i) else none
  | .Raise ..=>some uO
  | .Expr e _=>if f_ e=true then none else (tr j n e).e.map b8
  | .If c a b _=>(tr j n c).b.bind λq=>(vX (Kk j n) a).bind λx=>(vX (Kk j n) b).map λy=>dI q x y
  | .While c o l _=>if l.isEmpty=false then none else (tr j n c).b.bind λq=>(vX (Kk j n) o).map λb=>nK 1000 q b
  | .For h iter o l _=>if l.isEmpty=false then none else (Hw j.N j.ks [.local,.cell] h).bind λg=>(Hx j (λy=>tr j n y) h iter).bind λs=>(vX (Kk j n) o).map λb=>cf s g b
  |_=>none
theorem E6{e:Ab}{c:Nat}{p:Pos}{v:Expr}{env:Env}(h:¬(lj v).isSome=true):swappedStores [.Tuple e c p] v env=pure none:=by cases v<;>first|rfl|exact absurd rfl h
theorem Hv{j:Cn}{n:Nat}{y:Expr}{g:List Comprehension}{E:Scope}{u:Pos}{f:EE}(h:(tr j n (.ListComp y g E u)).e=some f) :
  ∃k t iter i s,n=k+1/\g=[⟨t,iter,i,0⟩]/\i0 j (λa x=>tr a k x) y t iter i E=some s/\f=O s:=by
 cases n with
 |zero=>cases h
 |succ n=>
  replace h:((MQ g).elim {} λz=>Tr.ofV (i0 j (λa x=>tr a n x) y z.1 z.2.1 z.2.2 E)).e=some f:=h;cases e:MQ g with
  |none=>rw[e]at h;cases h
  |some z=>rw[e]at h;obtain⟨x,q,rfl⟩:=aA (show tK O _=some f from h);exact⟨n,_,_,_,x,rfl,yF e,q,rfl⟩
theorem k4{X:Cx}{T:Stmt->Option ES}(h:∀st f,T st=some f->PS X st (kr X.K f)):∀{a:List Stmt}{f:ES},vX T a=some f->oe X a (kr X.K f)
 | [],f,q=>by cases q;exact P0
 | [s],f,q=>PZ (h s f q)
 |s::t::r,f,q=>by obtain⟨x,e,q⟩:=am q;obtain⟨y,n,rfl⟩:=aA q;exact M0 (h s x e) (k4 h n)
theorem vW(h:(tr j n (.ListComp y s E u)).v=some f) :
  ∃k t iter i,n=k+1/\s=[⟨t,iter,i,0⟩]/\i0 j (λa x=>tr a k x) y t iter i E=some f:=by
 cases n with
 |zero=>cases h
 |succ n=>
  replace h:((MQ s).elim {} λz=>Tr.ofV (i0 j (λa x=>tr a n x) y z.1 z.2.1 z.2.2 E)).v=some f:=h;cases e:MQ s with
  |none=>rw[e]at h;cases h
  |some z=>rw[e]at h;exact⟨n,_,_,_,rfl,yF e,h⟩
theorem Kl{j:Cn}{X:Cx}(h:XOk j X){n:Nat}{e:Expr}{p:Pos}{f:ES}(q:Qo j n e=some f):PS X (.Return (some e) p) (kr X.K f):=by
 have g:=mG n j X h;unfold Qo at q;split at q
 .rename_i l;have c:e.ctorIdx=8:=eq_of_beq l;obtain⟨m,s,rfl⟩:=aA q;clear q l;revert s;refine Expr.ListComp.elim e c λa r c d s=>?_
  obtain⟨k,t,iter,i,rfl,rfl,b⟩:=vW s;exact JP (sQ h (mG k) b)
 .obtain⟨x,s,rfl⟩:=aA q;exact JP (qj h s).1
theorem Kn{j:Cn}{X:Cx}(h:XOk j X)(H:∀x,X.fn x=true){n:Nat}{t l:Expr}{Q:Pos}{f:ES}(q:RH j n t l=some f):PS X (.Assign [t] l Q) (kr X.K f):=by
 have g:=mG n j X h;have R:X.A.units+1 < cLine:=by have:=h.hu;lia
 rcases jo q with ⟨x,hx,B⟩|⟨_,B⟩
 .clear q;obtain⟨N,rfl⟩:=nR hx;split at B
  .rename_i hk;obtain⟨i,qi,q⟩:=am B;have qq:=jo q;clear q B;rcases qq with ⟨a,E,q⟩|⟨_,B⟩
   .split at E
    .obtain⟨⟨r,as⟩,b1,K⟩:=am E;obtain⟨a',b2,K⟩:=am K;clear E;obtain⟨fp,cp,rfl⟩:=jw b1;cases d4 b2;split at K
     .rename_i W;cases K;obtain⟨rfl,W⟩:=mR W;obtain⟨z,m,rfl⟩:=aA q;exact xH i h.nd (J2 h.calm (by have:=h.hu;lia) (h.gl W) (h.blt ("dict":Str) (by decide)) ((g _).v z m) ((hX m).st _ _)) (h.get qi) (h.loc hk) rfl (.inl (H x))
     .cases K
    .cases E
   have qq:=jo B;clear B;rcases qq with ⟨⟨a,b⟩,E,q⟩|⟨_,q⟩
   .split at E
    .obtain⟨p,rfl⟩:=IH E;obtain⟨y,m,q⟩:=am q;obtain⟨z,S,rfl⟩:=aA q;exact xH i h.nd (J8 (by have:=h.hu;lia) ((g _).v y m) ((g _).v z S)) (h.get qi) (h.loc hk) rfl (.inl (H x))
    .cases E
   split at q
   .rename_i hd;rw[ar]at hd;obtain⟨V,m,rfl⟩:=aA q;exact xH i h.nd (qj h m).1 (h.get qi) (h.loc hk) ((qj h m).2 (by simpa using hd.2) _ _ _) (.inl (H x))
   .rcases jo q with ⟨T,D,q⟩|⟨_,q⟩
    .split at D
     .obtain⟨a,m,rfl⟩:=aA q;obtain⟨p,rfl⟩:=wG D;exact xH i h.nd (Jl (gq (λe _=>g e) m).1) (h.get qi) (h.loc hk) rfl (.inl (H x))
     .cases D
    split at q
    .rename_i P;rw[ar]at P;have P:=P.2;obtain⟨V,m,rfl⟩:=aA q;have c:l.ctorIdx=8:=eq_of_beq P;clear q P;revert m;refine Expr.ListComp.elim l c λa gs c d m=>?_
     obtain⟨k,M,iter,F,rfl,rfl,S⟩:=vW m;have A:swapsWith (.ListComp a [⟨M,iter,F,0⟩] c d) (some (.Name x N)) Q.line X.e=pure (X.e.blockKind == .function && X.e.kindOf x == some .local && N.line == (Expr.ListComp a [⟨M,iter,F,0⟩] c d).pos.line
       && !(c.names.any λ(n,k)=>n == x && (k == .local ||k == .cell))):=rfl
     revert A;generalize (X.e.blockKind == .function && X.e.kindOf x == some .local && N.line == (Expr.ListComp a [⟨M,iter,F,0⟩] c d).pos.line && !(c.names.any λ(n,k)=>n == x && (k == .local ||k == .cell)))=b;intro A;cases b with
     |true=>exact C7 h (mG k) S i A (h.get qi) (h.loc hk) (.inl (H x))
     |false=>exact xH i h.nd (sQ h (mG k) S) (h.get qi) (h.loc hk) A (.inl (H x))
    .obtain⟨V,m,rfl⟩:=aA q;cases P:f_ l with
     |false=>exact xH i h.nd ((g l).e V m) (h.get qi) (h.loc hk) ((qE m).sw P _ _ _) (.inl (H x))
     |true=>
      have c:l.ctorIdx=8:=eq_of_beq P;clear q P;revert m;refine Expr.ListComp.elim l c fun a gs c d m=>?_;obtain⟨k,M,iter,F,f',rfl,rfl,S,rfl⟩:=Hv m;have cu:=wX (u:=d) h (mG k) S;have A:swapsWith (.ListComp a [⟨M,iter,F,0⟩] c d) (some (.Name x N)) Q.line X.e=pure (X.e.blockKind == .function && X.e.kindOf x == some .local && N.line == (Expr.ListComp a [⟨M,iter,F,0⟩] c d).pos.line
       && !(c.names.any λ(n,k)=>n == x && (k == .local ||k == .cell))):=rfl
      revert A;generalize (X.e.blockKind == .function && X.e.kindOf x == some .local && N.line == (Expr.ListComp a [⟨M,iter,F,0⟩] c d).pos.line && !(c.names.any λ(n,k)=>n == x && (k == .local ||k == .cell)))=b;intro A;cases b with
      |true=>exact cu.2 i h.nd A (h.get qi) (h.loc hk) (.inl (H x))
      |false=>exact xH i h.nd (MA cu.1) (h.get qi) (h.loc hk) A (.inl (H x))
  .cases B
 rcases jo B with ⟨⟨o,i⟩,hz,K⟩|⟨_,K⟩
 .clear q B;obtain⟨p,rfl⟩:=KG hz;split at K
  .cases K
  rename_i I;obtain⟨x,m,C⟩:=am K;obtain⟨w,L,G⟩:=am C;have A:=(hX L).sw (by simpa using I);clear K C;split at G
  .obtain⟨y,S,rfl⟩:=aA G;exact MV (by have:=h.hu;lia) ((g o).e x m) ((g i).v y S) ((g l).v w L) (A _ _ _)
  have q0:=jo G;clear G;rcases q0 with ⟨T,et,q⟩|⟨_,q⟩
  .obtain⟨c,p,rfl⟩:=jb et;obtain⟨y,S,rfl⟩:=aA q;exact MU R ((g o).e x m) (gq (λe _=>g e) S).1 ((g l).v w L) (A _ _ _)
  .obtain⟨y,S,rfl⟩:=aA q;exact MX R ((g o).e x m) ((g i).v y S) ((g l).v w L) (A _ _ _) rfl (hX S).ps
 rcases jo K with ⟨⟨o,f,ap⟩,hz,C⟩|⟨_,C⟩
 .clear q B K;cases Gq hz;split at C
  .rename_i hd;rw[ar]at hd;obtain⟨s,R⟩:=tM.mp hd.1;obtain⟨p,rfl⟩:=II R;obtain⟨x,m,rfl⟩:=aA C;exact MY h.attrs ((g o).e x m) J1 rfl
  obtain⟨x,m,q⟩:=am C;obtain⟨z,S,rfl⟩:=aA q;refine MY h.attrs ((g o).e x m) (qj h S).1 ?_;cases P:f_ l with
  |false=>exact(qj h S).2 P _ _ _
  |true=>have c:l.ctorIdx=8:=eq_of_beq P;clear q S C P;exact Expr.ListComp.elim (motive_1:=λv=>swapsWith v (some (.Attribute o f ap)) Q.line X.e=pure false) l c λ_ _ _ _=>rfl
 .clear q B K;split at C
  .cases C
  rename_i I;obtain⟨T,D,G⟩:=am C;clear C;obtain⟨c,p,rfl⟩:=jb D;split at G
  .cases G
  .rename_i Z;obtain⟨gg,m,q⟩:=am G;obtain⟨z,L,rfl⟩:=aA q;exact PX ((g l).v z L) (tg_ok h.calm h.hN h.nd (λx hx=>⟨h.loc hx,.inl (H x)⟩) m) (show swapsWith l (some (.Tuple T c p)) Q.line X.e=pure false from(hX L).sw (by simpa using I) _ _ _) (E6 Z) rfl
theorem D4{j:Cn}{X:Cx}(h:XOk j X)(k:∀x,X.fn x=true)(S:PassesOwn (model X.p X.w) X.A X.e X.xe):∀n (st:Stmt) (f:ES),Kk j n st=some f->PS X st (kr X.K f)
 |0,st,f,q=>by cases q
 |n+1,st,f,q=>by
  have u:=D4 h k S n;have g:=mG n j X h;cases st with
  |Assign Q v I=>obtain⟨t,d,m⟩:=am q;clear q;cases d4 d;exact Kn h k m
  |Return r p=>
   obtain⟨e,d,m⟩:=am q;cases (show r=some e from d);clear q d;split at m
   .exact Kl h m
   .obtain⟨x,s,rfl⟩:=aA m;exact JP ((g _).e x s)
  |AugAssign t P v p=>
   obtain⟨x,d,m⟩:=am q;clear q;obtain⟨G,rfl⟩:=nR d;split at m
   .rename_i z;rw[ar]at z;obtain⟨i,qi,A⟩:=am m;obtain⟨F,s,rfl⟩:=aA A;cases P with
    |Add=>exact P2 i h.nd ((g _).v F s) (h.get qi) (h.loc z.1) (.inl (k x))
    |_=>cases aJ z.2
   .cases m
  |Raise a b p=>cases q;exact JQ
  |Expr e p=>
   replace q:(if f_ e=true then none else (tr j n e).e.map b8)=some f:=q;split at q
   .cases q
   .rename_i H;obtain⟨x,s,rfl⟩:=aA q;exact MZ ((g _).e x s) ((qE s).sw (by simpa using H) _ _ _)
  |If c a b p=>obtain⟨c,s,q⟩:=am q;obtain⟨x,w,q⟩:=am q;obtain⟨y,C,rfl⟩:=aA q;exact Sb ((g _).b c s) (k4 u w) (k4 u C)
  |While c o l p=>
   cases l with
   |cons _ _=>cases q
   |nil=>obtain⟨c,s,q⟩:=am q;obtain⟨b,w,rfl⟩:=aA q;exact JO S ((g _).b c s) (k4 u w)
  |For L iter o l p=>
   cases l with
   |cons _ _=>cases q
   |nil=>obtain⟨D,B,q⟩:=am q;obtain⟨E,s,q⟩:=am q;obtain⟨b,w,rfl⟩:=aA q;exact P1 S h.calm (Jx h g s) (tg_ok h.calm h.hN h.nd (λx K=>⟨h.loc K,.inl (k x)⟩) B) (k4 u w) λx=>wE s _ x
  |_=>cases q
structure Df where
 name:Str
 short:Str
 cls:Str
 st:Stmt
 N:LS
 ps:LS
 own:LS
 deep:LS
 refs:LS
noncomputable abbrev At:=List (Str×LS)
noncomputable def aT(T:At)(c f:Str):Bool:=T.any λx=>decide (x.1=c) && x.2.contains f
noncomputable def fT(D:List Df)(h:Str->GF)(x:Str):Option GF:=if (D.any λd=>decide (d.name=x) && d.cls.cps.isEmpty)=true then some (h x) else none
noncomputable def Pp(c m:Str)(d:Df):Bool:=decide (d.cls=c) && decide (d.short=m) && !d.cls.cps.isEmpty
def mT(D:List Df)(h:Str->GF)(c m:Str):Option GF:=if m=("__init__":Str) then none else (D.find? (Pp c m)).map λd=>h d.name
def Q_(D:List Df)(h:Str->GF)(c:Str):Option GF:=(D.find? (Pp c "__init__")).map λd=>h d.name
noncomputable abbrev P3:=(Str->GF)×(Str->Option GF)×Option GF
def Rf(G:Str->Option P)(T:At)(D:List Df)(p:P3)(d:Df):Cn:=⟨d.N,d.own,d.deep,d.refs,(bg d.st).names,fT D p.1,G,aT T,mT D p.1,p.2.1,p.2.2⟩
def vA(G:Str->Option P)(T:At)(D:List Df)(p:P3)(d:Df):ES:=(vX (Kk (Rf G T D p d) 60) (eX d.st)).getD uO
noncomputable def stays(n:Nat)(x:Str):Bool:=(decide (x=("ends_on":Str)) && o_ 14 n) ||((decide (x=("hand_ends":Str)) ||decide (x=("flaw_ends":Str))) && o_ 13 n)
def n_(G:Str->Option P)(T:At)(D:List Df):Nat->P3
 |0=>(λ_ _ _=>none,λ_=>none,none)
 | n+1=>(fun x=>cond (stays n x) ((n_ G T D n).1 x) (match D.find? fun d=>decide (d.name=x) with
  |some d=>mV d.ps.length d.N.length (vA G T D (n_ G T D n) d)
  |none=>λ_ _=>none),Q_ D (n_ G T D n).1,fT D (n_ G T D n).1 "ends_on")
noncomputable def Ji(G:Str->Option P)(T:At)(D:List Df)(n:Nat):Str->GF:=(n_ G T D n).1
theorem Cv{G:Str->Option P}{T:At}{D:List Df}{n:Nat}{x:Str}(h:stays n x=true):Ji G T D (n+1) x=Ji G T D n x:=by show cond (stays n x) _ _=_;rw[h];rfl
theorem cond_ok{B:Type}{c:Bool}{a b:B}{p:B->Prop}(h:p b)(x:p a):p (cond c a b):=by cases c<;>assumption
def Pc(d:Df):Bool:=decide ((bg d.st).kind=.function) && !(bg d.st).isCoroutine && !(bg d.st).isGenerator && decide d.N.Nodup && decide (d.N.take d.ps.length=d.ps)
 && d.ps.all (λx=>(bg d.st).names.lookup x == some .local ||(bg d.st).names.lookup x == some .cell) && (bg d.st).names.all (λy=>y.2 != .free)
theorem KE{d:Df}(h:Pc d=true):FnScope d.N d.ps (bg d.st):=by
 unfold Pc at h;simp only[ar]at h;obtain⟨⟨⟨⟨⟨⟨a,e⟩,s⟩,n⟩,k⟩,f⟩,b⟩:=h;refine⟨aJ a,by simpa using e,by simpa using s,aJ n,aJ k,λx c=>?_,λy m=>?_⟩
 .have:=a_.mp f x c;simpa using this
 .have:=a_.mp b y m;simpa using this
structure DOk(K:FG)(mg:SV)(d:Df)(f:Addr)(fd:FuncData):Prop where
 fn:Fun K d.short d.name d.st f fd
 bd:Binds K fd d.ps []
 pl:d.cls.cps.isEmpty=true->∃kV doc pm an cdv ct,fd=iY d.short d.name (hZ d.st) (eX d.st) (bg d.st) .none kV doc pm an cdv ct
 bn:d.short=("__init__":Str)->L7.contains d.cls=true->Binds K fd d.ps [.none]
 gl:d.cls.cps.isEmpty=true->mg d.name=some (.ref f)
 cl:d.cls.cps.isEmpty=false->∃C,kg K d.cls C/\mg d.cls=some (.ref C)/\Cls K C/\(d.short=("__init__":Str)->Mk K C f)/\(d.short≠("__init__":Str)->Meth K C d.short f)
def u5(o:Obj):Bool:=match o.data with
 | .fields v=>(match v.toList with|_::.str n _::_=>n == Fp|_=>false)
 |_=>false
def BI(K:FG):Bool:=K.all λp=>!u5 p.2 ||(match D8 p with|some P=>xD K p.1 P|none=>false)
theorem Fo(h:BI K=true)(x:iZ K d Fp=true):∃c P,d=.ref c/\xD K c P=true/\P ∈ ce K:=by
 unfold iZ at x;split at x
 .rename_i c;split at x
  .rename_i l i v n hk;have m:=DI hk;have a:=a_.mp h _ m;have e:u5 ⟨l,i,.fields v,n⟩=true:=x;rw[e]at a;simp only[mw,kW]at a;split at a
   .rename_i P s;exact⟨c,P,rfl,a,kS.mpr ⟨_,m,s⟩⟩
   .cases a
  .cases x
 .cases x
structure TOk(w:World)(G:Str->Option P)(T:At)(D:List Df)(K:FG)(mg:SV):Prop where
 fn:∀d ∈ D,∃f fd,DOk K mg d f fd
 sc:D.all Pc=true
 un:(D.map (·.name)).Nodup
 z:∀x ∈ Jc,mg x=none
 gl:∀x v,G x=some v->nu w K mg x v
 at':PV K (aT T)
 lam:BI K=true
 lm:∀d ∈ D,d.deep.contains (Str.ofString "<lambda>")=true->d.name=Fp
theorem qV:∀{D:List Df}{d:Df},(D.map (·.name)).Nodup->d ∈ D->(D.find? λe=>decide (e.name=d.name))=some d
 | [],_,_,h=>by cases h
 |a::r,d,x,h=>by
  rw[az,bP]at x;rcases aN.mp h with h|h
  .subst h;simp
  .have n:¬a.name=d.name:=λz=>x.1 (by rw[z];exact aU.mpr ⟨d,h,rfl⟩);rw[List.find?_cons_of_neg (by simpa using n)];exact qV x.2 h
theorem xb{D:List Df}{x:Str}{a:Str->GF}{g:GF}(h:fT D a x=some g):∃d ∈ D,d.name=x/\d.cls.cps.isEmpty=true/\g=a x:=by
 unfold fT at h;split at h
 .rename_i c;cases h;obtain⟨d,hd,e⟩:=ph.mp c;rw[ar]at e;exact⟨d,hd,aJ e.1,e.2,rfl⟩
 .cases h
theorem Fy(h:Pp c m d=true):d.cls=c/\d.short=m/\d.cls.cps.isEmpty=false:=by unfold Pp at h;simp only[ar]at h;exact⟨aJ h.1.1,aJ h.1.2,by simpa using h.2⟩
theorem Gr{D:List Df}{x:Str->GF}{c m:Str}{g:GF}(h:mT D x c m=some g):m≠("__init__":Str)/\∃d ∈ D,d.cls=c/\d.short=m/\d.cls.cps.isEmpty=false/\g=x d.name:=by
 unfold mT at h;split at h
 .cases h
 .rename_i n;obtain⟨d,q,rfl⟩:=aA h;obtain⟨a,e,s⟩:=Fy (zZ q);exact⟨n,d,Aq q,a,e,s,rfl⟩
theorem Gs{D:List Df}{x:Str->GF}{c:Str}{g:GF}(h:Q_ D x c=some g):∃d ∈ D,d.cls=c/\d.short=("__init__":Str)/\d.cls.cps.isEmpty=false/\g=x d.name:=by unfold Q_ at h;obtain⟨d,q,rfl⟩:=aA h;obtain⟨a,e,s⟩:=Fy (zZ q);exact⟨d,Aq q,a,e,s,rfl⟩
theorem BX {G:Str->Option P}{T:At}{D:List Df}{Pg:Program}{w:World}{K:FG}{mg:SV}{base:Heap} (Tk:TOk w G T D K mg):∀n,(∀d ∈ D,
  ∀f fd,Fun K d.short d.name d.st f fd->FnOk Pg w K mg base og n f fd d.ps (mI K (Ji G T D n d.name))) /\
  (∀c g,(n_ G T D n).2.1 c=some g->∃m,n=m+1/\∃C f fd ps,kg K c C/\mg c=some (.ref C)/\Mk K C f/\FnOk Pg w K mg base og m f fd ps (mI K g)/\Binds K fd ps (if L7.contains c=true then [.none] else [])) /\
  ∀g,(n_ G T D n).2.2=some g->∃m,n=m+1/\∃f fd ps,FnOk Pg w K mg base og m f fd ps (mI K g)/\mg "ends_on"=some (.ref f)/\dD K (.ref f)=true/\Binds K fd ps []
 |0=>⟨λd hd f fd hF=>FR,λc g h=>(by cases (show(none:Option GF)=some g from h)),λg h=>(by cases (show(none:Option GF)=some g from h))⟩
 |n+1=>by
  have ih:=BX (Pg:=Pg) (w:=w) (base:=base) Tk n;refine⟨λd hd f fd hF=>?_,λc g h=>?_,λg h=>?_⟩
  .have e:Ji G T D (n+1) d.name=cond (stays n d.name) (Ji G T D n d.name) (mV d.ps.length d.N.length (vA G T D (n_ G T D n) d)):=by
    show cond _ _ (match D.find? λd'=>decide (d'.name=d.name) with|some d=>mV d.ps.length d.N.length (vA G T D (n_ G T D n) d)|none=>λ_ _=>none)=_;rw[qV Tk.un hd];rfl
   rw[e];have hsc:=KE (a_.mp Tk.sc d hd);have XO:∀(cdv:Value),iZ K cdv d.name=true->∀(A:Around)(outer:List Env)(s:Shared)(H:Hp)(E':XK),Room n (A.deeper (envOfC d.name (bg d.st) s.heap.objs.size f cdv)) ->
     XOk (Rf G T D (n_ G T D n) d) (wT og Pg w K mg base d.N d.name (bg d.st) f cdv A outer s H E').nox:=fun cdv hcd A outer s H E' hr=>{
    hN:=rfl
    nd:=hsc.nd
    ks:=rfl
    kd:=hsc.kind
    calm:=rfl
    hu:=by have:=hr.un;show(A.deeper (envOfC d.name (bg d.st) s.heap.objs.size f cdv)).units+64 < _;lia
    fns:=λx g hg=>by obtain⟨d',hd',hn,hc,rfl⟩:=xb hg;obtain⟨f',fd',h1⟩:=Tk.fn d' hd';subst hn;exact⟨n,f',fd',d'.ps,(ih.1 d' hd' f' fd' h1.fn),hr,h1.gl hc,h1.fn.kp,h1.bd⟩
    blt:=Tk.z
    glb:=Tk.gl
    attrs:=Tk.at'
    meths:=λc m g hg=>by obtain⟨hm,d',hd',rfl,rfl,hc,rfl⟩:=Gr hg;obtain⟨f',fd',h1⟩:=Tk.fn d' hd';obtain⟨C,c1,c2,c3,c4,c5⟩:=h1.cl hc;exact⟨C,n,f',fd',d'.ps,c1,c3,c5 hm,(ih.1 d' hd' f' fd' h1.fn),hr,h1.bd⟩
    mks:=λc g hg=>by obtain⟨m,rfl,C,f',fd',ps,c1,c2,c3,c4,c5⟩:=ih.2.1 c g hg;exact⟨C,m,f',fd',ps,c1,c2,c3,c4,hr,c5⟩
    lam:=λz=>by have hn:=Tk.lm d hd z;rw[hn]at hcd;obtain⟨c,P,e1,e2,e3⟩:=Fo Tk.lam hcd;exact⟨⟨by show d.name++Str.ofString ".<locals>."++Str.ofString "<lambda>"=yg;rw[hn];decide,c,P,e1,e2,e3⟩,λ_=>rfl⟩
    lmf:=λg hg=>by obtain⟨m,rfl,f',fd',ps,c1,c2,c3,c4⟩:=ih.2.2 g hg;exact⟨m,f',fd',ps,c1,hr,c2,c3,c4⟩ }
   refine cond_ok (p:=λg=>FnOk Pg w K mg base og (n+1) f fd d.ps (mI K g)) (L4 (N:=d.N) hF hsc λcdv hcd A outer s H E' hr=>?_) ((ih.1 d hd f fd hF).mono (iD n));have X:=XO cdv hcd A outer s H E' hr;unfold vA;cases q:vX (Kk (Rf G T D (n_ G T D n) d) 60) (eX d.st) with
   |none=>exact Cu.imp' λD J H hz=>by obtain⟨F,m,L,S,fl,L',S',r,l,q,k⟩:=hz;cases q
   |some b=>exact k4 (λst f q=>D4 X (λ_=>rfl) PassesOwn.never 60 st f q) q
  .obtain⟨d,hd,rfl,hs,hc,rfl⟩:=Gs (x:=(n_ G T D n).1) h;obtain⟨f,fd,h1⟩:=Tk.fn d hd;obtain⟨C,c1,c2,c3,c4,c5⟩:=h1.cl hc;refine⟨n,rfl,C,f,fd,d.ps,c1,c2,c4 hs,(ih.1 d hd f fd h1.fn),?_⟩;by_cases hn:L7.contains d.cls=true
   .rw [ac hn];exact h1.bn hs hn
   .rw [af hn];exact h1.bd
  .obtain⟨d',hd',hn,hc,rfl⟩:=xb (show fT D (n_ G T D n).1 "ends_on"=some g from h);obtain⟨f',fd',h1⟩:=Tk.fn d' hd';have e:=ih.1 d' hd' f' fd' h1.fn;have e2:=h1.gl hc;rw[hn]at e e2;exact⟨n,rfl,f',fd',d'.ps,e,e2,h1.fn.kp,h1.bd⟩
theorem wH:∀s:List Int,b7 K F H (s.map .int) (s.map V.int)
 | []=>rfl
 |n::r=>⟨_,_,rfl,rfl,wH r⟩
theorem LF{K:FG}{H:Hp}{a:Addr}{n:List Int}{g:GF}{E:XK}(e:Dh H)(S:iB K H a (n.map V.int))(h:cI g [.ro (n.map .int)]=some (.bl true)):mI K g [.ref a] H (λv _=>v=.bl true) E:=by
 refine qy ⟨λb=>b=a/\H a≠none,[.ro (n.map .int)],.bl true,λb x=>(by rw[x.1];exact x.2),⟨_,_,rfl,⟨a,_,rfl,?_,wH n⟩,rfl⟩,h,λv F k _ r=>r⟩;rcases S with S|S
 .rcases e a with z|z|⟨o,f,z⟩
  .rcases S with S|⟨o,S⟩<;>rw[z]at S<;>cases S
  .rcases S with S|⟨o,S⟩<;>rw[z]at S<;>cases S
  .rcases S with S|⟨s,S⟩
   .rw [z]at S;cases S
   .exact .inl ⟨⟨rfl,by rw[z];exact λq=>nomatch q⟩,s,S⟩
 .exact .inr (.inr S)
open PySem L2
section
variable(L:Lc)(S:U)
@[simp] theorem Px(i:Nat):aj i L S=match L[i]? with|some (some d)=>some (d,S)|_=>none:=rfl
@[simp] theorem Ho(r:EE):eG r L S=bG (r L S) λd h=>match dO d h with|some n=>some (.int (n:Int),h)|none=>none:=by
 unfold eG;cases r L S with
 |none=>rfl
 |some z=>obtain⟨d,h⟩:=z;rw[ak,ak];cases dO d h<;>rfl
@[simp] theorem Ps(i:Nat)(v:P):av i v L=some (L.set i (some (.p v))):=rfl
end
@[simp] theorem qW(x:List B):(few x=true)=(x.length≤1000000):=by unfold few;simp
@[simp] theorem m_(n:Nat):(iu n=true)=(n≤1000000):=by unfold iu;simp
theorem bE{B:Type}{s:List B}{i:Int}{x:B}(a:0≤i)(h:s[i.toNat]? = some x):L2.atI s i=some x:=by have l:=(bw.mp h).1;unfold L2.atI L2.Dj;rw[ac a,ac (by lia)];exact h
@[simp] theorem OY(x:B)(s:List B):L2.atI (x::s) 0=some x:=bE (by lia) rfl
@[simp] theorem PK(x y:B)(s:List B):L2.atI (x::y::s) 1=some y:=bE (by lia) rfl
@[simp] theorem PJ(x y z:B)(s:List B):L2.atI (x::y::z::s) 2=some z:=bE (by lia) rfl
@[simp] theorem MR(x y z w:B)(s:List B):L2.atI (x::y::z::w::s) 3=some w:=bE (by lia) rfl
@[simp] theorem PC(x:List P)(i:Int):rh (.tup x) (.int i)=L2.atI x i:=rfl
@[simp] theorem PD(x:List P)(i:Int):rh (.lst x) (.int i)=L2.atI x i:=rfl
@[simp] theorem Rm(x:List P)(i:Int):rh (.ro x) (.int i)=L2.atI x i:=rfl
@[simp] theorem PF(k:List b0)(v:List P)(x:Str):rh (.dct k v) (.str x)=bW (.inr x) k v:=rfl
@[simp] theorem ON(i j:Int):C5 (.int i) (.int j)=some (.bl (decide (i=j))):=rfl
@[simp] theorem OM(i j:Str):C5 (.str i) (.str j)=some (.bl (decide (i=j))):=rfl
@[simp] theorem PH(i j:Bool):C5 (.bl i) (.bl j)=some (.bl (decide (i=j))):=rfl
@[simp] theorem PB(i j:Int):Md (.int i) (.int j)=some (.bl (!decide (i=j))):=rfl
@[simp] theorem Pz(i j:Str):Md (.str i) (.str j)=some (.bl (!decide (i=j))):=rfl
@[simp] theorem Rl(i j:Bool):Md (.bl i) (.bl j)=some (.bl (!decide (i=j))):=rfl
@[simp] theorem OO(i j:Int):vr (.int i) (.int j)=some (.int (i+j)):=rfl
@[simp] theorem OK(i j:Int):vq (.int i) (.int j)=if f8 i j=true then some (.int (i * j)) else none:=rfl
@[simp] theorem MH(x:List P)(n:Int):m7 (.tup x) (.int n)=if (iu (x.length * n.toNat) && decide (n.natAbs < 1000000))=true then some (.tup (List.replicate n.toNat x).flatten) else none:=rfl
@[simp] theorem MJ(x:Str)(n:Int):m7 (.str x) (.int n)=vq (.str x) (.int n):=rfl
@[simp] theorem OJ(i:Int):C2 (.int i)=some (.int (-i)):=rfl
theorem aS(a n:Nat)(b:ES)(s:List P):cI (mV a n b) s=if s.length=a then match b (s.map (λp=>some (.p p))++List.replicate (n-s.length) none) [] with
 |some (.rt d,_,S)=>(toP 9 d S).map (·.1)
 |some (.nx,_,_)=>some .non
 |_=>none else none:=by
 unfold cI mV;rw[aX,jL];by_cases h:s.length=a
 .rw [ac h,ac h];show (match lc (b (s.map (fun p=>some (D.p p))++List.replicate (n-s.length) none) []) with
   |some (d,S)=>(toP 9 d S).map (λ(x:P×U)=>x.1)
   |none=>none)=_
  cases b (s.map (λp=>some (D.p p))++List.replicate (n-s.length) none) [] with
  |none=>rfl
  |some z=>obtain⟨f,L,S⟩:=z;cases f<;>simp[lc]
 .rw [af h,af h]
theorem cm{g:kj}{b:ES}{v:P}{r:List P}{L h L2:Lc}{S x:U}(a:g v L=some h)(e:b h S=some (.nx,L2,x)):bZ g b (v::r) L S=bZ g b r L2 x:=by simp[bZ,a,e]
theorem wN{g:kj}{b:ES}{v:P}{r:List P}{L h L2:Lc}{S x:U}{d:D}(a:g v L=some h)(e:b h S=some (.rt d,L2,x)):bZ g b (v::r) L S=some (.rt d,L2,x):=by simp[bZ,a,e]
section
variable(L:Lc)(S:U)
@[simp] theorem ID(a:EV):i6 a L S=bG (a L S) λx h=>match x with | .int n=>if (decide (n.natAbs < 1000000))=true then some (intsFrom 0 n.toNat,h) else none|_=>none:=by
 unfold i6;cases a L S with
 |none=>rfl
 |some z=>obtain⟨x,h⟩:=z;cases x<;>first|rfl|simp
@[simp] theorem Ow(g:List kj)(v:List P):bD g (.tup v) L=qS g v L:=rfl
@[simp] theorem Ov:qS [] [] L=some L:=rfl
@[simp] theorem MG(g:kj)(s:List kj)(v:P)(h:List P):qS (g::s) (v::h) L=match g v L with|some a=>qS s h a|none=>none:=rfl
@[simp] theorem Qn(v:P):Hu (.p v) S=xO v:=rfl
@[simp] theorem O8(b:Bool):xO (.bl b)=some b:=rfl
@[simp] theorem No(i:Int):xO (.int i)=some (i != 0):=rfl
@[simp] theorem RX(x y:P):GB (.p x) (.p y) S=(IR x y).map .bl:=rfl
@[simp] theorem RW(x y:P):Dk (.p x) (.p y) S=(Di x y).map .bl:=rfl
end
@[simp] theorem Pw(i j:Int):IR (.int i) (.int j)=some (decide (i=j)):=rfl
@[simp] theorem Pu(i j:Str):IR (.str i) (.str j)=some (decide (i=j)):=rfl
@[simp] theorem Rj(i j:Bool):IR (.bl i) (.bl j)=some (decide (i=j)):=rfl
@[simp] theorem Pm(i j:Int):Di (.int i) (.int j)=some (!decide (i=j)):=rfl
@[simp] theorem Pl(i j:Str):Di (.str i) (.str j)=some (!decide (i=j)):=rfl
@[simp] theorem Q0(i j:Bool):Di (.bl i) (.bl j)=some (!decide (i=j)):=rfl
@[simp] theorem MO(i j:Int):m9 (.int i) (.int j)=some (.int (i+j)):=rfl
@[simp] theorem MM(x y:Str):m9 (.str x) (.str y)=vr (.str x) (.str y):=rfl
@[simp] theorem MN(x y:List P):m9 (.lst x) (.lst y)=if iu (x.length+y.length)=true then some (.lst (x++y)) else none:=rfl
@[simp] theorem MK(i j:Int):m7 (.int i) (.int j)=if f8 i j=true then some (.int (i * j)) else none:=rfl
@[simp] theorem C4(x:List P)(n:Int):m7 (.lst x) (.int n)=if (iu (x.length * n.toNat) && decide (n.natAbs < 1000000))=true then some (.lst (List.replicate n.toNat x).flatten) else none:=rfl
theorem wo(h:cA 20 v=true):Di v v=some false:=by
 unfold Di;have e:eA (pd v) (pd v)=true:=zW _ (fN 20 v h).1;cases q:Md v v with
 |none=>simp[h,e]
 |some z=>
  cases v with
  |int i=>cases q;simp
  |str i=>cases q;simp
  |bl i=>cases q;simp
  |non=>cases q
  |tup _=>cases q
  |lst _=>cases q
  |ro _=>cases q
  |dct _ _=>cases h
theorem BV(h:cA 20 (.lst s)=true):IR (.lst s) (.lst [])=some s.isEmpty:=by unfold IR;have e:cA 20 (.lst [])=true:=rfl;show(if (cA 20 (.lst s) && cA 20 (.lst []))=true then some (eA (pd (.lst s)) (pd (.lst []))) else none)=_;rw[h,e];cases s<;>rfl
theorem mO(h:cA 20 (.lst s)=true):Di (.lst s) (.lst [])=some (!s.isEmpty):=by unfold Di;have e:cA 20 (.lst [])=true:=rfl;show(if (cA 20 (.lst s) && cA 20 (.lst []))=true then some (!PyData.eqv (pd (.lst s)) (pd (.lst []))) else none)=_;rw[h,e];cases s<;>rfl
section
variable{L:Lc}{S:U}
@[simp high] theorem S_(d:D):aj 0 (some d::L) S=some (d,S):=rfl
@[simp high] theorem S7(a:Option D)(i:Nat):aj (i+1) (a::L) S=aj i L S:=rfl
@[simp ↓ high] theorem S4(x y:a):(if few ([]:List B)=true then x else y)=x:=rfl
@[simp ↓ high] theorem SY(a:B)(x y:s):(if few ([a]:List B)=true then x else y)=x:=rfl
@[simp ↓ high] theorem SX(a h:B)(x y:s):(if few ([a,h]:List B)=true then x else y)=x:=rfl
@[simp ↓ high] theorem SW(a h e:B)(x y:s):(if few ([a,h,e]:List B)=true then x else y)=x:=rfl
@[simp ↓ high] theorem SU(a h e s:B)(x y:k):(if few ([a,h,e,s]:List B)=true then x else y)=x:=rfl
@[simp ↓ high] theorem SR(a h e s n:B)(x y:k):(if few ([a,h,e,s,n]:List B)=true then x else y)=x:=rfl
@[simp ↓ high] theorem SQ(a h e s n k:B)(x y:b):(if few ([a,h,e,s,n,k]:List B)=true then x else y)=x:=rfl
@[simp ↓ high] theorem SN(a h e s n k f:B)(x y:b):(if few ([a,h,e,s,n,k,f]:List B)=true then x else y)=x:=rfl
@[simp high] theorem Td(v:P)(S:U):toP 9 (.p v) S=some (v,S):=rfl
@[simp ↓ high] theorem R3(x:Option (B×U))(f:B->U->Option s):bG x f=match x with|some (a,S)=>f a S|none=>none:=rfl
@[simp ↓ high] theorem SG(x y:a):(if true=true then x else y)=x:=rfl
@[simp ↓ high] theorem SH(x y:a):(if false=true then x else y)=y:=rfl
end
@[simp] theorem QQ(a b:String):(Str.ofString a=Str.ofString b)=(a=b):=by rw[yV,yV];exact propext ⟨λh=>String.toList_inj.mp ((Ad λ_ _=>Char.toNat_inj.mp).mp (by simpa using h)),λh=>by rw[h]⟩
end Ev
set_option tactic.hygienic false
namespace My
open PySem L2 Ev
noncomputable abbrev qp(x:P):Option D:=some (.p x)
noncomputable abbrev qi(x:Int):Option D:=some (.p (.int x))
noncomputable abbrev qs(x:Str):Option D:=some (.p (.str x))
noncomputable abbrev ql(x:List P):Option D:=some (.p (.lst x))
noncomputable abbrev qt(x:List P):Option D:=some (.p (.tup x))
noncomputable abbrev qr(x:Nat):Option D:=some (.ref x)
@[simp] abbrev vv(k:Nat):EV:=vE (aj k)
@[simp] abbrev vi(i:Int):EV:=vC (.int i)
@[simp] abbrev vt(x:Str):EV:=vC (.str x)
@[simp] abbrev v1(a:EV):jB:=aB a aR
@[simp] abbrev v2(a b:EV):jB:=aB a (aB b aR)
@[simp] abbrev v3(a b c:EV):jB:=aB a (aB b (aB c aR))
@[simp] abbrev v4(a b c d:EV):jB:=aB a (aB b (aB c (aB d aR)))
@[simp] abbrev v5(a b c d e:EV):jB:=aB a (aB b (aB c (aB d (aB e aR))))
@[simp] abbrev v6(a b c d e f:EV):jB:=aB a (aB b (aB c (aB d (aB e (aB f aR)))))
@[simp] abbrev v7(a b c d e f g:EV):jB:=aB a (aB b (aB c (aB d (aB e (aB f (aB g aR))))))
@[simp] abbrev v8(a b c d e f g h:EV):jB:=aB a (aB b (aB c (aB d (aB e (aB f (aB g (aB h aR)))))))
@[simp] abbrev JU(a:EE):sf:=bC a fC
@[simp] abbrev Mz(a b:EE):sf:=bC a (bC b fC)
@[simp] abbrev Mx(a b c:EE):sf:=bC a (bC b (bC c fC))
@[simp] abbrev RG(a b c d:EE):sf:=bC a (bC b (bC c (bC d fC)))
@[simp] abbrev JT(a b c d e:EE):sf:=bC a (bC b (bC c (bC d (bC e fC))))
@[simp] abbrev RF(a b c d e f:EE):sf:=bC a (bC b (bC c (bC d (bC e (bC f fC)))))
@[simp] abbrev bt(a b:EE):EB:=bV (dH GB a b)
@[simp] abbrev j9(a b:EE):EB:=bV (dH Dk a b)
@[simp] abbrev aM:EV->EV->EV:=kZ yC
@[simp] abbrev DU:EV->EV->EV:=kZ Ro
@[simp] abbrev DS:EV->EV->EV:=kZ Mc
@[simp] abbrev uB:EV->EV->EV:=kZ Ma
@[simp] abbrev aL:EV->EV->EV:=kZ Me
@[simp] abbrev df:EV->EV->EV:=kZ m7
@[simp] abbrev aQ:EV->EV->EV:=kZ m9
@[simp] abbrev A5:EV->EV->EV:=kZ IV
@[simp] abbrev ae:EV->EV->EV:=kZ rh
@[simp] abbrev DT:EV->EV->EV:=kZ Rn
@[simp] abbrev M6:EV->EV->EV:=kZ OL
@[simp] abbrev cB(g:GF):jB->EV:=cQ (cI g)
@[simp] abbrev bY:EV:=vE (aj 0)
@[simp] abbrev dU:EV:=vE (aj 1)
@[simp] abbrev fZ:EV:=vE (aj 3)
@[simp] abbrev pF:EV:=vE (aj 5)
@[simp] abbrev mE:EV:=vE (aj 7)
@[simp] abbrev km:EV:=vE (aj 4)
@[simp] abbrev k_:EV:=vE (aj 6)
@[simp] abbrev uA:EV:=vE (aj 8)
@[simp] abbrev f6:EV:=vE (aj 2)
@[simp] abbrev nE:EV:=vE (aj 10)
@[simp] abbrev mD:EV:=vE (aj 9)
@[simp] abbrev lb:EV:=vE (aj 11)
@[simp] abbrev dj:EV:=vC (.int 1)
@[simp] abbrev fX:EV:=vC (.int 2)
@[simp] abbrev eB:EV:=vC (.int 0)
@[simp] abbrev sh:EV:=vC (.int 4)
@[simp] abbrev hU:EV:=vC (.int 3)
@[simp] abbrev uC:EV:=vC (.int 5)
@[simp] abbrev fL:EE:=aj 0
@[simp] abbrev jP:EE:=aj 2
@[simp] abbrev kh:EE:=aj 1
@[simp] abbrev Ca:EE:=aj 3
@[simp] abbrev A6:EE:=aj 4
@[simp] abbrev oI:EE:=aj 10
noncomputable def Jo(i:Nat):Stmt:=PySem.Challenge.pw_roadsall_k51_whole_goings.main.body.getD i (.Pass ⟨0,0,0,0⟩)
noncomputable def Gv(x:Str):Option P:=if x=("HIGHEST_LETTER":Str) then some (.int 999) else if x=("MOST_STANDINGS":Str) then some (.int 2000) else if x=("NOBODY":Str) then some (.int (-1)) else none
noncomputable def Pd:LS:=["flaw_ends","Board.family_of","Board.hands_beside","takeable","targets_of","posted","sendings","step_ends","hand_ends","ends_on","Board.__init__"]
def Q4(st:Stmt):LS:=((bg st).names.filter λx=>[NameKind.local,.cell].contains x.2).map (·.1)
def Q2(x:Str)(t k:Nat)(N o d:LS):Df:=⟨x,x,"",Jo t,N,N.take k,o,d,Pd⟩
def j_(x:Str)(t k:Nat)(o d:LS:=[]):Df:=Q2 x t k (Q4 (Jo t)) o d
def pK:Df:=j_ "law" 49 1 ["_law_due","_law_found","_law_seen","whole"] ["_law_found","whole"]
noncomputable def Att:At:=[("Board",["families","homes","members","pairs","places"])]
def MT:List Df:=[j_ "_law_mix" 39 2,j_ "_law_cell_at" 38 2,j_ "_law_roads" 45 2 ["_law_roads_here"],j_ "_law_name" 40 2,j_ "_law_cells" 41 2 ["_law_cells_here"],j_ "_law_rooms" 44 2,j_ "_law_sum" 42 2,j_ "_law_sends" 46 5 ["_law_sends_here"],j_ "_law_condition" 43 2,j_ "_law_step" 47 6 ["_law_changes"],Q2 "_law_plan" 48 2 ["_law_script","_law_most","_law_many","_law_names","_law_roads_here","_law_families","_law_k","_law_family","_law_crew","_law_cells_here","_law_rooms_here","_law_whos","_law_steps","_law_j","_law_place","_law_drawn","_law_wishes","_law_still","_law_when","_law_step_here"] ["_law_families","_law_steps","_law_wishes"] [],j_ "has_flaw" 27 3,j_ "unlike_spots" 19 2,j_ "replaced" 30 3,j_ "without" 29 2,j_ "flawed" 28 3,j_ "flaw_ends" 26 3 ["board","ends"],j_ "values_of" 17 2,j_ "compared" 6 3,j_ "value_of" 4 2,j_ "holds" 5 2,j_ "takeable" 18 4 ["board","found"],j_ "cells_behind" 21 4 ["given","numbers"],j_ "whos_behind" 22 4,j_ "targets_of" 24 5 ["board"],j_ "posted" 25 5 ["board"],j_ "sendings" 23 6 ["board","further"],j_ "step_ends" 20 5 ["board","ends","values"] ["values","values_of"],j_ "hand_ends" 16 3 ["board","ends"],j_ "ends_on" 15 2 ["board","ends"],j_ "families_of" 11 1 ["homes"],j_ "pairs_of" 12 1 ["pairs"],j_ "ends_from" 14 2 ["return"] ["ends_on"],j_ "rows_from" 34 2 ["listed","rows"],j_ "begin" 13 1 ["hands"],j_ "coming_rows" 33 1 ["board","return"] ["<lambda>","rows_from"],j_ "whole" 36 1 ["return"] ["coming_rows"],pK]
def R6:List Df:=[⟨"Board.family_of","family_of","Board",(L2.k6 (Jo 10) 1),["self","hand"],["self","hand"],["self"],[],Pd⟩,⟨"Board.hands_beside","hands_beside","Board",(L2.k6 (Jo 10) 2),["self","hand","name"],["self","hand","name"],["self"],[],Pd⟩,⟨"Board.__init__","__init__","Board",(L2.k6 (Jo 10) 0),["self","plan","place","pair","hand"],["self","plan"],["self"],["families_of","pairs_of","places","self"],Pd⟩]
noncomputable def Tb:List Df:=MT++R6
noncomputable def Ph(n:Nat):Str->GF:=Ji Gv Att Tb n
abbrev EQ(x:Str)(a b:Nat)(f:(Str->GF)->ES):Prop:=∀n,Ph (n+2) x=mV a b (f (Ph (n+1)))
def iw(h:Str->GF):ES:=(aD 0 (O (aM bY (vi 2147483648))))
def kG (h:Str->GF):ES:=(ai (dI (bV (DU bY (DS (vi 10) (vi 12)))) (ai (aD 0 (O (uB (aM bY (DS (vi 10) (vi 12))) dj)))
  (ai (cf (i6 (aL dU (vi 61))) (av 2) (iw h))
  (be (O (aL bY (vi 2147483648)))))) fY)
  (ai (aD 3 (O (aL (df (aQ (aQ (aL bY (vi 1000003)) (df (df dU dU) (vi 7919))) dU) (vi 48271)) (vi 2147483629))))
  (ai (aD 3 (O (aL (df fZ fZ) (vi 2147483587))))
  (be (O (aM (aL (df fZ (aQ fZ fX)) (vi 2147483579)) (vi 7)))))))
theorem oA:EQ "_law_mix" 2 4 kG:=λ_=>by kernel_rfl
def gP (h:Str->GF):ES:=(ai (dI (bV (A5 dU (eG fL))) (be (O (ae bY dU))) fY)
  (be (O eB)))
theorem ka:EQ "_law_cell_at" 2 2 gP:=λ_=>by kernel_rfl
def d_ (h:Str->GF):ES:=(ai (aD 7 (O (cB (h "_law_mix") (v2 (cB (h "_law_cell_at") (v2 bY sh)) (aQ (df hU fZ) pF)))))
  (dI (bV (DT (aL mE sh) eB)) (ai (aD 8 (O (ae (bu (v2 (vt "row") (vt "heap"))) (aL (aM mE sh) fX))))
  (b8 (bM jP (O (aK (v6 km k_ uA dj (dH GB (O (aL (aM mE (vi 16)) hU)) (O dj)) (dH GB (O (aL (aM mE (vi 48)) hU)) (O dj)))))))) fY))
def gc(h:Str->GF):ES:=(cf (lH dU) (bD [av 5,av 6]) (d_ h))
def lA (h:Str->GF):ES:=(ai (aD 2 (dG aR))
  (ai (cf (lH dU) (bD [av 3,av 4]) (gc h))
  (be jP)))
theorem rW:EQ "_law_roads" 2 9 lA:=λ_=>by kernel_rfl
def np (h:Str->GF):ES:=(ai (aD 2 (O (cB (h "_law_mix") (v2 (cB (h "_law_cell_at") (v2 bY dj)) dU))))
  (be (O (aQ (df (ae (vt "abcdefghijklmnop") dU) (aQ dj (aL f6 sh))) (ae (vt "xyz") (aL (aM f6 sh) hU))))))
theorem vj:EQ "_law_name" 2 3 np:=λ_=>by kernel_rfl
def gf (h:Str->GF):ES:=(ai (aD 4 (O (cB (h "_law_mix") (v2 (cB (h "_law_cell_at") (v2 bY (aQ fX dU))) (aQ fX fZ)))))
  (ai (aD 5 (O (ae (bu (v4 eB eB (Nj C2 dj) uC)) (aL km sh))))
  (ai (aD 6 (O (aQ pF (ae (bu (v4 dj dj eB dj)) (aL (aM km sh) sh)))))
  (b8 (bM jP (O (aK (v4 (cB (h "_law_name") (v2 bY (aQ fX fZ))) pF k_ (aQ pF (aL (aM km (vi 16)) (aQ (uB k_ pF) dj)))))))))))
def lB (h:Str->GF):ES:=(ai (aD 2 (dG aR))
  (ai (cf (i6 (aL (cB (h "_law_mix") (v2 (cB (h "_law_cell_at") (v2 bY (aQ fX dU))) dj)) fX)) (av 3) (gf h))
  (be jP)))
theorem rX:EQ "_law_cells" 2 7 lB:=λ_=>by kernel_rfl
def lz (h:Str->GF):ES:=(ai (aD 2 (O (aQ dj (aL (cB (h "_law_mix") (v2 (cB (h "_law_cell_at") (v2 bY (aQ fX dU))) (vi 9))) fX))))
  (be (O (cx (i6 f6) [] 1 (av 3) iz (cB (h "_law_name") (v2 bY (aQ sh fZ)))))))
theorem rV:EQ "_law_rooms" 2 3 lz:=λ_=>by kernel_rfl
def dS (h:Str->GF):ES:=(ai (dI (Dc (bt kh (O (bu aR))) (bt (O (aL bY uC)) (O eB))) (be (O (aK (v2 (vt "number") (aL (aM bY uC) hU))))) fY)
  (ai (aD 2 (O (aK (v2 (vt "name") (ae dU (aL (aM bY uC) (eG kh)))))))
  (ai (dI (bt (O (aL bY uC)) (O dj)) (be jP) fY)
  (ai (dI (bt (O (aL bY uC)) (O fX)) (be (O (aK (v3 (vt "plus") f6 (aK (v2 (vt "number") (aL (aM bY (vi 20)) hU))))))) fY)
  (ai (dI (bt (O (aL bY uC)) (O hU)) (be (O (aK (v3 (vt "minus") (aK (v3 (vt "times") f6 (aK (v2 (vt "number") (aL (aM bY (vi 20)) hU))))) (aK (v2 (vt "number") (aL (aM bY (vi 60)) fX))))))) fY)
  (be (O (aK (v3 (vt "minus") (aK (v2 (vt "number") dj)) f6)))))))))
theorem fB:EQ "_law_sum" 2 3 dS:=λ_=>by kernel_rfl
def d9 (h:Str->GF):ES:=(ai (aD 8 (O (aM bY fX)))
  (ai (aD 9 (O (cB (h "_law_sum") (v2 (aL (aM uA (vi 12)) (vi 300)) f6))))
  (ai (aD 10 (O (ae (bu (v2 (vt "ma") (vt "mb"))) (df (aL uA fX) (aL (aM uA (vi 2000)) fX)))))
  (dI (kJ (j9 Ca (O (bu aR))) (bt (O (aL (aM uA fX) hU)) (O dj))) (b8 (bM (aj 6) (O (aK (v4 nE mD (vt "who") (ae fZ eB)))))) (dI (j9 (aj 5) (O (bu aR))) (b8 (bM (aj 6) (O (aK (v4 nE mD (ae (bu (v2 (vt "all") (vt "any"))) (aL (aM uA (vi 6)) fX)) (ae pF (aL (aM uA hU) (eG (aj 5))))))))) fY)))))
def ly (h:Str->GF):ES:=(ai (aD 5 (O (cx (i5 km) [] 1 (av 11) (bt (O (ae lb eB)) kh) (ae lb dj))))
  (ai (aD 6 (dG aR))
  (ai (cf (i6 (aL bY fX)) (av 7) (d9 h))
  (be (aj 6)))))
theorem rT:EQ "_law_sends" 5 11 ly:=λ_=>by kernel_rfl
def cy (h:Str->GF):ES:=(ai (dI (Dc (bt kh (O (bu aR))) (bV (A5 (aL bY uC) fX))) (be (O (aK (v1 (vt "true"))))) fY)
  (ai (aD 2 (O (ae (bu (v6 (vt "=") (vt "!=") (vt "<") (vt "<=") (vt ">") (vt ">="))) (aL (aM bY uC) (vi 6)))))
  (ai (aD 3 (O (aK (v4 (vt "is") f6 (aK (v2 (vt "name") (ae dU (aL (aM bY (vi 30)) (eG kh))))) (cB (h "_law_sum") (v2 (aM bY (vi 90)) dU))))))
  (ai (dI (bt (O (aL bY uC)) (O fX)) (be (O (aK (v2 (vt "not") fZ)))) fY)
  (ai (dI (bt (O (aL bY uC)) (O hU)) (be (O (aK (v3 (vt "or") fZ (aK (v3 (vt "and") (aK (v1 (vt "true"))) (aK (v4 (vt "is") (vt "=") (aK (v2 (vt "number") dj)) (aK (v2 (vt "name") (ae dU eB))))))))))) fY)
  (be Ca))))))
theorem cT:EQ "_law_condition" 2 4 cy:=λ_=>by kernel_rfl
def fj (h:Str->GF):ES:=(dI (kJ (j9 (aj 7) (O (bu aR))) (bt (O (aL (ae bY eB) hU)) (O dj))) (ai (aD 11 (O (vt "")))
  (ai (dI (kJ (j9 (aj 6) (O (bu aR))) (bt (O (aL (aM (ae bY eB) hU) fX)) (O dj))) (ai (aD 11 (O (ae k_ (Nj C2 dj))))
  (aD 9 (O (qe k_ il (gS (Nj C2 dj)))))) fY)
  (ai (aD 12 (O (vt "")))
  (ai (dI (kJ (j9 A6 (O (bu aR))) (bt (O (aL (aM (ae bY eB) (vi 6)) fX)) (O dj))) (aD 12 (O (ae km eB))) fY)
  (ai (aD 8 (O (aK (v4 (ae (bu (v2 (vt "ma") (vt "mb"))) (aL (aM (ae bY eB) (vi 12)) fX)) (ae mE (aL (aM (ae bY eB) (vi 24)) (eG (aj 7)))) lb (vv 12)))))
  (aD 10 (O (bu (v1 (vt "it")))))))))) fY)
def fh(h:Str->GF):ES:=(dI (bt (O (aL (aM (ae bY dj) (ae (bu (v2 dj (vi 1000))) (vv 14))) fX)) (O dj)) (b8 (bM (aj 13) (O (aK (v2 (vv 15) (cB (h "_law_sum") (v2 (aL (aM (ae bY dj) (ae (bu (v2 fX (vi 2000))) (vv 14))) (vi 300)) (aQ k_ nE)))))))) fY)
def nl (h:Str->GF):ES:=(ai (aD 6 (O (cx (i5 fZ) [] 1 (av 18) iz (ae (vv 18) eB))))
  (ai (aD 7 (O (cx (i5 pF) [] 1 (av 18) (bt (O (ae (vv 18) dj)) kh) (ae (vv 18) eB))))
  (ai (aD 8 (O (vC (.non))))
  (ai (aD 9 (O (cQ i7 (v1 k_))))
  (ai (aD 10 (O (bu aR)))
  (ai (fj h)
  (ai (aD 13 (dG aR))
  (ai (cf (lH mD) (bD [av 14,av 15]) (fh h))
  (ai (aD 16 (O (cB (h "_law_sends") (v5 (ae bY fX) dU k_ km pF))))
  (ai (aD 17 (O (cB (h "_law_condition") (v2 (aL (ae bY hU) (vi 27000)) k_))))
  (be (O (aK (v6 (ae f6 (aL (aM (ae bY hU) (vi 27000)) (eG jP))) (vv 17) uA (vv 13) (vv 16) (ae f6 (aL (aM (ae bY hU) (vi 81000)) (eG jP)))))))))))))))))
theorem vg:EQ "_law_step" 6 18 nl:=λ_=>by kernel_rfl
def fw (h:Str->GF):ES:=(ai (aD 14 (O (aQ uC (df sh (aQ (df hU k_) (vv 13))))))
  (ai (aD 15 (O (cx (i6 sh) [] 1 (av 20) iz (cB (h "_law_mix") (v2 (cB (h "_law_cell_at") (v2 bY (aQ (vv 14) (vv 20)))) (vi 11))))))
  (b8 (bM (aj 12) (O (aQ (aK (v1 (cB (h "_law_name") (v2 bY (aQ (vi 11) (vv 13)))))) (cB (h "_law_step") (v6 (vv 15) mE nE mD lb km))))))))
def fq (h:Str->GF):ES:=(ai (aD 8 (O (ae (bu (v2 (aQ dj (aL (aM (cB (h "_law_cell_at") (v2 bY eB)) fX) fX)) dj)) (uB f6 dj))))
  (ai (aD 9 (O (cB (h "_law_cells") (v2 bY k_))))
  (ai (aD 10 (O (cB (h "_law_rooms") (v2 bY k_))))
  (ai (aD 11 (O (df (bu (v1 (cB (h "_law_name") (v2 bY (vi 10))))) (df (aL (cB (h "_law_mix") (v2 (cB (h "_law_cell_at") (v2 bY (aQ fX k_))) (vi 8))) fX) (cQ lO (v1 (dH GB (O (eG oI)) (O dj))))))))
  (ai (aD 12 (dG aR))
  (ai (cf (i6 (aQ dj (aL (cB (h "_law_mix") (v2 (cB (h "_law_cell_at") (v2 bY (aQ fX k_))) (vi 7))) fX))) (av 13) (fw h))
  (b8 (bM (aj 5) (O (aK (v6 mE uA nE mD lb (vv 12))))))))))))
def fm (h:Str->GF):ES:=(ai (aD 15 (O (cB (h "_law_mix") (v2 (cB (h "_law_cell_at") (v2 bY sh)) (aQ (vi 20) k_)))))
  (ai (aD 7 (lu (aj 5) (aL (vv 15) f6)))
  (b8 (bM (aj 16) (O (aK (v3 (ae (bu (v2 (vt "weak") (vt "strong"))) (aL (aM (vv 15) fX) fX)) (ae mE eB) (ae (ae (ae mE uC) (aL (aM (vv 15) sh) (eG (O (ae mE uC))))) eB))))))))
def j4 (h:Str->GF):ES:=(ai (aD 2 (O (aQ dj (aL (cB (h "_law_cell_at") (v2 bY eB)) fX))))
  (ai (aD 3 (O (cx (i6 f6) [6] 0 (av 6) iz (cB (h "_law_name") (v2 bY k_)))))
  (ai (aD 4 (O (cB (h "_law_roads") (v2 bY fZ))))
  (ai (aD 5 (dG aR))
  (ai (cf (lH fZ) (bD [av 6,av 7]) (fq h))
  (ai (aD 16 (dG aR))
  (ai (dI (bt (O (aL (aM (cB (h "_law_cell_at") (v2 bY eB)) (vi 64)) sh)) (O dj)) (ai (aD 17 (O (bu (v2 (aK (v4 (cB (h "_law_name") (v2 bY (vi 12))) hU hU hU)) (aK (v4 (cB (h "_law_name") (v2 bY (vi 13))) eB eB eB))))))
  (ai (aD 18 (O (ae (bu (v2 (aK (v1 (vt "true"))) (aK (v2 (vt "not") (aK (v1 (vt "true"))))))) (aL (aM (cB (h "_law_cell_at") (v2 bY eB)) (vi 256)) fX))))
  (ai (aD 19 (O (aK (v7 (cB (h "_law_name") (v2 bY (vi 14))) (cB (h "_law_name") (v2 bY (vi 15))) (vv 18) (vC (.non)) (bu aR) (bu aR) (cB (h "_law_name") (v2 bY (vi 15)))))))
  (b8 (bM (aj 5) (O (aK (v6 (cB (h "_law_name") (v2 bY hU)) dj (bu (v1 (cB (h "_law_name") (v2 bY (vi 15))))) (vv 17) (bu (v1 (cB (h "_law_name") (v2 bY (vi 9))))) (bu (v1 (vv 19))))))))))) fY)
  (ai (cf (i6 (aL (aM (cB (h "_law_cell_at") (v2 bY eB)) (vi 20)) hU)) (av 6) (fm h))
  (be (O (aK (v3 pF km (vv 16)))))))))))))
theorem vh:EQ "_law_plan" 2 20 j4:=λ_=>by kernel_rfl
def j6 (h:Str->GF):ES:=(ai (dI (bt kh (O (vt "lose"))) (be (O (ae bY sh))) fY)
  (be (O (vB (kJ (bV (ae bY uC)) (bV (A5 (eG jP) (ae bY hU))))))))
theorem mY:EQ "has_flaw" 3 3 j6:=λ_=>by kernel_rfl
def gb (h:Str->GF):ES:=(ai (aD 2 (O (Nl (eG kh))))
  (ai (dI (bt fL (O (vt "row"))) (be jP) fY)
  (be (O (cx (i5 f6) [] 1 (av 3) (bt (O (xK dU (ae dU fZ))) Ca) fZ)))))
theorem jq:EQ "unlike_spots" 2 3 gb:=λ_=>by kernel_rfl
def ni(h:Str->GF):ES:=(be (O (aQ (aQ (qe bY il (gS dU)) (aK (v1 f6))) (qe bY (gS (aQ dU dj)) il))))
theorem vc:EQ "replaced" 3 3 ni:=λ_=>by kernel_rfl
def oG(h:Str->GF):ES:=(be (O (aQ (qe bY il (gS dU)) (qe bY (gS (aQ dU dj)) il))))
theorem wQ:EQ "without" 2 2 oG:=λ_=>by kernel_rfl
def rD (h:Str->GF):ES:=(ai (dI (bt fL (O (vt "lose"))) (be (O (cB (h "without") (v2 dU f6)))) fY)
  (be (O (aQ (qe dU il (gS (aQ f6 dj))) (qe dU (gS f6) il)))))
theorem yy:EQ "flawed" 3 3 rD:=λ_=>by kernel_rfl
def gh (h:Str->GF):ES:=(ai (aD 11 (O (cB (h "replaced") (v3 (ae dU dj) km (cB (h "flawed") (v3 f6 mD nE))))))
  (b8 (bM Ca (O (aK (v2 (aK (v4 f6 mE uA nE)) (aK (v2 (ae dU eB) lb))))))))
def ei (h:Str->GF):ES:=(ai (xV (bD [av 6,av 7,av 8]) pF)
  (ai (aD 9 (O (ae (ae dU dj) km)))
  (dI (bT (O (cB (h "has_flaw") (v3 k_ f6 mD)))) (cf (i5 (cB (h "unlike_spots") (v2 (ae k_ fX) mD))) (av 10) (gh h)) fY)))
def gA (h:Str->GF):ES:=(ai (aD 3 (dG aR))
  (ai (cf (lH (vE (dR (aT Att) fL "pairs"))) (bD [av 4,av 5]) (ei h))
  (be Ca)))
theorem rZ:Ph 13 "flaw_ends"=mV 3 12 (gA (Ph 12)):=by kernel_rfl
def lg(h:Str->GF):ES:=(be (lu (dR (aT Att) fL "families") (vE (lu (dR (aT Att) fL "homes") dU))))
theorem gU:EQ "Board.family_of" 2 2 lg:=λ_=>by kernel_rfl
def lx(h:Str->GF):ES:=(be (yz (cx (i5 (ae bY hU)) [] 1 (av 2) iz (ae f6 eB)) dU))
theorem rR:EQ "values_of" 2 2 lx:=λ_=>by kernel_rfl
def cU (h:Str->GF):ES:=(ai (dI (bt fL (O (vt "="))) (be (O (dH GB kh jP))) fY)
  (ai (dI (bt fL (O (vt "!="))) (be (O (dH Dk kh jP))) fY)
  (ai (dI (bt fL (O (vt "<"))) (be (O (A5 dU f6))) fY)
  (ai (dI (bt fL (O (vt "<="))) (be (O (M6 dU f6))) fY)
  (ai (dI (bt fL (O (vt ">"))) (be (O (DT dU f6))) fY)
  (be (O (DU dU f6))))))))
theorem vk:EQ "compared" 3 3 cU:=λ_=>by kernel_rfl
def d6 (h:Str->GF):ES:=(ai (aD 2 (O (ae bY eB)))
  (ai (dI (bt jP (O (vt "number"))) (be (O (ae bY dj))) fY)
  (ai (dI (bt jP (O (vt "name"))) (be (O (ae dU (ae bY dj)))) fY)
  (ai (aD 3 (O (cB (h "value_of") (v2 (ae bY dj) dU))))
  (ai (aD 4 (O (cB (h "value_of") (v2 (ae bY fX) dU))))
  (ai (dI (bt jP (O (vt "plus"))) (be (O (aQ fZ km))) fY)
  (ai (dI (bt jP (O (vt "minus"))) (be (O (uB fZ km))) fY)
  (be (O (df fZ km))))))))))
theorem fQ:EQ "value_of" 2 5 d6:=λ_=>by kernel_rfl
def ib (h:Str->GF):ES:=(ai (aD 2 (O (ae bY eB)))
  (ai (dI (bt jP (O (vt "true"))) (be (O (vC (.bl true)))) fY)
  (ai (dI (bt jP (O (vt "not"))) (be (O (vB (vD (bV (cB (h "holds") (v2 (ae bY dj) dU))))))) fY)
  (ai (dI (bt jP (O (vt "and"))) (be (O (vB (kJ (bV (cB (h "holds") (v2 (ae bY dj) dU))) (bV (cB (h "holds") (v2 (ae bY fX) dU))))))) fY)
  (ai (dI (bt jP (O (vt "or"))) (be (O (vB (Dc (bV (cB (h "holds") (v2 (ae bY dj) dU))) (bV (cB (h "holds") (v2 (ae bY fX) dU))))))) fY)
  (be (O (cB (h "compared") (v3 (ae bY dj) (cB (h "value_of") (v2 (ae bY fX) dU)) (cB (h "value_of") (v2 (ae bY hU) dU)))))))))))
theorem jr:EQ "holds" 2 3 ib:=λ_=>by kernel_rfl
def fV(h:Str->GF):ES:=(be (O (cx (i5 (vE (lu (dR (aT Att) fL "members") f6))) [] 1 (av 3) (j9 Ca kh) fZ)))
theorem jY:EQ "Board.hands_beside" 3 3 fV:=λ_=>by kernel_rfl
def e_ (h:Str->GF):ES:=(ai (aD 6 (wS (dR (aT Att) fL "places") (v2 pF f6)))
  (ai (aD 7 (lu (lu (lu (dR (aT Att) fL "pairs") k_) eB) fX))
  (ai (aD 8 (O (ae dU k_)))
  (ai (aD 9 (O (Nm (bt (aj 7) (O (vt "row"))) (qe (Nl (eG (aj 8))) il (gS dj)) (cB (h "unlike_spots") (v2 mE uA)))))
  (b8 (fR A6 (cx (i5 mD) [] 1 (av 10) (bt (O (ae (ae uA nE) eB)) (O (ae fZ eB))) (aK (v2 pF nE)))))))))
def j3 (h:Str->GF):ES:=(ai (dI (bV (dH vK Ca (O (vC (.non))))) (be (O (bu (v1 (vC (.non)))))) fY)
  (ai (aD 4 (dG aR))
  (ai (cf (i5 (vE (dQ (mT Tb h) fL "hands_beside" (Mz jP (O (ae fZ dj)))))) (av 5) (e_ h))
  (be A6))))
theorem mX:EQ "takeable" 4 10 j3:=λ_=>by kernel_rfl
def gW(h:Str->GF):ES:=(jd A6 pF (cB (h "value_of") (v2 k_ fZ)))
def bf (h:Str->GF):ES:=(ai (aD 10 (O (D0 km (ae mD eB) (ae dU uA))))
  (ai (dI (kJ (bV (dH wL (O (ae mD eB)) A6)) (vD (bV (nH OL OL (ae mD dj) nE (ae mD fX))))) (be (O (vC (.non)))) fY)
  (b8 (bM (aj 7) oI))))
def gi (h:Str->GF):ES:=(ai (aD 4 oB)
  (ai (cf (i5 (ae f6 sh)) (bD [av 5,av 6]) (gW h))
  (ai (dI (kJ (bV (dH dB (O (ae f6 hU)) (O (vC (.non))))) (j9 (O (ae (ae f6 hU) fX)) (O (vt "")))) (jd A6 (ae (ae f6 hU) fX) (ae fZ (vt "it"))) fY)
  (ai (aD 7 (dG aR))
  (ai (cf (lH (ae bY hU)) (bD [av 8,av 9]) (bf h))
  (be (O (cQ eY (v1 mE)))))))))
theorem js:EQ "cells_behind" 4 11 gi:=λ_=>by kernel_rfl
def eZ (h:Str->GF):ES:=(ai (dI (Dc (bV (dH vK jP (O (vC (.non))))) (bt (O (ae f6 hU)) (O (vt "")))) (be kh) fY)
  (be (O (cB (h "replaced") (v3 dU (xK (ae bY sh) (ae f6 hU)) (ae fZ eB))))))
theorem gL:EQ "whos_behind" 4 4 eZ:=λ_=>by kernel_rfl
def fS (h:Str->GF):ES:=(ai (dI (bt jP (O (vt "who"))) (be (O (bu (v1 (aK (v2 (aK aR) (bu (v1 (ae km (xK (ae (vE (dQ (mT Tb h) fL "family_of" (JU kh))) sh) fZ)))))))))) fY)
  (ai (aD 5 (dQ (mT Tb h) fL "hands_beside" (Mz kh Ca)))
  (ai (dI (bt jP (O (vt "all"))) (be (O (bu (v1 (aK (v2 (aK aR) pF)))))) fY)
  (be (O (cx (i5 pF) [] 1 (av 6) iz (aK (v2 (aK (v1 k_)) (bu (v1 k_))))))))))
theorem ir:EQ "targets_of" 5 6 fS:=λ_=>by kernel_rfl
def gx (h:Str->GF):ES:=(ai (aD 6 (sL (dR (aT Att) fL "places") (v2 f6 pF)))
  (ai (dI (Dc (bV (dH vK (aj 6) (O (vC (.non))))) (bV (DT (cQ oF (v1 (ae km dj))) (vi 999)))) (be (O (vC (.non)))) fY)
  (ai (aD 7 (lu (lu (dR (aT Att) fL "pairs") k_) eB))
  (ai (dI (bV (DU (eG (O (ae dU k_))) (ae mE hU))) (be (O (vC (.non)))) fY)
  (ai (aD 8 (O (aQ (ae dU k_) (aK (v1 km)))))
  (ai (dI (bt (O (ae mE fX)) (O (vt "heap"))) (aD 8 (O (cQ eY (v1 (DY (aj 8)))))) fY)
  (aD 1 (O (cB (h "replaced") (v3 dU k_ uA))))))))))
def lP (h:Str->GF):ES:=(ai (cf (i5 fZ) (av 5) (gx h))
  (be kh))
theorem qX:EQ "posted" 5 9 lP:=λ_=>by kernel_rfl
def gO (h:Str->GF):ES:=(ai (aD 17 (O (fx (h "posted") (JT fL (aj 14) kh (aj 16) (aj 11)))))
  (dI (bV (dH dB (aj 17) (O (vC (.non))))) (b8 (bM (aj 12) (O (aK (v2 (aQ (vv 13) (vv 15)) (vv 17)))))) fY))
def ff(h:Str->GF):ES:=(cf (i5 (fx (h "targets_of") (JT fL kh (aj 9) oI (aj 5)))) (bD [av 15,av 16]) (gO h))
def gN (h:Str->GF):ES:=(ai (aD 11 (O (aK (v2 mE (cB (h "value_of") (v2 uA fZ))))))
  (ai (aD 12 (dG aR))
  (ai (cf (i5 k_) (bD [av 13,av 14]) (ff h))
  (aD 6 (aj 12)))))
def nh (h:Str->GF):ES:=(ai (aD 6 (O (bu (v1 (aK (v2 (aK aR) km))))))
  (ai (cf (i5 f6) (bD [av 7,av 8,av 9,av 10]) (gN h))
  (be (aj 6))))
theorem va:EQ "sendings" 6 18 nh:=λ_=>by kernel_rfl
def jx(h:Str->GF):ES:=(b8 (bM (aj 13) (O (aK (v2 (aK (v5 (vt "step") f6 (ae fZ eB) km (vv 14))) (aK (v2 (vv 12) (vv 15))))))))
def eN (h:Str->GF):ES:=(ai (aD 5 (dQ (mT Tb h) fL "family_of" (JU jP)))
  (ai (xV (bD [av 6,av 7,av 8]) (ae (ae dU eB) f6))
  (ai (aD 9 (O (ae dU dj)))
  (ai (aD 10 (gM (h "values_of") (Mz (aj 5) (aj 7))))
  (ai (dI (bV (dH dB A6 (O (vC (.non))))) (ai (aD 11 (wS (dR (aT Att) fL "places") (v2 (ae km eB) f6)))
  (ai (jd oI (vt "it") (ae (ae (ae mD lb) (ae km dj)) dj))
  (aD 9 (O (cB (h "replaced") (v3 mD lb (cB (h "without") (v2 (ae mD lb) (ae km dj))))))))) fY)
  (ai (aD 7 (O (cB (h "cells_behind") (v4 pF mE fZ nE))))
  (ai (dI (bV (dH vK (aj 7) (O (vC (.non))))) (be (O (bu aR))) fY)
  (ai (aD 8 (O (cB (h "whos_behind") (v4 pF uA (ae fZ hU) km))))
  (ai (aD 12 (O (cB (h "replaced") (v3 (ae dU eB) f6 (aK (v3 (xK (ae pF fX) (ae fZ (vi 6))) mE uA))))))
  (ai (aD 13 (dG aR))
  (ai (cf (i5 (fx (h "sendings") (RF fL jP (O (ae fZ uC)) oI (aj 9) (aj 8)))) (bD [av 14,av 15]) (jx h))
  (be (aj 13)))))))))))))
theorem lr:EQ "step_ends" 5 16 eN:=λ_=>by kernel_rfl
def jz(h:Str->GF):ES:=(b8 (fR (aj 8) (fx (h "step_ends") (JT fL kh jP (aj 9) oI))))
def ee(h:Str->GF):ES:=(dI (kJ (bt (O (ae mD dj)) (O (ae (ae fZ fX) km))) (bT (O (cB (h "holds") (v2 (ae mD fX) mE))))) (cf (i5 (fx (h "takeable") (RG fL (O (ae dU dj)) jP (O (ae mD hU))))) (av 10) (jz h)) fY)
def gy (h:Str->GF):ES:=(ai (aD 3 (dQ (mT Tb h) fL "family_of" (JU jP)))
  (ai (xV (bD [av 4,av 5,av 6]) (ae (ae dU eB) f6))
  (ai (aD 7 (O (cB (h "values_of") (v2 fZ pF))))
  (ai (aD 8 (dG aR))
  (ai (cf (i5 (ae fZ uC)) (av 9) (ee h))
  (be (aj 8)))))))
theorem rY:Ph 13 "hand_ends"=mV 3 11 (gy (Ph 12)):=by kernel_rfl
def kH(h:Str->GF):ES:=(b8 (fR jP (fx (h "hand_ends") (Mx fL kh Ca))))
def kI (h:Str->GF):ES:=(ai (aD 2 (dG aR))
  (ai (cf (i6 (eG (dR (aT Att) fL "homes"))) (av 3) (kH h))
  (ai (b8 (fR jP (fx (h "flaw_ends") (Mx fL kh (O (vt "lose"))))))
  (ai (b8 (fR jP (fx (h "flaw_ends") (Mx fL kh (O (vt "double"))))))
  (be jP)))))
theorem wR:Ph 14 "ends_on"=mV 2 4 (kI (Ph 13)):=by kernel_rfl
def fy(h:Str->GF):ES:=(b8 (fR kh (df (bu (v1 f6)) (ae fZ dj))))
def kf (h:Str->GF):ES:=(ai (aD 1 (dG aR))
  (ai (cf (lH (ae bY eB)) (bD [av 2,av 3]) (fy h))
  (be kh)))
theorem oP:EQ "families_of" 1 4 kf:=λ_=>by kernel_rfl
def fg (h:Str->GF):ES:=(dI (bt (aj 5) (O (ae fZ eB))) (ai (aD 6 (O (cx (i6 (eG kh)) [] 1 (av 7) (kJ (j9 (aj 7) A6) (bt (O (ae dU mE)) (O (ae fZ dj)))) mE)))
  (b8 (fR jP (cx (i5 k_) [] 1 (av 7) iz (aK (v3 fZ km mE)))))) fY)
def kc(h:Str->GF):ES:=(cf (lH dU) (bD [av 4,av 5]) (fg h))
def nj (h:Str->GF):ES:=(ai (aD 1 (O (cx (i5 (cB (h "families_of") (v1 bY))) [] 1 (av 7) iz (ae (ae (ae bY eB) mE) eB))))
  (ai (aD 2 (dG aR))
  (ai (cf (i5 (ae bY dj)) (av 3) (kc h))
  (be jP))))
theorem vd:EQ "pairs_of" 1 7 nj:=λ_=>by kernel_rfl
def cz(h:Str->GF):ES:=(b8 (bM (mZ (dR (aT Att) (aj 0) "members") (kZ rh (vE (dQ (mT Tb h) (aj 0) "family_of" (bC (aj 4) fC))) (vC (.int 0))) (dG aR)) (aj 4)))
def fU(h:Str->GF):ES:=(Eh (dR (aT Att) fL "places") (v2 (ae fZ dj) (ae fZ fX)) f6)
def iy (h:Str->GF):ES:=(ai (oj (aT Att) fL "families" (O (ae dU eB)))
  (ai (oj (aT Att) fL "homes" (gM (h "families_of") (JU kh)))
  (ai (oj (aT Att) fL "pairs" (gM (h "pairs_of") (JU kh)))
  (ai (oj (aT Att) fL "places" yA)
  (ai (cf (lH (vE (dR (aT Att) fL "pairs"))) (bD [av 2,av 3]) (fU h))
  (ai (oj (aT Att) fL "members" oB)
  (cf (i6 (eG (dR (aT Att) fL "homes"))) (av 4) (cz h))))))))
theorem qY:EQ "Board.__init__" 2 5 iy:=λ_=>by kernel_rfl
def i9(x h:Str->GF):ES:=(be (gM (x "ends_on") (bC (qZ (h "Board.__init__") "Board" (bC (aj 0) fC)) (bC (aj 1) fC))))
theorem r9(n:Nat):Ph (n+2) "ends_from"=mV 2 2 (i9 (Ph (n+1)) (Ph n)):=by kernel_rfl
def jy (h:Str->GF):ES:=(dI (bV (dH hY (aj 7) (aj 3))) (ai (dI (bV (dH GB (O (eG (aj 2))) (O (vC (.int 2000))))) uO fY)
  (ai (sk (aj 3) (vE (aj 7)) (vC (.bl true)))
  (b8 (bM (aj 2) (O (aK (aB (vE (aj 7)) (aB (vE (aj 4)) (aB (vE (aj 6)) aR))))))))) fY)
def d8(h:Str->GF):ES:=(jy h)
def d7 (x h:Str->GF):ES:=(ai (aD 5 (lu (lu (aj 2) (vE (aj 4))) (vC (.int 0))))
  (ai (cf (i5 (qf (h "ends_on") 1 (vE (aj 5)))) (bD [av 6,av 7]) (d8 x))
  (Ej 4 (vC (.int 1)))))
def i8 (x h:Str->GF):ES:=(ai (aD 2 (q_ (cx (i5 (vE (aj 0))) [] 1 (av 8) iz (aK (aB (vE (aj 8)) (aB (vC (.non)) (aB (vC (.non)) aR)))))))
  (ai (aD 3 (vl (cx (i5 (vE (aj 0))) [] 1 (av 8) iz (aK (aB (vE (aj 8)) (aB (vC (.bl true)) aR))))))
  (ai (aD 4 (O (vC (.int 0))))
  (ai (nK 1000 (bV (kZ IV (vE (aj 4)) (eG (aj 2)))) (d7 x h))
  (be (aj 2))))))
theorem rS(n:Nat):Ph (n+2) "rows_from"=mV 2 8 (i8 (Ph (n+1)) (Ph n)):=by kernel_rfl
def j7 (h:Str->GF):ES:=(ai (aD 3 (O (ae (ae (ae bY eB) f6) hU)))
  (ai (aD 4 (O (ae (ae (ae bY eB) f6) sh)))
  (b8 (bM kh (O (aK (v3 eB (cQ eY (v1 (cx (i5 fZ) [] 1 (av 5) iz (ae pF hU)))) (df (aK (v1 (vi (-1)))) (eG A6)))))))))
def s_ (h:Str->GF):ES:=(ai (aD 1 (dG aR))
  (ai (cf (i5 (cB (h "families_of") (v1 bY))) (av 2) (j7 h))
  (be (O (aK (v2 (cQ eY (v1 dU)) (df (aK (v1 (aK aR))) (eG (O (cB (h "pairs_of") (v1 bY)))))))))))
theorem CY:EQ "begin" 1 5 s_:=λ_=>by kernel_rfl
def gQ (h x:Str->GF):ES:=(ai (aD 1 (qZ (x "Board.__init__") "Board" (bC (aj 0) fC)))
  (be (vo (h "rows_from") 1 (bu (aB (cQ (cI (h "begin")) (aB (vE (aj 0)) aR)) aR)))))
theorem oQ(n:Nat):Ph (n+2) "coming_rows"=mV 1 2 (gQ (Ph (n+1)) (Ph n)):=by kernel_rfl
def Db(h:Str->GF):ES:=(be (gM (h "coming_rows") (bC (aj 0) fC)))
theorem CW:EQ "whole" 1 1 Db:=λ_=>by kernel_rfl
def lS (h:Str->GF):ES:=(dI (bV (dH hY (aj 7) (aj 4))) (ai (sk (aj 4) (vE (aj 7)) (vC (.bl true)))
  (b8 (bM (aj 3) (O (aK (aB (vE (aj 7)) (aB (vE (aj 5)) (aB (vE (aj 6)) aR)))))))) fY)
def j5 (h:Str->GF):ES:=(ai (cf (i5 (cQ (cI (h "ends_from")) (aB (vE (aj 1)) (aB (vE (lu (lu (aj 3) (vE (aj 5))) (vC (.int 0)))) aR)))) (bD [av 6,av 7]) (lS h))
  (aD 5 (O (kZ m9 (vE (aj 5)) (vC (.int 1))))))
def lR(h:Str->GF):ES:=(dI (Dc (vD (bT (O (oh "int" (aj 11))))) (bT (O (oh "bool" (aj 11))))) (be (O (vC (.bl false)))) fY)
def lQ (h:Str->GF):ES:=(ai (aD 9 (rc (h "whole") (aB (vE (aj 2)) aR)))
  (ai (dI (Dc (vD (bT (O (oh "list" (aj 9))))) (Dc (bV (dH Dk (aj 9) (aj 3))) (bV (dH Dk (aj 2) (aj 1))))) (be (O (vC (.bl false)))) fY)
  (ai (cf (i5 (DZ (aj 9) (gS (vC (.int 1))) il)) (bD [av 10,av 11,av 6]) (lR h))
  (b8 (vn (aj 9))))))
def pM (h:Str->GF):ES:=(ai (aD 1 (O (cQ (cI (h "_law_plan")) (aB (vE (aj 0)) (aB (vC (.int 2)) aR)))))
  (ai (aD 2 (O (aK (aB (cQ i7 (aB (kZ rh (vE (aj 1)) (vC (.int 0))) aR)) (aB (cQ i7 (aB (kZ rh (vE (aj 1)) (vC (.int 1))) aR)) (aB (cQ i7 (aB (kZ rh (vE (aj 1)) (vC (.int 2))) aR)) aR))))))
  (ai (aD 3 (dG (aB (aK (aB (cQ (cI (h "begin")) (aB (vE (aj 1)) aR)) (aB (vC (.non)) (aB (vC (.non)) aR)))) aR)))
  (ai (aD 4 (vm (vE (lu (lu (aj 3) (vC (.int 0))) (vC (.int 0)))) (vC (.bl true))))
  (ai (aD 5 (O (vC (.int 0))))
  (ai (nK 1000 (bV (kZ IV (vE (aj 5)) (eG (aj 3)))) (j5 h))
  (ai (cf (i6 (vC (.int 2))) (av 8) (lQ h))
  (be (O (vC (.bl true)))))))))))
theorem IT:EQ "law" 1 12 pM:=λ_=>by kernel_rfl
variable{a:Type}{m:List a}{n:Nat}
theorem Q5(h:m.length=n+1):∃a r,m=a::r/\r.length=n:=by
 cases m with
 |nil=>cases h
 |cons a r=>exact⟨a,r,rfl,Nat.succ.inj h⟩
theorem RT(h:m.length=1):∃a,m=[a]:=by obtain⟨a,r,rfl,x⟩:=Q5 h;exact⟨a,by rw[g_ x]⟩
theorem Po(h:m.length=2):∃a b,m=[a,b]:=by obtain⟨a,r,rfl,x⟩:=Q5 h;obtain⟨b,rfl⟩:=RT x;exact⟨a,b,rfl⟩
theorem Sx(h:m.length=3):∃a b c,m=[a,b,c]:=by obtain⟨a,r,rfl,x⟩:=Q5 h;obtain⟨b,c,rfl⟩:=Po x;exact⟨a,b,c,rfl⟩
theorem vO:∀{s:LS}{m:LV},s.Nodup->m.length=s.length->(s.filterMap λn=>((s.zip m).lookup n).map (n,·))=s.zip m/\∀n ∈ s,((s.zip m).lookup n).isNone=false
 | [],m,_,l=>by cases g_ l;simp
 |p::s,[],_,l=>by cases l
 |p::s,u::m,x,l=>by
  obtain⟨k,f⟩:=bP.mp x;obtain⟨i,t⟩:=vO f (Nat.succ.inj l);have a:∀n ∈ s,(n == p)=false:=λn h=>beq_false_of_ne λz=>k (z ▸ h);refine⟨?_,λn r=>?_⟩
  .have c:∀{qs:LS},(∀n ∈ qs,(n == p)=false)->(qs.filterMap λn=>(((p,u)::s.zip m).lookup n).map (n,·))=qs.filterMap λn=>((s.zip m).lookup n).map (n,·):=λ{qs} h=>by
    induction qs with
    |nil=>rfl
    |cons q qs v=>rw[mn,mn,v λn x=>h n (aG _ x)];simp[fH,h q aH]
   rw[Ae,List.filterMap_cons_some (b:=(p,u)) (by simp[List.lookup_cons_self]),c a,i]
  .rw [Ae];by_cases e:n=p
   .subst e;simp[fH]
   .simp only[fH,beq_false_of_ne e];exact t n ((aN.mp r).resolve_left e)
noncomputable def x6(a:Arguments)(p:LS):Bool:=a.posonlyargs.isEmpty && a.kwonlyargs.isEmpty && a.vararg.isNone && a.kwarg.isNone && decide (a.args.map (·.arg)=p) && decide p.Nodup
theorem Gk{f:FuncData}{p:LS}(h:x6 f.params p=true)(hd:f.defaults=.none){m:LV}(l:m.length=p.length):bindArgs f ⟨m,[]⟩=pure (p.zip m):=by
 simp only[x6,ar,t8,mi,Option.isNone_iff_eq_none]at h;obtain⟨⟨⟨⟨⟨x,a⟩,e⟩,s⟩,k⟩,b⟩:=h;obtain⟨t,q⟩:=vO b l;have c:(p.filter λn=>((p.zip m).lookup n).isNone)=[]:=Ak.mpr λn r=>by simp[q n r]
 have v:p.take p.length=p:=mj;have z:p.drop p.length=[]:=pj;unfold bindArgs;simp only[x,a,e,s,k,hd,dY,eR,cP,l];simp[seqItems?,c,t,z];rfl
theorem sc:Tb.all Pc=true:=by decide +kernel
theorem un:(Tb.map (·.name)).Nodup:=by decide +kernel
inductive Fn(K:FG)(x:Str)(st:Stmt):Prop
 |mk (f:Addr) (oc:Value) (od:Option Addr) (kV dc pm:Value) (an:Option Addr) (cd ct:Value) (sl:Array (OV)):pZ K mainGlobals x=some (some (.ref f))->K.lookup f=some ⟨oc,od,.func (iY x x (hZ st) (eX st) (bg st) .none kV dc pm an cd ct),sl⟩->iZ K cd x=true->dD K (.ref f)=true->Fn K x st
def Lp(d:Df):Bool:=d.cls.cps.isEmpty && decide (d.short=d.name) && !L7.contains d.cls && x6 (hZ d.st) d.ps
theorem QY:MT.all Lp=true:=by decide +kernel
structure Ck(K:FG)(x:Str)(C:Addr):Prop where
 ns:pZ K mainGlobals x=some (some (.ref C))
 get:p9 K C Str.empty=true
 dct:ur K C=true
 ovr:xF K C=true
 set:dC K (.ref C) "__setattr__"=some (some (.builtin "object.__setattr__"))
 mak:xA K C=true
 kp:dD K (.ref C)=true
inductive Mt(K:FG)(C:Addr)(st:Stmt)(m q:Str)(dV:Value):Prop
 |mk (f:Addr) (oc:Value) (od:Option Addr) (kV dc pm:Value) (an:Option Addr) (cd ct:Value) (sl:Array (OV)):dC K (.ref C) m=some (some (.ref f))->t6 K (.ref f)=true->K.lookup f=some ⟨oc,od,.func (iY m q (hZ st) (eX st) (bg st) dV kV dc pm an cd ct),sl⟩->iZ K cd q=true->dD K (.ref f)=true->Mt K C st m q dV
section
variable{K:FG}{h:Heap}{b:SV}(X:K.In h)(G:h.Ns mainGlobals b)
include X G
theorem dk{d:Df}(H:Fn K d.name d.st)(p:Lp d=true):∃f s,DOk K b d f s:=by obtain⟨x,P,e,st,N,S,y,i,F⟩:=d;simp only[Lp,ar,mx,t8]at p;obtain⟨⟨⟨n,rfl⟩,r⟩,t⟩:=p;obtain⟨f,o,j,kV,g,z,v,w,u,A,a,l,c,k⟩:=H;exact⟨_,_,⟨FQ l c k,.all λm q=>Gk t rfl q,λ_=>⟨_,_,_,_,_,_,rfl⟩,λ_ (h:L7.contains e=true)=>absurd h (by rw[r];decide),λ_=>xy X G a,λ(h:e.cps.isEmpty=false)=>absurd h (by rw[n];decide)⟩⟩
theorem dm(c:Ck K x C)(M:Mt K C st e q r)(j:x.cps.isEmpty=false)
  (m:∀(kV o p:Value)(n:Option Addr)(d t:Value),Binds K (iY e q (hZ st) (eX st) (bg st) r kV o p n d t) u []/\(e=("__init__":Str)->L7.contains x=true->Binds K (iY e q (hZ st) (eX st) (bg st) r kV o p n d t) u [.none])):∃f i,DOk K b ⟨q,e,x,st,N,u,A,y,B⟩ f i:=by
 obtain⟨f,H,S,kV,s,p,n,h,t,F,a,w,l,g,k⟩:=M;have v:x.cps.isEmpty=true->False:=λz=>by rw[j]at z;cases z
 exact⟨_,_,⟨FQ l g k,(m kV s p n h t).1,λz=>(v z).elim,(m kV s p n h t).2,λz=>(v z).elim,λ_=>⟨C,c.ns,xy X G c.ns,⟨c.get,c.dct,c.ovr,c.set⟩,λz=>⟨c.mak,z ▸ a,w,c.kp⟩,λ_=>⟨a,w,k⟩⟩⟩⟩
end
def Gi(K:FG)(x:Str)(i:Int):Prop:=∃t,pZ K mainGlobals x=some (some (.int i t))
variable{x:Str}
theorem FO(X:K.In h)(G:h.Ns mainGlobals b){i:Int}(H:Gi K x i):nu w K b x (.int i):=by obtain⟨t,a⟩:=H;exact .plain ⟨_,.int i,xy X G a,⟨_,rfl⟩,λ_ _=>rfl⟩ rfl
structure BoardOk(K:FG)(C:Addr):Prop where
 ck:Ck K "Board" C
 a_families:dC K (.ref C) "families"=some none
 a_homes:dC K (.ref C) "homes"=some none
 a_members:dC K (.ref C) "members"=some none
 a_pairs:dC K (.ref C) "pairs"=some none
 a_places:dC K (.ref C) "places"=some none
 m_Board_family_of:Mt K C (L2.k6 (Jo 10) 1) "family_of" "Board.family_of" .none
 m_Board_hands_beside:Mt K C (L2.k6 (Jo 10) 2) "hands_beside" "Board.hands_beside" .none
 m_Board_init:Mt K C (L2.k6 (Jo 10) 0) "__init__" "Board.__init__" .none
theorem Sy:(Tb.all λd=>!d.deep.contains (Str.ofString "<lambda>") ||decide (d.name=Fp))=true:=by decide +kernel
set_option tactic.hygienic true in
theorem Hz(k:(PySem.W.kmHook K i e u).says w h)(l:BI (K w.params)=true)(p:((ce (K w.params)).all λP=>u.contains P)=true) :
  ∀P ∈ ce (K w.params),h.get? P=some (p7 #[])/\∃c,p0 h c P:=λP f=>by
 refine⟨PySem.W.km_tabs_of k P (by simpa using a_.mp p P f),?_⟩;obtain⟨⟨c,o⟩,m,x⟩:=kS.mp f;have a:=a_.mp l _ m;have b:u5 o=true:=by
  unfold D8 at x;split at x
  .rename_i v hd;split at x
   .rename_i q t g n j;split at x
    .rename_i r;unfold u5;have d:o.data=.fields v:=hd;rw[d];obtain⟨s⟩:=v;match s,n with
     |_::_::_,n=>cases (show _=_ from cw n);simpa using r
    .cases x
   .cases x
  .cases x
 rw[b]at a;simp only[mw,kW]at a;rw[x]at a;exact⟨c,DE (PySem.W.km_in_of k) a⟩
open PySem.W in
theorem Mp{w:World}{K:Frag}{h:Heap}{b:SV}(X:K.In h)(G:h.Ns mainGlobals b){C:Addr}(a:BoardOk K C)
  (i:∀d ∈ MT,Fn K d.name d.st) (l:BI K=true) (q:Gi K "MOST_STANDINGS" 2000)
  (g:Gi K "HIGHEST_LETTER" 999) (p:Gi K "NOBODY" (-1)) (z:∀x ∈ Jc,nsIn K mainGlobals x=some none):TOk w Gv Att Tb K b:=by
 refine⟨λd hd=>?_,sc,un,λx k=>mg_none_of X G (z x k),λx v s=>?_,λc f u=>?_,l,λd hd j=>?_⟩
 .rcases bA.mp hd with hd|hd
  .exact dk X G (i d hd) (a_.mp QY d hd)
  simp only[R6,aN,de,cZ]at hd;rcases hd with rfl|rfl|rfl;all_goals first
   |exact dm X G a.ck a.m_Board_family_of (by decide +kernel) λ_ _ _ _ _ _=>⟨.all λm l=>by obtain⟨_,_,rfl⟩:=Po l;rfl,λh n=>by first|exact absurd h (by decide +kernel)|exact absurd n (by decide +kernel)⟩
   |exact dm X G a.ck a.m_Board_hands_beside (by decide +kernel) λ_ _ _ _ _ _=>⟨.all λm l=>by obtain⟨_,_,_,rfl⟩:=Sx l;rfl,λh n=>by first|exact absurd h (by decide +kernel)|exact absurd n (by decide +kernel)⟩
   |exact dm X G a.ck a.m_Board_init (by decide +kernel) λ_ _ _ _ _ _=>⟨.all λm l=>by obtain⟨_,_,rfl⟩:=Po l;rfl,λh n=>by first|exact absurd h (by decide +kernel)|exact absurd n (by decide +kernel)⟩
 .unfold Gv at s;by_cases e:x=("HIGHEST_LETTER":Str)
  .rw [ac e]at s;subst e;cases s;exact FO X G g
  rw[af e]at s;clear e;by_cases e:x=("MOST_STANDINGS":Str)
  .rw [ac e]at s;subst e;cases s;exact FO X G q
  rw[af e]at s;clear e;by_cases e:x=("NOBODY":Str)
  .rw [ac e]at s;subst e;cases s;exact FO X G p
  rw[af e]at s;clear e;cases s
 .obtain⟨x,k,e⟩:=ph.mp u;rw[ar]at e;have t:=aJ e.1;have r:f ∈ x.2:=by simpa using e.2
  subst t;simp only[Att,aN,de,cZ]at k;rcases k with rfl
  .simp only[aN,de,cZ]at r;rcases r with rfl|rfl|rfl|rfl|rfl
   .exact⟨_,a.ck.ns,⟨a.ck.get,a.ck.dct,a.ck.ovr,a.ck.set⟩,a.a_families⟩
   .exact⟨_,a.ck.ns,⟨a.ck.get,a.ck.dct,a.ck.ovr,a.ck.set⟩,a.a_homes⟩
   .exact⟨_,a.ck.ns,⟨a.ck.get,a.ck.dct,a.ck.ovr,a.ck.set⟩,a.a_members⟩
   .exact⟨_,a.ck.ns,⟨a.ck.get,a.ck.dct,a.ck.ovr,a.ck.set⟩,a.a_pairs⟩
   .exact⟨_,a.ck.ns,⟨a.ck.get,a.ck.dct,a.ck.ovr,a.ck.set⟩,a.a_places⟩
 .have:=a_.mp Sy d hd;rw[j]at this;simpa using this
theorem log2_small{i:Int}(h:i.natAbs < 2 ^ 60):i.natAbs.log2 < 60:=by
 by_cases e:i.natAbs=0
 .rw [e];decide
 .exact (zG e).mpr h
theorem bK{i j:Int}(h:i.natAbs < 2 ^ 60)(x:j.natAbs < 2 ^ 60):f8 i j=true:=by unfold f8;have a:=log2_small h;have b:=log2_small x;exact gY (by lia)
theorem Lq:∀(n:Nat)(v:P),cA n v=true->cA (n+1) v=true:=by
 intro n;induction n with
 |zero=>intro v h;cases v<;>first|rfl|exact h|cases h
 |succ n i=>
  intro v h;cases v with
  |tup s=>exact a_.mpr λx a=>i x (a_.mp h x a)
  |lst s=>exact a_.mpr λx a=>i x (a_.mp h x a)
  |ro s=>exact a_.mpr λx a=>i x (a_.mp h x a)
  |non=>rfl
  |bl _=>rfl
  |int _=>rfl
  |str _=>exact h
  |dct _ _=>cases h
variable{v:P}
theorem cJ(h:cA n v=true)(m:n≤e):cA e v=true:=by
 obtain⟨k,rfl⟩:=Nat.exists_eq_add_of_le m;clear m;induction k with
 |zero=>exact h
 |succ k i=>exact Lq _ _ i
def strOk(x:Str):Prop:=aW x=true
@[simp] theorem Bw(n:Nat)(i:Int):cA n (.int i)=true:=by cases n<;>rfl
@[simp] theorem QX(n:Nat)(i:Bool):cA n (.bl i)=true:=by cases n<;>rfl
@[simp] theorem Pj(n:Nat):cA n .non=true:=by cases n<;>rfl
@[simp] theorem uU(n:Nat)(x:Str):cA n (.str x)=aW x:=by cases n<;>rfl
@[simp] theorem Pf(n:Nat)(s:List P):cA (n+1) (.tup s)=s.all (cA n):=rfl
@[simp] theorem Pk(n:Nat)(s:List P):cA (n+1) (.lst s)=s.all (cA n):=rfl
theorem Il(h:∀x ∈ s,cA n x=true):cA (n+1) (.lst s)=true:=a_.mpr h
@[simp] theorem BG(c:Nat):lW ⟨#[c]⟩=1:=rfl
theorem Cq(h:strOk x)(a:strOk y):strOk (x++y):=by show(x.cps++y.cps).all (λc=>decide (c < 0x110000))=true;rw[Aw,ar];exact⟨h,a⟩
theorem Cp(e:strOk x)(n:Nat):strOk (dJ x n):=by
 have k:∀(n:Nat)(a:Array Nat),a.all (λc=>decide (c < 0x110000))=true->((List.replicate n x.cps).foldl (·++·) a).all (λc=>decide (c < 0x110000))=true:=by
  intro n;induction n with
  |zero=>intro a h;exact h
  |succ n i=>intro a h;rw[cF,fI];exact i _ (by rw[Aw,ar];exact⟨h,e⟩)
 exact k n #[] (by simp)
variable{k:Int}
theorem F7(f:strOk x)(a:0≤k)(s:k < x.length)(n:x.length≤1000000):∃c,strOk ⟨#[c]⟩/\rh (.str x) (.int k)=some (.str ⟨#[c]⟩):=by
 have l:k.toNat < x.cps.toList.length:=by simp only[mB];unfold lW at s;lia
 have h:k.toNat < x.cps.size:=by simpa using l
 refine⟨x.cps.toList[k.toNat],?_,?_⟩
 .have:=Array.all_eq_true.mp f k.toNat h;show(#[x.cps.toList[k.toNat]].all λc=>decide (c < 0x110000))=true;simpa using this
 .have e:L2.atI x.cps.toList k=some (x.cps.toList[k.toNat]):=bE a (by simp[h]);show(if iu x.length=true then (L2.atI x.cps.toList k).map λc=>P.str ⟨#[c]⟩ else none)=_;rw[ac (by simp only[m_];exact n),e];rfl
theorem C6(h:x.length+y.length≤1000000):vr (.str x) (.str y)=some (.str (x++y)):=by show(if iu (x.length+y.length)=true then some (P.str (x++y)) else none)=_;rw[ac (by rw[m_];exact h)]
variable{s:List a}
theorem iA(h:s≠[])(a:Int):∃x ∈ s,L2.atI s (a % (s.length:Int))=some x:=by
 have l:(0:Int) < (s.length:Int):=by cases s with|nil=>exact absurd rfl h|cons _ _=>simp
 have e:=gj a (Int.ne_of_gt l);have n:=iC a l;have hk:(a % (s.length:Int)).toNat < s.length:=by lia
 exact⟨s[(a % (s.length:Int)).toNat],g0 _,bE e (by simp[hk])⟩
theorem nZ(h:0≤k)(a:k < (s.length:Int)):∃x ∈ s,L2.atI s k=some x:=by
 have hk:k.toNat < s.length:=by lia
 exact⟨s[k.toNat],g0 _,bE h (by simp[hk])⟩
theorem Gp(h:s≠[]):∃x ∈ s,L2.atI s (-1)=some x:=by
 have l:0 < s.length:=Af.mpr h;refine⟨s[s.length-1],g0 _,?_⟩;unfold L2.atI L2.Dj;rw[af (by lia),ac (by lia)];have e:(-1+(s.length:Int)).toNat=s.length-1:=by lia
 simp[e,l]
theorem dh{g:kj}{b:ES}{Inv:Nat->Lc->U->Prop}:∀{s:List P}{k:Nat}{L:Lc}{S:U},(∀i v L S,s[i]? = some v->Inv (k+i) L S->∃f L2 n,g v L=some f/\b f S=some (.nx,L2,n)/\Inv (k+i+1) L2 n)->Inv k L S ->
  ∃x a,bZ g b s L S=some (.nx,x,a)/\Inv (k+s.length) x a
 | [],k,L,S,_,h=>⟨L,S,rfl,h⟩
 |v::r,k,L,S,c,h=>by
  obtain⟨f,L2,n,m,t,d⟩:=c 0 v L S rfl h;obtain⟨x,a,p,u⟩:=dh (g:=g) (b:=b) (Inv:=Inv) (s:=r) (k:=k+1) (L:=L2) (S:=n) (λi w L S e q=>by have:=c (i+1) w L S (by simpa using e) (by rw[show k+(i+1)=k+1+i by lia];exact q);rwa [show k+(i+1)+1=k+1+i+1 by lia]at this) d
  exact⟨x,a,by rw[cm m t];exact p,by rw[aV,show k+(r.length+1)=k+1+r.length by lia];exact u⟩
theorem nY{g:kj}{c:EB}{e:EV}{Inv:Lc->Prop}{Q:P->Prop}{S:U}:∀{s:List P}{L:Lc},(∀v ∈ s,∀L,Inv L->∃x k,g v L=some x/\Inv x/\c x S=some (k,S)/\(k=true->∃y,e x S=some (y,S)/\Q y))->Inv L ->
  ∃a,bR g c e s L S=some (a,S)/\(∀y ∈ a,Q y)/\a.length≤s.length
 | [],L,_,h=>⟨[],rfl,λ_ z=>(by cases z),ah _⟩
 |v::r,L,t,h=>by
  obtain⟨x,k,n,i,f,d⟩:=t v aH L h;obtain⟨a,b,m,j⟩:=nY (s:=r) (L:=x) (λw hw=>t w (aG _ hw)) i;cases k with
  |false=>exact⟨a,by simp[bR,n,f,b],m,by simp;lia⟩
  |true=>obtain⟨y,p,q⟩:=d rfl;exact⟨y::a,by simp[bR,n,f,b,p],λz u=>(aN.mp u).elim (λe=>e ▸ q) (m z),by simp;lia⟩
theorem lM{g:kj}{e:EV}{Inv:Lc->Prop}{Q:P->Prop}{S:U}:∀{s:List P}{L:Lc},(∀v ∈ s,∀L,Inv L->∃x y,g v L=some x/\Inv x/\e x S=some (y,S)/\Q y)->Inv L ->
  ∃a,bR g iz e s L S=some (a,S)/\(∀y ∈ a,Q y)/\a.length=s.length
 | [],L,_,h=>⟨[],rfl,λ_ z=>(by cases z),rfl⟩
 |v::r,L,n,h=>by obtain⟨x,y,k,i,f,q⟩:=n v aH L h;obtain⟨a,b,c,m⟩:=lM (s:=r) (L:=x) (λw hw=>n w (aG _ hw)) i;exact⟨y::a,by simp[bR,k,f,b],λz t=>(aN.mp t).elim (λe=>e ▸ q) (c z),by simp[m]⟩
theorem di{g:kj}{c:EB}{e:EV}{Inv:Lc->Prop}{S:U}{p:P->Bool}{f:P->P}:∀{s:List P}{L:Lc},(∀v ∈ s,∀L,Inv L->∃x,g v L=some x/\Inv x/\c x S=some (p v,S)/\(p v=true->e x S=some (f v,S)))->Inv L ->
  bR g c e s L S=some ((s.filter p).map f,S)
 | [],L,_,h=>rfl
 |v::r,L,m,h=>by
  obtain⟨x,n,i,a,t⟩:=m v aH L h;have b:=di (s:=r) (L:=x) (λw hw=>m w (aG _ hw)) i;cases k:p v with
  |false=>rw[k]at a;simp[bR,n,a,b,k]
  |true=>rw[k]at a;simp[bR,n,a,b,k,t k]
theorem ints_get{lo:Int}{n i:Nat}{v:P}(h:(intsFrom lo n)[i]? = some v):v=.int (lo+i)/\i < n:=by
 unfold Ev.intsFrom at h;rw[b9]at h;cases e:(List.range n)[i]? with
 |none=>rw[e]at h;cases h
 |some j=>
  rw[e]at h;cases h;have:=bw.mp e
  obtain⟨x,a⟩:=this;simp at x a;subst a;exact⟨rfl,x⟩
theorem gF{lo:Int}{n:Nat}{v:P}(h:v ∈ intsFrom lo n):∃i:Nat,v=.int (lo+i)/\i < n:=by obtain⟨i,x,e⟩:=iJ.mp h;exact⟨i,ints_get (by rw[bo x,e])⟩
theorem cL(lo:Int)(n:Nat):(intsFrom lo n).length=n:=by simp[Ev.intsFrom]
theorem Fc(n k:Str->GF)(s:List P):∀(a:Int)(p t q:Option D),∃(r:Int)(e:Option D),bZ (av 2) (iw n) s [qi a,p,t,q] []=some (.nx,[qi r,p,e,q],[]):=by
 induction s with
 |nil=>intro a p t q;exact⟨a,t,rfl⟩
 |cons x s i=>intro a p t q;obtain⟨r,e,h⟩:=i (a / 2147483648) p (qp x) q;exact⟨r,e,by simpa[bZ,iw] using h⟩
theorem Fb(a:Int){p:Int}(s:0≤p)(k:p < 1000):∃r:Int,0≤r/\cI (Ph (n+2) "_law_mix") [.int a,.int p]=some (.int r):=by
 by_cases h:(1000000000000:Int)≤a
 .obtain⟨r,i,e⟩:=Fc (Ph (n+1)) (Ph n) (intsFrom 0 (p % 61).toNat) (a / 1000000000000-1) (qi p) none none;refine⟨r % 2147483648,gj _ (by decide),?_⟩;have c:(p % 61).natAbs < 1000000:=by lia
  rw[oA,aS];simp[kG,h,c,e]
 .have m:0≤p * p/\p * p≤1000000:=⟨Int.mul_nonneg s s,Int.le_trans (Int.mul_le_mul (yX k) (yX k) s (by decide)) (by decide)⟩;have v:f8 p p=true:=bK (by lia) (by lia);have d:f8 (p * p) 7919=true:=bK (by lia) (by decide);have w:f8 (a % 1000003+p * p * 7919+p) 48271=true:=bK (by lia) (by decide);generalize f:(a % 1000003+p * p * 7919+p) * 48271 % 2147483629=x;have t:0≤x/\x < 2147483629:=by subst f;exact⟨gj _ (by decide),iC _ (by decide)⟩
  have u:f8 x x=true:=bK (by lia) (by lia);generalize b:x * x % 2147483587=y;have q:0≤y/\y < 2147483587:=by subst b;exact⟨gj _ (by decide),iC _ (by decide)⟩
  have g:f8 y (y+2)=true:=bK (by lia) (by lia);refine⟨y * (y+2) % 2147483579 / 7,Int.ediv_nonneg (gj _ (by decide)) (by decide),?_⟩;rw[oA,aS];simp[kG,h,v,d,w,f,u,b,g]
noncomputable def gI(n:List Int):P:=.ro (n.map .int)
theorem B3(s:List Int)(x:0≤k):∃r:Int,cI (Ph (n+2) "_law_cell_at") [gI s,.int k]=some (.int r):=by
 by_cases h:k < (s.length:Int)
 .have hk:k.toNat < s.length:=by lia
  refine⟨s[k.toNat],?_⟩;have e:L2.atI (s.map P.int) k=some (.int s[k.toNat]):=bE x (by simp[hk]);rw[ka,aS];simp[gP,gI,dO,fP,h,e]
 .refine⟨0,?_⟩;rw[ka,aS];simp[gP,gI,dO,fP,h]
inductive Drw(n:Nat)(ns:List Int)(k p:Int):Prop
 |mk (c r:Int):0≤r->cI (Ph (n+2) "_law_cell_at") [gI ns,.int k]=some (.int c)->cI (Ph (n+2) "_law_mix") [.int c,.int p]=some (.int r)->Drw n ns k p
theorem iR{n:Nat}(s:List Int){k p:Int}(x:0≤k)(a:0≤p)(f:p < 1000):Drw n s k p:=by obtain⟨c,e⟩:=B3 (n:=n) s x;obtain⟨r,b,h⟩:=Fb (n:=n) c a f;exact⟨c,r,b,e,h⟩
theorem Lo:strOk "xyz":=by unfold strOk;decide +kernel
theorem BE:("xyz":Str).length=3:=by decide +kernel
theorem O0:∀k:Nat,k < 16->rh (.str "abcdefghijklmnop") (.int (k:Int))=some (.str ⟨#[97+k]⟩):=by
 intro k hk;have e:∀k:Nat,k < 16->L2.atI ((("abcdefghijklmnop":Str)).cps.toList) (k:Int)=some (97+k):=by decide +kernel
 show(if iu (("abcdefghijklmnop":Str)).length=true then (L2.atI ((("abcdefghijklmnop":Str)).cps.toList) (k:Int)).map λc=>P.str ⟨#[c]⟩ else none)=_;rw[e k hk,ac (by decide +kernel)];rfl
noncomputable def hd(x:Str):Option Nat:=x.cps[0]?
theorem KL(c n:Nat)(x:Str):hd (dJ ⟨#[c]⟩ (n+1)++x)=some c:=by
 have k:∀(n:Nat)(a:Array Nat),a[0]? = some c->((List.replicate n #[c]).foldl (·++·) a)[0]? = some c:=by
  intro n;induction n with
  |zero=>intro a h;exact h
  |succ n i=>intro a h;rw[cF,fI];refine i _ ?_;have s:0 < a.size:=(AA.mp h).1;rw[Az s];exact h
 have h:=k n (#[]++#[c]) (by simp);have s:0 < ((List.replicate n #[c]).foldl (·++·) (#[]++#[c])).size:=(AA.mp h).1;show(((List.replicate (n+1) #[c]).foldl (·++·) #[])++x.cps)[0]? = some c;rw[cF,fI,Az s];exact h
theorem k5{n:Nat}(s:List Int){k:Nat}(r:k < 16):∃x:Str,strOk x/\hd x=some (97+k)/\cI (Ph (n+3) "_law_name") [gI s,.int (k:Int)]=some (.str x):=by
 obtain⟨c,a,t,e,b⟩:=iR (n:=n) s (k:=1) (p:=(k:Int)) (by lia) (by lia) (by lia);have u:=O0 k r;obtain⟨d,h,f⟩:=F7 (k:=a / 4 % 3) Lo (by lia) (by rw[BE];lia) (by rw[BE];lia);have hk:strOk ⟨#[97+k]⟩:=by show(#[97+k].all λc=>decide (c < 0x110000))=true;simp;lia
 have m:vq (.str ⟨#[97+k]⟩) (.int (1+a % 4))=some (.str (dJ ⟨#[97+k]⟩ ((a % 4).toNat+1))):=by show(if (iu ((1+a % 4).toNat * 1) && decide ((1+a % 4).natAbs < 1000000))=true then some (P.str (dJ ⟨#[97+k]⟩ (1+a % 4).toNat)) else none)=_;rw[ac (by rw[ar,m_];exact⟨by lia,gY (by lia)⟩),show(1+a % 4).toNat=(a % 4).toNat+1 by lia]
 have z:=C6 (x:=dJ ⟨#[97+k]⟩ ((a % 4).toNat+1)) (y:=⟨#[d]⟩) (by rw[ll,BG,BG];lia);refine⟨dJ ⟨#[97+k]⟩ ((a % 4).toNat+1)++⟨#[d]⟩,Cq (Cp hk _) h,KL _ _ _,?_⟩;rw[vj,aS];simp[np,e,b,u,f,m,z]
theorem aq(h:f L S=some (.nx,e,c)):ai f g L S=g e c:=by rw[ai,h]
theorem u9{c:EB}{x y:ES}{L:Lc}{S:U}(h:c L S=some (true,S)):dI c x y L S=x L S:=by rw[dI,h];rfl
theorem BL{c:EB}{x y:ES}{L:Lc}{S:U}(h:c L S=some (false,S)):dI c x y L S=y L S:=by rw[dI,h];rfl
theorem v0{A R:ES}{L:Lc}{S:U}{p:Lc->Prop}{G:Ba->Prop}(h:∃x,p x/\A L S=some (.nx,x,S))(k:∀x,p x->G (R x S)):G (ai A R L S):=by obtain⟨x,a,e⟩:=h;rw[aq e];exact k x a
theorem Q3(a:Int):∃r:Int,-1≤r/\r≤5/\L2.atI [P.int 0,.int 0,.int (-1),.int 5] (a % 4)=some (.int r):=by
 have h:a % 4=0\/a % 4=1\/a % 4=2\/a % 4=3:=by lia
 rcases h with h|h|h|h<;>rw[h]<;>simp
theorem Oo(a:Int):∃r:Int,0≤r/\r≤1/\L2.atI [P.int 1,.int 1,.int 0,.int 1] (a % 4)=some (.int r):=by
 have h:a % 4=0\/a % 4=1\/a % 4=2\/a % 4=3:=by lia
 rcases h with h|h|h|h<;>rw[h]<;>simp
inductive isCel(v:P):Prop
 |mk (x:Str) (lo hi at':Int):strOk x->-1≤lo->lo≤at'->at'≤hi->(hi≤7/\hi≤lo+1/\hd x≠some 105)->v=.tup [.str x,.int lo,.int hi,.int at']->isCel v
noncomputable def rL:P->List P
 | .tup s=>s
 | .lst s=>s
 |_=>[]
def gE(v:P)(k:Nat):P:=(rL v)[k]?.getD .non
noncomputable def iv:P->Int
 | .int i=>i
 |_=>0
@[simp] theorem Si(s:List P):rL (.tup s)=s:=rfl
@[simp] theorem Qm(s:List P):rL (.lst s)=s:=rfl
@[simp] theorem Ob(s:List P)(k:Nat):gE (.tup s) k=s[k]?.getD .non:=rfl
@[simp] theorem Sz(i:Int):iv (.int i)=i:=rfl
noncomputable def a9:P->Str
 | .tup (.str s::_)=>s
 |_=>""
def oH(v:List P):Prop:=(∀c ∈ v,isCel c)/\∃o,∀i c,v[i]? = some c->hd (a9 c)=some (o+i)
@[simp] theorem D7(v:List P):toP 9 (.ref 0) [.lst (v.map .p)]=some (.lst v,[.fz (.lst v)]):=gu rfl
theorem dM(s:List P)(v:P):s.map D.p++[.p v]=(s++[v]).map .p:=by simp
theorem eO{Q:P->Prop}{s:List P}{v:P}(h:∀x ∈ s,Q x)(e:Q v):∀x ∈ s++[v],Q x:=λx a=>(bA.mp a).elim (h x) λa=>by rw[b_.mp a];exact e
theorem wK{Q:Nat->P->Prop}{s:List P}{v:P}(h:∀i x,s[i]? = some x->Q i x)(n:Q s.length v):∀i x,(s++[v])[i]? = some x->Q i x:=λi x a=>by
 by_cases e:i < s.length
 .rw [bL e]at a;exact h i x a
 .rw [bI (by lia)]at a;have:i-s.length=0:=by
   have:=(bw.mp a).1;simp at this;lia
  rw[this]at a;cases a;rw[show i=s.length by lia];exact n
theorem Gc{n:Nat}(r:List Int){f:Int}(h0:0≤f):∃m:List P,m.length≤1/\oH m/\cI (Ph (n+4) "_law_cells") [gI r,.int f]=some (.lst m):=by
 obtain⟨c,a,ha,I,M⟩:=iR (n:=n+1) r (k:=2+f) (p:=1) (by lia) (by lia) (by lia);have hm:a % 2 < 2:=iC _ (by lia);have X:0≤a % 2:=gj _ (by lia);let Inv:Nat->Lc->U->Prop:=λi L S=>∃(m:List P)(H F K A:Option D),m.length=i/\((∀c ∈ m,isCel c)/\∀i c,m[i]? = some c->hd (a9 c)=some (99+i))/\L=[qp (gI r),qi f,qr 0,H,F,K,A]/\S=[.lst (m.map .p)]
 obtain⟨L',S',e,m,H,F,K,A,l,o,rfl,rfl⟩:=dh (g:=av 3) (b:=gf (Ph (n+3))) (Inv:=Inv) (s:=Ev.intsFrom 0 (a % 2).toNat) (k:=0)
  (L:=[qp (gI r),qi f,qr 0,none,none,none,none]) (S:=[.lst []]) (fun i v L S hv T=>by
   obtain⟨rfl,hi⟩:=ints_get hv;obtain⟨m,H,F,K,A,l,o,rfl,rfl⟩:=T;obtain⟨c2,d,hd,E,G⟩:=iR (n:=n+1) r (k:=2+f) (p:=2+(i:Int)) (by lia) (by lia) (by lia);obtain⟨x,hx,t,R⟩:=k5 (n:=n) r (k:=2+i) (by lia);obtain⟨lo,y,W,N⟩:=Q3 d;obtain⟨u,hup,B,Q⟩:=Oo (d / 4);have C:0 < lo+u-lo+1:=by lia
   have V:m.length≤1000000:=by lia
   generalize hw:d / 16 % (lo+u-lo+1)=w;have hw0:0≤w/\w < lo+u-lo+1:=by subst hw;exact⟨gj _ (by lia),iC _ C⟩
   have z:My.hd x≠some 105:=by rw[t];intro q;have:=cw q;lia
   refine⟨_,[qp (gI r),qi f,qr 0,qi (i:Int),qi d,qi lo,qi (lo+u)],[.lst ((m++[P.tup [.str x,.int lo,.int (lo+u),.int (lo+w)]]).map D.p)],rfl,?_,_,_,_,_,_,by simp;lia,⟨eO o.1 ⟨x,lo,lo+u,lo+w,hx,y,by lia,by lia,⟨by lia,by lia,z⟩,rfl⟩,wK o.2 ?_⟩,rfl,rfl⟩
   .rw [<- dM];have j:cI (Ph (n+3) "_law_name") [gI r,.int (2+(i:Int))]=some (.str x):=by rw[<- R];rfl
    simp[gf,E,G,j,N,Q,C,dw,V,hw]
   .show My.hd x=_;rw[t,l];congr 1;lia) ⟨[],none,none,none,none,rfl,⟨λ_ h=>(by cases h),λ_ _ h=>(by cases h)⟩,rfl,rfl⟩
 refine⟨m,by rw[l,cL];lia,⟨o.1,99,o.2⟩,?_⟩;have Z:(a % 2).natAbs < 1000000:=by lia
 rw[rX,aS];simp[lB,I,M,Z,e]
@[simp] theorem Pb:aW "number"=true/\aW "name"=true/\aW "plus"=true/\aW "minus"=true/\aW "times"=true/\aW "true"=true/\aW "not"=true/\aW "or"=true/\aW "and"=true/\aW "is"=true/\aW "="=true/\aW "!="=true/\aW "<"=true/\aW "<="=true/\aW ">"=true/\aW ">="=true/\aW "row"=true/\aW "heap"=true/\aW "ma"=true/\aW "mb"=true/\aW "who"=true/\aW "all"=true/\aW "any"=true/\aW ""=true/\aW "it"=true/\aW "weak"=true/\aW "strong"=true/\aW "step"=true/\aW "lose"=true/\aW "double"=true:=by decide +kernel
def j'(v:P):Prop:=∃s:Str,aW s=true/\v=.str s
theorem j'.ok(h:j' v)(n:Nat):cA n v=true:=by obtain⟨s,h,rfl⟩:=h;simpa using h
theorem fO{s:List P}(h:∀x ∈ s,j' x)(n:Nat):cA (n+1) (.lst s)=true:=Il λx a=>(h x a).ok n
theorem cX(h:s≠[]):s.isEmpty=false:=by cases s with|nil=>exact absurd rfl h|cons _ _=>rfl
theorem len_pos(h:s≠[]):0 < s.length:=Af.mpr h
noncomputable abbrev nP(k:Int):P:=.tup [.str "number",.int k]
noncomputable abbrev oK(y:P):P:=.tup [.str "name",y]
def oy(N:List P)(v:P):Prop:=(∃k,v=nP k)\/∃y ∈ N,v=oK y\/(∃k,v=.tup [.str "plus",oK y,nP k])\/(∃k j:Int,0≤k/\k≤2/\v=.tup [.str "minus",.tup [.str "times",oK y,nP k],nP j])\/v=.tup [.str "minus",nP 1,oK y]
variable{N:List P}
theorem oy.ok(a:∀x ∈ N,j' x)(h:oy N v):cA 4 v=true:=by
 rcases h with ⟨k,rfl⟩|⟨y,e,h⟩
 .simp
 .have o:∀k,cA k y=true:=λk=>(a y e).ok k;rcases h with rfl|⟨k,rfl⟩|⟨k,j,_,_,rfl⟩|rfl<;>simp[o]
theorem xR{n:Nat}(d:Int){s:List P}(c:∀x ∈ s,j' x):∃v,oy s v/\cI (Ph (n+2) "_law_sum") [.int d,.lst s]=some v:=by
 have e:=BV (fO c 19);by_cases k:s=[]
 .subst k;refine⟨nP (d / 5 % 3),.inl ⟨_,rfl⟩,?_⟩;rw[fB,aS];simp[dS,e]
 rw[cX k]at e;have l:=len_pos k;obtain⟨y,f,a⟩:=iA k (d / 5);have b:d % 5=0\/d % 5=1\/d % 5=2\/d % 5=3\/d % 5=4:=by lia
 rcases b with h|h|h|h|h
 .refine⟨nP (d / 5 % 3),.inl ⟨_,rfl⟩,?_⟩;rw[fB,aS];simp[dS,e,h]
 .refine⟨oK y,.inr ⟨y,f,.inl rfl⟩,?_⟩;rw[fB,aS];simp[dS,e,h,dO,fP,l,a]
 .refine⟨.tup [.str "plus",oK y,nP (d / 20 % 3)],.inr ⟨y,f,.inr (.inl ⟨_,rfl⟩)⟩,?_⟩;rw[fB,aS];simp[dS,e,h,dO,fP,l,a]
 .refine⟨.tup [.str "minus",.tup [.str "times",oK y,nP (d / 20 % 3)],nP (d / 60 % 2)],.inr ⟨y,f,.inr (.inr (.inl ⟨_,_,by lia,by lia,rfl⟩))⟩,?_⟩;rw[fB,aS];simp[dS,e,h,dO,fP,l,a]
 .refine⟨.tup [.str "minus",nP 1,oK y],.inr ⟨y,f,.inr (.inr (.inr rfl))⟩,?_⟩;rw[fB,aS];simp[dS,e,h,dO,fP,l,a]
def jX(N:List P)(v:P):Prop:=∃w y s,y ∈ N/\oy N s/\aW w=true/\v=.tup [.str "is",.str w,oK y,s]
def qO(N:List P)(v:P):Prop:=v=.tup [.str "true"]\/jX N v\/(∃p,(jX N p\/p=.tup [.str "true"])/\v=.tup [.str "not",p])\/∃p z,jX N p/\z ∈ N/\v=.tup [.str "or",p,.tup [.str "and",.tup [.str "true"],.tup [.str "is",.str "=",nP 1,oK z]]]
theorem jX.ok(a:∀x ∈ N,j' x)(h:jX N v):cA 5 v=true:=by obtain⟨w,y,s,n,e,hw,rfl⟩:=h;have o:∀k,cA k y=true:=λk=>(a y n).ok k;simp[o,e.ok a,hw]
theorem qO.ok(a:∀x ∈ N,j' x)(h:qO N v):cA 7 v=true:=by
 rcases h with rfl|h|⟨p,h,rfl⟩|⟨p,z,h,e,rfl⟩
 .simp
 .exact cJ (h.ok a) (by lia)
 .rcases h with h|rfl
  .simp [cJ (h.ok a) (show 5≤6 by lia)]
  .simp
 .have o:∀k,cA k z=true:=λk=>(a z e).ok k;simp[cJ (h.ok a) (show 5≤6 by lia),o]
theorem w6(a:Int):∃w:Str,aW w=true/\L2.atI [P.str "=",.str "!=",.str "<",.str "<=",.str ">",.str ">="] (a % 6)=some (.str w):=by obtain⟨w,hw,e⟩:=nZ (s:=[P.str "=",.str "!=",.str "<",.str "<=",.str ">",.str ">="]) (k:=a % 6) (by lia) (by simp;lia);simp only[aN,de,cZ]at hw;rcases hw with rfl|rfl|rfl|rfl|rfl|rfl<;>exact⟨_,by simp,e⟩
theorem cond_ok{n:Nat}(d:Int){s:List P}(m:∀x ∈ s,j' x):∃v,qO s v/\cI (Ph (n+3) "_law_condition") [.int d,.lst s]=some v:=by
 have e:=BV (fO m 19);by_cases a:s=[]
 .subst a;refine⟨.tup [.str "true"],.inl rfl,?_⟩;rw[cT,aS];simp[cy,e]
 rw[cX a]at e;have l:=len_pos a;obtain⟨y,g,c⟩:=iA a (d / 30);obtain⟨z,i,r⟩:=nZ (s:=s) (k:=0) (by lia) (by lia);obtain⟨w,hw,b⟩:=w6 (d / 5);obtain⟨v,u,f⟩:=xR (n:=n) (d / 90) m;have p:jX s (.tup [.str "is",.str w,oK y,v]):=⟨w,y,v,g,u,hw,rfl⟩;by_cases t:d % 5 < 2
 .refine⟨.tup [.str "true"],.inl rfl,?_⟩;rw[cT,aS];simp[cy,e,t]
 have q:d % 5=2\/d % 5=3\/d % 5=4:=by lia
 rcases q with h|h|h
 .refine⟨_,.inr (.inr (.inl ⟨_,.inl p,rfl⟩)),?_⟩;rw[cT,aS];simp[cy,e,h,dO,fP,l,c,b,f]
 .refine⟨_,.inr (.inr (.inr ⟨_,z,p,i,rfl⟩)),?_⟩;rw[cT,aS];simp[cy,e,h,dO,fP,l,c,r,b,f]
 .refine⟨_,.inr (.inl p),?_⟩;rw[cT,aS];simp[cy,e,h,dO,fP,l,c,b,f]
inductive isRoad(v:P):Prop
 |mk (a b k:Str) (c:Int) (d e:Bool):aW a=true->aW b=true->(k="row"\/k="heap")->1≤c->c≤1->v=.tup [.str a,.str b,.str k,.int c,.bl d,.bl e]->isRoad v
noncomputable def rA:P->Str
 | .tup (.str a::_)=>a
 |_=>""
noncomputable def rB:P->Str
 | .tup (_::.str b::_)=>b
 |_=>""
def RD(r h:P):Prop:=¬(rA r=rA h/\rB r=rB h)
def JJ(F:List P)(v:List P):Prop:=v.length≤8/\(∀r ∈ v,isRoad r/\.str (rA r) ∈ F/\.str (rB r) ∈ F)/\v.Pairwise RD
def QK(F:List P)(v:List P)(i j:Nat):Prop:=∀r ∈ v,∃h x,F[h]? = some (.str (rA r))/\F[x]? = some (.str (rB r))/\(h < i\/(h=i/\x < j))
theorem ED{a b:P}(d:Int):∃w,(w=a\/w=b)/\L2.atI [a,b] (d % 2)=some w:=by obtain⟨w,hw,e⟩:=nZ (s:=[a,b]) (k:=d % 2) (by lia) (by simp;lia);exact⟨w,by simpa using hw,e⟩
theorem kE{s:List P}{i:Nat}{v:P}(h:(cq 0 s)[i]? = some v):∃x,s[i]? = some x/\v=.tup [.int (i:Int),x]:=by obtain⟨x,a,e⟩:=k8 h;exact⟨x,a,by rw[e];simp⟩
theorem bB{a:Type}{s:List a}{i:Nat}{x:a}(h:s[i]? = some x):i < s.length:=(bw.mp h).1
theorem En{n:Nat}(F:List Int){s:List P}(hx:∀x ∈ s,j' x)(N:∀(i j:Nat) x,s[i]? = some x->s[j]? = some x->i=j)(hl:s.length≤2):∃f:List P,JJ s f/\cI (Ph (n+3) "_law_roads") [gI F,.lst s]=some (.lst f):=by
 let I:Nat->Option D->Option D->Nat->Lc->U->Prop:=λii k K j L S=>∃(f:List P)(E G M A:Option D),(JJ s f/\QK s f ii j/\f.length≤2 * ii+j)/\L=[qp (gI F),ql s,qr 0,k,K,E,G,M,A]/\S=[.lst (f.map .p)]
 let Inv:Nat->Lc->U->Prop:=λi L S=>∃k K,I i k K 0 L S
 obtain⟨L',S',e,k0,one0,f,E,G,M,A,⟨o,_,_⟩,rfl,rfl⟩:=dh (g:=bD [av 3,av 4]) (b:=gc (Ph (n+2))) (Inv:=Inv) (s:=cq 0 s) (k:=0)
  (L:=[qp (gI F),ql s,qr 0,none,none,none,none,none,none]) (S:=[.lst []]) (fun i v L S hv hI=>by
   obtain⟨x,t,rfl⟩:=kE hv;have hi:=bB t;have R:=a8 t;obtain⟨a,ha,rfl⟩:=hx x R;obtain⟨_,_,f,E,G,M,A,o,rfl,rfl⟩:=hI;rw[fG]at o ⊢;obtain⟨L',S',e,hI2⟩:=dh (g:=bD [av 5,av 6]) (b:=d_ (Ph (n+2))) (Inv:=I i (qi (i:Int)) (qs a)) (s:=cq 0 s) (k:=0)
    (L:=[qp (gI F),ql s,qr 0,qi (i:Int),qs a,E,G,M,A]) (S:=[.lst (f.map .p)]) (fun j v L S hv hI=>by
     obtain⟨y,q,rfl⟩:=kE hv;have hj:=bB q;have T:=a8 q;obtain⟨b,hb,rfl⟩:=hx y T;obtain⟨f,E,G,M,A,⟨o,m,hvl⟩,rfl,rfl⟩:=hI;rw[fG]at m hvl ⊢;obtain⟨c,d,hd,V,W⟩:=iR (n:=n) F (k:=4) (p:=3 * (i:Int)+(j:Int)) (by lia) (by lia) (by lia);have m4:f8 3 (i:Int)=true:=bK (by decide) (by lia);by_cases hg:0 < d % 4
     .obtain⟨w,hw,X⟩:∃w:Str,(w="row"\/w="heap")/\L2.atI [P.str "row",.str "heap"] (d / 4 % 2)=some (.str w):=by
       obtain⟨w,hw,X⟩:=ED (a:=.str "row") (b:=.str "heap") (d / 4);rcases hw with rfl|rfl
       .exact⟨_,.inl rfl,X⟩
       .exact⟨_,.inr rfl,X⟩
      have Q:f.length≤1000000:=by lia
      refine⟨_,[qp (gI F),ql s,qr 0,qi (i:Int),qs a,qi (j:Int),qs b,qi d,qs w],[.lst ((f++[P.tup [.str a,.str b,.str w,.int 1,.bl (decide (d / 16 % 3=1)),.bl (decide (d / 48 % 3=1))]]).map D.p)],rfl,?_,_,_,_,_,_,⟨⟨by simp;lia,eO o.2.1 ⟨⟨a,b,w,_,_,_,ha,hb,hw,by lia,by lia,rfl⟩,R,T⟩,List.pairwise_append.mpr ⟨o.2.2,List.pairwise_singleton _ _,λr H z hz=>?_⟩⟩,eO (λr H=>?_) ⟨i,j,t,q,.inr ⟨rfl,by lia⟩⟩,by simp;lia⟩,rfl,rfl⟩;rotate_left
      .rw [b_.mp hz];rintro ⟨V,W⟩;obtain⟨B,C,u,l,Z⟩:=m r H;rw[V]at u;rw[W]at l;have:=N _ _ _ u t
       have:=N _ _ _ l q;lia
      .obtain⟨B,C,u,l,Z⟩:=m r H;exact⟨B,C,u,l,by lia⟩
      rw[<- dM];simp[d_,V,W,m4,hg,X,dw,Q]
     .refine⟨_,[qp (gI F),ql s,qr 0,qi (i:Int),qs a,qi (j:Int),qs b,qi d,A],[.lst (f.map D.p)],rfl,?_,f,_,_,_,_,⟨o,λr H=>?_,by lia⟩,rfl,rfl⟩;rotate_left
      .obtain⟨B,C,u,l,Z⟩:=m r H;exact⟨B,C,u,l,by lia⟩
      simp[d_,V,W,m4,hg]) ⟨f,E,G,M,A,o,rfl,rfl⟩
   obtain⟨vs',z6,z7,z8,z9,⟨hi1,hi2,hi5⟩,hi3,hi4⟩:=hI2;rw[fG,d5]at hi5;exact⟨_,L',S',rfl,by simpa[gc] using e,_,_,vs',z6,z7,z8,z9,⟨hi1,λr H=>by obtain⟨B,C,u,l,Z⟩:=hi2 r H;exact⟨B,C,u,l,by lia⟩,by lia⟩,hi3,hi4⟩) ⟨none,none,[],none,none,none,none,⟨⟨by simp,λ_ h=>(by cases h),List.Pairwise.nil⟩,λ_ h=>(by cases h),by simp⟩,rfl,rfl⟩
 refine⟨f,o,?_⟩;rw[rW,aS];simp[lA,e]
end My
namespace My
open PySem L2 Ev
variable{s:Str}{o:List P}
theorem xZ(l:∀c ∈ o,isRoad c)(L:Lc)(j k:Nat)(m:j < L.length)(h:k≠j)(hk:L[k]? = some (qs s))(S:U) :
  ∃n,bR (av j) (bt (O (ae (vv j) eB)) (aj k)) (ae (vv j) dj) o L S=some (n,S)/\(∀y ∈ n,j' y/\∃r ∈ o,rA r=s/\y=.str (rB r))/\n.length≤o.length:=by
 refine nY (Inv:=λf=>∃d,f=L.set j d) (λv t f w=>?_) ⟨L[j],(gp m).symm⟩;obtain⟨d,rfl⟩:=w;obtain⟨a,b,kd,c,x,e,z,u,i,_,_,rfl⟩:=l v t;have g:((L.set j d).set j (qt [.str a,.str b,.str kd,.int c,.bl x,.bl e]))[j]? = some (qt [.str a,.str b,.str kd,.int c,.bl x,.bl e]):=by rw[bv (by simpa using m)]
 have p:((L.set j d).set j (qt [.str a,.str b,.str kd,.int c,.bl x,.bl e]))[k]? = some (qs s):=by rw[aP (aI h),aP (aI h)];exact hk
 exact⟨_,decide (a=s),rfl,⟨_,cE ..⟩,by simp[-cE,g,p],λq=>⟨.str b,by simp[-cE,g],⟨b,u,rfl⟩,_,t,aJ q,rfl⟩⟩
theorem Ct(l:∀c ∈ o,isRoad c)(L:Lc)(j k:Nat)(m:j < L.length)(h:k≠j)(hk:L[k]? = some (qs s))(S:U) :
  ∃n,bR (av j) (bt (O (ae (vv j) dj)) (aj k)) (ae (vv j) eB) o L S=some (n,S)/\(∀y ∈ n,j' y/\∃r ∈ o,rB r=s/\y=.str (rA r))/\n.length≤o.length:=by
 refine nY (Inv:=λf=>∃d,f=L.set j d) (λv t f w=>?_) ⟨L[j],(gp m).symm⟩;obtain⟨d,rfl⟩:=w;obtain⟨a,b,kd,c,x,e,u,z,i,_,_,rfl⟩:=l v t;have g:((L.set j d).set j (qt [.str a,.str b,.str kd,.int c,.bl x,.bl e]))[j]? = some (qt [.str a,.str b,.str kd,.int c,.bl x,.bl e]):=by rw[bv (by simpa using m)]
 have p:((L.set j d).set j (qt [.str a,.str b,.str kd,.int c,.bl x,.bl e]))[k]? = some (qs s):=by rw[aP (aI h),aP (aI h)];exact hk
 exact⟨_,decide (b=s),rfl,⟨_,cE ..⟩,by simp[-cE,g,p],λq=>⟨.str a,by simp[-cE,g],⟨a,u,rfl⟩,_,t,aJ q,rfl⟩⟩
theorem v_(h:o.length≤8):o.length≤1000000:=by lia
theorem x_(d:Int):∃w:Str,(w=a\/w=b)/\L2.atI [P.str a,.str b] (d % 2)=some (.str w):=by
 obtain⟨w,hw,e⟩:=ED (a:=.str a) (b:=.str b) d;rcases hw with rfl|rfl
 .exact⟨_,.inl rfl,e⟩
 .exact⟨_,.inr rfl,e⟩
inductive isSend(s:Str)(rs whos N:List P)(v:P):Prop
 |mk (m:Str) (t:P) (way nm:Str):aW m=true->aW nm=true->oy N t->((way="who"/\P.str nm ∈ whos)\/((way="all"\/way="any")/\∃r ∈ rs,rA r=s/\nm=rB r))->v=.tup [.str m,t,.str way,.str nm]->isSend s rs whos N v
variable{u:List P}
theorem isSend.ok(a:∀x ∈ N,j' x)(h:isSend s o u N v):cA 5 v=true:=by
 obtain⟨m,t,w,f,e,n,k,hw,rfl⟩:=h;have hw:aW w=true:=by rcases hw with ⟨rfl,_⟩|⟨rfl|rfl,_⟩<;>simp
 simp[e,n,hw,k.ok a]
variable{n:Nat}
theorem Ef(d:Int)(hnm:∀x ∈ M,j' x)(hw:∀x ∈ u,j' x)(hr:∀c ∈ o,isRoad c)(hrl:o.length≤8) :
  ∃m:List P,m.length≤1/\(∀c ∈ m,isSend s o u M c)/\cI (Ph (n+3) "_law_sends") [.int d,.str s,.lst M,.lst u,.lst o]=some (.lst m):=by
 have hm:d % 2 < 2:=iC _ (by lia);have hm0:0≤d % 2:=gj _ (by lia);obtain⟨gs,eg,I,hgl⟩:=xZ (s:=s) hr [qi d,qs s,ql M,ql u,ql o,none,none,none,none,none,none,none] 11 1 (by simp) (by lia) rfl [];have W:=mO (fO hw 19);have V:=mO (fO (λx hx=>(I x hx).1) 19);let F:Option D->Option D->Option D->Option D->Lc:=λN B p q=>[qi d,qs s,ql M,ql u,ql o,ql gs,qr 0,N,B,p,q]
 let Inv:Nat->Lc->U->Prop:=λi L S=>∃(m:List P)(N B p q:Option D),m.length≤i/\(∀c ∈ m,isSend s o u M c)/\L=F N B p q/\S=[.lst (m.map .p)]
 obtain⟨L',S',e,m,N,B,p,q,hc,ho,rfl,rfl⟩:=dh (g:=av 7) (b:=d9 (Ph (n+2))) (Inv:=Inv) (s:=Ev.intsFrom 0 (d % 2).toNat) (k:=0)
  (L:=F none none none none) (S:=[.lst []]) (fun i v L S hv hI=>by
   obtain⟨rfl,hi⟩:=ints_get hv;obtain⟨m,N,B,p,q,hc,ho,rfl,rfl⟩:=hI;simp only[cO];generalize hso:d / 2=f;obtain⟨tr,htr,etr⟩:=xR (n:=n) (f / 12 % 300) hnm;have mo:f8 (f % 2) (f / 2000 % 2)=true:=bK (by lia) (by lia);obtain⟨mk,hmk,emk⟩:∃w:Str,(w="ma"\/w="mb")/\L2.atI [P.str "ma",.str "mb"] (f % 2 * (f / 2000 % 2))=some (.str w):=by
    have h:f % 2 * (f / 2000 % 2)=0\/f % 2 * (f / 2000 % 2)=1:=by
     have X:f % 2=0\/f % 2=1:=by lia
     have Z:f / 2000 % 2=0\/f / 2000 % 2=1:=by lia
     rcases X with X|X<;>rcases Z with Z|Z<;>rw[X,Z]<;>simp
    rcases h with h|h<;>rw[h]
    .exact⟨"ma",.inl rfl,by simp⟩
    .exact⟨"mb",.inr rfl,by simp⟩
   have omk:aW mk=true:=by rcases hmk with rfl|rfl<;>simp
   have l:m.length≤1000000:=by lia
   let T:=F (qi (i:Int)) (qi f) (qp tr) (qs mk)
   let G:Ba->Prop:=λx=>∃L2 Q,x=some (.nx,L2,Q)/\Inv (0+i+1) L2 Q
   have E:∀{x:Ba}(y w:Str),aW w=true->((y="who"/\P.str w ∈ u)\/((y="all"\/y="any")/\∃r ∈ o,rA r=s/\w=rB r))->x=some (.nx,T,[.lst (m.map .p++[.p (.tup [.str mk,tr,.str y,.str w])])])->G x:=λy w ow h e=>⟨_,_,e,m++[.tup [.str mk,tr,.str y,.str w]],_,_,_,_,by simp;lia,eO ho ⟨mk,tr,y,w,omk,ow,htr,h,rfl⟩,rfl,by rw[dM]⟩
   suffices h:G (d9 (Ph (n+2)) (F (qi (i:Int)) B p q) [.lst (m.map .p)]) by obtain⟨L2,Q,e,h⟩:=h;exact⟨_,L2,Q,rfl,e,h⟩
   unfold d9;rw[aq (e:=F (qi (i:Int)) (qi f) p q) (c:=[.lst (m.map .p)]) (by simp[F,hso]),aq (e:=F (qi (i:Int)) (qi f) (qp tr) q) (c:=[.lst (m.map .p)]) (by simp[F,etr]),aq (e:=T) (c:=[.lst (m.map .p)]) (by simp[F,T,mo,emk])];by_cases R:u≠[]/\f / 2 % 3=1
   .obtain⟨w,j,ew⟩:=nZ (s:=u) (k:=0) (by lia) (by have:=len_pos R.1;lia);obtain⟨w,K,rfl⟩:=hw w j;rw[cX R.1]at W;rw[u9 (by simp[F,T,W,R.2])];exact E "who" w K (.inl ⟨rfl,j⟩) (by simp[F,T,ew,dw,l])
   rw [BL (by
    cases H:u.isEmpty<;>rw[H]at W
    .have h3:¬f / 2 % 3=1:=λz=>R ⟨λz=>(by rw[z]at H;cases H),z⟩;simp[F,T,W,h3]
    .simp [F,T,W])]
   by_cases C:gs=[]
   .rw [C]at V;exact⟨T,[.lst (m.map .p)],by rw[BL (by simp[F,T,C,V])];rfl,m,_,_,_,_,by lia,ho,rfl,rfl⟩
   obtain⟨w,j,ew⟩:=iA C (f / 3);obtain⟨⟨w,K,rfl⟩,r,hrm,hra,A⟩:=I w j;have A:w=rB r:=by cases A;rfl
   have hl:=len_pos C;rw[cX C]at V;rw[u9 (by simp[F,T,V])];obtain⟨aa,haa,eaa⟩:=x_ (a:="all") (b:="any") (f / 6);exact E aa w K (.inr ⟨haa,r,hrm,hra,A⟩) (by simp[F,T,eaa,dO,fP,hl,ew,dw,l])) ⟨[],none,none,none,none,by simp,λ_ h=>(by cases h),rfl,rfl⟩
 refine⟨m,by rw[cL]at hc;lia,ho,?_⟩;have hq:(d % 2).natAbs < 1000000:=by lia
 rw[rT,aS];simp[ly,cx,v_ hrl,nw,eg,hq];simp[F]at e;simp[e]
@[simp] theorem Oa(L:Lc)(S:U):il L S=some (none,S):=rfl
@[simp] theorem N_(a:EV)(L:Lc)(S:U):gS a L S=bG (a L S) λv h=>match v with | .int i=>some (some i,h)|_=>none:=rfl
@[simp] theorem OI(t:List P)(lo h:Option Int):Mb (.lst t) lo h=some (.lst (cut t lo h)):=rfl
@[simp] theorem OH(t:List P)(lo h:Option Int):Mb (.tup t) lo h=some (.tup (cut t lo h)):=rfl
variable{t:List P}
theorem pL:(∀x ∈ cut t lo i,x ∈ t)/\(cut t lo i).length≤t.length:=by
 unfold cut;refine⟨λx h=>?_,?_⟩
 .first
   |exact uj (Ah h)
   |exact Ah (uj h)
 .simp only[g6,ug];lia
def jW(s:Str)(o u:List P)(v:P):Prop:=v=.non\/∃m a i w,aW m=true/\aW a=true/\aW i=true/\aW w=true/\(∃r ∈ o,rB r=s/\a=rA r)/\(w=""\/P.str w ∈ u)/\v=.tup [.str m,.str a,.str i,.str w]
noncomputable def more:P->List P
 | .non=>[]
 |_=>[.str "it"]
theorem jW.ok(h:jW s o u v):cA 2 v=true:=by
 rcases h with rfl|⟨m,a,i,w,x,e,n,k,_,_,rfl⟩
 .rfl
 .simp [x,e,n,k]
def yp(N f:List P)(t:P):Prop:=∀m a i w,t=.tup [m,a,.str i,w]->i=""\/(P.str i ∈ N/\P.str i ∉ f)
theorem F_:cut (t++[x]) none (some (-1))=t:=by
 unfold cut;have e:HT.eJ (t++[x]).length (t++[x]).length (some (-1))=t.length:=by show(if (-1:Int) < 0 then ((-1:Int)+(((t++[x]).length:Nat):Int)).toNat else min ((-1:Int).toNat) (t++[x]).length)=t.length;rw[ac (by decide),aZ,pC];lia
 rw[e,HT.qB,mf,tW,List.take_left'];rfl
theorem Fk(h:t≠[])(n:t.Nodup)(e:L2.atI t (-1)=some x):x ∉ cut t none (some (-1)):=by
 rcases List.eq_nil_or_concat t with rfl|⟨s,y,rfl⟩
 .exact absurd rfl h
 rw[List.concat_eq_append] at *
 have:x=y:=by
  unfold L2.atI L2.Dj at e;rw[af (by decide),ac (by simp;lia)]at e;have a:(-1+(((s++[y]).length:Nat):Int)).toNat=s.length:=by simp;lia
  simp only[a,jE]at e;rw[bI (ah _)]at e;simp at e;exact e.symm
 subst this;rw[F_];intro k;have:=(jN.mp n).2.2
 exact this x k x (by simp) rfl
theorem step_if(ψ ι:Str->GF){d0:Int}(hn:∀x ∈ f,j' x)(R:f.Nodup)(hw:∀x ∈ u,j' x)(hs:∀x ∈ d,j' x/\∃r ∈ o,rB r=s/\x=.str (rA r)) :
  ∃j c m v,jW s o u j/\(∀x ∈ c,x ∈ f)/\c.length≤f.length/\yp f c j /\
   fj ψ [ql (.int d0::ds),qs s,qp rooms,qp cells,ql u,ql o,ql f,ql d,qp .non,ql f,ql [],none,none,none,none,none,none,none] []
    = some (.nx,[ql (.int d0::ds),qs s,qp rooms,qp cells,ql u,ql o,ql f,ql d,qp j,ql c,ql (more j),m,v,none,none,none,none,none],[]):=by
 have K:=mO (fO (λx y=>(hs x y).1) 19);have N:=mO (fO hn 19);have W:=mO (fO hw 19);let F:Option D->List P->List P->Option D->Option D->Lc:=λq8 l9 l10 m v=>[ql (.int d0::ds),qs s,qp rooms,qp cells,ql u,ql o,ql f,ql d,q8,ql l9,ql l10,m,v,none,none,none,none,none]
 let G:Ba->Prop:=λx=>∃j c m v,jW s o u j/\(∀x ∈ c,x ∈ f)/\c.length≤f.length/\yp f c j/\x=some (.nx,F (qp j) c (more j) m v,[])
 show G (fj ψ (F (qp .non) f [] none none) []);unfold fj;by_cases H:d≠[]/\d0 % 3=1
 .rw [cX H.1]at K;obtain⟨s1,X,es⟩:=iA H.1 (d0 / 24);have M:=len_pos H.1;obtain⟨mk,Q,C⟩:=x_ (a:="ma") (b:="mb") (d0 / 12);obtain⟨⟨sn,osn,rfl⟩,r,V,T,l⟩:=hs s1 X;have l:sn=rA r:=by cases l;rfl
  have omk:aW mk=true:=by rcases Q with rfl|rfl<;>simp
  rw[u9 (by simp[F,K,H.2])];rw[aq (e:=F (qp .non) f [] (qs "") none) (c:=[]) rfl];refine v0 (G:=G) (p:=λL=>∃i c,aW i=true/\(∀x ∈ c,x ∈ f)/\c.length≤f.length/\(i=""\/(P.str i ∈ f/\P.str i ∉ c))/\L=F (qp .non) c [] (qs i) none) ?_ λL ⟨i,c,hi,hf,E,I,e⟩=>?_
  .by_cases g:f≠[]/\d0 / 3 % 2=1
   .obtain⟨x,y,B⟩:=Gp g.1;obtain⟨x,ox,rfl⟩:=hn x y;rw[cX g.1]at N;exact⟨_,⟨x,cut f none (some (-1)),ox,pL.1,pL.2,.inr ⟨y,Fk g.1 R B⟩,rfl⟩,by simp[F,N,g.2,B]⟩
   .refine⟨_,⟨"",f,by simp,λ_ h=>h,ah _,.inl rfl,rfl⟩,?_⟩;cases n:f.isEmpty<;>rw[n]at N
    .have S:¬d0 / 3 % 2=1:=λq=>g ⟨λz=>(by rw[z]at n;cases n),q⟩;simp[F,N,S]
    .simp [F,N]
  subst e;rw[aq (e:=F (qp .non) c [] (qs i) (qs "")) (c:=[]) rfl];refine v0 (G:=G) (p:=λL=>∃w,aW w=true/\(w=""\/P.str w ∈ u)/\L=F (qp .non) c [] (qs i) (qs w)) ?_ λL ⟨w,A,Z,e⟩=>?_
  .by_cases g:u≠[]/\d0 / 6 % 2=1
   .obtain⟨x,y,B⟩:=nZ (s:=u) (k:=0) (by lia) (by have:=len_pos g.1;lia);obtain⟨x,ox,rfl⟩:=hw x y;rw[cX g.1]at W;exact⟨_,⟨x,ox,.inr y,rfl⟩,by simp[F,W,g.2,B]⟩
   .refine⟨_,⟨"",by simp,.inl rfl,rfl⟩,?_⟩;cases n:u.isEmpty<;>rw[n]at W
    .have S:¬d0 / 6 % 2=1:=λq=>g ⟨λz=>(by rw[z]at n;cases n),q⟩;simp[F,W,S]
    .simp [F,W]
  subst e;exact⟨.tup [.str mk,.str sn,.str i,.str w],c,qs i,qs w,.inr ⟨mk,sn,i,w,omk,osn,hi,A,⟨r,V,T,l⟩,Z,rfl⟩,hf,E,λ_ _ _ _ q=>by cases q;exact I,by simp[F,more,dO,fP,M,es,C]⟩
 .refine⟨.non,f,none,none,.inl rfl,λ_ h=>h,ah _,λ_ _ _ _ q=>(by cases q),?_⟩;cases n:d.isEmpty<;>rw[n]at K
  .have S:¬d0 % 3=1:=λq=>H ⟨λz=>(by rw[z]at n;cases n),q⟩;simp[F,more,K,S]
  .simp [F,more,K]
def nQ(s:List P):List P:=s.map λc=>.str (a9 c)
theorem qI(e:∀c ∈ a,isCel c):∀x ∈ nQ a,j' x:=λx s=>by obtain⟨c,h,rfl⟩:=aU.mp s;obtain⟨x,_,_,_,o,_,_,_,_,rfl⟩:=e c h;exact⟨x,o,rfl⟩
theorem sR(m:∀c ∈ k,isCel c)(L:Lc)(j:Nat)(s:j < L.length)(S:U) :
  bR (av j) iz (ae (vv j) eB) k L S=some (nQ k,S):=by
 have:=di (g:=av j) (c:=iz) (e:=ae (vv j) eB) (S:=S) (p:=fun _=>true) (f:=fun c=>.str (a9 c)) (s:=k) (L:=L) (Inv:=fun h=>∃d,h=L.set j d) (fun v r h b=>by
  obtain⟨d,rfl⟩:=b;obtain⟨x,lo,i,a,q,_,_,_,_,rfl⟩:=m v r;have n:((L.set j d).set j (qt [.str x,.int lo,.int i,.int a]))[j]? = some (qt [.str x,.int lo,.int i,.int a]):=by rw[bv (by simpa using s)]
  exact⟨_,rfl,⟨_,cE ..⟩,rfl,λ_=>by simp[-cE,n,a9]⟩) ⟨L[j],(gp s).symm⟩
 rw[this,pA.mpr λ_ _=>rfl];rfl
def Jz(N:List P)(c:P):Prop:=∃x t,aW x=true/\oy N t/\c=.tup [.str x,t]
structure Stp(s:Str)(rooms cells whos rs:List P)(rm when tk:P)(chg sn:List P)(rm2:P):Prop where
 h1:rm ∈ rooms
 h2:rm2 ∈ rooms
 wh:qO (nQ cells) when
 htk:jW s rs whos tk
 cl:chg.length≤3
 ch:∀c ∈ chg,Jz (nQ cells++more tk) c
 cn:∀c ∈ chg,P.str (a9 c) ∈ nQ cells
 ci:yp (nQ cells) (chg.map λc=>.str (a9 c)) tk
 sl:sn.length≤1
 hsn:∀c ∈ sn,isSend s rs whos (nQ cells) c
variable{cells:List P}
theorem Lx(h:oH cells):(nQ cells).Nodup:=by refine uq.mpr λi j x a n q=>?_;unfold nQ at x a q;rw[aX]at x a;rw[pq,pq]at q;obtain⟨_,o,h⟩:=h;have e:=h i _ (bo x);have s:=h j _ (bo a);rw[P.str.inj q,s]at e;simp at e;lia
theorem uV(v:P):∀x ∈ more v,j' x:=λx h=>by
 cases v with
 |non=>cases h
 |_=>exact⟨"it",by simp,by simpa[more] using h⟩
theorem Fa(v:P):(more v).length≤1:=by cases v<;>simp[more]
theorem HB(I B G y:Int)(hrm:∀x ∈ r,j' x)(E:r≠[])(Q:oH cells)(hcl:cells.length≤2)(hw:∀x ∈ u,j' x)(hr:∀c ∈ o,isRoad c)(hrl:o.length≤8) :
  ∃rm wh K l sn rm2,Stp s r cells u o rm wh K l sn rm2/\cI (Ph (n+4) "_law_step") [.lst [.int I,.int B,.int G,.int y],.str s,.lst r,.lst cells,.lst u,.lst o]=some (.tup [rm,wh,K,.lst l,.lst sn,rm2]):=by
 have M:=Q.1;have X:=Lx Q;have e1:=sR M [ql [.int I,.int B,.int G,.int y],qs s,ql r,ql cells,ql u,ql o,none,none,none,none,none,none,none,none,none,none,none,none,none] 18 (by simp) [];have p:=qI M;have hnl:(nQ cells).length=cells.length:=by simp[nQ]
 generalize N:nQ cells=f at e1 p hnl X;obtain⟨snd,e2,hsn,_⟩:=Ct (s:=s) hr [ql [.int I,.int B,.int G,.int y],qs s,ql r,ql cells,ql u,ql o,ql f,none,none,none,none,none,none,none,none,none,none,none,none] 18 1 (by simp) (by lia) rfl [];obtain⟨K,fr,q11,q12,htk,T,hfl,hio,e3⟩:=step_if (Ph (n+3)) (Ph (n+2)) (d0:=I) (ds:=[.int B,.int G,.int y]) (rooms:=.lst r) (cells:=.lst cells) p X hw hsn;have hml:=Fa K;have W:=uV K;generalize hM:more K=mo at e3 hml W;have Z:∀x ∈ f++mo,j' x:=λx hx=>(bA.mp hx).elim (p x) (W x)
 have H:f.length+mo.length≤1000000:=by lia
 have hcf:cells.length≤1000000:=by lia
 let F:Option D->Option D->Lc:=λd j=>[ql [.int I,.int B,.int G,.int y],qs s,ql r,ql cells,ql u,ql o,ql f,ql snd,qp K,ql fr,ql mo,q11,q12,qr 0,d,j,none,none]
 let Inv:Nat->Lc->U->Prop:=λi L S=>∃(A:List P)(d j:Option D),A.length≤i/\(∀c ∈ A,Jz (f++mo) c/\P.str (a9 c) ∈ fr)/\L=F d j/\S=[.lst (A.map .p)]
 obtain⟨L',S',e4,l,d,j,R,C,rfl,rfl⟩:=dh (g:=bD [av 14,av 15]) (b:=fh (Ph (n+3))) (Inv:=Inv) (s:=cq 0 fr) (k:=0) (L:=F none none) (S:=[.lst []]) (fun i v L S hv hI=>by
   obtain⟨x,hx1,rfl⟩:=kE hv;have hi:=bB hx1;have hxf:=a8 hx1;obtain⟨x,ox,rfl⟩:=p x (T x hxf);obtain⟨A,d,j,M,ho,rfl,rfl⟩:=hI;have V:A.length≤1000000:=by lia
   obtain⟨a,b,ha,hb,ea,eb⟩:∃a b:Int,(0 < a/\a < 1152921504606846976)/\(0 < b/\b < 1152921504606846976)/\L2.atI [P.int 1,.int 1000] (i:Int)=some (.int a)/\L2.atI [P.int 2,.int 2000] (i:Int)=some (.int b):=by
    have:i=0\/i=1:=by lia
    rcases this with rfl|rfl
    .exact⟨1,2,by decide,by decide,by simp,by simp⟩
    .exact⟨1000,2000,by decide,by decide,by simp,by simp⟩
   by_cases h:B / a % 2=1
   .obtain⟨tr,htr,etr⟩:=xR (n:=n+1) (B / b % 300) Z;refine⟨_,F (qi (i:Int)) (qs x),[.lst ((A++[P.tup [.str x,tr]]).map D.p)],rfl,?_,_,_,_,by simp;lia,eO ho ⟨⟨x,tr,ox,htr,rfl⟩,hxf⟩,rfl,rfl⟩;rw[<- dM];simp[fh,F,ea,eb,ha,hb,h,H,etr,dw,V]
   .refine⟨_,F (qi (i:Int)) (qs x),[.lst (A.map D.p)],rfl,?_,A,_,_,by lia,ho,rfl,rfl⟩;simp[fh,F,ea,ha,h]) ⟨[],none,none,by simp,λ_ h=>(by cases h),rfl,rfl⟩
 rw[d5]at R;obtain⟨sn,hsl,hsd,e5⟩:=Ef (n:=n) G (s:=s) p hw hr hrl;obtain⟨wh,hwh,e6⟩:=cond_ok (n:=n) (y % 27000) p;obtain⟨r1,hr1,e7⟩:=iA E (y / 27000);obtain⟨r2,hr2,e8⟩:=iA E (y / 81000);have hl:=len_pos E;refine⟨r1,wh,K,l,sn,r2,⟨hr1,hr2,N ▸ hwh,htk,by lia,N ▸ hM ▸ λc h=>(C c h).1,N ▸ λc h=>T _ (C c h).2,N ▸ λm a into who q=>(hio m a into who q).imp id λz=>⟨z.1,λw=>by obtain⟨c,M,e⟩:=aU.mp w;exact z.2 (e ▸ (C c M).2)⟩,hsl,N ▸ hsd⟩,?_⟩
 rw[vg,aS];simp only[F]at e4;simp[nl,cx,hcf,v_ hrl,nw,e1,e2,i7,e3,e4,H,dO,fP,e5,e6,hl,e7,e8,gu]
inductive isStep(s:Str)(rooms cells whos rs:List P)(v:P):Prop
 |mk (x:Str) (rm wh tk:P) (chg sn:List P) (rm2:P):aW x=true->Stp s rooms cells whos rs rm wh tk chg sn rm2->v=.tup [.str x,rm,wh,tk,.lst chg,.lst sn,rm2]->isStep s rooms cells whos rs v
variable{h:Type}
noncomputable def eK:List (List h)->List (List h)
 | []=>[[]]
 |t::r=>t.flatMap λx=>(eK r).map (x::·)
def oJ(c:P):List P:=(List.range (iv (gE c 2)-iv (gE c 1)+1).toNat).map λ(i:Nat)=>.int (iv (gE c 1)+(i:Int))
def gG(cells:List P):List (List P):=eK (cells.map oJ)
structure Fam(rs:List P)(nm:Str)(crew:Nat)(rooms cells whos steps:List P):Prop where
 hnm:aW nm=true
 hcr:1≤crew/\crew≤4
 hro:∀x ∈ rooms,j' x
 r0:rooms≠[]
 rl:rooms.length≤8
 hce:oH cells
 cl:cells.length≤3
 hwh:∀x ∈ whos,j' x
 wl:whos.length≤2
 s0:steps≠[]
 sl:steps.length≤8
 hst:∀x ∈ steps,isStep nm rooms cells whos rs x
 sd:steps.Pairwise λa b=>a9 a≠a9 b
 b1:steps.length≤2
 b2:rooms.length * (gG cells).length * 2 ^ whos.length≤4
 b3:(gG cells).length≤2
inductive isFam(rs:List P)(v:P):Prop
 |mk (nm:Str) (crew:Nat) (rooms cells whos steps:List P):Fam rs nm crew rooms cells whos steps->v=.tup [.str nm,.int (crew:Int),.lst rooms,.lst cells,.lst whos,.lst steps]->isFam rs v
variable{m:Nat}
theorem yb(s:List Int)(j:Nat)(o:Nat)(L:Lc)(c:j < L.length)(r:L[0]? = some (qp (gI s)))(h:0≠j)(u:o+m≤16)(S:U) :
  ∃a,bR (av j) iz (cB (Ph (n+3) "_law_name") (v2 bY (aQ (vi (o:Int)) (vv j)))) (Ev.intsFrom 0 m) L S=some (a,S)/\(∀y ∈ a,j' y)/\a.length=(Ev.intsFrom 0 m).length:=by
 refine lM (Inv:=λf=>∃d,f=L.set j d) (λv p f t=>?_) ⟨L[j],(gp c).symm⟩;obtain⟨d,rfl⟩:=t;obtain⟨i,rfl,w⟩:=gF p;obtain⟨x,q,_,e⟩:=k5 (n:=n) s (k:=o+i) (by lia);have e:cI (Ph (n+3) "_law_name") [gI s,.int ((o:Int)+(i:Int))]=some (.str x):=by rw[<- e];rfl
 have g:((L.set j d).set j (qi (0+(i:Int))))[j]? = some (qi (0+(i:Int))):=by rw[bv (by simpa using c)]
 have b:((L.set j d).set j (qi (0+(i:Int))))[0]? = some (qp (gI s)):=by rw[aP (aI h),aP (aI h)];exact r
 simp only[cO]at g b ⊢;exact⟨_,.str x,rfl,⟨_,cE ..⟩,by simp[-cE,g,b,e],x,q,rfl⟩
theorem L6(s:List Int)(l:Int)(D:0≤l)(L:Lc)(A:L.length=21)(K:L[0]? = some (qp (gI s)))(x:L[14]? = some (qi l))(S:U) :
  ∃z o H F:Int,bR (av 20) iz (cB (Ph (n+2) "_law_mix") (v2 (cB (Ph (n+2) "_law_cell_at") (v2 bY (aQ (vv 14) (vv 20)))) (vi 11))) (Ev.intsFrom 0 4) L S=some ([.int z,.int o,.int H,.int F],S):=by
 obtain⟨C,e,y,h⟩:=lM (Q:=fun v=>∃d:Int,v=.int d) (g:=av 20) (e:=cB (Ph (n+2) "_law_mix") (v2 (cB (Ph (n+2) "_law_cell_at") (v2 bY (aQ (vv 14) (vv 20)))) (vi 11))) (S:=S) (s:=Ev.intsFrom 0 4) (Inv:=fun f=>∃d,f=L.set 20 d) (L:=L) (fun v B f P=>by
  obtain⟨d,rfl⟩:=P;obtain⟨i,rfl,E⟩:=gF B;obtain⟨c,r,G,m,q⟩:=iR (n:=n) s (k:=l+(0+(i:Int))) (p:=11) (by lia) (by lia) (by lia);have w:((L.set 20 d).set 20 (qi (0+(i:Int))))[20]? = some (qi (0+(i:Int))):=by rw[bv (by simp[A])]
  have u:((L.set 20 d).set 20 (qi (0+(i:Int))))[0]? = some (qp (gI s)):=by rw[aP (by decide),aP (by decide)];exact K
  have j:((L.set 20 d).set 20 (qi (0+(i:Int))))[14]? = some (qi l):=by rw[aP (by decide),aP (by decide)];exact x
  simp only[cO]at w u j m q ⊢;exact⟨_,.int r,rfl,⟨_,cE ..⟩,by simp[-cE,w,u,j,m,q],r,rfl⟩) ⟨L[20]'(by lia),(gp (by lia)).symm⟩
 rw[cL]at h;match C,h with
 | [a,b,c,d],_=>obtain⟨a,rfl⟩:=y a (by simp);obtain⟨b,rfl⟩:=y b (by simp);obtain⟨c,rfl⟩:=y c (by simp);obtain⟨d,rfl⟩:=y d (by simp);exact⟨a,b,c,d,e⟩
abbrev PL(c:List Int)(m r t p v d w u q h x a e s n k f b:Option D):Lc:=[qp (gI c),qi 2,m,r,t,p,v,d,w,u,q,h,x,a,e,s,n,k,f,b]
theorem gB(S:U)(x:SO):(S++[x])[S.length]? = some x:=by simp
theorem HC(C:List Int)(k:Nat)(hk:k≤1)(hro:∀x ∈ r,j' x)(hr0:r≠[])(hc:oH cells)(X:cells.length≤2)(hw:∀x ∈ u,j' x)(hr:∀c ∈ o,isRoad c)(hrl:o.length≤8)(hm:m≤2)(q2 q3 q5 q8 a e q H K A B:Option D)(T:U) :
  ∃(p:List P)(f d w:Option D),p.length=m/\(∀c ∈ p,isStep I r cells u o c)/\(∀j v,p[j]? = some v->hd (a9 v)=some (108+j)) /\
   bZ (av 13) (fw (Ph (n+5))) (Ev.intsFrom 0 m) (PL C q2 q3 (ql o) q5 (qi (k:Int)) (qs I) q8 (ql cells) (ql r) (ql u) (qr T.length) a e q H K A B) (T++[.lst []])
    = some (.nx,PL C q2 q3 (ql o) q5 (qi (k:Int)) (qs I) q8 (ql cells) (ql r) (ql u) (qr T.length) f d w H K A B,T++[.lst (p.map .p)]):=by
 let F:Option D->Option D->Option D->Lc:=λa e q=>PL C q2 q3 (ql o) q5 (qi (k:Int)) (qs I) q8 (ql cells) (ql r) (ql u) (qr T.length) a e q H K A B
 let Inv:Nat->Lc->U->Prop:=λi L S=>∃(z:List P)(a e q:Option D),z.length=i/\((∀c ∈ z,isStep I r cells u o c)/\∀k v,z[k]? = some v->hd (a9 v)=some (108+k))/\L=F a e q/\S=T++[.lst (z.map .p)]
 obtain⟨L',S',e4,p,f,d,w,hsl,⟨hst,hsn⟩,rfl,rfl⟩:=dh (g:=av 13) (b:=fw (Ph (n+5))) (Inv:=Inv) (s:=Ev.intsFrom 0 m) (k:=0) (L:=F a e q) (S:=T++[.lst []]) (fun i v L S hv hI=>by
   obtain⟨rfl,hi⟩:=ints_get hv;obtain⟨z,a,e,q,W,⟨ho,Z⟩,rfl,rfl⟩:=hI;simp only[cO];have m1:f8 3 (k:Int)=true:=bK (by decide) (by lia);have m2:f8 4 (3 * (k:Int)+(i:Int))=true:=bK (by decide) (by lia);obtain⟨d0,d1,d2,d3,ed⟩:=L6 (n:=n+3) C (5+4 * (3 * (k:Int)+(i:Int))) (by lia) (F (qi (i:Int)) (qi (5+4 * (3 * (k:Int)+(i:Int)))) q++[none]) rfl rfl rfl (T++[.lst (z.map .p)]);obtain⟨x,hx,hxh,V⟩:=k5 (n:=n+2) C (k:=11+i) (by lia);have V:cI (Ph (n+5) "_law_name") [gI C,.int (11+(i:Int))]=some (.str x):=by rw[<- V];rfl
   obtain⟨M,R,Q,l,N,y,hys,es⟩:=HB (n:=n+1) d0 d1 d2 d3 (s:=I) hro hr0 hc X hw hr hrl;have G:z.length≤1000000:=by lia
   have E:m9 (.tup [.str x]) (.tup [M,R,Q,.lst l,.lst N,y])=some (.tup [.str x,M,R,Q,.lst l,.lst N,y]):=rfl;refine⟨_,F (qi (i:Int)) (qi (5+4 * (3 * (k:Int)+(i:Int)))) (ql [.int d0,.int d1,.int d2,.int d3]),T++[.lst ((z++[P.tup [.str x,M,R,Q,.lst l,.lst N,y]]).map D.p)],rfl,?_,_,_,_,_,by simp;lia,⟨eO ho ⟨x,M,R,Q,l,N,y,hx,hys,rfl⟩,wK Z (by show hd x=_;rw[hxh,W];congr 1;lia)⟩,rfl,rfl⟩;rw[<- dM];simp only[F,PL,pi,eR]at ed;simp[fw,F,PL,m1,m2,cx,cL,nw,ed,V,es,E,dw,G]) ⟨[],_,_,_,rfl,⟨λ_ h=>(by cases h),λ_ _ h=>(by simp at h)⟩,rfl,rfl⟩
 rw[cL]at hsl;exact⟨p,f,d,w,by lia,hst,hsn,e4⟩
theorem wq(c:List Int)(j:Nat)(L:Lc)(o:j < L.length)(H:L[0]? = some (qp (gI c)))(b:0≠j)(K:m≤16)(S:U) :
  ∃q,bR (av j) iz (cB (Ph (n+3) "_law_name") (v2 bY (vv j))) (Ev.intsFrom 0 m) L S=some (q,S)/\(∀y ∈ q,j' y)/\(∀(i:Nat) y,q[i]? = some y->∃x,y=.str x/\hd x=some (97+i))/\q.length=(Ev.intsFrom 0 m).length:=by
 let f:P->P:=λv=>(cI (Ph (n+3) "_law_name") [gI c,v]).getD .non
 have w:∀i,i < m->∃x,aW x=true/\hd x=some (97+i)/\cI (Ph (n+3) "_law_name") [gI c,.int (i:Int)]=some (.str x)/\f (.int (i:Int))=.str x:=λi e=>by obtain⟨x,t,u,r⟩:=k5 (n:=n) c (k:=i) (by lia);exact⟨x,t,u,r,by simp[f,r]⟩
 refine⟨(Ev.intsFrom 0 m).map f,?_,λy a=>?_,λi y a=>?_,by simp⟩
 .rw [di (p:=λ_=>true) (f:=f) (Inv:=λg=>∃d,g=L.set j d) (λv h g F=>?_) ⟨L[j],(gp o).symm⟩,pA.mpr λ_ _=>rfl];obtain⟨d,rfl⟩:=F;obtain⟨i,rfl,e⟩:=gF h;obtain⟨x,t,_,r,s⟩:=w i e;have l:((L.set j d).set j (qi (0+(i:Int))))[j]? = some (qi (0+(i:Int))):=by
   rw[bv (by simpa using o)]
  have z:((L.set j d).set j (qi (0+(i:Int))))[0]? = some (qp (gI c)):=by rw[aP (aI b),aP (aI b)];exact H
  simp only[cO]at l z ⊢;exact⟨_,rfl,⟨_,cE ..⟩,rfl,λ_=>by rw[s];simp[-cE,l,z,r]⟩
 .obtain⟨v,h,rfl⟩:=aU.mp a;obtain⟨i,rfl,e⟩:=gF h;obtain⟨x,t,_,_,s⟩:=w i e;rw[cO,s];exact⟨x,t,rfl⟩
 .rw [b9]at a;cases h:(Ev.intsFrom 0 m)[i]? with
  |none=>rw[h]at a;cases a
  |some v=>rw[h]at a;cases a;obtain⟨rfl,e⟩:=ints_get h;obtain⟨x,_,u,_,s⟩:=w i e;exact⟨x,by rw[cO,s],u⟩
noncomputable def dE:P->Nat
 | .tup (_::.int c::_)=>c.toNat
 |_=>0
def yj(v:P):Prop:=∃(k f s:Str),(k="weak"\/k="strong")/\aW f=true/\aW s=true/\v=.tup [.str k,.str f,.str s]
theorem je:∀s:List (List h),(eK s).length=(s.map l_).foldr (· * ·) 1
 | []=>rfl
 |t::r=>by
  have e:=je r;have:∀a:List h,(a.flatMap λx=>(eK r).map (x::·)).length=a.length * (eK r).length:=λa=>by
   induction a with
   |nil=>simp
   |cons y a i=>rw[g7,aZ,i,aX,aV,lY];lia
  rw[eK,this,e];rfl
theorem Eo(h:isCel c):(oJ c).length≤2:=by
 obtain⟨x,lo,i,a,_,_,_,_,e,rfl⟩:=h;have:=e.2.1
 simp[oJ];lia
theorem Mf(h:oH cells)(l:cells.length≤1):(gG cells).length≤2:=by
 unfold gG;rw[je];match cells,l,h with
 | [],_,_=>simp
 | [c],_,h=>have:=Eo (h.1 c (by simp));simpa using this
def vY(z:P):Prop:=dE z=1/\(rL (gE z 2)).length=1/\(gG (rL (gE z 3))).length=1
structure Pln(fams roads wishes:List P):Prop where
 hf:∀f ∈ fams,isFam roads f
 cr:∃c,(∀f ∈ fams,dE f≤c)/\fams.length * c≤4
 f0:1≤fams.length/\fams.length≤4
 hr:∀r ∈ roads,isRoad r
 ra:∀r ∈ roads,(∃f ∈ fams,a9 f=rA r)/\∃f ∈ fams,a9 f=rB r
 rl:roads.length≤8
 hw:∀w ∈ wishes,yj w
 wl:wishes.length≤6
 rd:roads.Pairwise RD
 fd:∀f ∈ fams,∀g ∈ fams,a9 f=a9 g->f=g
 st:∃base tl,fams=base++tl/\((∃f,base=[f]/\dE f≤2)\/∃f g,base=[f,g]/\dE f≤1/\dE g≤1)/\(tl=[]\/∃z,tl=[z]/\vY z)/\∀r ∈ roads,∀z ∈ tl,a9 z≠rA r/\a9 z≠rB r
theorem pN(f:h->x)(t:List h)(i:Int):L2.atI (t.map f) i=(L2.atI t i).map f:=by
 unfold L2.atI;rw[aX];cases L2.Dj t.length i with
 |none=>rfl
 |some j=>simp
theorem Em(s:List Int){f:Int}(u:0≤f):∃v:List P,1≤v.length/\v.length≤2/\(∀x ∈ v,j' x)/\cI (Ph (n+4) "_law_rooms") [gI s,.int f]=some (.lst v):=by
 obtain⟨c,a,g,b,t⟩:=iR (n:=n+1) s (k:=2+f) (p:=9) (by lia) (by lia) (by lia);have i:a % 2 < 2:=iC _ (by lia);have q:0≤a % 2:=gj _ (by lia);obtain⟨r,e,o,h⟩:=yb (n:=n) s 3 4 [qp (gI s),qi f,qi (1+a % 2),none] (by simp) rfl (by decide) (m:=(1+a % 2).toNat) (by lia) [];rw[cL]at h;refine⟨r,by lia,by lia,o,?_⟩;have d:(1+a % 2).natAbs < 1000000:=by lia
 have w:(1+a % 2).toNat≤1000000:=by lia
 rw[rV,aS];simp only[show((4:Nat):Int)=4 from rfl]at e;simp[lz,b,t,d,w,cx,cL,nw,e]
theorem FT{n:Nat}(S:List Int){M:Int}(e0:cI (Ph (n+5) "_law_cell_at") [gI S,.int 0]=some (.int M)){k m:Nat}(hk:k≤1)(hm:m=1\/m=2){F:Str}(hnm:aW F=true){o:List P}(hr:∀c ∈ o,isRoad c)(hrl:o.length≤8){s:List P}(hfl:s.length≤100)(T:U)(E q8 q9 L G C d g l a e b t:Option D) :
  ∃f,isFam o f/\a9 f=F/\dE f≤3-m/\∃q8' q9' q10' q11' q12' K A B T',fq (Ph (n+5)) (PL S (qi (m:Int)) E (ql o) (qr 0) (qi (k:Int)) (qs F) q8 q9 L G C d g l a e b t) (.lst (s.map .p)::T)
   = some (.nx,PL S (qi (m:Int)) E (ql o) (qr 0) (qi (k:Int)) (qs F) q8' q9' q10' q11' q12' K A B a e b t,.lst ((s++[f]).map .p)::T'):=by
 obtain⟨H,hcr0,hcr1,V,ecr⟩:∃H:Nat,1≤H/\H≤2/\H≤3-m/\L2.atI [P.int (1+M / 2 % 2),.int 1] ((m:Int)-1)=some (.int (H:Int)):=by
  rcases hm with rfl|rfl
  .exact⟨(1+M / 2 % 2).toNat,by lia,by lia,by lia,by simp;lia⟩
  .exact⟨1,by lia,by lia,by lia,by simp⟩
 obtain⟨cells,hcl,hc,ec⟩:=Gc (n:=n+1) S (f:=(k:Int)) (by lia);obtain⟨r,I,hr2,hro,er⟩:=Em (n:=n+1) S (f:=(k:Int)) (by lia);have Z:r≠[]:=λq=>by rw[q]at I;simp at I
 obtain⟨x,hx,_,ex⟩:=k5 (n:=n+2) S (k:=10) (by lia);have ex:cI (Ph (n+5) "_law_name") [gI S,.int 10]=some (.str x):=by rw[<- ex];rfl
 obtain⟨c8,N,ha8,Q,e82⟩:=iR (n:=n+3) S (k:=2+(k:Int)) (p:=8) (by lia) (by lia) (by lia);obtain⟨a7,ha7,e72⟩:=Fb (n:=n+3) c8 (p:=7) (by lia) (by lia);obtain⟨z,w,u,ez,mz,hz,ew,hwi,hwl⟩:∃(z w:Int)(u:List P),lO [.bl (decide (r.length=1))]=some (.int z)/\f8 (N % 2) z=true/\N % 2 * z=w/\m7 (.lst [.str x]) (.int w)=some (.lst u)/\(∀y ∈ u,j' y)/\r.length * 2 ^ u.length≤2:=by
  have R:N % 2=0\/N % 2=1:=by lia
  by_cases h:r.length=1
  .have hm:f8 (N % 2) 1=true:=bK (by lia) (by decide);rcases R with R|R
   .exact⟨1,0,[],by simp[h,lO,sV],hm,by rw[R];simp,by simp,λ_ h=>(by cases h),by simp;lia⟩
   .exact⟨1,1,[.str x],by simp[h,lO,sV],hm,by rw[R];simp,by simp,λy hy=>⟨x,hx,by simpa using hy⟩,by simp;lia⟩
  .exact⟨0,0,[],by simp[h,lO,sV],bK (by lia) (by decide),by simp,by simp,λ_ h=>(by cases h),by simp;lia⟩
 have hwl2:u.length≤1:=by
  rcases tU u.length 2 with h|h
  .lia
  .have h4:2 ^ 2≤2 ^ u.length:=tY (by decide) h;have:1 * 2 ^ u.length≤r.length * 2 ^ u.length:=Nat.mul_le_mul_right _ I;lia
 obtain⟨v,K,A,B,hsl,hst,hsn,es⟩:=HC (n:=n) S k hk (I:=F) hro Z hc (by lia) hwi hr hrl (m:=(1+a7 % 2).toNat) (by lia) (qi (m:Int)) E (qr 0) (qi (H:Int)) d g l a e b t (.lst (s.map .p)::T);have W:=Mf hc hcl;refine⟨.tup [.str F,.int (H:Int),.lst r,.lst cells,.lst u,.lst v],⟨F,H,r,cells,u,v,⟨hnm,by lia,hro,Z,by lia,hc,by lia,hwi,by lia,fun q=>by rw [q] at hsl;simp at hsl;lia,by lia,hst,uq.mpr fun i j hi hj hij q=>by
  have h1:=hsn i _ (bo hi);have h2:=hsn j _ (bo hj);rw[q,h2]at h1;have:=cw h1
  lia,by lia,?_,W⟩,rfl⟩,rfl,by simpa[dE] using V,qi (H:Int),ql cells,ql r,ql u,some (.ref (SO.lst (s.map .p)::T).length),K,A,B,T++[.fz (.lst v)],?_⟩
 .have:r.length * (gG cells).length * 2 ^ u.length=r.length * 2 ^ u.length * (gG cells).length:=by rw[Nat.mul_right_comm]
  rw[this];exact au (lZ hwl W) (by decide)
 have q2:(1+a7 % 2).natAbs < 1000000:=by lia
 have X:s.length≤1000000:=by lia
 unfold fq;rw [aq (e:=PL S (qi (m:Int)) E (ql o) (qr 0) (qi (k:Int)) (qs F) (qi (H:Int)) q9 L G C d g l a e b t) (c:=.lst (s.map .p)::T) (by simp [PL,e0,ecr])];rw [aq (e:=PL S (qi (m:Int)) E (ql o) (qr 0) (qi (k:Int)) (qs F) (qi (H:Int)) (ql cells) L G C d g l a e b t) (c:=.lst (s.map .p)::T) (by simp [PL,ec])];rw [aq (e:=PL S (qi (m:Int)) E (ql o) (qr 0) (qi (k:Int)) (qs F) (qi (H:Int)) (ql cells) (ql r) G C d g l a e b t) (c:=.lst (s.map .p)::T) (by simp [PL,er])];rw [aq (e:=PL S (qi (m:Int)) E (ql o) (qr 0) (qi (k:Int)) (qs F) (qi (H:Int)) (ql cells) (ql r) (ql u) C d g l a e b t) (c:=.lst (s.map .p)::T) (by
  have hdc:(decide ((r.length:Int)=1))=decide (r.length=1):=by by_cases h:r.length=1<;>simp[h]<;>lia
  simp[PL,ex,Q,e82,dO,fP,hdc,ez,mz,hz,-C4,ew])]
 rw[aq (e:=PL S (qi (m:Int)) E (ql o) (qr 0) (qi (k:Int)) (qs F) (qi (H:Int)) (ql cells) (ql r) (ql u) (some (.ref (SO.lst (s.map .p)::T).length)) d g l a e b t) (c:=(.lst (s.map .p)::T)++[.lst []]) (by simp[PL])];rw[aq (e:=PL S (qi (m:Int)) E (ql o) (qr 0) (qi (k:Int)) (qs F) (qi (H:Int)) (ql cells) (ql r) (ql u) (some (.ref (SO.lst (s.map .p)::T).length)) K A B a e b t) (c:=(.lst (s.map .p)::T)++[.lst (v.map .p)]) (by rw[cf];rw[show i6 (aQ dj (aL (cB (Ph (n+5) "_law_mix") (v2 (cB (Ph (n+5) "_law_cell_at") (v2 bY (aQ fX k_))) (vi 7))) fX)) (PL S (qi (m:Int)) E (ql o) (qr 0) (qi (k:Int)) (qs F) (qi (H:Int)) (ql cells) (ql r) (ql u) (some (.ref (SO.lst (s.map .p)::T).length)) d g l a e b t) ((.lst (s.map .p)::T)++[.lst []])=some (Ev.intsFrom 0 (1+a7 % 2).toNat,(.lst (s.map .p)::T)++[.lst []]) by simp[PL,Q,e72,q2]];exact es)]
 have hg:((.lst (s.map .p)::T)++[SO.lst (v.map .p)])[(SO.lst (s.map .p)::T).length]? = some (.lst (v.map .p)):=gB _ _;have ht:toP 9 (.ref (T.length+1)) (.lst (s.map .p)::(T++[SO.lst (v.map .p)]))=_:=gu hg;have hs:(SO.lst (s.map .p)::(T++[SO.lst (v.map .p)])).set (T.length+1) (.fz (.lst v))=.lst (s.map .p)::(T++[.fz (.lst v)]):=by simp
 rw[hs]at ht;rw[<- dM];simp[PL,dw,ht,X]
noncomputable def qu(h a e x s n:Str)(w:P):P:=.tup [.str s,.int 1,.lst [.str x],.lst [.tup [.str h,.int 3,.int 3,.int 3],.tup [.str a,.int 0,.int 0,.int 0]],.lst [.str n],.lst [.tup [.str e,.str x,w,.non,.lst [],.lst [],.str x]]]
theorem Eb(t:strOk e)(s:hd e=some 109)(v:strOk f)(n:hd f=some 110)(d:strOk b)(u:strOk a)(z:strOk g)(H:strOk p)(hw:w=.tup [.str "true"]\/w=.tup [.str "not",.tup [.str "true"]]):isFam o (qu e f b a g p w)/\vY (qu e f b a g p w):=by
 have j:∀{x:Str}{k:Nat},hd x=some k->k≠105->hd x≠some 105:=λh hk q=>by rw[h]at q;exact hk (cw q)
 refine⟨⟨g,1,[.str a],_,[.str p],_,⟨z,by lia,λy r=>⟨a,u,by simpa using r⟩,by simp,by simp,⟨λc l=>?_,109,λi c m=>?_⟩,by simp,λy r=>⟨p,H,by simpa using r⟩,by simp,by simp,by simp,λy r=>?_,by simp,by simp,by simp[gG,eK,oJ],by simp[gG,eK,oJ]⟩,rfl⟩,rfl,rfl,by simp[qu,gG,eK,oJ]⟩
 .simp only[aN,de,cZ]at l;rcases l with rfl|rfl
  .exact⟨e,3,3,3,t,by decide,by decide,by decide,⟨by decide,by decide,j s (by decide)⟩,rfl⟩
  .exact⟨f,0,0,0,v,by decide,by decide,by decide,⟨by decide,by decide,j n (by decide)⟩,rfl⟩
 .match i,m with
  |0,m=>cases m;exact s
  |1,m=>cases m;exact n
 .cases b_.mp r;refine⟨b,.str a,w,.non,[],[],.str a,d,⟨by simp,by simp,?_,.inl rfl,by simp,λ_ h=>(by cases h),λ_ h=>(by cases h),λ_ _ _ _ q=>(by cases q),by simp,λ_ h=>(by cases h)⟩,rfl⟩;rcases hw with rfl|rfl
  .exact .inl rfl
  .exact .inr (.inr (.inl ⟨_,.inr rfl,rfl⟩))
theorem Cb{n:Nat}(X:List Int){m:Nat}(hm:m=1\/m=2){o s:List P}(hf:∀f ∈ s,isFam o f)(hml:m≤s.length)(q3 q4 G M q8 q9 y z H K A q B C E:Option D)(T:U){w:Nat}(hw:w≤6) :
  ∃(V:List P)(I N j:Option D),V.length=w/\(∀c ∈ V,yj c)/\bZ (av 6) (fm (Ph (n+5))) (Ev.intsFrom 0 w) (PL X (qi (m:Int)) q3 q4 (qr 0) G M q8 q9 y z H K A q (qr (T.length+1)) B C E) (.lst (s.map .p)::(T++[.lst []]))
   = some (.nx,PL X (qi (m:Int)) q3 q4 (qr 0) I N q8 q9 y z H K A j (qr (T.length+1)) B C E,.lst (s.map .p)::(T++[.lst (V.map .p)])):=by
 let F:Option D->Option D->Option D->Lc:=λG M q=>PL X (qi (m:Int)) q3 q4 (qr 0) G M q8 q9 y z H K A q (qr (T.length+1)) B C E
 let Inv:Nat->Lc->U->Prop:=λi L S=>∃(l:List P)(G M q:Option D),l.length=i/\(∀c ∈ l,yj c)/\L=F G M q/\S=.lst (s.map .p)::(T++[.lst (l.map .p)])
 obtain⟨L',S',e4,V,I,N,j,hsl,hst,rfl,rfl⟩:=dh (g:=av 6) (b:=fm (Ph (n+5))) (Inv:=Inv) (s:=Ev.intsFrom 0 w) (k:=0) (L:=F G M q) (S:=.lst (s.map .p)::(T++[.lst []])) (fun i v L S hv hI=>by
   obtain⟨rfl,hi⟩:=ints_get hv;obtain⟨l,G,M,q,hc1,ho,rfl,rfl⟩:=hI;simp only[cO];obtain⟨c,d,hd,e1,e2⟩:=iR (n:=n+3) X (k:=4) (p:=20+(i:Int)) (by lia) (by lia) (by lia);have hmp:0 < (m:Int):=by lia
   have hmn:0 < m:=by lia
   obtain⟨f,hfm,ef⟩:=nZ (s:=s) (k:=d % (m:Int)) (gj _ (by lia)) (by have:=iC d hmp;lia);obtain⟨R,Z,r,cells,u,e,W,rfl⟩:=hf f hfm;obtain⟨st,hsm,est⟩:=iA W.s0 (d / 4);obtain⟨x,rm,wh,tk,chg,sn,rm2,hx,hys,rfl⟩:=W.hst st hsm;obtain⟨k,hk,ek⟩:=x_ (a:="weak") (b:="strong") (d / 2);have hl:=len_pos W.s0;have Q:l.length≤1000000:=by lia
   have hg:(T++[SO.lst (l.map .p)])[T.length]? = some (.lst (l.map .p)):=gB _ _;refine⟨_,F (qi (i:Int)) (qt [.str R,.int (Z:Int),.lst r,.lst cells,.lst u,.lst e]) (qi d),.lst (s.map .p)::(T++[.lst ((l++[P.tup [.str k,.str R,.str x]]).map D.p)]),rfl,?_,_,_,_,_,by simp;lia,eO ho ⟨k,R,x,hk,W.hnm,hx,rfl⟩,rfl,rfl⟩;have ef2:L2.atI (s.map D.p) (d % (m:Int))=qt [.str R,.int (Z:Int),.lst r,.lst cells,.lst u,.lst e]:=by rw[pN,ef];rfl
   have e5:L2.atI [P.str R,.int (Z:Int),.lst r,.lst cells,.lst u,.lst e] 5=some (.lst e):=bE (by decide) rfl;rw[<- dM];simp[fm,F,PL,e1,e2,hmn,lu,ef2,ek,e5,dO,fP,hl,est,dw,Q]) ⟨[],_,_,_,rfl,λ_ h=>(by cases h),rfl,rfl⟩
 rw[cL]at hsl;exact⟨V,I,N,j,by lia,hst,e4⟩
theorem HZ{n:Nat}(E:List Int):∃fams s N,Pln fams s N/\cI (Ph (n+6) "_law_plan") [gI E,.int 2]=some (.tup [.lst fams,.lst s,.lst N]):=by
 obtain⟨I,e0⟩:=B3 (n:=n+3) E (k:=0) (by lia);obtain⟨m,hm⟩:∃m:Nat,1+I % 2=(m:Int):=⟨(1+I % 2).toNat,by lia⟩;have hm2:m=1\/m=2:=by lia
 obtain⟨p,en,hnm,hnh,hnl⟩:=wq (n:=n+2) E 6 (PL E (qi (m:Int)) none none none none none none none none none none none none none none none none none) (by simp [PL]) rfl (by decide) (m:=m) (by lia) [];rw [cL] at hnl;obtain⟨s,⟨hrl,hr,hrd⟩,er⟩:=En (n:=n+2) E hnm (fun i j x W X=>by
  obtain⟨a,rfl,ha⟩:=hnh i _ W;obtain⟨b,e,hb⟩:=hnh j _ X;cases e;rw[ha]at hb;have:=cw hb
  lia) (by lia)
 let F:Option D->Option D->Option D->Option D->Option D->Option D->Option D->Option D->Option D->Option D->Lc:=λq6 q7 Z q9 u H K A B C=>PL E (qi (m:Int)) (ql p) (ql s) (qr 0) q6 q7 Z q9 u H K A B C none none none none
 let Inv:Nat->Lc->U->Prop:=λi L S=>∃(vs:List P)(T:U)(q6 q7 Z q9 u H K A B C:Option D),vs.length=i/\(∀c ∈ vs,isFam s c/\dE c≤3-m)/\(∀j x,p[j]? = some x->j < i->∃f,vs[j]? = some f/\x=.str (a9 f))/\L=F q6 q7 Z q9 u H K A B C/\S=.lst (vs.map .p)::T
 obtain⟨L',S',e1,base,T,q6,q7,Z,q9,u,H,K,A,B,C,hfl,hfa,hfn,rfl,rfl⟩:=dh (g:=bD [av 6,av 7]) (b:=fq (Ph (n+5))) (Inv:=Inv) (s:=cq 0 p) (k:=0) (L:=F none none none none none none none none none none) (S:=[.lst []]) (fun i v L S hv hI=>by
   obtain⟨x,hx1,rfl⟩:=kE hv;have hi:=bB hx1;obtain⟨nm,hnm1,rfl⟩:=hnm x (a8 hx1);obtain⟨vs,T,q6,q7,Z,q9,u,H,K,A,B,C,hc,ho,hon,rfl,rfl⟩:=hI;obtain⟨f,hf1,hf2,hf3,q8',q9',q10',q11',q12',q13',q14',q15',T',ef⟩:=FT (n:=n) E e0 (k:=i) (m:=m) (by lia) hm2 hnm1 (λr h=>(hr r h).1) hrl (s:=vs) (by lia) T (ql p) Z q9 u H K A B C none none none none;refine⟨F (qi (i:Int)) (qs nm) Z q9 u H K A B C,_,_,rfl,ef,vs++[f],T',_,_,_,_,_,_,_,_,_,_,by simp;lia,eO ho ⟨hf1,hf3⟩,λj x hj hji=>?_,rfl,rfl⟩;by_cases hjj:j < i
   .obtain⟨g,Q,e⟩:=hon j x hj (by lia);exact⟨g,by rw[bL (bB Q)];exact Q,e⟩
   .have:j=i:=by lia
    subst this;rw[hx1]at hj;cases hj;exact⟨f,by rw[bI (by lia),hc];simp,by rw[hf2]⟩) ⟨[],[],none,none,none,none,none,none,none,none,none,none,rfl,λ_ h=>(by cases h),λ_ _ _ h=>(by lia),rfl,rfl⟩
 have hfm:base.length=m:=by rw[hfl,d5,hnl];lia
 obtain⟨G,q17,q18,q19,R,e2⟩:∃(G:List P) (q17 q18 q19:Option D),(G=[]\/∃z,G=[z]/\isFam s z/\vY z/\hd (a9 z)=some 100)/\∀(q16:Option D) (T:U),dI (bt (O (aL (aM (cB (Ph (n+5) "_law_cell_at") (v2 bY eB)) (vi 64)) sh)) (O dj)) (ai (aD 17 (O (bu (v2 (aK (v4 (cB (Ph (n+5) "_law_name") (v2 bY (vi 12))) hU hU hU)) (aK (v4 (cB (Ph (n+5) "_law_name") (v2 bY (vi 13))) eB eB eB))))))
  (ai (aD 18 (O (ae (bu (v2 (aK (v1 (vt "true"))) (aK (v2 (vt "not") (aK (v1 (vt "true"))))))) (aL (aM (cB (Ph (n+5) "_law_cell_at") (v2 bY eB)) (vi 256)) fX))))
  (ai (aD 19 (O (aK (v7 (cB (Ph (n+5) "_law_name") (v2 bY (vi 14))) (cB (Ph (n+5) "_law_name") (v2 bY (vi 15))) (vv 18) (vC (.non)) (bu aR) (bu aR) (cB (Ph (n+5) "_law_name") (v2 bY (vi 15)))))))
  (b8 (bM (aj 5) (O (aK (v6 (cB (Ph (n+5) "_law_name") (v2 bY hU)) dj (bu (v1 (cB (Ph (n+5) "_law_name") (v2 bY (vi 15))))) (vv 17) (bu (v1 (cB (Ph (n+5) "_law_name") (v2 bY (vi 9))))) (bu (v1 (vv 19))))))))))) fY
   (PL E (qi (m:Int)) (ql p) (ql s) (qr 0) q6 q7 Z q9 u H K A B C q16 none none none) (.lst (base.map .p)::T)=some (.nx,PL E (qi (m:Int)) (ql p) (ql s) (qr 0) q6 q7 Z q9 u H K A B C q16 q17 q18 q19,.lst ((base++G).map .p)::T):=by
  by_cases h:I / 64 % 4=1
  .have V:∀k:Nat,k < 16->∃x:Str,strOk x/\hd x=some (97+k)/\cI (Ph (n+5) "_law_name") [gI E,.int (k:Int)]=some (.str x):=λk hk=>k5 (n:=n+2) E hk;obtain⟨x12,o12,h12,e12⟩:=V 12 (by decide);obtain⟨x13,o13,h13,e13⟩:=V 13 (by decide);obtain⟨x14,o14,_,e14⟩:=V 14 (by decide);obtain⟨x15,o15,_,e15⟩:=V 15 (by decide);obtain⟨x3,o3,h3,e3⟩:=V 3 (by decide);obtain⟨x9,o9,_,e9⟩:=V 9 (by decide);obtain⟨wh,hwh,ewh⟩:=ED (a:=.tup [.str "true"]) (b:=.tup [.str "not",.tup [.str "true"]]) (I / 256);obtain⟨s1,s2⟩:=Eb (o:=s) o12 h12 o13 h13 o14 o15 o3 o9 hwh;simp only[show((12:Nat):Int)=12 from rfl,show((13:Nat):Int)=13 from rfl,show((14:Nat):Int)=14 from rfl,show((15:Nat):Int)=15 from rfl,show((3:Nat):Int)=3 from rfl,show((9:Nat):Int)=9 from rfl]at e12 e13 e14 e15 e3 e9;have hlen:base.length≤1000000:=by lia
   refine⟨[qu x12 x13 x14 x15 x3 x9 wh],ql [.tup [.str x12,.int 3,.int 3,.int 3],.tup [.str x13,.int 0,.int 0,.int 0]],qp wh,qt [.str x14,.str x15,wh,.non,.lst [],.lst [],.str x15],.inr ⟨_,rfl,s1,s2,h3⟩,λq16 T=>?_⟩;rw[<- dM];rw[u9 (by simp[PL,e0,h])];rw[aq (by simp[PL,e12,e13];exact⟨rfl,rfl⟩),aq (by simp[PL,e0,ewh];exact⟨rfl,rfl⟩),aq (by simp[PL,e14,e15];exact⟨rfl,rfl⟩)];simp[PL,e3,e15,e9,dw,hlen,qu]
  .exact⟨[],none,none,none,.inl rfl,λq16 T=>by simp[PL,e0,h]⟩
 have hfa2:∀f ∈ base++G,isFam s f:=λf w=>by
  rcases bA.mp w with w|w
  .exact (hfa f w).1
  .rcases R with rfl|⟨z,rfl,hz,_⟩
   .cases w
   .rw [b_.mp w];exact hz
 have hw6:(I / 20 % 3).toNat≤6:=by lia
 obtain⟨ws,q6',q7',q15',hwl,hwi,e3⟩:=Cb (n:=n) E hm2 hfa2 (by rw[aZ];lia) (ql p) (ql s) q6 q7 Z q9 u H K A B C q17 q18 q19 T hw6;have M:∀x ∈ p,∃f ∈ base,x=.str (a9 f):=λx hx=>by obtain⟨j,hj,e⟩:=iJ.mp hx;obtain⟨f,w,e⟩:=hfn j x (by rw[bo hj,e]) (by rw[d5];lia);exact⟨f,a8 w,e⟩
 have hfd:∀f ∈ base,∃a:Nat,base[a]? = some f/\hd (a9 f)=some (97+a):=λf w=>by obtain⟨a,ha,e⟩:=iJ.mp w;have W:=bo ha;rw[e]at W;have X:=bo (l:=p) (i:=a) (by lia);obtain⟨g,Q,e2⟩:=hfn a _ X (by rw[d5];lia);rw[W]at Q;cases Q;obtain⟨y,e3,hy⟩:=hnh a _ X;rw[e2]at e3;cases e3;exact⟨a,W,hy⟩
 have hne:∀f ∈ base,∀z ∈ G,a9 z≠a9 f:=λf w z hz q=>by
  obtain⟨a,W,X⟩:=hfd f w;rcases R with rfl|⟨z',rfl,_,_,hz'⟩
  .cases hz
  .rw [b_.mp hz]at q;rw[<- q,hz']at X;have:=cw X
   have:=bB W;lia
 have htl1:G.length≤1:=by rcases R with rfl|⟨z,rfl,_⟩<;>simp
 refine⟨base++G,s,ws,⟨hfa2,⟨3-m,λf w=>?_,?_⟩,by rw[aZ];lia,λr h=>(hr r h).1,λr h=>⟨?_,?_⟩,hrl,hwi,by lia,hrd,λf w g Q q=>?_,base,G,rfl,?_,R.imp id λ⟨z,W,_,X,_⟩=>⟨z,W,X⟩,λr h z hz=>⟨λq=>?_,λq=>?_⟩⟩,?_⟩
 .rcases bA.mp w with w|w
  .exact (hfa f w).2
  .rcases R with rfl|⟨z,rfl,_,hz,_⟩
   .cases w
   .rw [b_.mp w,hz.1];lia
 .rw [aZ,hfm];rcases hm2 with rfl|rfl<;>lia
 .obtain⟨f,w,e⟩:=M _ (hr r h).2.1;exact⟨f,iI _ w,(P.str.inj e).symm⟩
 .obtain⟨f,w,e⟩:=M _ (hr r h).2.2;exact⟨f,iI _ w,(P.str.inj e).symm⟩
 .rcases bA.mp w with w|w<;>rcases bA.mp Q with Q|Q
  .obtain⟨a,W,X⟩:=hfd f w;obtain⟨a',h3,h4⟩:=hfd g Q;rw[q,h4]at X;have:=cw X
   rw[show a=a' by lia,h3]at W;exact(cw W).symm
  .exact absurd q.symm (hne f w g Q)
  .exact absurd q (hne g Q f w)
  .rcases R with rfl|⟨z,rfl,_⟩
   .cases w
   .rw [b_.mp w,b_.mp Q]
 .rcases hm2 with rfl|rfl
  .obtain⟨f,rfl⟩:=RT hfm;exact .inl ⟨f,rfl,(hfa f (by simp)).2⟩
  .obtain⟨f,g,rfl⟩:=Po hfm;exact .inr ⟨f,g,rfl,(hfa f (by simp)).2,(hfa g (by simp)).2⟩
 .obtain⟨f,w,e⟩:=M _ (hr r h).2.1;exact hne f w z hz (q.trans (P.str.inj e))
 .obtain⟨f,w,e⟩:=M _ (hr r h).2.2;exact hne f w z hz (q.trans (P.str.inj e))
 have q3:m < 1000000:=by lia
 have q4:m≤1000000:=by lia
 have q5:(I / 20 % 3).natAbs < 1000000:=by lia
 rw [vh,aS];show (if [gI E,P.int 2].length=2 then match j4 (Ph (n+5)) (PL E none none none none none none none none none none none none none none none none none none) [] with
  |some (.rt d,_,S)=>(toP 9 d S).map (·.1)
  |some (.nx,_,_)=>some .non
  |_=>none else none)=_
 rw[ac (show[gI E,P.int 2].length=2 from rfl)];unfold j4;simp only[F]at e1;rw[aq (e:=PL E (qi (m:Int)) none none none none none none none none none none none none none none none none none) (c:=[]) (by simp[PL,e0,hm])];rw[aq (e:=PL E (qi (m:Int)) (ql p) none none none none none none none none none none none none none none none none) (c:=[]) (by simp only[PL]at en;simp[PL,q3,q4,cx,cL,nw,en])];rw[aq (e:=PL E (qi (m:Int)) (ql p) (ql s) none none none none none none none none none none none none none none none) (c:=[]) (by simp[PL,er])];rw[aq (e:=PL E (qi (m:Int)) (ql p) (ql s) (qr 0) none none none none none none none none none none none none none none) (c:=[.lst []]) (by simp[PL])];rw[aq (e:=_) (c:=_) (by rw[cf];rw[show lH fZ (PL E (qi (m:Int)) (ql p) (ql s) (qr 0) none none none none none none none none none none none none none none) [.lst []]=some (cq 0 p,[.lst []]) by simp[PL]];exact e1)];rw[aq (e:=PL E (qi (m:Int)) (ql p) (ql s) (qr 0) q6 q7 Z q9 u H K A B C (qr (T.length+1)) none none none) (c:=.lst (base.map .p)::(T++[.lst []])) (by simp[PL])];rw[aq (e2 _ _)];rw[aq (e:=_) (c:=_) (by rw[cf];rw[show i6 (aL (aM (cB (Ph (n+5) "_law_cell_at") (v2 bY eB)) (vi 20)) hU) (PL E (qi (m:Int)) (ql p) (ql s) (qr 0) q6 q7 Z q9 u H K A B C (qr (T.length+1)) q17 q18 q19) (.lst ((base++G).map .p)::(T++[.lst []]))=some (Ev.intsFrom 0 (I / 20 % 3).toNat,.lst ((base++G).map .p)::(T++[.lst []])) by simp[PL,e0,q5]];exact e3)];have t0:toP 9 (.ref 0) (SO.lst ((base++G).map .p)::(T++[.lst (ws.map .p)]))=some (.lst (base++G),.fz (.lst (base++G))::(T++[.lst (ws.map .p)])):=gu rfl;have t1:toP 9 (.ref (T.length+1)) (SO.fz (.lst (base++G))::(T++[.lst (ws.map .p)]))=some (.lst ws,.fz (.lst (base++G))::(T++[.fz (.lst ws)])):=by rw[gu (T:=ws) (by simp)];simp
 generalize base++G=fams at t0 t1 ⊢;simp[PL,t0,t1]
end My
namespace My
open PySem L2 Ev
section
variable{m:List P}
def hw:Nat->List P->List (Nat×P)
 |_,[]=>[]
 |k,f::r=>List.replicate (dE f) (k,f)++hw (k+1) r
theorem isFam.crew(h:isFam m e):dE e≤4:=by obtain⟨n,c,r,a,w,s,f,rfl⟩:=h;simpa[dE] using f.hcr.2
theorem FI:∀{a:List P}(k:Nat),(∀f ∈ a,isFam m f)->(hw k a).length≤4 * a.length
 | [],k,_=>by simp[hw]
 |f::r,k,h=>by have:=FI (a:=r) (k+1) λx e=>h x (aG _ e);have c:=(h f aH).crew;simp[hw];lia
theorem nU:∀{a:List P}{k:Nat}{x:Nat×P},x ∈ hw k a->∃j,x.1=k+j/\a[j]? = some x.2
 | [],k,x,h=>by simp[hw]at h
 |f::r,k,x,h=>by
  unfold hw at h;rcases bA.mp h with h|h
  .obtain⟨_,rfl⟩:=ml.mp h;exact⟨0,by simp,by simp⟩
  .obtain⟨j,s,e⟩:=nU h;exact⟨j+1,by lia,by simpa using e⟩
def homes(f:List P):List P:=(hw 0 f).map λx=>.int (x.1:Int)
def bq(f:List P):List P:=(hw 0 f).map (·.2)
theorem jv(k:Nat):((k+1:Nat):Int)=(k:Int)+1:=by lia
theorem BS(y K:Str->GF)(S:U)(l:P):∀(b:List P)(k:Nat)(n:List P)(g i:Option D),(∀f ∈ b,isFam m f)->n.length+4 * b.length≤1000 ->
  ∃q v,bZ (bD [av 2,av 3]) (fy y) (cq (k:Int) b) [qp l,qr S.length,g,i] (S++[.lst (n.map .p)])=some (.nx,[qp l,qr S.length,q,v],S++[.lst ((n++(hw k b).map λx=>P.int (x.1:Int)).map .p)])
 | [],k,n,g,i,_,_=>⟨g,i,by simp[cq,bZ,hw]⟩
 |f::r,k,n,g,i,h,H=>by
  obtain⟨u,c,o,a,w,s,z,rfl⟩:=h f aH;have A:=z.hcr.2;simp only[aV]at H;obtain⟨q,v,e⟩:=BS y K S l r (k+1) (n++List.replicate c (P.int (k:Int))) (qi (k:Int)) (qt [.str u,.int (c:Int),.lst o,.lst a,.lst w,.lst s]) (λx F=>h x (aG _ F)) (by simp;lia);refine⟨q,v,?_⟩;have j:(hw k (.tup [.str u,.int (c:Int),.lst o,.lst a,.lst w,.lst s]::r)).map (λx=>P.int (x.1:Int))=List.replicate c (P.int (k:Int))++(hw (k+1) r).map (λx=>P.int (x.1:Int)):=by simp[hw,dE]
  rw[j,<- fK];unfold cq;rw[jv]at e;refine(cm (h:=[qp l,qr S.length,qi (k:Int),qt [.str u,.int (c:Int),.lst o,.lst a,.lst w,.lst s]]) (L2:=[qp l,qr S.length,qi (k:Int),qt [.str u,.int (c:Int),.lst o,.lst a,.lst w,.lst s]]) (x:=S++[.lst ((n++List.replicate c (P.int (k:Int))).map .p)]) rfl ?_).trans e;have d:c≤1000000:=by lia
  have p:c < 1000000:=by lia
  have t:n.length+c≤1000000:=by lia
  simp[fy,dw,d,p,t]
theorem JE(h:∀f ∈ s,isFam m f)(l:s.length≤4)(r w:P)(S:U):Ph (n+2) "families_of" [.p (.tup [.lst s,r,w])] S=some (.ref S.length,S++[.lst ((homes s).map .p)]):=by obtain⟨q,a,e⟩:=BS (Ph (n+1)) (Ph n) S (.tup [.lst s,r,w]) s 0 [] none none h (by simp;lia);rw[oP];simp only[eR,dY]at e;have x:=e;rw[show((0:Nat):Int)=0 from rfl]at x;simp[mV,kf,x,homes]
theorem BR(h:∀f ∈ s,isFam m f)(l:s.length≤4)(r w:P):cI (Ph (n+2) "families_of") [.tup [.lst s,r,w]]=some (.lst (homes s)):=by unfold cI;rw[az,dY,JE (n:=n) h l r w []];simp
def aY(f:List P):LS:=(bq f).map a9
theorem jk(h:∀f ∈ s,isFam m f)(a:f ∈ bq s):isFam m f:=by unfold bq at a;obtain⟨x,n,rfl⟩:=aU.mp a;obtain⟨j,_,e⟩:=nU n;exact h _ (a8 e)
noncomputable def eM(N:LS)(s:Str):List Nat:=(List.range N.length).filter λi=>decide (N[i]? = some s)
theorem BW:∀(xs:List P)(k:Nat),cq (k:Int) xs=(zX k xs.length).map λi=>.tup [.int (i:Int),(xs[i-k]?).getD .non]
 | [],k=>rfl
 |x::r,k=>by
  unfold cq;have h:=BW r (k+1);rw[jv]at h;rw[h,aV,uh,az];simp only[zJ];congr 1;refine Ag λi a=>?_
  have:=(List.mem_range'_1.mp a).1;rw[show i-k=(i-(k+1))+1 by lia,kT]
theorem OC(xs:List P):cq 0 xs=(List.range xs.length).map λi=>.tup [.int (i:Int),(xs[i]?).getD .non]:=by have:=BW xs 0;rw[List.range_eq_range'];simpa using this
noncomputable def pr(road:P)(n o:Nat):P:=.tup [road,.int (n:Int),.int (o:Int)]
def x5(N:LS)(road:P):List P:=(eM N (rA road)).flatMap λn=>((eM N (rB road)).filter λo=>!decide (n=o)).map λo=>pr road n o
def bJ(N:LS)(r:List P):List P:=r.flatMap (x5 N)
noncomputable def cH(s:List Nat):List P:=s.map λ(i:Nat)=>P.int (i:Int)
theorem h_(N:LS)(s:Str):(eM N s).length≤N.length:=by unfold eM;exact au (g8 _ _) (by simp)
theorem Bf(n:Nat)(road:P)(os:List Nat):((os.filter λo=>!decide (n=o)).map λo=>pr road n o).length≤os.length:=by rw[aX];exact g8 _ _
theorem Bq(N:LS)(road:P)(os:List Nat)(h:os.length≤16):∀(s:List Nat),(s.flatMap λn=>(os.filter λo=>!decide (n=o)).map λo=>pr road n o).length≤16 * s.length
 | []=>by simp
 |i::s=>by
  have:=Bq N road os h s;have:=Bf i road os
  simp only[g7,aZ,aV];lia
theorem BM:∀{a:List P}(k:Nat),(∀f ∈ a,dE f≤e)->(hw k a).length≤a.length * e
 | [],k,_=>by simp[hw]
 |f::r,k,h=>by have:=BM (a:=r) (k+1) λx s=>h x (aG _ s);have c:=h f aH;simp[hw,Nat.add_mul];lia
theorem jj(h:Pln s y e):(bq s).length≤4:=by
 obtain⟨c,x,a⟩:=h.cr;have:=BM 0 x
 unfold bq;simp;lia
theorem nW(h:Pln s y e):(aY s).length≤4:=by unfold aY;rw[aX];exact jj h
end
section
variable{m:List P}
theorem FJ(h:e ∈ homes s):∃p f,e=.int ((p:Nat):Int)/\s[p]? = some f/\f ∈ bq s:=by unfold homes at h;obtain⟨x,a,rfl⟩:=aU.mp h;obtain⟨j,n,k⟩:=nU a;exact⟨x.1,x.2,rfl,by rw[n,fG];exact k,aU.mpr ⟨x,a,rfl⟩⟩
theorem CO(h:∀p x,s[p]? = some x->g (.int ((p:Nat):Int))=e x):(homes s).map g=(bq s).map e:=by
 unfold homes bq;rw[jL,jL];refine Ag λx k=>?_
 obtain⟨j,a,n⟩:=nU k;exact h x.1 x.2 (by rw[a,fG];exact n)
theorem iQ(xs:List e):xs.filter (λ_=>true)=xs:=pA.mpr λ_ _=>rfl
theorem nV:(homes s).length=(bq s).length:=by simp[homes,bq]
theorem bS(h:xs[e]? = some s):L2.atI xs ((e:Nat):Int)=some s:=bE (by lia) (by simpa using h)
theorem EA(q:∀f ∈ s,isFam m f)(r w:P)(S:U):bR (av 7) iz (ae (ae (ae bY eB) mE) eB) (homes s) [qt [.lst s,r,w],none,none,none,none,none,none,none] S=some ((aY s).map .str,S):=by
 rw[di (p:=λ_=>true) (f:=λv=>match v with | .int i=>(match s[i.toNat]? with|some f=>.str (a9 f)|none=>.non)|_=>.non) (Inv:=λL=>∃d,L=[qt [.lst s,r,w],none,none,none,none,none,none,d]) (λv g L b=>?_) ⟨none,rfl⟩]
 .rw [iQ,CO (e:=λf=>.str (a9 f)) λp x j=>by simp[j]];simp[aY]
 .obtain⟨d,rfl⟩:=b;obtain⟨p,f,rfl,n,h⟩:=FJ g;obtain⟨l,c,o,a,k,t,u,rfl⟩:=jk q h;have e:=bS n;exact⟨[qt [.lst s,r,w],none,none,none,none,none,none,qi (p:Int)],rfl,⟨_,rfl⟩,rfl,λ_=>by simp[e,n,a9]⟩
def oth(N:LS)(s:Str)(n:Nat):List Nat:=(eM N s).filter λo=>!decide (n=o)
theorem Cz(N:LS)(a b:Str)(kd:P)(c:Int)(x s:Bool)(l r:D)(o:Nat)(q n:Option D)(S:U):bR (av 7) (kJ (j9 (aj 7) A6) (bt (O (ae dU mE)) (O (ae fZ dj)))) mE (Ev.intsFrom 0 N.length)
  [some l,ql (N.map .str),some r,qt [.str a,.str b,kd,.int c,.bl x,.bl s],qi (o:Int),q,n,none] S=some (cH (oth N b o),S):=by
 rw[di (p:=λv=>match v with | .int i=>(!decide (o=i.toNat)) && decide (N[i.toNat]? = some b)|_=>false) (f:=id) (Inv:=λL=>∃d,L=[some l,ql (N.map .str),some r,qt [.str a,.str b,kd,.int c,.bl x,.bl s],qi (o:Int),q,n,d]) (λv u L t=>?_) ⟨none,rfl⟩]
 .congr 2;unfold Ev.intsFrom cH oth eM;rw[ue,t_,List.filter_filter];simp only[cO];congr 1
 .obtain⟨d,rfl⟩:=t;obtain⟨i,rfl,w⟩:=gF u;simp only[cO];have g:N[i]? = some N[i]:=bo w;have e:L2.atI (N.map P.str) (i:Int)=some (.str N[i]):=bS (by rw[b9,g];rfl);refine⟨[some l,ql (N.map .str),some r,qt [.str a,.str b,kd,.int c,.bl x,.bl s],qi (o:Int),q,n,qi (i:Int)],rfl,⟨_,rfl⟩,?_,λ_=>by simp⟩;by_cases h:o=i
  .simp [h]
  .have k:¬(i:Int)=(o:Int):=by lia
   have m:¬i=o:=λz=>h z.symm;simp[h,k,m,e,g];first|done|exact decide_eq_decide.mpr Iff.rfl
theorem HV(road:P)(n:Nat)(L:Lc)(l:L.length=8)(g:L[3]? = some (qp road))(x:L[4]? = some (qi (n:Int)))(os:List Nat)(S:U):bR (av 7) iz (aK (v3 fZ km mE)) (cH os) L S=some (os.map λo=>pr road n o,S):=by
 rw[di (p:=λ_=>true) (f:=λv=>.tup [road,.int (n:Int),v]) (Inv:=λh=>∃d,h=L.set 7 d) (λv b h a=>?_) ⟨L[7],(gp (by lia)).symm⟩]
 .rw [iQ];unfold cH pr;rw[jL];rfl
 .obtain⟨d,rfl⟩:=a;have k:((L.set 7 d).set 7 (qp v))[7]? = some (qp v):=by rw[bv (by simp[l])]
  have e:((L.set 7 d).set 7 (qp v))[3]? = some (qp road):=by rw[aP (by decide),aP (by decide)];exact g
  have s:((L.set 7 d).set 7 (qp v))[4]? = some (qi (n:Int)):=by rw[aP (by decide),aP (by decide)];exact x
  exact⟨_,rfl,⟨_,cE ..⟩,rfl,λ_=>by simp[-cE,k,e,s]⟩
def ol(N:LS)(road:P)(n:Nat):List P:=if decide (N[n]? = some (rA road))=true then (oth N (rB road) n).map λo=>pr road n o else []
theorem CC(N:LS)(road:P)(o:Nat)(h:N.length≤16):(ol N road o).length≤16:=by
 unfold ol;split
 .have x:=Bf o road (eM N (rB road));have a:=h_ N (rB road);unfold oth;lia
 .simp
theorem QP(E M:Str->GF)(S:U)(l:D)(N:LS)(y:N.length≤16)(v:isRoad road):∀(r:List Nat)(x:List P)(d w k:Option D),(∀i ∈ r,i < N.length)->x.length+16 * r.length≤50000 ->
  ∃q s n,bZ (bD [av 4,av 5]) (fg E) (r.map λ(i:Nat)=>P.tup [.int (i:Int),((N.map P.str)[i]?).getD .non]) [some l,ql (N.map .str),qr S.length,qp road,d,w,k] (S++[.lst (x.map .p)]) =
   some (.nx,[some l,ql (N.map .str),qr S.length,qp road,q,s,n],S++[.lst ((x++r.flatMap (ol N road)).map .p)])
 | [],x,d,w,k,_,_=>⟨d,w,k,by simp[bZ]⟩
 |i::r,x,d,w,k,F,T=>by
  simp only[aV]at T;have t:=CC N road i y;have K:=F i aH;have z:N[i]? = some N[i]:=bo K;have H:((N.map P.str)[i]?).getD .non=.str N[i]:=by rw[b9,z];rfl
  rw[g7,<- fK,az,H];by_cases h:N[i]=rA road
  .have g:ol N road i=(oth N (rB road) i).map λo=>pr road i o:=by unfold ol;rw[z,h];simp
   rw[g]at t ⊢;obtain⟨q,s,n,e⟩:=QP E M S l N y v r (x++(oth N (rB road) i).map λo=>pr road i o) (qi (i:Int)) (qs (N[i])) (ql (cH (oth N (rB road) i))) (λj A=>F j (aG _ A)) (by rw[aZ];lia);refine⟨q,s,n,?_⟩;refine(cm (h:=[some l,ql (N.map .str),qr S.length,qp road,qi (i:Int),qs (N[i]),k]) rfl ?_).trans e;have p:x.length+(oth N (rB road) i).length≤1000000:=by rw[aX]at t;lia
   have f:(oth N (rB road) i).length≤1000000:=by lia
   have m:(cH (oth N (rB road) i)).length=(oth N (rB road) i).length:=by simp[cH]
   have V:N.length < 1000000:=by lia
   have C:N.length≤1000000:=by lia
   have u:=HV road i [some l,ql (N.map .str),qr S.length,qp road,qi (i:Int),qs (N[i]),ql (cH (oth N (rB road) i)),none] rfl rfl rfl (oth N (rB road) i) (S++[.lst (x.map .p)]);obtain⟨a,b,kd,c,G,I,Q,R,B,_,_,rfl⟩:=v;have L:=Cz N a b (.str kd) c G I l (.ref S.length) i (qs (N[i])) k (S++[.lst (x.map .p)]);simp only[rA,rB]at h p f m u ⊢;simp[fg,h,cx,dO,fP,V,C,cL,nw,dw,m,f,p];simp[h]at L u;simp[L,u,m,f,p]
  .have g:ol N road i=[]:=by unfold ol;rw[z];simp[h]
   rw[g,cP];obtain⟨q,s,n,e⟩:=QP E M S l N y v r x (qi (i:Int)) (qs (N[i])) k (λj A=>F j (aG _ A)) (by lia);refine⟨q,s,n,?_⟩;refine(cm (h:=[some l,ql (N.map .str),qr S.length,qp road,qi (i:Int),qs (N[i]),k]) rfl ?_).trans e;obtain⟨a,b,kd,c,G,I,Q,R,B,_,_,rfl⟩:=v;simp only[rA]at h;simp[fg,h]
end
section
variable{m:List P}
theorem kD(p:e->Bool)(f:e->List s):∀xs:List e,(xs.filter p).flatMap f=xs.flatMap λx=>if p x=true then f x else []
 | []=>rfl
 |x::r=>by
  by_cases h:p x=true
  .rw [um h,g7,g7,kD p f r,ac h]
  .rw [ul h,g7,kD p f r,af h,eR]
theorem K2(N:LS)(road:P):(List.range N.length).flatMap (ol N road)=x5 N road:=by unfold x5;rw[show eM N (rA road)=(List.range N.length).filter (λi=>decide (N[i]? = some (rA road))) from rfl,kD];rfl
theorem nM(N:LS)(road:P)(h:N.length≤16):(x5 N road).length≤256:=by
 have x:=h_ N (rA road);have a:=h_ N (rB road);have:=Bq N road (eM N (rB road)) (by lia) (eM N (rA road))
 unfold x5;lia
theorem RR(u l:Str->GF)(S:U)(p:D)(N:LS)(d:N.length≤16):∀(o:List P)(a:List P)(t q e n:Option D),(∀r ∈ o,isRoad r)->a.length+256 * o.length≤10000 ->
  ∃w x s k,bZ (av 3) (kc u) o [some p,ql (N.map .str),qr S.length,t,q,e,n] (S++[.lst (a.map .p)]) =
   some (.nx,[some p,ql (N.map .str),qr S.length,w,x,s,k],S++[.lst ((a++bJ N o).map .p)])
 | [],a,t,q,e,n,_,_=>⟨t,q,e,n,by simp[bZ,bJ]⟩
 |road::o,a,t,q,e,n,j,H=>by simp only[aV]at H;obtain⟨x,s,k,v⟩:=QP u l S p N d (j road aH) (List.range N.length) a q e n (λi z=>by simpa using z) (by simp;lia);have F:=nM N road d;obtain⟨f,b,c,m,y⟩:=RR u l S p N d o (a++x5 N road) (qp road) x s k (λr h=>j r (aG _ h)) (by rw[aZ];lia);refine⟨f,b,c,m,?_⟩;rw[show bJ N (road::o)=x5 N road++bJ N o by simp[bJ],<- fK];refine(cm (h:=[some p,ql (N.map .str),qr S.length,qp road,q,e,n]) rfl ?_).trans y;rw[K2]at v;have g:=OC (N.map P.str);rw[aX]at g;rw[<- g]at v;show cf _ _ _ _ _=_;simp only[cf];rw[show lH dU [some p,ql (N.map .str),qr S.length,qp road,q,e,n] (S++[.lst (a.map .p)])=some (cq 0 (N.map P.str),S++[.lst (a.map .p)]) by simp];exact v
theorem Jr(h:Pln z s y)(S:U):Ph (n+3) "pairs_of" [.p (.tup [.lst z,.lst s,.lst y])] S=some (.ref S.length,S++[.lst ((bJ (aY z) s).map .p)]):=by
 have:=h.rl;have x:=BR (n:=n) h.hf h.f0.2 (.lst s) (.lst y);have a:=EA h.hf (.lst s) (.lst y) S;obtain⟨q,k,f,b,e⟩:=RR (Ph (n+2)) (Ph (n+1)) S (.p (.tup [.lst z,.lst s,.lst y])) (aY z) (au (nW h) (by decide)) s [] none none none none h.hr (by simp;lia);have l:(homes z).length≤1000000:=by rw[nV];have:=jj h;lia
 rw[vd];simp only[eR,dY]at e;simp[mV,nj,x,cx,l,nw,a,e]
theorem HX(h:Pln y s e):cI (Ph (n+3) "pairs_of") [.tup [.lst y,.lst s,.lst e]]=some (.lst (bJ (aY y) s)):=by unfold cI;rw[az,dY,Jr (n:=n) h []];simp
def qU(v:P):P:=gE v 3
def iq(f:P):P:=.tup [.int 0,.tup ((rL (gE f 3)).map qU),.tup (List.replicate (rL (gE f 4)).length (.int (-1)))]
theorem IM(n:∀c ∈ a,isCel c)(L:Lc)(j:Nat)(e:j < L.length)(S:U):bR (av j) iz (ae (vv j) hU) a L S=some (a.map qU,S):=by
 rw[di (p:=λ_=>true) (f:=qU) (Inv:=λh=>∃d,h=L.set j d) (λv k h s=>?_) ⟨L[j],(gp e).symm⟩]
 .rw [iQ]
 .obtain⟨d,rfl⟩:=s;obtain⟨x,lo,i,t,b,_,_,_,_,rfl⟩:=n v k;have g:((L.set j d).set j (qt [.str x,.int lo,.int i,.int t]))[j]? = some (qt [.str x,.int lo,.int i,.int t]):=by
   rw[bv (by simpa using e)]
  exact⟨_,rfl,⟨_,cE ..⟩,rfl,λ_=>by simp[-cE,g,qU]⟩
theorem MS(a b c d e f:P):L2.atI [a,b,c,d,e,f] 3=some d:=bE (by decide) rfl
theorem Rr(a b c d e f:P):L2.atI [a,b,c,d,e,f] 4=some e:=bE (by decide) rfl
theorem B5(A I:Str->GF)(S:∀f ∈ s,isFam m f)(o i:P):∀(n:List (Nat×P))(h:List P)(g d u:Option D),(∀x ∈ n,s[x.1]? = some x.2)->h.length+n.length≤1000 ->
  ∃q b v,bZ (av 2) (j7 A) (n.map λx=>P.int (x.1:Int)) [qt [.lst s,o,i],qr 0,g,d,u] [.lst (h.map .p)] =
   some (.nx,[qt [.lst s,o,i],qr 0,q,b,v],[.lst ((h++n.map λx=>iq x.2).map .p)])
 | [],h,g,d,u,_,_=>⟨g,d,u,by simp[bZ]⟩
 |x::n,h,g,d,u,K,E=>by
  simp only[aV]at E;obtain⟨p,f⟩:=x;have F:s[p]? = some f:=K (p,f) aH;obtain⟨H,c,r,a,w,t,k,rfl⟩:=S f (a8 F);have C:=bS F;obtain⟨q,b,v,e⟩:=B5 A I S o i n (h++[iq (.tup [.str H,.int (c:Int),.lst r,.lst a,.lst w,.lst t])]) (qi (p:Int)) (ql a) (ql w) (λy G=>K y (aG _ G)) (by simp;lia);refine⟨q,b,v,?_⟩;rw[az,az,show h++iq (.tup [.str H,.int (c:Int),.lst r,.lst a,.lst w,.lst t])::n.map (λx=>iq x.2)=h++[iq (.tup [.str H,.int (c:Int),.lst r,.lst a,.lst w,.lst t])]++n.map (λx=>iq x.2) by simp];refine(cm (h:=[qt [.lst s,o,i],qr 0,qi (p:Int),d,u]) rfl ?_).trans e;have B:=IM k.hce.1 [qt [.lst s,o,i],qr 0,qi (p:Int),ql a,ql w,none] 5 (by simp) [.lst (h.map .p)];have j:a.length≤1000000:=by have:=k.cl;lia
  have z:w.length≤1000000/\w.length < 1000000:=by have:=k.wl;lia
  have l:h.length≤1000000:=by lia
  rw[<- dM];simp[j7,C,MS,Rr,cx,j,nw,B,eY,dO,fP,z,dw,l,iq]
theorem Go(h:Pln s y z):cI (Ph (n+4) "begin") [.tup [.lst s,.lst y,.lst z]]=some (.tup [.tup ((bq s).map iq),.tup (List.replicate (bJ (aY s) y).length (.tup []))]):=by
 have b:=BR (n:=n+1) h.hf h.f0.2 (.lst y) (.lst z);have a:=HX (n:=n) h;have t:=FI 0 h.hf;have l:=h.f0.2;obtain⟨u,g,o,e⟩:=B5 (Ph (n+3)) (Ph (n+2)) h.hf (.lst y) (.lst z) (hw 0 s) [] none none none (λx v=>by obtain⟨j,a,c⟩:=nU v;rw[a,fG];exact c) (by simp;lia);have q:(bJ (aY s) y).length≤2048:=by
  have N:(aY s).length≤16:=au (nW h) (by decide);have f:∀m:List P,(bJ (aY s) m).length≤256 * m.length:=by
   intro m;induction m with
   |nil=>simp[bJ]
   |cons r m w=>have:=nM (aY s) r N;rw[show bJ (aY s) (r::m)=x5 (aY s) r++bJ (aY s) m by simp[bJ],aZ,aV];lia
  have:=f y;have:=h.rl
  lia
 have p:(bJ (aY s) y).length≤1000000:=by lia
 have k:(bJ (aY s) y).length < 1000000:=by lia
 rw[CY,aS];simp only[eR,dY]at e;rw[show(hw 0 s).map (λx=>P.int (x.1:Int))=homes s from rfl,show(hw 0 s).map (λx=>iq x.2)=(bq s).map iq by simp[bq]]at e;have i:∀vs:List P,toP 9 (.ref 0) [.lst (vs.map .p)]=some (.lst vs,[.fz (.lst vs)]):=D7;generalize (bq s).map iq=d at e ⊢;simp[s_,b,a,e,eY,dO,fP,p,k]
end
def kK(S:U)(j:Nat)(xs:List P):Prop:=S[j]? = some (.lst (xs.map .p))\/S[j]? = some (.fz (.lst xs))
variable{xs:List P}{c:List P}
theorem Fd(h:xs.map D.p=c.map D.p):xs=c:=(Ad (f:=D.p) λ_ _ h=>D.p.inj h).mp h
variable{S:U}{j:Nat}
theorem kK.lt(h:kK S j xs):j < S.length:=by rcases h with h|h<;>exact(bw.mp h).1
theorem kK.frz(h:kK S j xs):toP 9 (.ref j) S=some (.lst xs,S.set j (.fz (.lst xs))):=by
 rcases h with h|h
 .exact gu h
 .have:S.set j (.fz (.lst xs))=S:=by
   obtain⟨a,x⟩:=bw.mp h;rw[<- x,gp]
  rw[this];simp[toP,h]
variable{L:Lc}
theorem kK.ix(h:kK S j xs){i:Int}(r:s L S=some (.ref j,S))(hk:k L S=some (.int i,S))(e:L2.atI xs i=some y):lu s k L S=some (.p y,S):=by
 rw[lu,r,ak,hk,ak];rcases h with h|h
 .simp only[h];rw[pN,e];rfl
 .simp only[h];show(L2.atI xs i).map _=_;rw[e];rfl
theorem kK.len(h:kK S j xs):dO (.ref j) S=some xs.length:=by rcases h with h|h<;>simp[dO,h,fP]
structure Fr(b:Nat)(S S':U):Prop where
 len:S.length≤S'.length
 low:∀k o,k < b->S[k]? = some o->S'[k]? = some o\/∃xs,o=.lst (xs.map .p)/\S'[k]? = some (.fz (.lst xs))
 hi:∀k o,b≤k->S[k]? = some o->S'[k]? = some o
theorem Fr.refl(b:Nat)(S:U):Fr b S S:=⟨ah _,λ_ _ _ h=>.inl h,λ_ _ _ h=>h⟩
variable{b:Nat}{x:U}
theorem Fr.trans(h:Fr b S x)(g:Fr b x s):Fr b S s:=by
 refine⟨au h.len g.len,λk o hk e=>?_,λk o hk e=>g.hi k o hk (h.hi k o hk e)⟩;rcases h.low k o hk e with a|⟨xs,rfl,a⟩
 .exact g.low k o hk a
 .rcases g.low k _ hk a with a|⟨c,q,_⟩
  .exact .inr ⟨xs,rfl,a⟩
  .cases q
theorem Fr.app(b:Nat)(S T:U):Fr b S (S++T):=by
 have y:∀k o,S[k]? = some o->(S++T)[k]? = some o:=λk o e=>by rw[bL (bB e)];exact e
 exact⟨by simp,λk o _ e=>.inl (y k o e),λk o _ e=>y k o e⟩
variable{k:Nat}
theorem Fr.set(h:Fr b S x)(s:b≤S.length)(hk:S.length≤k)(o:SO):Fr b S (x.set k o):=by
 refine⟨by rw[db];exact h.len,λj u a e=>?_,λj u a e=>?_⟩
 .rw [aP (by lia)];exact h.low j u a e
 .have:=bB e;rw[aP (by lia)];exact h.hi j u a e
theorem Fr.frz(x:j < b)(h:kK S j xs):Fr b S (S.set j (.fz (.lst xs))):=by
 refine⟨by simp,λk o hk e=>?_,λk o hk e=>?_⟩
 .by_cases q:j=k
  .subst q;rw[bv h.lt];rcases h with h|h<;>(rw[h]at e;cases e)
   .exact .inr ⟨xs,rfl,rfl⟩
   .exact .inl rfl
  .rw [aP q];exact .inl e
 .rw [aP (by lia)];exact e
theorem Fr.trunc(h:Fr b S x):Fr b S (trunc S.length x):=by
 unfold Ev.trunc;split
 .refine⟨by rw[g6];have:=h.len;lia,λk o hk e=>?_,λk o hk e=>?_⟩
  .rw [g9 (bB e)];exact h.low k o hk e
  .rw [g9 (bB e)];exact h.hi k o hk e
 .exact h
theorem kK.fr(h:Fr b S x)(g:kK S j xs):kK x j xs:=by
 by_cases a:j < b
 .rcases g with g|g
  .rcases h.low j _ a g with e|⟨c,q,e⟩
   .exact .inl e
   .have:xs=c:=Fd (SO.lst.inj q);subst this;exact .inr e
  .rcases h.low j _ a g with e|⟨c,q,e⟩
   .exact .inr e
   .cases q
 .rcases g with g|g
  .exact .inl (h.hi j _ (by lia) g)
  .exact .inr (h.hi j _ (by lia) g)
def rK(S x:U)(d:D)(c:List P):Prop:=d=.p (.lst c)\/∃k,S.length≤k/\d=.ref k/\kK x k c
variable{d:D}
theorem rK.toP(h:rK S x d c)(f:Fr b S x)(e:b≤S.length):∃a,toP 9 d x=some (.lst c,a)/\Fr b S a:=by
 rcases h with rfl|⟨k,hk,rfl,h⟩
 .exact⟨x,by simp,f⟩
 .exact⟨_,h.frz,f.set e hk _⟩
variable{g:GF}{q:sf}{l:List D}
theorem sU(s:q L S=some (l,S))(k:g l S=some (d,x))(r:Fr b S x)(n:b≤S.length)(h:rK S x d c):∃a,fx g q L S=some (.lst c,a)/\Fr b S a:=by obtain⟨m,e,f⟩:=h.toP r n;exact⟨_,by rw[fx,s,ak,k,ak,e,ak],f.trunc⟩
theorem Gf(a:q L S=some (l,S))(s:g l S=some (.p e,x))(f:Fr b S x):∃h,fx g q L S=some (e,h)/\Fr b S h:=
 ⟨_,by rw[fx,a,ak,s,ak];rfl,f.trunc⟩
structure BD where
 fams:List P
 roads:List P
 wishes:List P
 ks:List (List b0)
 vs:List D
abbrev BP(B:BD):Prop:=Pln B.fams B.roads B.wishes
def BD.N(B:BD):LS:=aY B.fams
def BD.PR(B:BD):List P:=bJ B.N B.roads
def fields:LS:=["families","homes","pairs","places","members"]
structure Bat(B:BD)(b i jh jp jl jm:Nat)(mk:List b0)(mv:List D)(S:U):Prop where
 ins:S[i]? = some (.ins "Board" fields [.p (.lst B.fams),.ref jh,.ref jp,.ref jl,.ref jm])
 ho:kK S jh (homes B.fams)
 pr:kK S jp B.PR
 pl:S[jl]? = some (.dtt B.ks B.vs)
 me:S[jm]? = some (.dct mk mv)
 mm:∀s ∈ B.N,∃j,j < b/\bW (.inr s) mk mv=qr j/\kK S j (cH (eM B.N s))
 bi:i < b
 bh:jh < b
 bp:jp < b
 bl:jl < b
 bm:jm < b
 bs:b≤S.length
inductive Bd(B:BD)(b i:Nat)(S:U):Prop
 |mk (jh jp jl jm:Nat) (mk:List b0) (mv:List D):Bat B b i jh jp jl jm mk mv S->Bd B b i S
theorem Bat.fr{B:BD}{b i p v r t:Nat}{w:List b0}{u:List D}{S x:U}(h:Bat B b i p v r t w u S)(f:Fr b S x):Bat B b i p v r t w u x where
 ins:=by rcases f.low i _ h.bi h.ins with e|⟨_,q,_⟩;exact e;cases q
 ho:=h.ho.fr f
 pr:=h.pr.fr f
 pl:=by rcases f.low r _ h.bl h.pl with e|⟨_,q,_⟩;exact e;cases q
 me:=by rcases f.low t _ h.bm h.me with e|⟨_,q,_⟩;exact e;cases q
 mm:=λs c=>by obtain⟨j,a,n,k⟩:=h.mm s c;exact⟨j,a,n,k.fr f⟩
 bi:=h.bi
 bh:=h.bh
 bp:=h.bp
 bl:=h.bl
 bm:=h.bm
 bs:=au h.bs f.len
theorem Bd.fr{B:BD}{b i:Nat}{S x:U}(h:Bd B b i S)(f:Fr b S x):Bd B b i x:=by obtain⟨p,v,r,t,w,u,h⟩:=h;exact⟨p,v,r,t,w,u,h.fr f⟩
theorem Bd.le{B:BD}{b i:Nat}{S:U}(h:Bd B b i S):b≤S.length:=by obtain⟨p,v,r,t,w,u,h⟩:=h;exact h.bs
section
variable{B:BD}{b i p v r t:Nat}{w:List b0}{u:List D}{S:U}{L:Lc}{o:EE}
theorem Bat.fld(h:Bat B b i p v r t w u S)(ho:o L S=some (.ref i,S))(a:aT Att "Board" e=true)(f:iO e fields [.p (.lst B.fams),.ref p,.ref v,.ref r,.ref t]=some d):dR (aT Att) o e L S=some (d,S):=by rw[dR,ho,ak];simp only[h.ins];rw[ac a,f];rfl
end
theorem lh:aT Att "Board" "families"=true/\aT Att "Board" "homes"=true/\aT Att "Board" "pairs"=true/\aT Att "Board" "places"=true/\aT Att "Board" "members"=true:=by decide +kernel
theorem Iv{a b c d e:D}:iO "families" fields [a,b,c,d,e]=some a/\iO "homes" fields [a,b,c,d,e]=some b/\iO "pairs" fields [a,b,c,d,e]=some c/\iO "places" fields [a,b,c,d,e]=some d/\iO "members" fields [a,b,c,d,e]=some e:=by simp[fields,iO]
section
variable{B:BD}{b i p v r t:Nat}{w:List b0}{u:List D}{S:U}(h:Bat B b i p v r t w u S){L:Lc}{o:EE}(ho:o L S=some (.ref i,S))
include h ho
theorem Bat.families:dR (aT Att) o "families" L S=some (.p (.lst B.fams),S):=h.fld ho lh.1 Iv.1
theorem Bat.homes:dR (aT Att) o "homes" L S=some (.ref p,S):=h.fld ho lh.2.1 Iv.2.1
theorem Bat.pairs:dR (aT Att) o "pairs" L S=some (.ref v,S):=h.fld ho lh.2.2.1 Iv.2.2.1
theorem Bat.places:dR (aT Att) o "places" L S=some (.ref r,S):=h.fld ho lh.2.2.2.1 Iv.2.2.2.1
theorem Bat.members:dR (aT Att) o "members" L S=some (.ref t,S):=h.fld ho lh.2.2.2.2 Iv.2.2.2.2
theorem Bat.meth(m:M "Board" e=some g)(n:fields.contains e=false)(a:q L S=some (l,S)):dQ M o e q L S=g (.ref i::l) S:=by rw[dQ,ho,ak];simp only[h.ins,m,n,a,ak];rfl
end
theorem jt(h:xs.length+c.length≤1000000):m9 (.tup xs) (.tup c)=some (.tup (xs++c)):=by
 cases xs with
 |nil=>rfl
 |cons x r=>show(if (!(x::r).isEmpty && iu ((x::r).length+c.length))=true then some (P.tup ((x::r)++c)) else none)=_;rw[ac (by rw[ar,m_];exact⟨rfl,h⟩)]
theorem F9(k:Nat):cut xs none (some (k:Int))=xs.take k:=by
 unfold cut;rw[HT.qB,HT.Bj,mf,tW];by_cases h:k≤xs.length
 .rw [zK h]
 .rw [zM (by lia),mj,Al (by lia)]
theorem wU(k:Nat):cut xs (some (k:Int)) none=xs.drop k:=by
 unfold cut;rw[HT.qB,HT.Bj];by_cases h:k≤xs.length
 .rw [zK h,Al (by simp)]
 .rw [zM (by lia),pj,List.drop_of_length_le (by lia)];simp
theorem sP(k:Nat):cut xs (some ((k:Int)+1)) none=xs.drop (k+1):=wU (k+1)
variable{n:Nat}
theorem qD(hk:k < xs.length)(l:xs.length≤900000)(v:P):cI (Ph (n+2) "replaced") [.tup xs,.int (k:Int),v]=some (.tup (xs.set k v)):=by have e:=jt (xs:=xs.take k) (c:=[v]) (by simp;lia);have h:=jt (xs:=xs.take k++[v]) (c:=xs.drop (k+1)) (by simp;lia);rw[vc,aS];simp[ni,F9,sP,e,-fK];rw[h];simp[List.set_eq_take_append_cons_drop,hk]
theorem Jm(h:xs.length≤900000):cI (Ph (n+2) "without") [.tup xs,.int (k:Int)]=some (.tup (xs.eraseIdx k)):=by have e:=jt (xs:=xs.take k) (c:=xs.drop (k+1)) (by simp;lia);rw[wQ,aS];simp[oG,F9,sP,e,List.eraseIdx_eq_take_drop_succ]
def FA(l:P):Prop:=∃m i,aW m=true/\i.natAbs≤999/\l=.tup [.str m,.int i]
theorem FA.ok(h:FA e):cA 1 e=true:=by obtain⟨m,i,x,_,rfl⟩:=h;simp[x]
def vI(A:P->Prop)(s:List P):Prop:=s.length≤1/\∀l ∈ s,FA l/\A l
noncomputable def Oz(w:Str)(xs:List P)(k:Nat):List P:=if w="lose" then xs.eraseIdx k else xs.take (k+1)++xs.drop k
theorem OA{n:Nat}{w:Str}(hw:w="lose"\/w="double"){A:P->Prop}{xs:List P}{k:Nat}(x:vI A xs)(a:w="double"->xs.length≤0)(hk:k < xs.length):vI A (Oz w xs k)/\cI (Ph (n+3) "flawed") [.str w,.tup xs,.int (k:Int)]=some (.tup (Oz w xs k)):=by
 have:=x.1;unfold Oz;rcases hw with rfl|rfl
 .refine⟨⟨au (Am ..) this,λl h=>x.2 l (An h)⟩,?_⟩;have e:=Jm (n:=n) (xs:=xs) (k:=k) (by lia);rw[yy,aS];simp[rD,e]
 .have s:=a rfl;lia
noncomputable def IJ(w:Str)(r:P)(xs:List P):Bool:=match r with
 | .tup [_,_,_,.int c,.bl d,.bl h]=>if w="lose" then d else h && decide ((xs.length:Int) < c)
 |_=>false
theorem Op{n:Nat}{w:Str}(hw:w="lose"\/w="double"){r:P}(p:isRoad r)(xs:List P):(w="double"->IJ w r xs=true->xs.length≤0)/\cI (Ph (n+2) "has_flaw") [r,.str w,.tup xs]=some (.bl (IJ w r xs)):=by
 obtain⟨a,b,kd,c,x,d,q,v,t,f,m,rfl⟩:=p;have e:L2.atI [P.str a,.str b,.str kd,.int c,.bl x,.bl d] 3=some (.int c):=bE (by decide) rfl;have s:L2.atI [P.str a,.str b,.str kd,.int c,.bl x,.bl d] 4=some (.bl x):=bE (by decide) rfl;have k:L2.atI [P.str a,.str b,.str kd,.int c,.bl x,.bl d] 5=some (.bl d):=bE (by decide) rfl;unfold IJ;rcases hw with rfl|rfl
 .refine⟨λh=>?_,?_⟩
  .have:¬("lose":Str)="double":=by decide +kernel
   exact absurd h this
  .rw [mY,aS];simp[j6,s]
 .dsimp only;rw[af (by decide +kernel)];refine⟨λ_ h=>?_,?_⟩
  .have:=(ar _ _ ▸ h).2;have:=aJ this
   lia
  .rw [mY,aS];cases d<;>simp[j6,e,k,dO,fP]
theorem qP(h:∀y ∈ xs,cA 19 y=true)(x:s ∈ xs):∃i:Nat,i < xs.length/\lI xs s=some i:=by
 unfold lI;have a:(xs.all (cA 19) && cA 19 s)=true:=by rw[ar];exact⟨a_.mpr h,h s x⟩
 rw[ac a];have m:pd s ∈ jf xs:=by
  clear a h;induction xs with
  |nil=>cases x
  |cons y r n=>
   rcases aN.mp x with rfl|x
   .exact aH
   .exact aG _ (n x)
 have e:eA (pd s) (pd s)=true:=zW _ (fN 20 s (cJ (h s x) (by lia))).1;cases q:(jf xs).findIdx? λz=>eA z (pd s) with
 |none=>have:=List.findIdx?_eq_none_iff.mp q (pd s) m;rw[e]at this;cases this
 |some i=>
  refine⟨i,?_,rfl⟩;have:=(Ar.mp q).1
  rwa [uS]at this
def Og(n:Nat)(y:P):Prop:=∃i:Nat,i < n/\y=.int (i:Int)
theorem JA(n:Nat):intsFrom 0 n=cH (List.range n):=by unfold Ev.intsFrom cH;simp only[cO]
def Cf(k:Str)(xs:List P):List Nat:=(List.range xs.length).filter λi=>decide (k="row") ||decide (lI xs (xs[i]?.getD .non)=some i)
theorem Jn(k:Str)(m:vI A xs):cI (Ph (n+2) "unlike_spots") [.str k,.tup xs]=some (.lst (cH (Cf k xs))):=by
 have l:=m.1;have c:xs.length < 1000000:=by lia
 have s:xs.length≤1000000:=by lia
 by_cases hk:k="row"
 .have e:Cf k xs=List.range xs.length:=by unfold Cf;rw[pA.mpr λ_ _=>by simp[hk]]
  rw[e,<- JA,jq,aS];simp[gb,hk,dO,fP,c]
 .have e:bR (av 3) (bt (O (xK dU (ae dU fZ))) Ca) fZ (intsFrom 0 xs.length) [qs k,qt xs,ql (intsFrom 0 xs.length),none] []=some (cH (Cf k xs),[]):=by
   rw[di (p:=λv=>match v with | .int z=>decide (lI xs (xs[z.toNat]?.getD .non)=some z.toNat)|_=>false) (f:=id) (Inv:=λL=>∃d,L=[qs k,qt xs,ql (intsFrom 0 xs.length),d]) (λv t L r=>?_) ⟨none,rfl⟩,t_]
   .rw [JA];unfold cH Cf;rw[ue];congr 3;refine List.filter_congr λi _=>?_;simp[hk]
   obtain⟨d,rfl⟩:=r;obtain⟨i,rfl,a⟩:=gF t;simp only[cO];have g:xs[i]? = some xs[i]:=bo a;have b:=bS g;obtain⟨j,o,h⟩:=qP (xs:=xs) (s:=xs[i]) (λy w=>cJ (m.2 y w).1.ok (by lia)) (g0 _);refine⟨[qs k,qt xs,ql (intsFrom 0 xs.length),qi (i:Int)],rfl,⟨_,rfl⟩,?_,λ_=>by simp⟩;by_cases q:j=i
   .rw [q]at h;simp[b,h,g]
   .have u:¬(j:Int)=(i:Int):=by lia
    simp[b,h,g,q,u]
  rw[jq,aS];simp[gb,hk,dO,fP,c,s,cx,cL,nw,e]
def kL(N:List P)(ks:List b0)(vs:List P):Prop:=∀x:Str,P.str x ∈ N->∃i:Int,i.natAbs≤999/\bW (.inr x) ks vs=some (.int i)
section
variable{N:List P}{ks:List b0}{vs:List P}
theorem gR(k:Int):cI (Ph (n+2) "value_of") [nP k,.dct ks vs]=some (.int k):=by rw[fQ,aS];simp[d6]
theorem iK{i:Int}(h:bW (.inr e) ks vs=some (.int i)):cI (Ph (n+2) "value_of") [oK (.str e),.dct ks vs]=some (.int i):=by rw[fQ,aS];simp[d6,h]
theorem xJ{n:Nat}{a b:P}{i j:Int}(h:cI (Ph (n+2) "value_of") [a,.dct ks vs]=some (.int i))(x:cI (Ph (n+2) "value_of") [b,.dct ks vs]=some (.int j)):cI (Ph (n+3) "value_of") [.tup [.str "plus",a,b],.dct ks vs]=some (.int (i+j)):=by rw[fQ,aS];simp[d6,h,x]
theorem kY{n:Nat}{a b:P}{i j:Int}(h:cI (Ph (n+2) "value_of") [a,.dct ks vs]=some (.int i))(x:cI (Ph (n+2) "value_of") [b,.dct ks vs]=some (.int j)):cI (Ph (n+3) "value_of") [.tup [.str "minus",a,b],.dct ks vs]=some (.int (i-j)):=by rw[fQ,aS];simp[d6,h,x]
theorem uD{n:Nat}{a b:P}{i j:Int}(m:f8 i j=true)(h:cI (Ph (n+2) "value_of") [a,.dct ks vs]=some (.int i))(x:cI (Ph (n+2) "value_of") [b,.dct ks vs]=some (.int j)):cI (Ph (n+3) "value_of") [.tup [.str "times",a,b],.dct ks vs]=some (.int (i * j)):=by rw[fQ,aS];simp[d6,h,x,m]
theorem qc(s:∀x ∈ N,j' x)(f:kL N ks vs){t:P}(h:oy N t){n:Nat}:∃r:Int,cI (Ph (n+4) "value_of") [t,.dct ks vs]=some (.int r):=by
 rcases h with ⟨k,rfl⟩|⟨y,a,h⟩
 .exact⟨k,gR k⟩
 obtain⟨x,_,rfl⟩:=s y a;obtain⟨i,m,e⟩:=f x a;rcases h with rfl|⟨k,rfl⟩|⟨k,j,b,c,rfl⟩|rfl
 .exact⟨i,iK e⟩
 .exact⟨_,xJ (iK e) (gR k)⟩
 .exact⟨_,kY (uD (bK (i:=i) (j:=k) (by lia) (by lia)) (iK e) (gR k)) (gR j)⟩
 .exact⟨_,kY (gR 1) (iK e)⟩
theorem Cc{K:List b0}{V:List P}(f:∀x ∈ N,j' x)(c:kL N ks vs)(b:∀x:Str,P.str x ∈ N->bW (.inr x) K V=bW (.inr x) ks vs){t:P}(h:oy N t):∃r:Int,(∀n,cI (Ph (n+4) "value_of") [t,.dct ks vs]=some (.int r))/\∀n,cI (Ph (n+4) "value_of") [t,.dct K V]=some (.int r):=by
 rcases h with ⟨k,rfl⟩|⟨y,s,h⟩
 .exact⟨k,λn=>gR k,λn=>gR k⟩
 obtain⟨x,_,rfl⟩:=f y s;obtain⟨i,v,a⟩:=c x s;have e:=(b x s).trans a;rcases h with rfl|⟨k,rfl⟩|⟨k,j,p,q,rfl⟩|rfl
 .exact⟨i,λn=>iK a,λn=>iK e⟩
 .exact⟨_,λn=>xJ (iK a) (gR k),λn=>xJ (iK e) (gR k)⟩
 .have m:=bK (i:=i) (j:=k) (by lia) (by lia);exact⟨_,λn=>kY (uD m (iK a) (gR k)) (gR j),λn=>kY (uD m (iK e) (gR k)) (gR j)⟩
 .exact⟨_,λn=>kY (gR 1) (iK a),λn=>kY (gR 1) (iK e)⟩
theorem OS(w:Str)(i j:Int):∃b,∀h,cI (mV 3 3 (cU h)) [.str w,.int i,.int j]=some (.bl b):=by
 by_cases x:w="="
 .exact⟨decide (i=j),λh=>by rw[aS];simp[cU,x]⟩
 by_cases a:w="!="
 .exact⟨!decide (i=j),λh=>by rw[aS];simp[cU,x,eq_true a]⟩
 by_cases e:w="<"
 .exact⟨decide (i < j),λh=>by rw[aS];simp[cU,x,a,eq_true e]⟩
 by_cases s:w="<="
 .exact⟨decide (i≤j),λh=>by rw[aS];simp[cU,x,a,e,eq_true s]⟩
 by_cases n:w=">"
 .exact⟨decide (j < i),λh=>by rw[aS];simp[cU,x,a,e,s,eq_true n]⟩
 exact⟨decide (j≤i),λh=>by rw[aS];simp[cU,x,a,e,s,n]⟩
theorem Mg(w:Str)(i j:Int):∃b,cI (Ph (n+2) "compared") [.str w,.int i,.int j]=some (.bl b):=by obtain⟨b,e⟩:=OS w i j;exact⟨b,by rw[vk];exact e _⟩
theorem yt:cI (Ph (n+2) "holds") [.tup [.str "true"],.dct ks vs]=some (.bl true):=by rw[jr,aS];simp[ib]
theorem Ot{n:Nat}(w:Str){a b:P}{i j:Int}(h:cI (Ph (n+5) "value_of") [a,.dct ks vs]=some (.int i))(x:cI (Ph (n+5) "value_of") [b,.dct ks vs]=some (.int j)):∃r,cI (Ph (n+6) "holds") [.tup [.str "is",.str w,a,b],.dct ks vs]=some (.bl r):=by obtain⟨r,e⟩:=Mg (n:=n+3) w i j;refine⟨r,?_⟩;rw[jr,aS];simp[ib,h,x,e]
theorem JB(h:cI (Ph (n+2) "holds") [e,.dct ks vs]=some (.bl s)):cI (Ph (n+3) "holds") [.tup [.str "not",e],.dct ks vs]=some (.bl !s):=by rw[jr,aS];simp[ib,h]
theorem Ou{n:Nat}{a b:P}{r s:Bool}(h:cI (Ph (n+2) "holds") [a,.dct ks vs]=some (.bl r))(x:cI (Ph (n+2) "holds") [b,.dct ks vs]=some (.bl s)):cI (Ph (n+3) "holds") [.tup [.str "and",a,b],.dct ks vs]=some (.bl (r && s)):=by rw[jr,aS];cases r<;>simp[ib,h,x]
theorem Rc{n:Nat}{a b:P}{r s:Bool}(h:cI (Ph (n+2) "holds") [a,.dct ks vs]=some (.bl r))(x:cI (Ph (n+2) "holds") [b,.dct ks vs]=some (.bl s)):cI (Ph (n+3) "holds") [.tup [.str "or",a,b],.dct ks vs]=some (.bl (r ||s)):=by rw[jr,aS];cases r<;>simp[ib,h,x]
theorem FK(k:∀x ∈ N,j' x)(f:kL N ks vs){t:P}(h:qO N t){n:Nat}:∃r,cI (Ph (n+9) "holds") [t,.dct ks vs]=some (.bl r):=by
 have l:∀{t:P},jX N t->∀{n:Nat},∃r,cI (Ph (n+6) "holds") [t,.dct ks vs]=some (.bl r):=λ{t} h {n}=>by obtain⟨w,y,s,b,v,_,rfl⟩:=h;obtain⟨x,_,rfl⟩:=k y b;obtain⟨i,_,a⟩:=f x b;obtain⟨j,q⟩:=qc k f v (n:=n+1);exact Ot w (iK a) q
 rcases h with rfl|h|⟨p,h,rfl⟩|⟨p,z,h,c,rfl⟩
 .exact⟨_,yt⟩
 .exact l h
 .rcases h with h|rfl
  .obtain⟨r,e⟩:=l h (n:=n+2);exact⟨_,JB e⟩
  .exact⟨_,JB yt⟩
 .obtain⟨r,e⟩:=l h (n:=n+2);obtain⟨x,_,rfl⟩:=k z c;obtain⟨i,_,a⟩:=f x c;obtain⟨s,m⟩:=Ot (n:=n+1) (ks:=ks) (vs:=vs) "=" (gR 1) (iK a);exact⟨_,Rc e (Ou (yt) m)⟩
end
def cK(a:List P):List b0:=a.map λc=>.inr (a9 c)
def Oh(c:P):Prop:=∃i:Int,i.natAbs≤999/\c=.int i
def Sa(a f:List P):Prop:=∀(i:Nat) c v,a[i]? = some c->f[i]? = some v->v ∈ oJ c
def CellsOk(a f:List P):Prop:=f.length=a.length/\(∀c ∈ f,Oh c)/\Sa a f
variable{a:List P}
theorem kA(h:oH a):(cK a).Nodup:=by
 unfold cK;refine uq.mpr λi j e s k q=>?_
 rw[aX]at e s;rw[pq,pq]at q;obtain⟨_,o,h⟩:=h;have x:=h i _ (bo e);have n:=h j _ (bo s);rw[gX q,n]at x;simp at x;lia
theorem yh(a:List P):dA (nQ a)=some (cK a):=by
 unfold nQ cK;induction a with
 |nil=>rfl
 |cons c r i=>simp[dA,cR,i]
theorem BC:∀{a f:List P},(f.length=a.length/\∀c ∈ f,Oh c)->kL (nQ a) (cK a) f
 | [],_,_=>λx h=>by cases h
 |c::r,[],h=>by have:=h.1;simp at this
 |c::r,d::s,h=>λx p=>by
  obtain⟨i,m,rfl⟩:=h.2 d aH;show ∃i:Int,_/\(if (Sum.inr (a9 c):b0)=.inr x then some _ else bW (.inr x) (cK r) s)=_;by_cases e:a9 c=x
  .exact⟨i,m,by rw[ac (by rw[e])]⟩
  .have n:P.str x ∈ nQ r:=by
    rcases aN.mp p with q|q
    .exact absurd (P.str.inj q).symm e
    .exact q
   obtain⟨j,t,k⟩:=BC (a:=r) (f:=s) ⟨by have:=h.1;simpa using this,λc b=>h.2 c (aG _ b)⟩ x n;exact⟨j,t,by rw[af λq=>e (gX q)];exact k⟩
variable{f:List P}
theorem uY(h:CellsOk a f):kL (nQ a) (cK a) f:=BC ⟨h.1,h.2.1⟩
theorem A8(h:Fam m H y s a z e)(c:CellsOk a f)(S:U) :
  Ph (n+2) "values_of" [.p (.tup [.str H,.int (y:Int),.lst s,.lst a,.lst z,.lst e]),.p (.tup f)] S=some (.ref S.length,S++[.dct (cK a) (f.map .p)]):=by
 have r:=h.cl;have q:a.length≤1000000:=by lia
 have x:(nQ a).length≤1000000:=by simp[nQ];lia
 have b:=sR h.hce.1 [qt [.str H,.int (y:Int),.lst s,.lst a,.lst z,.lst e],qt f,none] 2 (by simp) S;have hk:=kA h.hce;have k:(cK a).length=f.length:=by rw[c.1];simp[cK]
 have l:(cK a).length≤f.length:=tT k;have t:f.take (cK a).length=f:=by rw[k,mj]
 rw[rR];simp[mV,lx,MS,cx,q,nw,b,yh,hk,x,l,t,ua];first|done|(rw[<- ua,t])
theorem Cd(x:Fam m H y s a z e)(h:CellsOk a f) :
  cI (Ph (n+2) "values_of") [.tup [.str H,.int (y:Int),.lst s,.lst a,.lst z,.lst e],.tup f]=some (.dct (cK a) f):=by
 unfold cI;rw[az,az,dY,A8 (n:=n) x h []];have:uX (toP 8) (f.map .p) [SO.dct (cK a) (f.map .p)]=some (f,[SO.dct (cK a) (f.map .p)]):=mP ..;simp[toP,this]
end My
namespace My
open PySem L2 Ev
theorem xU(h:f L S=some (.rt d,x,a)):ai f g L S=some (.rt d,x,a):=by rw[ai,h]
theorem Cr(h:vI A l):ng l=some (.lst l):=by
 have s:sortable l=true:=by refine a_.mpr λx a=>?_;obtain⟨m,i,_,_,rfl⟩:=(h.2 x a).1;rfl
 have e:=h.1;unfold ng qz;rw[ac s,ac (by lia)];rfl
theorem ju:i ∈ eM N s↔N[i]? = some s:=by
 unfold eM;rw[fJ];constructor
 .exact λh=>aJ h.2
 .exact λh=>⟨iF.mpr (bB h),gY h⟩
variable{B:BD}
theorem rH(h:x ∈ B.PR):∃r ∈ B.roads,∃a b:Nat,x=pr r a b:=by unfold BD.PR bJ at h;obtain⟨r,e,h⟩:=bQ.mp h;unfold x5 at h;obtain⟨a,_,h⟩:=bQ.mp h;obtain⟨b,_,rfl⟩:=aU.mp h;exact⟨r,e,a,b,rfl⟩
theorem O3{B:BD}{r:P}{a b:Nat}(s:r ∈ B.roads)(x:B.N[a]? = some (rA r))(e:B.N[b]? = some (rB r))(h:a≠b):pr r a b ∈ B.PR:=by unfold BD.PR bJ;refine bQ.mpr ⟨r,s,?_⟩;unfold x5;refine bQ.mpr ⟨a,ju.mpr x,aU.mpr ⟨b,?_,rfl⟩⟩;rw[fJ];exact⟨ju.mpr e,by simpa using h⟩
structure Places(B:BD):Prop where
 get:∀(r:P)(a b:Nat),pr r a b ∈ B.PR->∃d,cC [.inl (a:Int),.inl (b:Int)] B.ks B.vs=some d
 ok:∀(x y:Int)(d:D),cC [.inl x,.inl y] B.ks B.vs=some d->∃(k:Nat)(r:P)(a b:Nat),r ∈ B.roads/\d=.p (.int (k:Int))/\B.PR[k]? = some (pr r a b)/\x=(a:Int)/\y=(b:Int)
def LB(f:P):List P:=(rL (gE f 5)).flatMap λst=>(rL (gE st 5)).flatMap λs=>(gG (rL (gE f 3))).map λc=>.tup [gE s 0,(cI (Ph 6 "value_of") [gE s 1,.dct (cK (rL (gE f 3))) c]).getD .non]
def LH(B:BD)(hd:Nat)(l:P):Prop:=∃f,(bq B.fams)[hd]? = some f/\l ∈ LB f
def LA(B:BD)(k:Nat)(l:P):Prop:=∃r a b,B.PR[k]? = some (pr r a b)/\LH B a l
def bU(B:BD)(rds:List P):Prop:=rds.length=B.PR.length/\∀(k:Nat) r,rds[k]? = some r->∃ls,vI (LA B k) ls/\r=.tup ls
theorem bU.at{B:BD}{r:List P}(h:bU B r){k:Nat}{x:P}(hk:B.PR[k]? = some x):k < r.length/\∃l,vI (LA B k) l/\r[k]? = some (.tup l):=by
 have a:k < r.length:=by rw[h.1];exact bB hk
 obtain⟨l,e,s⟩:=h.2 k r[k] (bo a);exact⟨a,l,e,by rw[bo a,s]⟩
theorem bU.set(h:bU B d)(k:Nat)(a:vI (LA B k) l):bU B (d.set k (.tup l)):=by
 refine⟨by rw[db];exact h.1,λj r x=>?_⟩;by_cases q:k=j
 .subst q;have hk:k < d.length:=by have:=bB x;rwa [db]at this
  rw[bv hk]at x;cases x;exact⟨l,a,rfl⟩
 .rw [aP q]at x;exact h.2 j r x
theorem vG(h:BP B):B.PR.length≤2048:=by
 have N:B.N.length≤16:=au (nW h) (by decide);have k:∀s:List P,(bJ B.N s).length≤256 * s.length:=by
  intro s;induction s with
  |nil=>simp[bJ]
  |cons r s i=>have:=nM B.N r N;rw[show bJ B.N (r::s)=x5 B.N r++bJ B.N s by simp[bJ],aZ,aV];lia
 have:=k B.roads;have:=h.rl
 unfold BD.PR;lia
theorem Pn(h:Str->GF):mT Tb h "Board" "family_of"=some (h "Board.family_of"):=by kernel_rfl
theorem RS(h:Str->GF):mT Tb h "Board" "hands_beside"=some (h "Board.hands_beside"):=by kernel_rfl
theorem Pt:fields.contains "family_of"=false:=by decide +kernel
theorem RY:fields.contains "hands_beside"=false:=by decide +kernel
theorem sK{a:List P}{h:Nat}{f:P}(s:(bq a)[h]? = some f):∃p:Nat,(homes a)[h]? = some (.int (p:Int))/\a[p]? = some f:=by
 unfold bq at s;unfold homes;rw[b9]at s ⊢;cases e:(hw 0 a)[h]? with
 |none=>rw[e]at s;cases s
 |some x=>rw[e]at s;cases s;obtain⟨j,n,k⟩:=nU (a8 e);exact⟨x.1,rfl,by rw[n,fG];exact k⟩
theorem yx{n:Nat}{B:BD}{b i:Nat}{S:U}(h:Bd B b i S){k:Nat}{f:P}(c:(bq B.fams)[k]? = some f):Ph (n+2) "Board.family_of" [.ref i,.p (.int (k:Int))] S=some (.p f,S):=by obtain⟨j,r,l,m,mk,v,h⟩:=h;obtain⟨p,e,x⟩:=sK c;have a:lu (dR (aT Att) fL "homes") dU [qr i,qi (k:Int)] S=some (.p (.int (p:Int)),S):=h.ho.ix (h.homes rfl) rfl (bS e);have s:dR (aT Att) fL "families" [qr i,qi (k:Int)] S=some (.p (.lst B.fams),S):=h.families rfl;rw[gU];show lc (be _ [qr i,qi (k:Int)] S)=_;rw[be,lu,s,ak,vE,a];simp[bS x]
theorem Gm{n:Nat}{B:BD}(P:BP B){b i:Nat}{S:U}(h:Bd B b i S)(k:Nat){s:Str}(g:s ∈ B.N):∃a,Ph (n+2) "Board.hands_beside" [.ref i,.p (.int (k:Int)),.p (.str s)] S=some (.p (.lst (cH (oth B.N s k))),a)/\Fr b S a:=by
 obtain⟨K,E,A,C,mk,G,h⟩:=h;obtain⟨j,u,m,e⟩:=h.mm s g;refine⟨_,?_,Fr.frz u e⟩;have r:lu (dR (aT Att) fL "members") f6 [qr i,qi (k:Int),qs s] S=some (.ref j,S):=by rw[lu,h.members rfl];simp[h.me,cR,m]
 have l:(cH (eM B.N s)).length≤1000000:=by have:=h_ B.N s;have:B.N.length≤4:=nW P;simp[cH];lia
 have t:bR (av 3) (j9 Ca kh) fZ (cH (eM B.N s)) [qr i,qi (k:Int),qs s,none] (S.set j (.fz (.lst (cH (eM B.N s)))))=some (cH (oth B.N s k),S.set j (.fz (.lst (cH (eM B.N s))))):=by
  rw[di (p:=λv=>match v with | .int x=>!decide (k=x.toNat)|_=>false) (f:=id) (Inv:=λL=>∃d,L=[qr i,qi (k:Int),qs s,d]) (λv c L w=>?_) ⟨none,rfl⟩]
  .congr 2;unfold cH oth;rw[ue,t_];rfl
  .obtain⟨d,rfl⟩:=w;unfold cH at c;obtain⟨o,F,rfl⟩:=aU.mp c;refine⟨[qr i,qi (k:Int),qs s,qi (o:Int)],rfl,⟨_,rfl⟩,?_,λ_=>by simp⟩;by_cases q:k=o
   .simp [q]
   .have y:¬(o:Int)=(k:Int):=by lia
    have H:¬o=k:=λz=>q z.symm;simp[q,y,H]
 rw[jY];show lc (be _ [qr i,qi (k:Int),qs s] S)=_;simp only[fV,be,O,cx,i5,vE,r,ak,e.frz];rw[ac (by rw[qW];exact l)];rw[show nw [] 1 [some (D.ref i),qi (k:Int),qs s]=[qr i,qi (k:Int),qs s,none] from rfl,t];rfl
theorem k7[DecidableEq r](x:r)(y:D):∀(s:List r)(a:List D),s.Nodup->s.length=a.length->(dq x y s a).1.Nodup/\(dq x y s a).1.length=(dq x y s a).2.length/\(dq x y s a).1.length≤s.length+1/\(∀k ∈ (dq x y s a).1,k=x\/k ∈ s)/\∀k,cC k (dq x y s a).1 (dq x y s a).2=if x=k then some y else cC k s a
 | [],[],_,_=>⟨by simp[dq],rfl,by simp[dq],λk h=>.inl (by simpa[dq] using h),λk=>by by_cases q:x=k<;>simp[dq,cC,q]⟩
 | [],_::_,_,h=>by simp at h
 |_::_,[],_,h=>by simp at h
 |n::s,v::a,b,l=>by
  obtain⟨hk,b⟩:=bP.mp b;by_cases q:n=x
  .have e:dq x y (n::s) (v::a)=(n::s,y::a):=by simp[dq,q]
   rw[e];refine⟨bP.mpr ⟨hk,b⟩,by simpa using l,by simp,λk h=>.inr h,λk=>?_⟩;subst q;by_cases f:n=k<;>simp[cC,f]
  .obtain⟨t,p,w,c,d⟩:=k7 x y s a b (by simpa using l);have e:dq x y (n::s) (v::a)=(n::(dq x y s a).1,v::(dq x y s a).2):=by simp[dq,q]
   rw[e];refine⟨bP.mpr ⟨λz=>?_,t⟩,by simp[p],by simp;lia,λk h=>?_,λk=>?_⟩
   .rcases c n z with z|z
    .exact q z
    .exact hk z
   .rcases aN.mp h with rfl|h
    .exact .inr aH
    .rcases c k h with h|h
     .exact .inl h
     .exact .inr (aG _ h)
   .show (if n=k then some v else cC k (dq x y s a).1 (dq x y s a).2)=_;by_cases f:n=k
    .subst f;have:¬x=n:=λz=>q z.symm
     simp[cC,this]
    .rw [af f,d];by_cases m:x=k
     .simp [m]
     .simp [m,cC,f]
def mQ(p:P):List b0:=[.inl (iv (gE p 1)),.inl (iv (gE p 2))]
noncomputable abbrev KV:=List (List b0)×List D
def putAll:Nat->List P->KV->KV
 |_,[],s=>s
 |k,p::r,s=>putAll (k+1) r (dq (mQ p) (.p (.int (k:Int))) s.1 s.2)
structure KVok(s:KV):Prop where
 nd:s.1.Nodup
 ln:s.1.length=s.2.length
theorem KVok.put(h:KVok s)(k:List b0)(y:D):KVok (dq k y s.1 s.2):=by obtain⟨x,a,_⟩:=k7 k y s.1 s.2 h.nd h.ln;exact⟨x,a⟩
set_option tactic.hygienic true in
theorem Jt:∀(x:List P)(k:Nat)(s:KV),KVok s->∀y d,cC y (putAll k x s).1 (putAll k x s).2=some d->cC y s.1 s.2=some d\/∃(j:Nat)(p:P),x[j]? = some p/\d=.p (.int ((k+j:Nat):Int))/\mQ p=y
 | [],k,s,h,y,d,e=>.inl e
 |p::r,k,s,h,y,d,e=>by
  rcases Jt r (k+1) _ (h.put (mQ p) (.p (.int (k:Int)))) y d e with e|⟨j,b,a,n,f⟩
  .rw [(k7 (mQ p) (.p (.int (k:Int))) s.1 s.2 h.nd h.ln).2.2.2.2]at e;split at e
   .rename_i hk;cases e;exact .inr ⟨0,p,rfl,rfl,hk⟩
   .exact .inl e
  .exact .inr ⟨j+1,b,by simpa using a,by rw[n,show k+1+j=k+(j+1) by lia],f⟩
theorem EU:∀(x:List P)(k:Nat)(s:KV),KVok s->∀y,((∃d,cC y s.1 s.2=some d)\/∃p ∈ x,mQ p=y)->∃d,cC y (putAll k x s).1 (putAll k x s).2=some d
 | [],k,s,h,y,q=>by
  rcases q with q|⟨_,z,_⟩
  .exact q
  .cases z
 |p::r,k,s,h,y,q=>by
  refine EU r (k+1) _ (h.put (mQ p) (.p (.int (k:Int)))) y ?_;have e:=(k7 (mQ p) (.p (.int (k:Int))) s.1 s.2 h.nd h.ln).2.2.2.2 y;by_cases w:mQ p=y
  .exact .inl ⟨_,by rw[e,ac w]⟩
  .rcases q with ⟨d,q⟩|⟨a,z,q⟩
   .exact .inl ⟨d,by rw[e,af w];exact q⟩
   .rcases aN.mp z with rfl|z
    .exact absurd q w
    .exact .inr ⟨a,z,q⟩
def iN(f r w:List P):BD:=⟨f,r,w,(putAll 0 (bJ (aY f) r) ([],[])).1,(putAll 0 (bJ (aY f) r) ([],[])).2⟩
theorem Q6:KVok ([],[]):=⟨by simp,rfl⟩
theorem h7(f o w:List P):Places (iN f o w) where
 get:=λr a b h=>EU _ 0 _ Q6 _ (.inr ⟨_,h,rfl⟩)
 ok:=λx y d h=>by
  rcases Jt _ 0 _ Q6 _ d h with e|⟨j,p,n,k,s⟩
  .cases e
  .obtain⟨r,c,a,b,rfl⟩:=rH (B:=iN f o w) (a8 n);exact⟨j,r,a,b,c,by rw[k,fG],n,by simp[mQ,pr]at s;exact⟨s.1.symm,s.2.symm⟩⟩
theorem JG{K:Str->GF}(l:P)(a b c:D){i j:Nat}(m:i≠j):∀(t:List P)(k:Nat)(s:KV),KVok s->s.1.length+t.length≤900000->(∀p ∈ t,∃r x y,p=.tup [r,.int x,.int y])->∀(w u:Option D)(S:U),S[i]? = some (.ins "Board" ["families","homes","pairs","places"] [a,b,c,.ref j])->S[j]? = some (.dtt s.1 s.2)->∃n f,
  bZ (bD [av 2,av 3]) (fU K) (cq (k:Int) t) [qr i,qp l,w,u,none] S=some (.nx,[qr i,qp l,n,f,none],S.set j (.dtt (putAll k t s).1 (putAll k t s).2))
 | [],k,s,_,_,_,w,u,S,_,v=>⟨w,u,by show some (Fl.nx,_,S)=some (.nx,_,S.set j (.dtt s.1 s.2));obtain⟨h,e⟩:=bw.mp v;rw[<- e,gp]⟩
 |p::r,k,s,h,A,F,w,u,S,H,v=>by
  simp only[aV]at A;obtain⟨d,x,y,rfl⟩:=F p aH;have B:=(k7 (mQ (.tup [d,.int x,.int y])) (.p (.int (k:Int))) s.1 s.2 h.nd h.ln).2.2.1;obtain⟨n,f,e⟩:=JG (K:=K) l a b c m r (k+1) _ (h.put (mQ (.tup [d,.int x,.int y])) (.p (.int (k:Int)))) (by lia) (λp o=>F p (aG _ o)) (qi (k:Int)) (qt [d,.int x,.int y]) (S.set j (.dtt (dq (mQ (.tup [d,.int x,.int y])) (.p (.int (k:Int))) s.1 s.2).1 (dq (mQ (.tup [d,.int x,.int y])) (.p (.int (k:Int))) s.1 s.2).2)) (by rw[aP (λq=>m q.symm)];exact H) (bv (bB v));refine⟨n,f,?_⟩;unfold cq putAll;rw[jv,cE]at e;refine(cm (h:=[qr i,qp l,qi (k:Int),qt [d,.int x,.int y],none]) rfl ?_).trans e;have z:=h.nd;have g:s.1.length≤1000000:=by lia
  simp[fU,lh,iO,lF,dA,cR,z,g,mQ,H,v]
structure GC(B:BD) where
 b:Nat
 i:Nat
 S0:U
 r:Nat
 bd:Bd B b i S0
 hr:S0.length≤r
theorem GC.le(G:GC B):G.b≤G.S0.length:=G.bd.le
theorem lJ{i:Type}{g:kj}{b:ES}{p:i->Lc->Prop}{Sp:i->U->Prop}{r:i->Nat}{c M:Nat}{f:P->List P}:∀{s:List P},
  (∀x ∈ s,(f x).length≤c/\∀G L S a,p G L->Sp G S->S[r G]? = some (.lst (a.map .p))->a.length+c≤M->∃m L2 n,g x L=some m/\b m S=some (.nx,L2,n)/\p G L2/\Sp G n/\n[r G]? = some (.lst ((a++f x).map .p))) ->
  (s.flatMap f).length≤c * s.length/\∀G L S a,p G L->Sp G S->S[r G]? = some (.lst (a.map .p))->a.length+c * s.length≤M->∃k e,bZ g b s L S=some (.nx,k,e)/\p G k/\Sp G e/\e[r G]? = some (.lst ((a++s.flatMap f).map .p))
 | [],_=>⟨by simp,λG L S a t d h _=>⟨L,S,rfl,t,d,by rw[List.flatMap_nil,cP];exact h⟩⟩
 |x::s,j=>by
  obtain⟨D,H⟩:=j x aH;obtain⟨I,C⟩:=lJ (s:=s) λy B=>j y (aG _ B);have A:c * (x::s).length=c+c * s.length:=by rw[aV,zI,zH]
  refine⟨by rw[A,g7,aZ];lia,λG L S a t d h E=>?_⟩;obtain⟨m,L2,n,l,z,v,u,F⟩:=H G L S a t d h (by lia);obtain⟨k,e,o,q,w,K⟩:=C G L2 n (a++f x) v u F (by rw[aZ];lia);exact⟨k,e,by rw[cm l z];exact o,q,w,by rw[g7,<- fK];exact K⟩
theorem dP{t:Type}{g:kj}{b:ES}{p:t->Lc->Prop}{Sp:t->U->Prop}{r:t->Nat}{R:P->List P->Prop}{c M:Nat}{s:List P}
  (h:∀x ∈ s,∃y:List P,y.length≤c/\R x y/\∀G L S a,p G L->Sp G S->S[r G]? = some (.lst (a.map .p))->a.length+c≤M->∃v L2 k,g x L=some v/\b v S=some (.nx,L2,k)/\p G L2/\Sp G k/\k[r G]? = some (.lst ((a++y).map .p))) :
  ∃f:P->List P,(s.flatMap f).length≤c * s.length/\(∀x ∈ s,R x (f x))/\∀G L S a,p G L->Sp G S->S[r G]? = some (.lst (a.map .p))->a.length+c * s.length≤M->∃q n,bZ g b s L S=some (.nx,q,n)/\p G q/\Sp G n/\n[r G]? = some (.lst ((a++s.flatMap f).map .p)):=by
 let f:P->List P:=λx=>@dite _ (x ∈ s) (Classical.propDecidable _) (λe=>Classical.choose (h x e)) λ_=>[]
 have d:∀x e,f x=Classical.choose (h x e):=λx e=>dif_pos e;have m:=λx e=>Classical.choose_spec (h x e);obtain⟨w,u⟩:=lJ (f:=f) λx e=>by rw[d x e];exact⟨(m x e).1,(m x e).2.2⟩
 exact⟨f,w,λx e=>by rw[d x e];exact(m x e).2.1,u⟩
theorem B1(N:LS)(s:Str):(eM N s).Pairwise (·≠·):=(List.nodup_range (n:=N.length)).filter _
theorem kt{S:U}{r:Nat}{o x:SO}(h:S[r]? = some o):(S.set r x)[r]? = some x:=by rw[bv (bB h)]
theorem mW{r:EE}{a:EV}{L:Lc}{S x:U}{k:Nat}{c y:List P}(n:r L S=some (.ref k,S))(h:S[k]? = some (.lst (c.map .p)))(s:a L S=some (.lst y,x))(e:x[k]? = some (.lst (c.map .p)))(l:c.length+y.length≤1000000):b8 (fR r a) L S=some (.nx,L,x.set k (.lst ((c++y).map .p))):=by rw[b8,fR,n,ak];simp only[dw,h,s,ak,e,aX];rw[ac (by rw[m_];exact l),jM];rfl
theorem pO{r a:EE}{L:Lc}{S x:U}{k:Nat}{c:List P}{y:P}(n:r L S=some (.ref k,S))(h:S[k]? = some (.lst (c.map .p)))(s:a L S=some (.p y,x))(e:x[k]? = some (.lst (c.map .p)))(l:c.length≤1000000):b8 (bM r a) L S=some (.nx,L,x.set k (.lst ((c++[y]).map .p))):=by rw[b8,bM,n,ak];simp only[dw,h,s,ak,e];rw[ac (by rw[qW,aX];exact l),jM];rfl
theorem JK{B:BD}(m:BP B){f:P}(n:f ∈ B.fams):a9 f ∈ B.N:=by
 have p:1≤dE f:=by
  obtain⟨q,c,o,e,w,t,h,rfl⟩:=m.hf f n;have:=h.hcr.1
  simp[dE];lia
 have y:∀(a:List P)(k:Nat),f ∈ a->∃x ∈ hw k a,x.2=f:=by
  intro a;induction a with
  |nil=>intro k h;cases h
  |cons g r i=>
   intro k h;rcases aN.mp h with rfl|h
   .exact⟨(k,f),by unfold hw;exact iI _ (ml.mpr ⟨by lia,rfl⟩),rfl⟩
   .obtain⟨x,s,b⟩:=i (k+1) h;exact⟨x,by unfold hw;exact eS _ s,b⟩
 obtain⟨x,s,rfl⟩:=y B.fams 0 n;unfold BD.N aY bq;exact aU.mpr ⟨x.2,aU.mpr ⟨x,s,rfl⟩,rfl⟩
theorem Rx{B:BD}{k:Nat}{f:P}(h:(bq B.fams)[k]? = some f):B.N[k]? = some (a9 f):=by unfold BD.N aY;rw[b9,h];rfl
inductive LetOk(B:BD)(rds:List P)(hd:Nat)(y:P):Prop
 |mk (s sp k:Nat) (ls:List P):y=.tup [.int (s:Int),.int (sp:Int)]->cC [.inl (s:Int),.inl (hd:Int)] B.ks B.vs=qi (k:Int)->k < rds.length->rds[k]? = some (.tup ls)->vI (LA B k) ls->sp < ls.length->LetOk B rds hd y
theorem Kr{B:BD}(hP:BP B)(G:Places B){n:Nat}{e:List P}(hr:bU B e){hd s:Nat}{d:D}(g:cC [.inl (s:Int),.inl (hd:Int)] B.ks B.vs=some d){w:Str}{u:List P} :
  ∃ys:List P,ys.length≤3/\(∀y ∈ ys,LetOk B e hd y)/\∀(b i:Nat)(S:U)(r:Nat)(t:List P)(q6 Z K A:Option D),Bd B b i S->S[r]? = some (.lst (t.map .p))->t.length+3≤1000000 ->
   ∃X q7' q8' q9',e_ (Ph (n+2)) [qr i,qt e,qi (hd:Int),qt (.str w::u),qr r,qi (s:Int),q6,Z,K,A] S=some (.nx,[qr i,qt e,qi (hd:Int),qt (.str w::u),qr r,qi (s:Int),X,q7',q8',q9'],S.set r (.lst ((t++ys).map .p))):=by
 obtain⟨k,road,a,b',N,rfl,hk,_,_⟩:=G.ok _ _ _ g;obtain⟨M,l,q,j⟩:=hr.at hk;obtain⟨ra,rb,kd,c,d1,d2,ha,hb,hkd,hc1,hc2,rfl⟩:=hP.hr road N;have h3:=q.1;have f:∃f:List P,f.length≤l.length/\(∀y ∈ f,Og l.length y)/\∀(L:Lc)(S:U),L[7]? = some (qs kd)->L[8]? = some (qt l)->Nm (bt (aj 7) (O (vt "row"))) (qe (Nl (eG (aj 8))) il (gS dj)) (cB (Ph (n+2) "unlike_spots") (v2 mE uA)) L S=some (.lst f,S):=by
  have eu:=Jn (n:=n) kd q;have R:(cH (Cf kd l)).length≤l.length:=by unfold cH Cf;rw[aX];exact au (g8 ..) (by simp)
  have T:∀y ∈ cH (Cf kd l),Og l.length y:=λy F=>by obtain⟨i,I,rfl⟩:=aU.mp F;exact⟨i,iF.mp (fJ.mp I).1,rfl⟩
  have hq:l.length < 1000000:=by lia
  by_cases o:kd="row"
  .refine⟨cut (intsFrom 0 l.length) none (some 1),by have:=(pL (t:=intsFrom 0 l.length) (lo:=none) (i:=some 1)).2;rwa [cL]at this,λy F=>?_,λL S C E=>?_⟩
   .obtain⟨i,rfl,I⟩:=gF (pL.1 y F);exact⟨i,I,by simp⟩
   .simp [C,E,o,dO,fP,hq]
  .exact⟨_,R,T,λL S C E=>by simp[C,E,o,eu]⟩
 obtain⟨f,hs1,H,es⟩:=f;let p:P->Bool:=λv=>match v with | .int x=>decide (a9 (l.getD x.toNat .non)=w)|_=>false
 refine⟨(f.filter p).map λv=>.tup [.int (s:Int),v],by rw[aX];exact au (g8 ..) (by lia),λy F=>?_,λb i S r t q6 Z K A hB hS hM=>?_⟩
 .obtain⟨v,V,rfl⟩:=aU.mp F;obtain⟨x,W,rfl⟩:=H v (fJ.mp V).1;exact⟨s,x,k,l,rfl,g,M,j,q,W⟩
 .obtain⟨jh,jp,jl,jm,mk,mv,h⟩:=hB;have e2:bR (av 10) (bt (O (ae (ae uA nE) eB)) (O (ae fZ eB))) (aK (v2 pF nE)) f [qr i,qt e,qi (hd:Int),qt (.str w::u),qr r,qi (s:Int),qi (k:Int),qs kd,qt l,ql f,none] S=some ((f.filter p).map λv=>.tup [.int (s:Int),v],S):=
   di (Inv:=λL=>∃d,L=[qr i,qt e,qi (hd:Int),qt (.str w::u),qr r,qi (s:Int),qi (k:Int),qs kd,qt l,ql f,d]) (λv V L G=>by obtain⟨d,rfl⟩:=G;obtain⟨x,W,rfl⟩:=H v V;have g:l[x]? = some l[x]:=bo W;obtain⟨m,z,_,_,hz⟩:=(q.2 l[x] (g0 _)).1;rw[hz]at g;refine⟨[qr i,qt e,qi (hd:Int),qt (.str w::u),qr r,qi (s:Int),qi (k:Int),qs kd,qt l,ql f,qi (x:Int)],rfl,⟨_,rfl⟩,?_,λ_=>by simp⟩;simp[bS g,p,g,a9]) ⟨none,rfl⟩
  refine⟨qi (k:Int),qs kd,qt l,ql f,?_⟩;have Q:f.length≤1000000:=by lia
  unfold e_;refine(aq (e:=[qr i,qt e,qi (hd:Int),qt (.str w::u),qr r,qi (s:Int),qi (k:Int),Z,K,A]) (c:=S) ?_).trans ?_
  .rw [aD,wS,h.places rfl];simp[lF,h.pl,dA,cR,g]
  refine(aq (e:=[qr i,qt e,qi (hd:Int),qt (.str w::u),qr r,qi (s:Int),qi (k:Int),qs kd,K,A]) (c:=S) ?_).trans ?_
  .rw [aD,lu,lu,h.pr.ix (h.pairs rfl) (i:=(k:Int)) rfl (bS hk)];simp[pr]
  rw[aq (by simp[bS j];exact⟨rfl,rfl⟩)];refine(aq (e:=[qr i,qt e,qi (hd:Int),qt (.str w::u),qr r,qi (s:Int),qi (k:Int),qs kd,qt l,ql f]) (c:=S) ?_).trans ?_
  .rw [aD,O,es _ S rfl rfl];rfl
  refine mW rfl hS ?_ hS (by rw[aX];have:=g8 p f;lia);simp only[cx,i5,vE];simp[Q,nw,e2]
theorem Hy{B:BD}(H:BP B)(hL:Places B){n:Nat}{hd:Nat}{f:P}(hf:(bq B.fams)[hd]? = some f){k A:List P}(hr:bU B k){Q:P}(ht:jW (a9 f) B.roads A Q) :
  ∃v:List P,v.length≤12/\(∀y ∈ v,(Q=.non/\y=.non)\/(Q≠.non/\LetOk B k hd y))/\∀(b i:Nat)(S:U),Bd B b i S->∃d j,Ph (n+4) "takeable" [.ref i,.p (.tup k),.p (.int (hd:Int)),.p Q] S=some (d,j)/\Fr b S j/\rK S j d v:=by
 rcases ht with rfl|⟨m,a,t,w,_,_,_,_,⟨r,F,hrb,rfl⟩,_,rfl⟩
 .refine⟨[.non],by simp,λy K=>.inl ⟨rfl,by simpa using K⟩,λb i S z=>⟨.p (.lst [.non]),S,?_,Fr.refl _ _,.inl rfl⟩⟩;rw[mX];simp[mV,j3,vK,eC]
 .have u:rA r ∈ B.N:=by
   obtain⟨⟨f',h1,X⟩,_⟩:=H.ra r F;rw[<- X];exact JK H h1
  obtain⟨f5,h1,X,h3⟩:=dP (t:=GC B) (g:=av 5) (b:=e_ (Ph (n+3))) (Sp:=λG S=>Fr G.b G.S0 S) (r:=λG=>G.r) (R:=λ_ v=>∀y ∈ v,LetOk B k hd y) (c:=3) (M:=1000) (s:=cH (oth B.N (rA r) hd))
   (p:=fun G L=>∃q5 D E I N,L=[qr G.i,qt k,qi (hd:Int),qt [.str m,.str (rA r),.str t,.str w],qr G.r,q5,D,E,I,N]) (fun x C=>by
    unfold cH at C;obtain⟨s,u,rfl⟩:=aU.mp C;unfold oth at u;rw[fJ]at u;have hsd:s≠hd:=λq=>by have:=u.2;simp[q]at this
    obtain⟨d,hg⟩:=hL.get r s hd (O3 F (ju.mp u.1) (by rw[Rx hf,hrb]) hsd);obtain⟨v,k1,k2,k3⟩:=Kr H hL (n:=n+1) hr hg (w:=m) (u:=[.str (rA r),.str t,.str w]);refine⟨v,k1,k2,λG L S T hL' hS h hM=>?_⟩;obtain⟨q5,D,E,I,N,rfl⟩:=hL';obtain⟨q6',q7',q8',q9',e⟩:=k3 G.b G.i S G.r T D E I N (G.bd.fr hS) h (by lia);exact⟨_,_,_,rfl,e,⟨_,_,_,_,_,rfl⟩,hS.set G.le G.hr _,kt h⟩)
  have hol:(cH (oth B.N (rA r) hd)).length≤4:=by
   have h4:B.N.length≤4:=nW H;have:=h_ B.N (rA r)
   have:=g8 (λo=>!decide (hd=o)) (eM B.N (rA r));simp[cH,oth];lia
  refine⟨(cH (oth B.N (rA r) hd)).flatMap f5,by lia,λy K=>.inr ⟨λq=>(by cases q),by obtain⟨x,C,K⟩:=bQ.mp K;exact X x C y K⟩,λb i S z=>?_⟩
  have p:=Fr.app b S [.lst []];obtain⟨S1,e1,l⟩:=Gm (n:=n+1) H (z.fr p) hd u;have V:=p.trans l;have hb:=z.le;obtain⟨L',j,e2,⟨q5,D,E,I,N,rfl⟩,W,hl⟩:=h3 ⟨b,i,S,S.length,z,ah _⟩ [qr i,qt k,qi (hd:Int),qt [.str m,.str (rA r),.str t,.str w],qr S.length,none,none,none,none,none] S1 [] ⟨_,_,_,_,_,rfl⟩ V (l.hi _ _ hb (gB _ _)) (by simp;lia);refine⟨.ref S.length,j,?_,W,.inr ⟨S.length,ah _,rfl,.inl hl⟩⟩;rw[mX];have Z:=z.fr p;obtain⟨jh,jp,jl,jm,mk,mv,hb2⟩:=Z;have em:dQ (mT Tb (Ph (n+3))) fL "hands_beside" (Mz jP (O (ae fZ dj))) [qr i,qt k,qi (hd:Int),qt [.str m,.str (rA r),.str t,.str w],qr S.length,none,none,none,none,none] (S++[.lst []])=some (.p (.lst (cH (oth B.N (rA r) hd))),S1):=
   (hb2.meth rfl (RS _) RY (l:=[.p (.int (hd:Int)),.p (.str (rA r))]) (by simp)).trans e1
  simp[mV,j3,vK,eC,-dQ,em,e2]
def isI(v:P):Prop:=∃j:Int,v=.int j
theorem isI.ok(h:isI v)(n:Nat):cA n v=true:=by obtain⟨j,rfl⟩:=h;simp
theorem K4{B:BD}(hP:BP B)(hL:Places B){n:Nat}{r:List P}(N:bU B r)(hd:Nat)(t v:Int){m:Str}(hm:aW m=true)(hA:LH B hd (.tup [.str m,.int v])) :
  ∃C:Option (List P),(∀g,C=some g->bU B g)/\∀(b i:Nat)(S:U)(s:P)(p e x:Option D),Bd B b i S->∃F K A,
   gx (Ph (n+2)) [qr i,qt r,qi (hd:Int),qp s,qt [.str m,.int v],qi t,p,e,x] S=match C with
    |none=>some (.rt (.p .non),[qr i,qt r,qi (hd:Int),qp s,qt [.str m,.int v],qi t,F,K,A],S)
    |some g=>some (.nx,[qr i,qt g,qi (hd:Int),qp s,qt [.str m,.int v],qi t,F,K,A],S):=by
 cases I:cC [.inl (hd:Int),.inl t] B.ks B.vs with
 |none=>
  refine⟨none,λ_ q=>(by cases q),λb i S s p e x f=>⟨qp .non,e,x,?_⟩⟩;obtain⟨R,W,T,V,mk,X,h⟩:=f;unfold gx;refine(aq (e:=[qr i,qt r,qi (hd:Int),qp s,qt [.str m,.int v],qi t,qp .non,e,x]) (c:=S) ?_).trans (xU ?_)
  .rw [aD,sL,h.places rfl];simp[lF,h.pl,dA,cR,I]
  .simp [vK,eC]
 |some d=>
  obtain⟨k,road,a,b',Q,rfl,hk,z,_⟩:=hL.ok _ _ _ I;have z:hd=a:=by lia
  obtain⟨L,y,o,j⟩:=N.at hk;obtain⟨ra,rb,kd,c,d1,d2,ha,hb,hkd,hc1,hc2,l⟩:=hP.hr road Q;have E:L2.atI [P.str ra,.str rb,.str kd,.int c,.bl d1,.bl d2] 3=some (.int c):=bE (by decide) rfl;have Z:∀(b i:Nat)(S:U)(s:P)(p e x:Option D),Bd B b i S->aD 6 (sL (dR (aT Att) fL "places") (v2 f6 pF)) [qr i,qt r,qi (hd:Int),qp s,qt [.str m,.int v],qi t,p,e,x] S=some (.nx,[qr i,qt r,qi (hd:Int),qp s,qt [.str m,.int v],qi t,qi (k:Int),e,x],S):=λb i S s p e x f=>by obtain⟨R,W,T,V,mk,X,h⟩:=f;rw[aD,sL,h.places rfl];simp[lF,h.pl,dA,cR,I]
  by_cases hv:v.natAbs≤999
  .have u:¬(999:Int) < (if v < 0 then -v else v):=by split<;>lia
   by_cases G:c≤(y.length:Int)
   .refine⟨none,λ_ q=>(by cases q),λb i S s p e x f=>⟨qi (k:Int),qp road,x,?_⟩⟩;refine(aq (Z b i S s p e x f)).trans ((aq (e:=[qr i,qt r,qi (hd:Int),qp s,qt [.str m,.int v],qi t,qi (k:Int),e,x]) (c:=S) ?_).trans ((aq (e:=[qr i,qt r,qi (hd:Int),qp s,qt [.str m,.int v],qi t,qi (k:Int),qp road,x]) (c:=S) ?_).trans (xU ?_)))
    .simp [vK,eC,oF,u]
    .obtain⟨R,W,T,V,mk,X,h⟩:=f;rw[aD,lu,h.pr.ix (h.pairs rfl) (i:=(k:Int)) rfl (bS hk)];simp[pr]
    .simp [l,bS j,dO,fP,E,G]
   .have M:(y++[P.tup [.str m,.int v]]).length≤1:=by rw[aZ,pC];lia
    have H:vI (LA B k) (y++[P.tup [.str m,.int v]]):=⟨M,eO o.2 ⟨⟨m,v,hm,hv,rfl⟩,road,a,b',hk,z ▸ hA⟩⟩;have ea:=jt (xs:=y) (c:=[P.tup [.str m,.int v]]) (by have:=o.1;simp;lia);have ez:=Cr H;have hpl:=vG hP;have hrl:=N.1;have er:=λ(w:P)=>qD (n:=n) (xs:=r) (k:=k) L (by lia) w;refine⟨some (r.set k (.tup (y++[P.tup [.str m,.int v]]))),λ_ q=>by cases q;exact N.set k H,λb i S s p e x f=>⟨qi (k:Int),qp road,qt (y++[P.tup [.str m,.int v]]),?_⟩⟩;refine(aq (Z b i S s p e x f)).trans ((aq (e:=[qr i,qt r,qi (hd:Int),qp s,qt [.str m,.int v],qi t,qi (k:Int),e,x]) (c:=S) ?_).trans ((aq (e:=[qr i,qt r,qi (hd:Int),qp s,qt [.str m,.int v],qi t,qi (k:Int),qp road,x]) (c:=S) ?_).trans ?_))
    .simp [vK,eC,oF,u]
    .obtain⟨R,W,T,V,mk,X,h⟩:=f;rw[aD,lu,h.pr.ix (h.pairs rfl) (i:=(k:Int)) rfl (bS hk)];simp[pr]
    by_cases hh:kd="heap"
    .simp [l,bS j,dO,fP,E,G,ea,hh,HH,HF,ez,eY,er]
    .simp [l,bS j,dO,fP,E,G,ea,hh,er]
  .have u:(999:Int) < (if v < 0 then -v else v):=by split<;>lia
   refine⟨none,λ_ q=>(by cases q),λb i S s p e x f=>⟨qi (k:Int),e,x,?_⟩⟩;refine(aq (Z b i S s p e x f)).trans (xU ?_);simp[vK,eC,oF,u]
theorem Bs{B:BD}(F:BP B)(H:Places B){n:Nat}(hd:Nat)(v:Int){m:Str}(K:aW m=true)(A:LH B hd (.tup [.str m,.int v])):∀{l:List P},(∀t ∈ l,isI t)->∀{d:List P},bU B d ->
  ∃r:Option (List P),(∀s,r=some s->bU B s)/\∀(b i:Nat)(S:U)(w:P)(u f c p:Option D),Bd B b i S->∃L z h a k,
   bZ (av 5) (gx (Ph (n+2))) l [qr i,qt d,qi (hd:Int),qp w,qt [.str m,.int v],u,f,c,p] S=match r with
    |none=>some (.rt (.p .non),L,S)
    |some s=>some (.nx,[qr i,qt s,qi (hd:Int),qp w,qt [.str m,.int v],z,h,a,k],S)
 | [],_,d,y=>⟨some d,λ_ q=>by cases q;exact y,λb i S w u f c p _=>⟨[],u,f,c,p,rfl⟩⟩
 |t::l,C,d,y=>by
  obtain⟨j,rfl⟩:=C t aH;obtain⟨r,Q,o⟩:=K4 F H (n:=n) y hd j v K A;cases r with
  |none=>refine⟨none,λ_ q=>(by cases q),λb i S w u f c p g=>?_⟩;obtain⟨h,a,k,e⟩:=o b i S w f c p g;exact⟨_,u,f,c,p,wN rfl e⟩
  |some s=>obtain⟨r,T,V⟩:=Bs F H (n:=n) hd v K A (l:=l) (λx R=>C x (aG _ R)) (Q s rfl);refine⟨r,T,λb i S w u f c p g=>?_⟩;obtain⟨h,a,k,e⟩:=o b i S w f c p g;obtain⟨L,E,G,I,M,N⟩:=V b i S w (qi j) h a k g;exact⟨L,E,G,I,M,by rw[<- N];exact cm rfl e⟩
theorem HU{B:BD}(p:BP B)(c:Places B){n:Nat}(hd:Nat)(v:Int){m:Str}(q:aW m=true)(A:LH B hd (.tup [.str m,.int v])){s:List P}(u:∀t ∈ s,isI t){d:List P}(w:bU B d) :
  ∃a:P,(a=.non\/∃r,bU B r/\a=.tup r)/\∀(b i:Nat)(S:U),Bd B b i S->Ph (n+3) "posted" [.ref i,.p (.tup d),.p (.int (hd:Int)),.p (.lst s),.p (.tup [.str m,.int v])] S=some (.p a,S):=by
 obtain⟨x,f,k⟩:=Bs p c (n:=n) hd v q A u w;cases x with
 |none=>refine⟨.non,.inl rfl,λb i S h=>?_⟩;obtain⟨L,_,_,_,_,e⟩:=k b i S (.lst s) none none none none h;rw[qX];simp only[zO]at e;simp[mV,lP,e]
 |some r=>refine⟨.tup r,.inr ⟨r,f r rfl,rfl⟩,λb i S h=>?_⟩;obtain⟨L,_,_,_,_,e⟩:=k b i S (.lst s) none none none none h;rw[qX];simp only[zO]at e;simp[mV,lP,e]
end My
namespace My
open PySem L2 Ev
def Jy(dl:Nat)(y:P):Prop:=∃s h,y=.tup [.tup s,.lst h]/\s.length=dl/\(∀a ∈ s,isI a)/\∀t ∈ h,isI t
noncomputable abbrev lL(E:Str)(C:Nat)(l u j H:List P):P:=.tup [.str E,.int (C:Int),.lst l,.lst u,.lst j,.lst H]
theorem Bg{s:List P}(h:∀x ∈ s,j' x){x:Str}(a:P.str x ∈ s):∃i:Nat,i < s.length/\lI s (.str x)=some i:=qP (λy e=>(h y e).ok 19) a
theorem tg_ok{B:BD}(q:BP B){n:Nat}{hd:Nat}{E:Str}{C:Nat}{l u j H:List P}(s:Fam B.roads E C l u j H)(a:(bq B.fams)[hd]? = some (lL E C l u j H)){A:List P}(hw:A.length=j.length)(I:∀w ∈ A,isI w){c z:Str}
  (hc:(c="who"/\P.str z ∈ j)\/((c="all"\/c="any")/\∃r ∈ B.roads,rA r=E/\z=rB r)) :
  ∃(ys:List P)(dl:Nat),dl≤1/\ys.length≤4/\(∀y ∈ ys,Jy dl y)/\∀(b i:Nat)(S:U),Bd B b i S->∃K,Ph (n+4) "targets_of" [.ref i,.p (.int (hd:Int)),.p (.str c),.p (.str z),.p (.tup A)] S=some (.p (.lst ys),K)/\Fr b S K:=by
 rcases hc with ⟨rfl,W⟩|⟨N,r,X,hra,rfl⟩
 .obtain⟨k,hk,ek⟩:=Bg s.hwh W;have hg:A[k]? = some (A[k]'(by lia)):=bo (by lia);generalize hv:A[k]'(by lia)=v at hg;have Z:isI v:=by rw[<- hv];exact I _ (g0 _)
  refine⟨[.tup [.tup [],.lst [v]]],0,by simp,by simp,λy R=>⟨[],[v],by simpa using R,by simp,λ_ h=>(by cases h),λt T=>by rw[b_.mp T];exact Z⟩,λb i S m=>⟨S,?_,Fr.refl _ _⟩⟩;have ef:=yx (n:=n+1) m a;obtain⟨jh,jp,jl,jm,mk,mv,h⟩:=m;have G:dQ (mT Tb (Ph (n+3))) fL "family_of" (JU kh) [qr i,qi (hd:Int),qs "who",qs z,qt A,none] S=some (.p (lL E C l u j H),S):=
   (h.meth rfl (Pn _) Pt (l:=[.p (.int (hd:Int))]) (by simp)).trans ef
  rw[ir];simp[mV,fS,-dQ,G,Rr,ek,bS hg]
 .have hs:rB r ∈ B.N:=by
   obtain⟨_,⟨f',h1,h2⟩⟩:=q.ra r X;rw[<- h2];exact JK q h1
  have M:(cH (oth B.N (rB r) hd)).length≤4:=by
   have h4:B.N.length≤4:=nW q;have:=h_ B.N (rB r)
   have:=g8 (λo=>!decide (hd=o)) (eM B.N (rB r));simp[cH,oth];lia
  have g:∀t ∈ cH (oth B.N (rB r) hd),isI t:=λt T=>by unfold cH at T;obtain⟨o,_,rfl⟩:=aU.mp T;exact⟨_,rfl⟩
  have G:∀(b i:Nat)(S:U),Bd B b i S->∃K,dQ (mT Tb (Ph (n+3))) fL "hands_beside" (Mz kh Ca) [qr i,qi (hd:Int),qs c,qs (rB r),qt A,none] S=some (.p (.lst (cH (oth B.N (rB r) hd))),K)/\Fr b S K:=λb i S m=>by obtain⟨F,D,e⟩:=Gm (n:=n+1) q m hd hs;obtain⟨jh,jp,jl,jm,mk,mv,h⟩:=m;exact⟨F,(h.meth rfl (RS _) RY (l:=[.p (.int (hd:Int)),.p (.str (rB r))]) (by simp)).trans D,e⟩
  generalize cH (oth B.N (rB r) hd)=os at M g G;rcases N with rfl|rfl
  .refine⟨[.tup [.tup [],.lst os]],0,by simp,by simp,λy R=>⟨[],os,by simpa using R,by simp,λ_ h=>(by cases h),g⟩,λb i S m=>?_⟩;obtain⟨F,D,e⟩:=G b i S m;refine⟨F,?_,e⟩;rw[ir];simp[mV,fS,-dQ,D]
  .refine⟨os.map λo=>.tup [.tup [o],.lst [o]],1,by simp,by simpa using M,λy R=>?_,λb i S m=>?_⟩
   .obtain⟨o,ho,rfl⟩:=aU.mp R;exact⟨[o],[o],rfl,by simp,λx V=>by rw[b_.mp V];exact g o ho,λx V=>by rw[b_.mp V];exact g o ho⟩
   .obtain⟨F,D,e⟩:=G b i S m;refine⟨F,?_,e⟩;have e2:bR (av 6) iz (aK (v2 (aK (v1 k_)) (bu (v1 k_)))) os [qr i,qi (hd:Int),qs "any",qs (rB r),qt A,ql os,none] F=some (os.map λo=>.tup [.tup [o],.lst [o]],F):=by
     rw[di (p:=λ_=>true) (f:=λo=>.tup [.tup [o],.lst [o]]) (Inv:=λL=>∃d,L=[qr i,qi (hd:Int),qs "any",qs (rB r),qt A,ql os,d]) (λv hv L Q=>?_) ⟨none,rfl⟩,iQ];obtain⟨d,rfl⟩:=Q;exact⟨[qr i,qi (hd:Int),qs "any",qs (rB r),qt A,ql os,qp v],rfl,⟨_,rfl⟩,rfl,λ_=>by simp⟩
    have hq:os.length≤1000000:=by lia
    rw[ir];simp[mV,fS,-dQ,D,cx,hq,nw,e2]
def Of(y:P):Prop:=∃s p:Nat,y=.tup [.int (s:Int),.int (p:Int)]
theorem Nh{n:Nat}{r:List P}{E:Str}{C:Nat}{l u j H:List P}(s:Fam r E C l u j H){A:List P}(hw:A.length=j.length){Q:P->Prop}(I:∀w ∈ A,Q w){t y:P}(g:jW E r j t)(S:(t=.non/\y=.non)\/(t≠.non/\∃x p:Nat,y=.tup [.int (x:Int),.int (p:Int)]/\Q (.int (x:Int)))) :
  ∃e,e.length=j.length/\(∀w ∈ e,Q w)/\cI (Ph (n+3) "whos_behind") [lL E C l u j H,.tup A,t,y]=some (.tup e):=by
 rcases g with rfl|⟨m,a,i,b,_,_,_,_,_,o,rfl⟩
 .refine⟨A,hw,I,?_⟩;rw[gL,aS];simp[eZ,vK,eC]
 .obtain⟨x,p,rfl,d⟩:∃x p:Nat,y=.tup [.int (x:Int),.int (p:Int)]/\Q (.int (x:Int)):=by
   rcases S with ⟨q,_⟩|⟨_,q⟩
   .cases q
   .exact q
  by_cases f:b=""
  .refine⟨A,hw,I,?_⟩;rw[gL,aS];simp[eZ,vK,eC,f]
  .obtain⟨k,hk,c⟩:=Bg s.hwh (o.resolve_left f);have z:=s.wl;have v:=qD (n:=n) (xs:=A) (k:=k) (by lia) (by lia) (.int (x:Int));refine⟨A.set k (.int (x:Int)),by rw[db];exact hw,λw h=>?_,?_⟩
   .rcases List.mem_or_eq_of_mem_set h with h|rfl
    .exact I w h
    .exact d
   .rw [gL,aS];simp[eZ,vK,eC,f,Rr,c,v]
theorem vp(x:b0)(y:P):∀(n:List b0)(c:List P),n.Nodup->n.length=c.length->∃s a,rg x (.p y) n (c.map .p)=(s,a.map .p)/\s.Nodup/\s.length=a.length/\s.length≤n.length+1/\(∀k ∈ s,k=x\/k ∈ n)/\∀k,bW k s a=if x=k then some y else bW k n c
 | [],[],_,_=>⟨[x],[y],rfl,by simp,rfl,by simp,λk h=>.inl (by simpa using h),λk=>by by_cases q:x=k<;>simp[bW,q]⟩
 | [],_::_,_,h=>by simp at h
 |_::_,[],_,h=>by simp at h
 |f::n,v::c,m,l=>by
  obtain⟨hk,m⟩:=bP.mp m;by_cases q:f=x
  .refine⟨f::n,y::c,by simp[rg,q],bP.mpr ⟨hk,m⟩,by simpa using l,by simp,λk h=>.inr h,λk=>?_⟩;subst q;by_cases b:f=k
   .simp [bW,b]
   .simp [bW,b]
  .obtain⟨s,a,e,p,d,u,r,w⟩:=vp x y n c m (by simpa using l);refine⟨f::s,v::a,by simp[rg,q,e],bP.mpr ⟨λz=>?_,p⟩,by simp[d],by simp;lia,λk h=>?_,λk=>?_⟩
   .rcases r f z with z|z
    .exact q z
    .exact hk z
   .rcases aN.mp h with rfl|h
    .exact .inr aH
    .rcases r k h with h|h
     .exact .inl h
     .exact .inr (aG _ h)
   .show (if f=k then some v else bW k s a)=_;by_cases b:f=k
    .subst b;have:¬x=f:=λz=>q z.symm
     simp[bW,this]
    .rw [af b,w];by_cases t:x=k
     .simp [t]
     .simp [t,bW,b]
structure Giv(gk:List b0)(gv:List P):Prop where
 nd:gk.Nodup
 ln:gk.length=gv.length
 le:gk.length≤100
 iv:∀k v,bW k gk gv=some v->isI v
theorem Giv.put(h:Giv b c)(l:b.length≤99)(y:b0)(i:Int):∃g x,rg y (.p (.int i)) b (c.map .p)=(g,x.map .p)/\Giv g x/\g.length≤b.length+1:=by
 obtain⟨s,n,e,f,m,r,p,t⟩:=vp y (.int i) b c h.nd h.ln;refine⟨s,n,e,⟨f,m,by lia,λk v a=>?_⟩,r⟩;rw[t]at a;split at a
 .cases a;exact⟨_,rfl⟩
 .exact h.iv k v a
theorem Bn{o:EE}{k v:EV}{L:Lc}{S s:U}{j:Nat}{n:List b0}{f:List P}{x:Str}{i:Int}(h:Giv n f)(l:n.length≤99)(p:v L S=some (.int i,s))(t:o L s=some (.ref j,s))(hk:k L s=some (.str x,s))(r:s[j]? = some (.dct n (f.map .p))):∃g a,Giv g a/\g.length≤n.length+1/\jd o k v L S=some (.nx,L,s.set j (.dct g (a.map .p))):=by
 obtain⟨g,a,e,c,m⟩:=h.put l (.inr x) i;refine⟨g,a,c,m,?_⟩;have b:xW o k v L S=some (.nx,L,s.set j (.dct g (a.map .p))):=by unfold xW;rw[p,ak,t,ak,hk,ak];simp only[mN,r,cR];rw[ac ⟨h.nd,by rw[qW];lia⟩,e]
 unfold jd;rw[b]
theorem sE{k:b0}:∀{s:List b0}{x:List P},CQ k s=false->bW k s x=none
 | [],_,_=>by cases ‹List P›<;>rfl
 |_::_,[],_=>rfl
 |a::s,v::x,h=>by unfold CQ at h;rw[dv,As]at h;show(if a=k then some v else bW k s x)=none;rw[af (of_decide_eq_false h.1)];exact sE h.2
noncomputable abbrev fA(x:Str)(m w t:P)(c s:List P)(r:P):P:=.tup [.str x,m,w,t,.lst c,.lst s,r]
theorem qx(a b c d e f g:P):L2.atI [a,b,c,d,e,f,g] 3=some d:=bE (by decide) rfl
theorem Gz(a b c d e f g:P):L2.atI [a,b,c,d,e,f,g] 4=some e:=bE (by decide) rfl
theorem NE(a b c d e f g:P):L2.atI [a,b,c,d,e,f,g] 5=some f:=bE (by decide) rfl
theorem Ec(a b c d e f g:P):L2.atI [a,b,c,d,e,f,g] 6=some g:=bE (by decide) rfl
theorem RZ(a b c d e f:P):L2.atI [a,b,c,d,e,f] 2=some c:=bE (by decide) rfl
theorem S6(a b c d e f:P):L2.atI [a,b,c,d,e,f] 5=some f:=bE (by decide) rfl
theorem Bm{lo h a i:Int}(e:lo≤i)(s:i≤h):P.int i ∈ oJ (.tup [x,.int lo,.int h,.int a]):=by
 unfold oJ;refine aU.mpr ⟨(i-lo).toNat,iF.mpr ?_,?_⟩
 .simp;lia
 .simp;lia
theorem Mi{B W:Str->GF}{f st u:P}{b a:List P}{s:List b0}{g:List P}(G:Giv s g){o:SO}(C:o=.dct s (g.map .p)\/o=.fz (.dct s g)){k:Nat}{c:P}(I:isCel c){z:P}(t:b[k]? = some z)(F:Oh z)(K:z ∈ oJ c)(V:a.length≤1000)(p d q:Option D) :
  (∃L,bf B [qp f,qt b,qp st,qp u,qr 0,p,d,qr 1,qi (k:Int),qp c,q] [o,.lst (a.map .p)]=some (.rt (.p .non),L,[.fz (.dct s g),.lst (a.map .p)])) \/
  ∃i:Int,i.natAbs≤999/\P.int i ∈ oJ c/\bf B [qp f,qt b,qp st,qp u,qr 0,p,d,qr 1,qi (k:Int),qp c,q] [o,.lst (a.map .p)]=some (.nx,[qp f,qt b,qp st,qp u,qr 0,p,d,qr 1,qi (k:Int),qp c,qi i],[.fz (.dct s g),.lst ((a++[P.int i]).map .p)]):=by
 obtain⟨x,lo,H,j,_,N,Q,R,T,rfl⟩:=I;obtain⟨A,S,rfl⟩:=F;have w:toP 9 (.ref 0) [o,.lst (a.map .p)]=some (.dct s g,[.fz (.dct s g),.lst (a.map .p)]):=by
  rcases C with rfl|rfl
  .have:uX (toP 8) (g.map .p) [SO.dct s (g.map .p),.lst (a.map .p)]=some (g,[SO.dct s (g.map .p),.lst (a.map .p)]):=mP ..;simp[toP,this]
  .rfl
 have M:isI ((bW (.inr x) s g).getD (.int A)):=by
  cases e:bW (.inr x) s g with
  |none=>exact⟨A,rfl⟩
  |some v=>exact G.iv _ v e
 obtain⟨n,h⟩:=M;have l:a.length≤1000000:=by lia
 cases hk:CQ (.inr x) s with
 |false=>
  have m:n=A:=by rw[sE hk]at h;exact(P.int.inj h).symm
  right;refine⟨n,by rw[m];exact S,by rw[m];exact K,?_⟩;rw[<- dM];simp[bf,w,cR,bS t,h,wL,L3,MF,lv,hk,dw,l]
 |true=>
  by_cases r:lo≤n/\n≤H
  .right;refine⟨n,by lia,Bm r.1 r.2,?_⟩;rw[<- dM];simp[bf,w,cR,bS t,h,wL,L3,MF,lv,hk,dw,l,r.1,r.2]
  .left;refine⟨[qp f,qt b,qp st,qp u,qr 0,p,d,qr 1,qi (k:Int),qt [.str x,.int lo,.int H,.int j],qi n],?_⟩;by_cases y:lo≤n
   .have E:¬n≤H:=λz=>r ⟨y,z⟩;simp[bf,w,cR,bS t,h,wL,L3,MF,lv,hk,y,E]
   .simp [bf,w,cR,bS t,h,wL,L3,MF,lv,hk,y]
theorem B4{B V:Str->GF}{f st F:P}{n:List P}(w:∀c ∈ n,Oh c){K:List b0}{A:List P}(R:Giv K A)(u g:Option D):∀{l:List P}{k:Nat},(∀c ∈ l,isCel c)->(∀(i:Nat) c v,l[i]? = some c->n[k+i]? = some v->v ∈ oJ c)->k+l.length=n.length->∀{b:SO},(b=.dct K (A.map .p)\/b=.fz (.dct K A))->∀{a:List P},a.length=k->n.length≤1000->∀(H S q:Option D),
  (∃L C,bZ (bD [av 8,av 9]) (bf B) (cq (k:Int) l) [qp f,qt n,qp st,qp F,qr 0,u,g,qr 1,H,S,q] [b,.lst (a.map .p)]=some (.rt (.p .non),L,C)) \/
  ∃y m r s o,y.length=l.length/\((∀c ∈ y,Oh c)/\Sa l y)/\bZ (bD [av 8,av 9]) (bf B) (cq (k:Int) l) [qp f,qt n,qp st,qp F,qr 0,u,g,qr 1,H,S,q] [b,.lst (a.map .p)]=some (.nx,[qp f,qt n,qp st,qp F,qr 0,u,g,qr 1,m,r,s],[o,.lst ((a++y).map .p)])
 | [],k,_,_,_,b,_,a,_,_,H,S,q=>.inr ⟨[],H,S,q,b,rfl,⟨λ_ h=>(by cases h),λ_ _ _ h=>(by cases h)⟩,by simp[cq,bZ]⟩
 |c::l,k,T,d,hk,b,X,a,ha,hl,H,S,q=>by
  simp only[aV]at hk;have t:n[k]? = some (n[k]'(by lia)):=bo (by lia);unfold cq;rcases Mi (B:=B) (W:=V) (f:=f) (st:=st) (u:=F) (a:=a) R X (T c aH) t (w _ (g0 _)) (d 0 c _ rfl (by rw[Nat.add_zero];exact t)) (by lia) u g q with ⟨L,e⟩|⟨i,Z,M,e⟩
  .exact .inl ⟨_,_,wN rfl e⟩
  .rcases B4 (B:=B) (V:=V) (f:=f) (st:=st) (F:=F) w R u g (l:=l) (k:=k+1) (λx hx=>T x (aG _ hx)) (λj c v E G=>d (j+1) c v (by simpa using E) (by rw[<- G];congr 1;lia)) (by lia) (b:=.fz (.dct K A)) (.inr rfl) (a:=a++[.int i]) (by simp;lia) hl (qi (k:Int)) (qp c) (qi i) with ⟨L,C,p⟩|⟨y,m,r,s,o,E,⟨G,I⟩,p⟩
   .rw [jv]at p;exact .inl ⟨L,C,(cm rfl e).trans p⟩
   .rw [jv]at p;refine .inr ⟨.int i::y,m,r,s,o,by simp[E],⟨λz t=>?_,λj W v N Q=>?_⟩,?_⟩
    .rcases aN.mp t with rfl|t
     .exact⟨i,Z,rfl⟩
     .exact G z t
    .cases j with
     |zero=>cases N;cases Q;exact M
     |succ j=>exact I j W v (by simpa using N) (by simpa using Q)
    .rw [show a++.int i::y=a++[.int i]++y by simp];exact(cm rfl e).trans p
theorem OU{X j:List P}{E:Str}{A:P}(W:jW E X j A){K:List b0}{V:List P}(f:kL (more A) K V){g:List b0}{s:List P}(I:Giv g s)(T:g.length≤99)(h p H B r:P)(x:Str)(c F:List P)(d u l y z q:Option D) :
  ∃b t,Giv b t/\dI (kJ (bV (dH dB (O (ae f6 hU)) (O (vC (.non))))) (j9 (O (ae (ae f6 hU) fX)) (O (vt "")))) (jd A6 (ae (ae f6 hU) fX) (ae fZ (vt "it"))) fY [qp h,qp p,qp (fA x H B A c F r),qp (.dct K V),qr 0,d,u,l,y,z,q] [.dct g (s.map .p)]=some (.nx,[qp h,qp p,qp (fA x H B A c F r),qp (.dct K V),qr 0,d,u,l,y,z,q],[.dct b (t.map .p)]):=by
 rcases W with rfl|⟨m,a,n,w,_,_,_,_,_,_,rfl⟩
 .exact⟨g,s,I,by simp[qx,dB,eC]⟩
 .by_cases M:n=""
  .exact⟨g,s,I,by simp[qx,dB,eC,M]⟩
  .obtain⟨i,_,N⟩:=f "it" (by simp[more]);obtain⟨C,G,Q,Z,e⟩:=Bn (o:=aj 4) (k:=ae (ae f6 hU) fX) (v:=ae fZ (vt "it")) (L:=[qp h,qp p,qp (fA x H B (.tup [.str m,.str a,.str n,.str w]) c F r),qp (.dct K V),qr 0,d,u,l,y,z,q]) (S:=[.dct g (s.map .p)]) I T (i:=i) (s:=[.dct g (s.map .p)]) (x:=n) (by simp[N]) rfl (by simp[qx]) rfl;refine⟨C,G,Q,?_⟩;rw[dI];have R:(kJ (bV (dH dB (O (ae f6 hU)) (O (vC (.non))))) (j9 (O (ae (ae f6 hU) fX)) (O (vt "")))) [qp h,qp p,qp (fA x H B (.tup [.str m,.str a,.str n,.str w]) c F r),qp (.dct K V),qr 0,d,u,l,y,z,q] [.dct g (s.map .p)]=some (true,[.dct g (s.map .p)]):=by simp[qx,dB,eC,M]
   rw[R];exact e
theorem OT{n:Nat}{rs:List P}{E:Str}{C:Nat}{l u j H:List P}(s:Fam rs E C l u j H){X:List P}(hc:CellsOk u X){x:Str}{Q T w:P}{a R:List P}{m:P}(hS:Stp E l u j rs Q T w a R m){K:List b0}{V:List P}(f:kL (nQ u++more w) K V) :
  ∃q:P,(q=.non\/∃F,CellsOk u F/\q=.tup F)/\cI (Ph (n+6) "cells_behind") [lL E C l u j H,.tup X,fA x Q T w a R m,.dct K V]=some q:=by
 have p:∀x ∈ nQ u++more w,j' x:=λx hx=>(bA.mp hx).elim (qI s.hce.1 x) (uV w x);have hcl:=hS.cl;have hc3:=s.cl;have hcn:=hc.1;let A:List (Option D):=[qp (lL E C l u j H),qt X,qp (fA x Q T w a R m),qp (.dct K V),qr 0]
 let Inv:Nat->Lc->U->Prop:=λi L S=>∃(d:List b0)(z:List P)(M N:Option D),Giv d z/\d.length≤i/\L=A++[M,N,none,none,none,none]/\S=[.dct d (z.map .p)]
 obtain⟨L',S',e1,d,z,M,N,hG,hgl,rfl,rfl⟩:=dh (g:=bD [av 5,av 6]) (b:=gW (Ph (n+5))) (Inv:=Inv) (s:=a) (k:=0) (L:=A++[none,none,none,none,none,none]) (S:=[.dct [] []]) (λi v L S hv hI=>by obtain⟨d,z,M,N,hG,hgl,rfl,rfl⟩:=hI;have hi:=bB hv;obtain⟨y,t,_,ht,rfl⟩:=hS.ch v (a8 hv);obtain⟨r,er⟩:=qc p f ht (n:=n+1);obtain⟨gk',gv',I,Z,e⟩:=Bn (o:=aj 4) (k:=vv 5) (v:=cB (Ph (n+5) "value_of") (v2 k_ fZ)) (L:=A++[qs y,qp t,none,none,none,none]) (S:=[.dct d (z.map .p)]) hG (by lia) (i:=r) (s:=[.dct d (z.map .p)]) (by simp[A,er]) rfl rfl rfl;exact⟨_,_,_,rfl,e,gk',gv',_,_,I,by lia,rfl,rfl⟩) ⟨[],[],none,none,⟨by simp,rfl,by simp,λk v h=>by cases h⟩,by simp,rfl,rfl⟩
 simp only[A,pi,eR]at e1;obtain⟨gk2,gv2,hG2,e2⟩:=OU hS.htk (λx hx=>f x (eS _ hx)) hG (by lia) (lL E C l u j H) (.tup X) Q T m x a R M N none none none none;have G:=B4 (B:=Ph (n+5)) (V:=Ph (n+4)) (f:=lL E C l u j H) (st:=fA x Q T w a R m) (F:=.dct K V) hc.2.1 hG2 M N (l:=u) (k:=0) s.hce.1 (λi c v I Z=>hc.2.2 i c v I (by rwa [fG]at Z)) (by lia) (.inl rfl) (a:=[]) rfl (by lia) none none none;rw[show((0:Nat):Int)=0 from rfl]at G;rcases G with ⟨L',S',B⟩|⟨W,q8',q9',q10',o,I,Z,B⟩
 .refine⟨.non,.inl rfl,?_⟩;rw[js,aS];simp only[dY]at B;simp[-dI,gi,oB,Gz,e1,e2,MS,B]
 .refine⟨.tup W,.inr ⟨W,⟨I,Z⟩,rfl⟩,?_⟩;rw[js,aS];simp only[dY,eR]at B;have t1:toP 9 (.ref 1) [o,.lst (W.map .p)]=some (.lst W,[o,.fz (.lst W)]):=gu rfl;simp[-dI,gi,oB,Gz,e1,e2,MS,B,t1,eY]
def ou(B:BD)(t:Nat)(y:P):Prop:=∃s r,y=.tup [.tup s,.tup r]/\s.length=t/\(∀a ∈ s,isI a)/\bU B r
structure GS(B:BD)(K:List b0)(V:List P) extends GC B where
 kv:Nat
 hkv:b≤kv
 hk:S0[kv]? = some (.fz (.dct K V))
abbrev FL(i k r:Nat)(hd t m A:P)(d f b c q h:Option D)(x a e s n:Option D):Lc:=[qr i,qp hd,qp t,qr k,qp m,qp A,d,f,b,c,q,h,qr r,x,a,e,s,n]
theorem Ss{B:BD}(q:BP B)(Q:Places B){n:Nat}{K:List b0}{V:List P}(hd:Nat)(v:Int){m:Str}(hm:aW m=true)(hA:LH B hd (.tup [.str m,.int v])){t:Nat}(ht:t≤10){k:List P}(has:k.length=t)(X:∀a ∈ k,isI a){r:List P}(hr:bU B r)(C F A:P)(l o H x:Option D){dl:Nat}(hdl:dl≤1){y:P}(hy:Jy dl y) :
  ∃ys:List P,ys.length≤1/\(∀z ∈ ys,ou B (t+dl) z)/\∀(G:GS B K V)(L:Lc)(S:U)(c:List P),(∃d i j s,L=FL G.i G.kv G.r (.int (hd:Int)) C F A d l o H x (qt [.str m,.int v]) (qt k) (qt r) i j s)->Fr G.b G.S0 S->S[G.r]? = some (.lst (c.map .p))->c.length+1≤1000 ->
   ∃L1 L2 w,bD [av 15,av 16] y L=some L1/\gO (Ph (n+3)) L1 S=some (.nx,L2,w)/\(∃d i j s,L2=FL G.i G.kv G.r (.int (hd:Int)) C F A d l o H x (qt [.str m,.int v]) (qt k) (qt r) i j s)/\Fr G.b G.S0 w/\w[G.r]? = some (.lst ((c++ys).map .p)):=by
 obtain⟨f,E,rfl,hbl,Z,hti⟩:=hy;obtain⟨ans,T,ep⟩:=HU q Q (n:=n) hd v hm hA hti hr;have N:=jt (xs:=k) (c:=f) (by lia);rcases T with rfl|⟨p,hr',rfl⟩
 .refine⟨[],by simp,λ_ h=>(by cases h),λG L S c I R W hM=>?_⟩;obtain⟨d,i,j,s,rfl⟩:=I;obtain⟨w,e,u⟩:=Gf (b:=G.b) (g:=Ph (n+3) "posted") (q:=JT fL (aj 14) kh (aj 16) (aj 11)) (L:=FL G.i G.kv G.r (.int (hd:Int)) C F A d l o H x (qt [.str m,.int v]) (qt k) (qt r) (qt f) (ql E) s) (S:=S) (l:=[.ref G.i,.p (.tup r),.p (.int (hd:Int)),.p (.lst E),.p (.tup [.str m,.int v])]) rfl (ep G.b G.i S (G.bd.fr R)) (Fr.refl _ _);refine⟨FL G.i G.kv G.r (.int (hd:Int)) C F A d l o H x (qt [.str m,.int v]) (qt k) (qt r) (qt f) (ql E) s,FL G.i G.kv G.r (.int (hd:Int)) C F A d l o H x (qt [.str m,.int v]) (qt k) (qt r) (qt f) (ql E) (qp .non),w,rfl,?_,⟨_,_,_,_,rfl⟩,R.trans u,?_⟩
  .refine (aq (e:=FL G.i G.kv G.r (.int (hd:Int)) C F A d l o H x (qt [.str m,.int v]) (qt k) (qt r) (qt f) (ql E) (qp .non)) (c:=w) ?_).trans ?_
   .rw [aD,O,e];rfl
   .simp [dB,eC]
  .rw [cP];exact u.hi _ _ (au G.le G.hr) W
 .refine⟨[.tup [.tup (k++f),.tup p]],by simp,λz hz=>⟨k++f,p,by simpa using hz,by rw[aZ];lia,λa ha=>(bA.mp ha).elim (X a) (Z a),hr'⟩,λG L S c I R W hM=>?_⟩;obtain⟨d,i,j,s,rfl⟩:=I;obtain⟨w,e,u⟩:=Gf (b:=G.b) (g:=Ph (n+3) "posted") (q:=JT fL (aj 14) kh (aj 16) (aj 11)) (L:=FL G.i G.kv G.r (.int (hd:Int)) C F A d l o H x (qt [.str m,.int v]) (qt k) (qt r) (qt f) (ql E) s) (S:=S) (l:=[.ref G.i,.p (.tup r),.p (.int (hd:Int)),.p (.lst E),.p (.tup [.str m,.int v])]) rfl (ep G.b G.i S (G.bd.fr R)) (Fr.refl _ _);have M:=u.hi _ _ (au G.le G.hr) W;refine⟨FL G.i G.kv G.r (.int (hd:Int)) C F A d l o H x (qt [.str m,.int v]) (qt k) (qt r) (qt f) (ql E) s,FL G.i G.kv G.r (.int (hd:Int)) C F A d l o H x (qt [.str m,.int v]) (qt k) (qt r) (qt f) (ql E) (qt p),w.set G.r (.lst ((c++[P.tup [.tup (k++f),.tup p]]).map .p)),rfl,?_,⟨_,_,_,_,rfl⟩,(R.trans u).set G.le G.hr _,kt M⟩;refine(aq (e:=FL G.i G.kv G.r (.int (hd:Int)) C F A d l o H x (qt [.str m,.int v]) (qt k) (qt r) (qt f) (ql E) (qt p)) (c:=w) ?_).trans ?_
  .rw [aD,O,e];rfl
  .rw [dI];have hc:(bV (dH dB (aj 17) (O (vC .non)))) (FL G.i G.kv G.r (.int (hd:Int)) C F A d l o H x (qt [.str m,.int v]) (qt k) (qt r) (qt f) (ql E) (qt p)) w=some (true,w):=by simp[dB,eC]
   rw[hc,ak,ac rfl];exact pO rfl M (by simp[N]) M (by lia)
theorem Sr{B:BD}(q:BP B)(Q:Places B){n:Nat}{K:List b0}{V:List P}{hd:Nat}{E:Str}{C:Nat}{l u j H:List P}(s:Fam B.roads E C l u j H)(a:(bq B.fams)[hd]? = some (lL E C l u j H)){A:List P}(hw:A.length=j.length)(I:∀w ∈ A,isI w){h e:Str}
  (hc:(h="who"/\P.str e ∈ j)\/((h="all"\/h="any")/\∃r ∈ B.roads,rA r=E/\e=rB r)) (v:Int) {m:Str} (hm:aW m=true) (hA:LH B hd (.tup [.str m,.int v])) {t:Nat} (ht:t≤10) (sn Z:P) (T X:Option D) {W:List P} (hW:∀y ∈ W,ou B t y) :
  ∃(ys:List P)(dl:Nat),dl≤1/\ys.length≤4 * W.length/\(∀z ∈ ys,ou B (t+dl) z)/\∀(G:GS B K V)(L:Lc)(S:U)(F:List P),(∃N i o k p d,L=FL G.i G.kv G.r (.int (hd:Int)) sn Z (.tup A) N T X (qs h) (qs e) (qt [.str m,.int v]) i o k p d)->Fr G.b G.S0 S->S[G.r]? = some (.lst (F.map .p))->F.length+4 * W.length≤1000 ->
   ∃L' S',bZ (bD [av 13,av 14]) (ff (Ph (n+4))) W L S=some (.nx,L',S')/\(∃N i o k p d,L'=FL G.i G.kv G.r (.int (hd:Int)) sn Z (.tup A) N T X (qs h) (qs e) (qt [.str m,.int v]) i o k p d)/\Fr G.b G.S0 S'/\S'[G.r]? = some (.lst ((F++ys).map .p)):=by
 obtain⟨tg,dl,hdl,h1,h2,h3⟩:=tg_ok q (n:=n) s a hw I hc;obtain⟨f,f1,f2,f3⟩:=dP (t:=GS B K V) (c:=4) (M:=1000) (g:=bD [av 13,av 14]) (b:=ff (Ph (n+4))) (s:=W) (Sp:=fun G S=>Fr G.b G.S0 S) (r:=fun G=>G.r) (R:=fun _ ys=>∀z ∈ ys,ou B (t+dl) z) (p:=fun G L=>∃N i o k p d,L=FL G.i G.kv G.r (.int (hd:Int)) sn Z (.tup A) N T X (qs h) (qs e) (qt [.str m,.int v]) i o k p d) (fun x hx=>by
  obtain⟨as,rs,rfl,ha1,ha2,hr⟩:=hW x hx;obtain⟨g,k1,k2,k3⟩:=dP (t:=GS B K V) (c:=1) (M:=1000) (g:=bD [av 15,av 16]) (b:=gO (Ph (n+4))) (s:=tg) (Sp:=λG S=>Fr G.b G.S0 S) (r:=λG=>G.r) (R:=λ_ ys=>∀z ∈ ys,ou B (t+dl) z) (p:=λG L=>∃N k p d,L=FL G.i G.kv G.r (.int (hd:Int)) sn Z (.tup A) N T X (qs h) (qs e) (qt [.str m,.int v]) (qt as) (qt rs) k p d)
   (λy hy=>by exact Ss q Q (n:=n+1) (K:=K) (V:=V) hd v hm hA ht ha1 ha2 hr sn Z (.tup A) T X (qs h) (qs e) hdl (h2 y hy))
  refine⟨tg.flatMap g,by lia,λz hz=>?_,λG L S F hLp fr hS hM=>?_⟩
  .obtain⟨y,hy,hz⟩:=bQ.mp hz;exact k2 y hy z hz
  obtain⟨N,i,o,k,p,d,rfl⟩:=hLp;obtain⟨S1,e1,fr1⟩:=h3 G.b G.i S (G.bd.fr fr);obtain⟨S2,e2,fr2⟩:=Gf (b:=G.b) (g:=Ph (n+4) "targets_of") (q:=JT fL kh (aj 9) oI (aj 5)) (L:=FL G.i G.kv G.r (.int (hd:Int)) sn Z (.tup A) N T X (qs h) (qs e) (qt [.str m,.int v]) (qt as) (qt rs) k p d) (S:=S) (l:=[.ref G.i,.p (.int (hd:Int)),.p (.str h),.p (.str e),.p (.tup A)]) rfl e1 fr1;obtain⟨L',S',e3,hL',fr3,h4⟩:=k3 G _ S2 F ⟨N,k,p,d,rfl⟩ (fr.trans fr2) (fr2.hi _ _ (au G.le G.hr) hS) (by lia);obtain⟨d6',q15',q16',q17',rfl⟩:=hL';refine⟨FL G.i G.kv G.r (.int (hd:Int)) sn Z (.tup A) N T X (qs h) (qs e) (qt [.str m,.int v]) (qt as) (qt rs) k p d,FL G.i G.kv G.r (.int (hd:Int)) sn Z (.tup A) d6' T X (qs h) (qs e) (qt [.str m,.int v]) (qt as) (qt rs) q15' q16' q17',S',rfl,?_,⟨_,_,_,_,_,_,rfl⟩,fr3,h4⟩;unfold ff;rw[cf,i5,e2];exact e3)
 refine⟨W.flatMap f,dl,hdl,f1,λz hz=>?_,f3⟩;obtain⟨x,hx,hz⟩:=bQ.mp hz;exact f2 x hx z hz
theorem D6(r:Fr b x S)(e:b≤x.length)(h:rK x S d W):∃a,toP 9 d (S++[.lst []])=some (.lst W,a)/\Fr b x a/\a[S.length]? = some (.lst []):=by
 have f:=r.trans (Fr.app b S [.lst []]);rcases h with rfl|⟨k,hk,rfl,h⟩
 .exact⟨_,by simp,f,gB _ _⟩
 .have l:=h.lt;refine⟨_,(h.fr (Fr.app b S [.lst []])).frz,f.set e hk _,?_⟩;rw[aP (by lia)];exact gB _ _
section
variable{B:BD}(q:BP B)(Q:Places B){n:Nat}{K:List b0}{V:List P}{hd:Nat}{E:Str}{C:Nat}{l u j H:List P}(s:Fam B.roads E C l u j H)(a:(bq B.fams)[hd]? = some (lL E C l u j H)){A:List P}(hw:A.length=j.length)(I:∀w ∈ A,isI w){N:List P}(p:∀x ∈ N,j' x)(f:kL N K V)
include q Q s a hw I p f
theorem RQ(h rd:P):∀{sn:List P},(∀c ∈ sn,isSend E B.roads j N c/\∀v k,cI (Ph (k+4) "value_of") [gE c 1,.dct K V]=some (.int v)->LH B hd (.tup [gE c 0,.int v]))->∀{t:Nat},t+sn.length≤10->∀{W:List P},(∀y ∈ W,ou B t y)->4 ^ sn.length * W.length≤900 ->
  ∃(ys:List P)(T:Nat),T≤t+sn.length/\ys.length≤4 ^ sn.length * W.length/\(∀y ∈ ys,ou B T y)/\∀(b i:Nat)(z S:U)(e:Nat)(G:D)(q7 q8 q9 q10 H F d w u g l:Option D),Bd B b i z->b≤e->z[e]? = some (.fz (.dct K V))->Fr b z S->rK z S G W ->
   ∃L' S' d',bZ (bD [av 7,av 8,av 9,av 10]) (gN (Ph (n+5))) sn [qr i,qi (hd:Int),qp h,qr e,qp rd,qt A,some G,q7,q8,q9,q10,H,F,d,w,u,g,l] S=some (.nx,L',S')/\L'[6]? = some (some d')/\Fr b z S'/\rK z S' d' ys
 | [],_,t,_,W,hW,_=>⟨W,t,by simp,by simp,hW,λb i z S e G q7 q8 q9 q10 H F d w u g l _ _ _ fr ha=>⟨_,S,G,rfl,rfl,fr,ha⟩⟩
 |c::sn,hs,t,ht,W,hW,hWl=>by
  simp only[aV]at ht;rw[aV,pa,pb]at hWl;have h4:4 * W.length≤900:=au (Nat.le_mul_of_pos_left _ (Nat.pow_pos (by decide))) hWl;obtain⟨⟨m,tr,C,o,hm,_,hsum,hcw,rfl⟩,hA⟩:=hs c aH;obtain⟨v,ev⟩:=qc p f hsum (n:=n+1);obtain⟨ys,dl,hdl,h1,h2,h3⟩:=Sr q Q (n:=n+1) (K:=K) (V:=V) s a hw I hcw v hm (hA v _ ev) (t:=t) (by lia) h rd (qs m) (qp tr) hW;obtain⟨zs,T,hT,k1,k2,k3⟩:=RQ h rd (sn:=sn) (λx hx=>hs x (aG _ hx)) (t:=t+dl) (by lia) (W:=ys) h2 (au (pc _ h1) hWl);refine⟨zs,T,by simp only[aV];lia,?_,k2,λb i z S e G q7 q8 q9 q10 H F d w u g l hB hkv hk fr ha=>?_⟩
  .rw [aV,pa,pb];exact au k1 (pc _ h1)
  .obtain⟨S1,e1,fr1,hS1⟩:=D6 fr hB.le ha;obtain⟨L2,S2,e2,⟨d6',L,M,R,X,Z,rfl⟩,fr2,hS2⟩:=h3 { b:=b,i:=i,S0:=z,r:=S.length,bd:=hB,hr:=fr.len,kv:=e,hkv:=hkv,hk:=hk } (FL i e S.length (.int (hd:Int)) h rd (.tup A) (some G) (qs m) (qp tr) (qs C) (qs o) (qt [.str m,.int v]) d w u g l) S1 [] ⟨_,_,_,_,_,_,rfl⟩ fr1 hS1 (by simp;lia);obtain⟨L',S',d',e3,h5,fr3,ha3⟩:=k3 b i z S2 e (.ref S.length) (qs m) (qp tr) (qs C) (qs o) (qt [.str m,.int v]) (qr S.length) L M R X Z hB hkv hk fr2 (.inr ⟨S.length,fr.len,rfl,.inl hS2⟩);refine⟨L',S',d',?_,h5,fr3,ha3⟩;refine(cm (h:=[qr i,qi (hd:Int),qp h,qr e,qp rd,qt A,some G,qs m,qp tr,qs C,qs o,H,F,d,w,u,g,l]) rfl ?_).trans e3;have tv:toP 9 (.ref e) S=some (.dct K V,S):=by
    have:=fr.hi _ _ hkv hk;simp[toP,this]
   unfold gN;rw[aq (by simp[tv,ev];exact⟨rfl,rfl⟩)];rw[aq (by simp;exact⟨rfl,rfl⟩)];refine(aq (e:=FL i e S.length (.int (hd:Int)) h rd (.tup A) d6' (qs m) (qp tr) (qs C) (qs o) (qt [.str m,.int v]) L M R X Z) (c:=S2) ?_).trans ?_
   .rw [cf,i5];show bG (bG (toP 9 G (S++[.lst []])) _) _=_;rw[e1];exact e2
   .rfl
theorem NH(R:∀c ∈ g,isSend E B.roads j N c/\∀v k,cI (Ph (k+4) "value_of") [gE c 1,.dct K V]=some (.int v)->LH B hd (.tup [gE c 0,.int v]))(l:g.length≤3)(M:bU B r) :
  ∃(w:List P)(T:Nat),w.length≤64/\(∀y ∈ w,ou B T y)/\∀(b i:Nat)(S:U)(m:Nat),Bd B b i S->b≤m->S[m]? = some (.fz (.dct K V)) ->
   ∃d x,Ph (n+6) "sendings" [.ref i,.p (.int (hd:Int)),.p (.lst g),.ref m,.p (.tup r),.p (.tup A)] S=some (d,x)/\Fr b S x/\rK S x d w:=by
 have hp:4 ^ g.length≤64:=by have:=tY (show 0 < 4 by decide) l;simpa using this
 obtain⟨w,T,_,H,F,C⟩:=RQ q Q (n:=n) s a hw I p f (.lst g) (.tup r) R (t:=0) (by lia) (W:=[.tup [.tup [],.tup r]]) (λy X=>⟨[],r,by simpa using X,by simp,λ_ h=>(by cases h),M⟩) (by simp;lia);simp only[pC,Nat.mul_one]at H;refine⟨w,T,by lia,F,λb i S m G u hk=>?_⟩
 .obtain⟨Z,x,z,e,D,o,L⟩:=C b i S S m (.p (.lst [.tup [.tup [],.tup r]])) none none none none none none none none none none none G u hk (Fr.refl _ _) (.inl rfl);refine⟨z,x,?_,o,L⟩;rw[va];simp[mV,nh,e,D]
end
end My
namespace My
open PySem L2 Ev
def WH(B:BD)(hd:Nat)(w:P):Prop:=w=.int (-1)\/∃(s:Nat)(d:D),w=.int (s:Int)/\cC [.inl (s:Int),.inl (hd:Int)] B.ks B.vs=some d
theorem WH.isI{B:BD}{hd:Nat}{w:P}(h:WH B hd w):isI w:=by rcases h with rfl|⟨s,_,rfl,_⟩<;>exact⟨_,rfl⟩
inductive HandOk(B:BD)(hd:Nat)(f x:P):Prop
 |mk (nm:Str) (crew:Nat) (rooms cells whos steps:List P) (h0:f=lL nm crew rooms cells whos steps) (r:Nat) (cs ws:List P):x=.tup [.int (r:Int),.tup cs,.tup ws]->r < rooms.length->CellsOk cells cs->ws.length=whos.length->(∀w ∈ ws,WH B hd w)->HandOk B hd f x
structure StL(B:BD)(hs rds:List P):Prop where
 hl:hs.length=(bq B.fams).length
 hh:∀(k:Nat) f x,(bq B.fams)[k]? = some f->hs[k]? = some x->HandOk B k f x
 hr:bU B rds
def jA(B:BD)(st:P):Prop:=∃h r,st=.tup [.tup h,.tup r]/\StL B h r
theorem StL.put(h:StL B m d)(s:(bq B.fams)[k]? = some f)(c:HandOk B k f b)(r:bU B t):StL B (m.set k b) t:=by
 refine⟨by rw[db];exact h.hl,λi n x e a=>?_,r⟩;by_cases q:k=i
 .subst q;rw[s]at e;cases e;rw[bv (by rw[h.hl];exact bB s)]at a;cases a;exact c
 .rw [aP q]at a;exact h.hh i n x e a
def IE(B:BD)(hd:Nat)(x:Str)(y z:P):Prop:=∃s e,z=.tup [.tup [.str "step",.int (hd:Int),.str x,y,.tup s],e]/\(∀a ∈ s,isI a)/\jA B e
def IS(h:List P)(hd:Nat)(x:Str)(y w:P):P:=.tup [.tup [.str "step",.int (hd:Int),.str x,y,gE w 0],.tup [.tup h,gE w 1]]
abbrev SL(i:Nat)(st hd step y f r:P)(n k b q h x a e s:Option D):Lc:=[qr i,qp st,qp hd,qp step,qp y,qp f,qp r,n,k,b,q,h,x,a,e,s]
theorem L5{c:List P}{K:List b0}{V:List P}(f:kL (nQ c) K V){s:List b0}{n:List P}{z:Int}(m:z.natAbs≤999)(h:∀k,bW k s n=if (.inr "it":b0)=k then some (.int z) else bW k K V):kL (nQ c++[.str "it"]) s n:=λx a=>by
 by_cases q:("it":Str)=x
 .exact⟨z,m,by rw[h,ac (by rw[q])]⟩
 .rcases bA.mp a with a|a
  .obtain⟨i,b,e⟩:=f x a;exact⟨i,b,by rw[h,af λw=>q (gX w)];exact e⟩
  .exact absurd (P.str.inj (b_.mp a)).symm q
theorem jg:∀{x:List (List f)}{s:List f},s.length=x.length->(∀(i:Nat) a y,x[i]? = some a->s[i]? = some y->y ∈ a)->s ∈ eK x
 | [],s,l,_=>by cases g_ l;simp[eK]
 |a::x,[],l,_=>by cases l
 |a::x,y::s,l,h=>by unfold eK;refine bQ.mpr ⟨y,h 0 a y rfl rfl,aU.mpr ⟨s,jg (Nat.succ.inj l) λi k z e n=>h (i+1) k z (by simpa using e) (by simpa using n),rfl⟩⟩
theorem Ga(h:CellsOk e s):s ∈ gG e:=by
 refine jg (by rw[aX];exact h.1) λi k y x n=>?_;rw[b9]at x;cases a:e[i]? with
 |none=>rw[a]at x;cases x
 |some c=>rw[a]at x;cases x;exact h.2.2 i c y a n
theorem NG{B:BD}(hP:BP B){n:Nat}{hd:Nat}{nm:Str}{N:Nat}{G a E I:List P}(Z:Fam B.roads nm N G a E I){u:List P}(hc:CellsOk a u){d:List P}(hr:bU B d){M y:P}(ht:jW nm B.roads E M)(hy:(M=.non/\y=.non)\/(M≠.non/\LetOk B d hd y)) :
  ∃(K:List b0)(V C:List P),kL (nQ a++more M) K V/\(∀x:Str,P.str x ∈ nQ a->bW (.inr x) K V=bW (.inr x) (cK a) u)/\bU B C/\∀(b i:Nat)(S:U)(st step f r:P)(H F g t p v w:Option D),Bd B b i S->∃X,
   dI (bV (dH dB A6 (O (vC (.non))))) (ai (aD 11 (wS (dR (aT Att) fL "places") (v2 (ae km eB) f6)))
    (ai (jd oI (vt "it") (ae (ae (ae mD lb) (ae km dj)) dj))
    (aD 9 (O (cB (Ph (n+2) "replaced") (v3 mD lb (cB (Ph (n+2) "without") (v2 (ae mD lb) (ae km dj))))))))) fY
    (SL i st (.int (hd:Int)) step y f r H F (qt d) (qr S.length) g t p v w) (S++[.dct (cK a) (u.map .p)])=some (.nx,SL i st (.int (hd:Int)) step y f r H F (qt C) (qr S.length) X t p v w,S++[.dct K (V.map .p)]):=by
 have A:=uY hc;rcases hy with ⟨rfl,rfl⟩|⟨W,s,j,k,L,rfl,hg,hk,T,o,hsp⟩
 .exact⟨cK a,u,d,by simpa[more] using A,λ_ _=>rfl,hr,λb i S st step f r H F g t p v w hB=>⟨g,by simp[dB,eC]⟩⟩
 .have hm:more M=[.str "it"]:=by
   cases M with
   |non=>exact absurd rfl W
   |_=>rfl
  have hls3:=o.1;have Q:L[j]? = some L[j]:=bo hsp;obtain⟨m,z,_,hz,hzl⟩:=(o.2 L[j] (g0 _)).1;rw[hzl]at Q;have hkl:(cK a).length=u.length:=by rw[hc.1];simp[cK]
  obtain⟨K,V,e,h1,h2,h3,h4,h5⟩:=vp (.inr "it") (.int z) (cK a) u (kA Z.hce) hkl;have ew:=Jm (n:=n) (xs:=L) (k:=j) (by lia);have hpl:=vG hP;have hrl:=hr.1;have er:=qD (n:=n) (xs:=d) (k:=k) hk (by lia) (.tup (L.eraseIdx j));have hcl:=Z.cl;have R:(cK a).length≤1000000:=by have:=hc.1;lia
  refine⟨K,V,d.set k (.tup (L.eraseIdx j)),by rw[hm];exact L5 A hz h5,λx hx=>by rw[h5,af];intro q;obtain⟨c,hc',e'⟩:=aU.mp hx;obtain⟨y,_,_,_,_,_,_,_,h9,rfl⟩:=Z.hce.1 c hc';have e':y=x:=P.str.inj e';have q:("it":Str)=x:=gX q;rw[e',<- q]at h9;exact h9.2.2 (by decide +kernel),hr.set k ⟨au (Am ..) o.1,λl h=>o.2 l (An h)⟩,λb i S st step f r H F g t p v w hB=>⟨qi (k:Int),?_⟩⟩
  obtain⟨jh,jp,jl,jm,mk,mv,h⟩:=hB.fr (Fr.app b S [.dct (cK a) (u.map .p)]);rw[dI];have hcn:(bV (dH dB A6 (O (vC (.non))))) (SL i st (.int (hd:Int)) step (.tup [.int (s:Int),.int (j:Int)]) f r H F (qt d) (qr S.length) g t p v w) (S++[.dct (cK a) (u.map .p)])=some (true,S++[.dct (cK a) (u.map .p)]):=by simp[dB,eC]
  rw[hcn,ak,ac rfl];refine(aq (e:=SL i st (.int (hd:Int)) step (.tup [.int (s:Int),.int (j:Int)]) f r H F (qt d) (qr S.length) (qi (k:Int)) t p v w) (c:=S++[.dct (cK a) (u.map .p)]) ?_).trans ?_
  .rw [aD,wS,h.places rfl];simp[lF,h.pl,dA,cR,hg]
  refine(aq (e:=SL i st (.int (hd:Int)) step (.tup [.int (s:Int),.int (j:Int)]) f r H F (qt d) (qr S.length) (qi (k:Int)) t p v w) (c:=S++[.dct K (V.map .p)]) ?_).trans ?_
  .have e2:xW oI (vt "it") (ae (ae (ae mD lb) (ae km dj)) dj) (SL i st (.int (hd:Int)) step (.tup [.int (s:Int),.int (j:Int)]) f r H F (qt d) (qr S.length) (qi (k:Int)) t p v w) (S++[.dct (cK a) (u.map .p)])=some (.nx,SL i st (.int (hd:Int)) step (.tup [.int (s:Int),.int (j:Int)]) f r H F (qt d) (qr S.length) (qi (k:Int)) t p v w,S++[.dct K (V.map .p)]):=by
    simp[xW,bS T,bS Q,mN,cR,kA Z.hce,R,e]
   unfold jd;rw[e2]
  .simp [bS T,ew,er]
theorem NF{B:BD}(hP:BP B)(hL:Places B){n:Nat}{hd:Nat}{nm:Str}{N:Nat}{o l u p:List P}(hF:Fam B.roads nm N o l u p)(hf:(bq B.fams)[hd]? = some (lL nm N o l u p)){r:Nat}{cs ws:List P}(hr1:r < o.length)(Z:CellsOk l cs)(hwl:ws.length=u.length)(hwi:∀w ∈ ws,WH B hd w){a:List P}(hrd:bU B a){x:Str}(hx:aW x=true){rm wh tk:P}{chg sn:List P}{rm2:P}(C:Stp nm o l u B.roads rm wh tk chg sn rm2)(hsm:fA x rm wh tk chg sn rm2 ∈ p){y:P}(hy:(tk=.non/\y=.non)\/(tk≠.non/\LetOk B a hd y)){A:List P}(hS:StL B A a)(hhx:A[hd]? = some (.tup [.int (r:Int),.tup cs,.tup ws])) :
  ∃E:List P,E.length≤64/\(∀z ∈ E,IE B hd x y z)/\∀(b i:Nat)(S:U),Bd B b i S->∃d S',Ph (n+8) "step_ends" [.ref i,.p (.tup [.tup A,.tup a]),.p (.int (hd:Int)),.p (fA x rm wh tk chg sn rm2),.p y] S=some (d,S')/\Fr b S S'/\rK S S' d E:=by
 obtain⟨K,V,F,he,hag,hr',eit⟩:=NG hP (n:=n+5) hF Z hrd C.htk hy;obtain⟨ans,hans,ecb⟩:=OT (n:=n+1) hF Z (x:=x) C he;have hy2:(tk=.non/\y=.non)\/(tk≠.non/\∃s sp:Nat,y=.tup [.int (s:Int),.int (sp:Int)]/\WH B hd (.int (s:Int))):=by
  rcases hy with h|⟨h1,s,sp,_,_,e,hg,_⟩
  .exact .inl h
  .exact .inr ⟨h1,s,sp,e,.inr ⟨s,_,rfl,hg⟩⟩
 obtain⟨I,hwl',hwi',ewb⟩:=Nh (n:=n+4) hF hwl hwi C.htk hy2;have hN:=qI hF.hce.1;have hsnd:∀c ∈ sn,isSend nm B.roads u (nQ l) c/\∀v k,cI (Ph (k+4) "value_of") [gE c 1,.dct K V]=some (.int v)->LH B hd (.tup [gE c 0,.int v]):=fun c hc=>⟨C.hsn c hc,fun v k ev=>by
  obtain⟨m,tr,way,nm2,_,_,hsum,_,rfl⟩:=C.hsn c hc;obtain⟨r0,e1,e2⟩:=Cc hN (uY Z) hag hsum;have:v=r0:=by have:=ev.symm.trans (e2 k);simpa using this
  subst this;refine⟨_,hf,bQ.mpr ⟨_,hsm,bQ.mpr ⟨_,hc,aU.mpr ⟨cs,Ga Z,?_⟩⟩⟩⟩;have e3:=e1 2;simp only[Ob,Qm];exact cY (λz=>P.tup [.str m,z]) (by show(cI (Ph 6 "value_of") [tr,.dct (cK l) cs]).getD .non=_;rw[e3];rfl)⟩
 obtain⟨W,T,hW1,hW2,esd⟩:=NH hP hL (n:=n+1) hF hf hwl' (λw h=>(hwi' w h).isI) hN (λx hx=>he x (iI _ hx)) hsnd (au C.sl (by decide)) hr';let step:P:=fA x rm wh tk chg sn rm2
 let t:P:=lL nm N o l u p
 have pre:∀(b i:Nat) (S:U),Bd B b i S->∃q,∀g:ES,(ai (aD 5 (dQ (mT Tb (Ph (n+7))) fL "family_of" (JU jP)))
   (ai (xV (bD [av 6,av 7,av 8]) (ae (ae dU eB) f6))
   (ai (aD 9 (O (ae dU dj)))
   (ai (aD 10 (gM (Ph (n+7) "values_of") (Mz (aj 5) (aj 7))))
   (ai (dI (bV (dH dB A6 (O (vC (.non))))) (ai (aD 11 (wS (dR (aT Att) fL "places") (v2 (ae km eB) f6)))
    (ai (jd oI (vt "it") (ae (ae (ae mD lb) (ae km dj)) dj))
    (aD 9 (O (cB (Ph (n+7) "replaced") (v3 mD lb (cB (Ph (n+7) "without") (v2 (ae mD lb) (ae km dj))))))))) fY) g)))))
   [qr i,qt [.tup A,.tup a],qi (hd:Int),qp step,qp y,none,none,none,none,none,none,none,none,none,none,none] S=g (SL i (.tup [.tup A,.tup a]) (.int (hd:Int)) step y t (.int (r:Int)) (qt cs) (qt ws) (qt F) (qr S.length) q none none none none) (S++[.dct K (V.map .p)]):=λb i S R=>by
  have ef:=yx (n:=n+5) R hf;obtain⟨q,e5⟩:=eit b i S (.tup [.tup A,.tup a]) step t (.int (r:Int)) (qt cs) (qt ws) none none none none none R;obtain⟨jh,jp,jl,jm,mk,mv,h⟩:=R;refine⟨q,λg=>?_⟩;refine(aq (e:=[qr i,qt [.tup A,.tup a],qi (hd:Int),qp step,qp y,qp t,none,none,none,none,none,none,none,none,none,none]) (c:=S) ?_).trans ?_
  .rw [aD,h.meth rfl (Pn _) Pt (l:=[.p (.int (hd:Int))]) (by simp),ef];rfl
  rw[aq (by simp[bS hhx];exact⟨rfl,rfl⟩)];rw[aq (by simp;exact⟨rfl,rfl⟩)];refine(aq (e:=SL i (.tup [.tup A,.tup a]) (.int (hd:Int)) step y t (.int (r:Int)) (qt cs) (qt ws) (qt a) (qr S.length) none none none none none) (c:=S++[.dct (cK l) (cs.map .p)]) ?_).trans ?_
  .rw [aD,gM];show bG (bG (some ([D.p t,D.p (.tup cs)],S)) _) _=_;rw[ak,A8 (n:=n+5) hF Z S];rfl
  exact aq e5
 have tv:∀S:U,toP 9 (.ref S.length) (S++[.dct K (V.map .p)])=some (.dct K V,S++[.fz (.dct K V)]):=λS=>by have:uX (toP 8) (V.map .p) (S++[.dct K (V.map .p)])=some (V,S++[.dct K (V.map .p)]):=mP ..;simp[toP,this]
 rcases hans with rfl|⟨Q,hcs',rfl⟩
 .refine⟨[],by simp,λ_ h=>(by cases h),λb i S R=>⟨.p (.lst []),S++[.fz (.dct K V)],?_,Fr.app _ _ _,.inl rfl⟩⟩;obtain⟨q,ep⟩:=pre b i S R;rw[lr];show lc (eN _ [qr i,qt [.tup A,.tup a],qi (hd:Int),qp step,qp y,none,none,none,none,none,none,none,none,none,none,none] S)=_;unfold eN;rw[ep];simp only[t,step]at ecb ⊢;simp[tv,ecb,vK,eC]
 .obtain⟨j,hj,ej⟩:=qP (xs:=o) (s:=rm2) (λz hz=>(hF.hro z hz).ok 19) C.h2;have h4:=jj hP;have hW3:∀w ∈ W,∃as X,w=.tup [.tup as,.tup X]:=λw hw=>by
   obtain⟨as,X,e,_⟩:=hW2 w hw;exact⟨as,X,e⟩
  have hhd:hd < A.length:=by rw[hS.hl];exact bB hf
  have hsl:=hS.hl;have er:=qD (n:=n+5) (xs:=A) (k:=hd) hhd (by lia) (.tup [.int (j:Int),.tup Q,.tup I]);generalize hhs:A.set hd (.tup [.int (j:Int),.tup Q,.tup I])=H at er;have hp:∀X,bU B X->jA B (.tup [.tup H,.tup X]):=λX hr=>⟨_,_,rfl,hhs ▸ hS.put hf ⟨nm,N,o,l,u,p,rfl,j,Q,I,rfl,hj,hcs',hwl',hwi'⟩ hr⟩;refine⟨W.map (IS H hd x y),by simpa using hW1,λz hz=>?_,λb i S R=>?_⟩
  .obtain⟨w,hw,rfl⟩:=aU.mp hz;obtain⟨as,X,rfl,_,hi,hr⟩:=hW2 w hw;exact⟨as,_,rfl,hi,hp X hr⟩
  have hfm:W.map (IS H hd x y)=W.flatMap λw=>[IS H hd x y w]:=by rw[z3,List.map_eq_flatMap,z3]
  rw[hfm];obtain⟨h1,h3⟩:=lJ (i:=GC B) (f:=λw=>[IS H hd x y w]) (g:=bD [av 14,av 15]) (b:=jx (Ph (n+7))) (Sp:=λG S=>Fr G.b G.S0 S) (r:=λG=>G.r) (c:=1) (M:=1000) (s:=W)
   (p:=λG L=>∃q q14 q15,L=SL G.i (.tup [.tup A,.tup a]) (.int (hd:Int)) step y t (.int (r:Int)) (qt Q) (qt I) (qt F) (qr G.S0.length) q (qt H) (qr G.r) q14 q15) (λw hw=>by obtain⟨as,X,rfl⟩:=hW3 w hw;refine⟨by simp,λG L S acc hLp fr hS' hM=>?_⟩;obtain⟨q,q14,q15,rfl⟩:=hLp;refine⟨SL G.i (.tup [.tup A,.tup a]) (.int (hd:Int)) step y t (.int (r:Int)) (qt Q) (qt I) (qt F) (qr G.S0.length) q (qt H) (qr G.r) (qt as) (qt X),_,_,rfl,pO rfl hS' (y:=.tup [.tup [.str "step",.int (hd:Int),.str x,y,.tup as],.tup [.tup H,.tup X]]) ?_ hS' (by lia),⟨_,_,_,rfl⟩,fr.set G.le G.hr _,kt hS'⟩;simp[step])
  obtain⟨q,ep⟩:=pre b i S R;have frA:=Fr.app b S [.fz (.dct K V),.lst []];have hk0:(S++[SO.fz (.dct K V),.lst []])[S.length]? = some (.fz (.dct K V)):=by simp
  have hk1:(S++[SO.fz (.dct K V),.lst []])[S.length+1]? = some (.lst []):=by simp
  obtain⟨d1,S1,e1,fr1,an1⟩:=esd b i (S++[.fz (.dct K V),.lst []]) S.length (R.fr frA) R.le hk0;have hb1:b≤(S++[SO.fz (.dct K V),.lst []]).length:=au R.le (by simp);obtain⟨S2,e2,fr2⟩:=sU (b:=b) (g:=Ph (n+7) "sendings") (q:=RF fL jP (O (ae fZ uC)) oI (aj 9) (aj 8)) (L:=SL i (.tup [.tup A,.tup a]) (.int (hd:Int)) step y t (.int (r:Int)) (qt Q) (qt I) (qt F) (qr S.length) q (qt H) (qr (S.length+1)) none none) (S:=S++[.fz (.dct K V),.lst []]) (l:=[.ref i,.p (.int (hd:Int)),.p (.lst sn),.ref S.length,.p (.tup F),.p (.tup I)]) (by simp[step,NE]) e1 fr1 hb1 an1;obtain⟨L',S',e3,hL',fr3,h5⟩:=h3 ⟨b,i,S,S.length+1,R,by lia⟩ _ S2 [] ⟨q,none,none,rfl⟩ (frA.trans fr2) (fr2.hi _ _ (au R.le (by lia)) hk1) (by simp;lia);obtain⟨q11',q14',q15',rfl⟩:=hL';refine⟨.ref (S.length+1),S',?_,fr3,.inr ⟨S.length+1,by lia,rfl,.inl h5⟩⟩;rw[lr];show lc (eN _ [qr i,qt [.tup A,.tup a],qi (hd:Int),qp step,qp y,none,none,none,none,none,none,none,none,none,none,none] S)=_;unfold eN;rw[ep];rw[aq (by simp[tv,t,step,ecb];exact⟨rfl,rfl⟩)];rw[aq (by simp[vK,eC];exact⟨rfl,rfl⟩)];rw[aq (by simp[t,step,qx,ewb];exact⟨rfl,rfl⟩)];rw[aq (by simp[t,step,Ec,RZ,ej,er];exact⟨rfl,rfl⟩)];rw[aq (by simp;exact⟨rfl,rfl⟩)];rw[aq (by rw[cf,i5,e2];exact e3)];rfl
def okE(B:BD)(z:P):Prop:=∃d e,z=.tup [d,e]/\cA 3 d=true/\jA B e
theorem IE.okE(h:IE B k x y z)(b:aW x=true)(c:y=.non\/Of y):okE B z:=by
 obtain⟨s,e,rfl,i,f⟩:=h;refine⟨_,_,rfl,?_,f⟩;have o:cA 2 y=true:=by rcases c with e|⟨_,_,e⟩<;>rw[e]<;>simp
 have m:cA 2 (.tup s)=true:=a_.mpr λa n=>(i a n).ok 1;show(List.all [P.str "step",.int (k:Int),.str x,y,.tup s] (cA 2))=true;simp only[c_,ma,o,m,uU,Bw,b,mu];decide +kernel
theorem Oq{B:BD}(hP:BP B)(hL:Places B){n:Nat}(hn:n=1){hd:Nat}{nm:Str}{l:Nat}{o e v t:List P}(hF:Fam B.roads nm l o e v t)(hf:(bq B.fams)[hd]? = some (lL nm l o e v t)){r:Nat}{cs ws:List P}(hr1:r < o.length)(hcs:CellsOk e cs)(hwl:ws.length=v.length)(hwi:∀w ∈ ws,WH B hd w){p:List P}(hrd:bU B p){X:List P}(hS:StL B X p)(hhx:X[hd]? = some (.tup [.int (r:Int),.tup cs,.tup ws])) :
  ∃E:List P,E.length≤6144/\(∀z ∈ E,okE B z)/\∀(b i:Nat)(S:U),Bd B b i S->∃d Z,Ph (n+12) "hand_ends" [.ref i,.p (.tup [.tup X,.tup p]),.p (.int (hd:Int))] S=some (d,Z)/\Fr b S Z/\rK S Z d E:=by
 have ev:=Cd (n:=n+9) hF hcs;have henv:=uY hcs;have hrg:o[r]? = some o[r]:=bo hr1;obtain⟨rn,hrn,hre⟩:=hF.hro o[r] (g0 _);rw[hre]at hrg;let u:Nat->Nat->Option D->Option D->Lc:=λi r' q9 a=>[qr i,qt [.tup X,.tup p],qi (hd:Int),qp (lL nm l o e v t),qi (r:Int),qt cs,qt ws,qp (.dct (cK e) cs),qr r',q9,a]
 obtain⟨F,h1,hR,h3⟩:=dP (t:=GC B) (g:=av 9) (b:=ee (Ph (n+11))) (Sp:=fun G S=>Fr G.b G.S0 S) (r:=fun G=>G.r) (R:=fun _ ys=>∀z ∈ ys,okE B z) (c:=768) (M:=10000) (s:=t) (p:=fun G L=>∃q9 a,L=u G.i G.r q9 a) (fun x hx=>by
  obtain⟨I,j,T,N,k,Q,m,hsx,W,rfl⟩:=hF.hst x hx;obtain⟨j,hrm,rfl⟩:=hF.hro j W.h1;obtain⟨hb,eh⟩:=FK (qI hF.hce.1) henv W.wh (n:=n+2);have C:∀(i r':Nat)(a:Option D)(S:U),(kJ (bt (O (ae mD dj)) (O (ae (ae fZ fX) km))) (bT (O (cB (Ph (n+11) "holds") (v2 (ae mD fX) mE))))) (u i r' (qp (fA I (.str j) T N k Q m)) a) S=some (decide (j=rn) && hb,S):=λi r' a S=>by by_cases q:j=rn<;>simp[u,RZ,bS hrg,q,eh]
  cases hc:(decide (j=rn) && hb) with
  |false=>refine⟨[],by simp,λ_ h=>(by cases h),λG L S acc A V H hM=>?_⟩;obtain⟨q9,a,rfl⟩:=A;refine⟨u G.i G.r (qp (fA I (.str j) T N k Q m)) a,u G.i G.r (qp (fA I (.str j) T N k Q m)) a,S,rfl,?_,⟨_,_,rfl⟩,V,by simpa using H⟩;unfold ee;rw[dI,C,hc];rfl
  |true=>
   obtain⟨ls,hl1,hl2,el⟩:=Hy hP hL (n:=n+7) hf hrd W.htk;obtain⟨f,k1,kR,k3⟩:=dP (t:=GC B) (g:=av 10) (b:=jz (Ph (n+11))) (Sp:=λG S=>Fr G.b G.S0 S) (r:=λG=>G.r) (R:=λy zs=>∀z ∈ zs,IE B hd I y z) (c:=64) (M:=10000) (s:=ls) (p:=λG L=>∃a,L=u G.i G.r (qp (fA I (.str j) T N k Q m)) a) (λy hy=>by obtain⟨E,hE,hE2,h⟩:=NF hP hL (n:=n+3) hF hf hr1 hcs hwl hwi hrd hsx W hx (hl2 y hy) hS hhx;refine⟨E,hE,hE2,λG L S acc A V H hM=>?_⟩;obtain⟨a,rfl⟩:=A;obtain⟨d,S1,e1,fr1,an⟩:=h G.b G.i S (G.bd.fr V);obtain⟨S2,e2,K⟩:=sU (b:=G.b) (g:=Ph (n+11) "step_ends") (q:=JT fL kh jP (aj 9) oI) (L:=u G.i G.r (qp (fA I (.str j) T N k Q m)) (qp y)) (S:=S) (l:=[.ref G.i,.p (.tup [.tup X,.tup p]),.p (.int (hd:Int)),.p (fA I (.str j) T N k Q m),.p y]) rfl e1 fr1 (au G.le V.len) an;have hS2:=K.hi _ _ (au G.le G.hr) H;exact⟨u G.i G.r (qp (fA I (.str j) T N k Q m)) (qp y),_,_,rfl,mW rfl H e2 hS2 (by lia),⟨_,rfl⟩,(V.trans K).set G.le G.hr _,kt hS2⟩)
   refine⟨ls.flatMap f,by lia,λz hz=>?_,λG L S acc A V H hM=>?_⟩
   .obtain⟨y,hy,hz⟩:=bQ.mp hz;refine(kR y hy z hz).okE hsx ?_;rcases hl2 y hy with h|⟨_,s,sp,_,_,h,_⟩
    .exact .inl h.2
    .exact .inr ⟨s,sp,h⟩
   .obtain⟨q9,a,rfl⟩:=A;obtain⟨d,S1,e1,fr1,an⟩:=el G.b G.i S (G.bd.fr V);obtain⟨S2,e2,K⟩:=sU (b:=G.b) (g:=Ph (n+11) "takeable") (q:=RG fL (O (ae dU dj)) jP (O (ae mD hU))) (L:=u G.i G.r (qp (fA I (.str j) T N k Q m)) a) (S:=S) (l:=[.ref G.i,.p (.tup p),.p (.int (hd:Int)),.p N]) (by simp[u,qx]) e1 fr1 (au G.le V.len) an;obtain⟨L',Z,e3,⟨q10',rfl⟩,fr3,h5⟩:=k3 G _ S2 acc ⟨a,rfl⟩ (V.trans K) (K.hi _ _ (au G.le G.hr) H) (by lia);refine⟨u G.i G.r (qp (fA I (.str j) T N k Q m)) a,u G.i G.r (qp (fA I (.str j) T N k Q m)) q10',Z,rfl,?_,⟨_,_,rfl⟩,fr3,h5⟩;unfold ee;rw[dI,C,hc];show cf _ _ _ _ _=_;rw[cf,i5,e2];exact e3)
 have hsl:=hF.sl;refine⟨t.flatMap F,by lia,λz hz=>?_,λb i S hB=>?_⟩
 .obtain⟨s,X,hz⟩:=bQ.mp hz;exact hR s X z hz
 obtain⟨L',Z,e3,⟨q9,a,rfl⟩,fr3,h5⟩:=h3 ⟨b,i,S,S.length,hB,ah _⟩ (u i S.length none none) (S++[.lst []]) [] ⟨none,none,rfl⟩ (Fr.app _ _ _) (gB _ _) (by simp;lia);refine⟨.ref S.length,Z,?_,fr3,.inr ⟨S.length,ah _,rfl,.inl h5⟩⟩;have ef:=yx (n:=n+9) hB hf;obtain⟨jh,jp,jl,jm,mk,mv,h⟩:=hB;rw[show Ph (n+12) "hand_ends"=mV 3 11 (gy (Ph (n+11))) by subst hn;exact rY];show lc (gy _ [qr i,qt [.tup X,.tup p],qi (hd:Int),none,none,none,none,none,none,none,none] S)=_;unfold gy;rw[aq (e:=[qr i,qt [.tup X,.tup p],qi (hd:Int),qp (lL nm l o e v t),none,none,none,none,none,none,none]) (c:=S) (by rw[aD,h.meth rfl (Pn _) Pt (l:=[.p (.int (hd:Int))]) (by simp),ef];rfl)];rw[aq (by simp[bS hhx];exact⟨rfl,rfl⟩)];rw[aq (by simp[ev];exact⟨rfl,rfl⟩)];rw[aq (by simp[u];exact⟨rfl,rfl⟩)];rw[aq (by rw[cf,i5,show(ae fZ uC) (u i S.length none none) (S++[.lst []])=some (.lst t,S++[.lst []]) by simp[u,S6]];exact e3)];rfl
theorem Hq{k:Str}{x:List P}{i:Nat}(h:i ∈ Cf k x):i < x.length:=iF.mp (fJ.mp h).1
theorem Hr{k:Str}{x:List P}:(Cf k x).length≤x.length:=au (g8 ..) (by simp)
theorem JD{B:BD}(hP:BP B){n:Nat}(hn:n=8){w:Str}(hw:w="lose"\/w="double"){W u:List P}(hS:StL B W u) :
  ∃E:List P,E.length≤6144/\(∀z ∈ E,okE B z)/\∀(b i:Nat)(S:U),Bd B b i S->∃d N,Ph (n+5) "flaw_ends" [.ref i,.p (.tup [.tup W,.tup u]),.p (.str w)] S=some (d,N)/\Fr b S N/\rK S N d E:=by
 have how:aW w=true:=by rcases hw with rfl|rfl<;>simp
 have hpl:=vG hP;have hrl:=hS.hr.1;let m:Nat->Nat->Option D->Option D->Option D->Option D->Option D->Option D->Option D->Option D->Lc:=λi r' X Z H K A C s e=>[qr i,qt [.tup W,.tup u],qs w,qr r',X,Z,H,K,A,C,s,e]
 obtain⟨F,h1,hR,h3⟩:=dP (t:=GC B) (R:=fun _ ys=>∀z ∈ ys,okE B z) (g:=bD [av 4,av 5]) (b:=ei (Ph (n+4))) (Sp:=fun G S=>Fr G.b G.S0 S) (r:=fun G=>G.r) (c:=3) (M:=10000) (s:=cq 0 B.PR) (p:=fun G L=>∃X Z H K A C s e,L=m G.i G.r X Z H K A C s e) (fun x hx=>by
  obtain⟨k,hk,hxe⟩:=iJ.mp hx;obtain⟨p,hp,rfl⟩:=kE (s:=B.PR) (i:=k) (v:=x) (by rw[bo hk,hxe]);obtain⟨road,hro,a,c,rfl⟩:=rH (a8 hp);obtain⟨hkl,l,V,hkr⟩:=hS.hr.at hp;have o:=hP.hr road hro;obtain⟨kd,hkd⟩:∃kd:Str,rh road (.int 2)=some (.str kd):=by obtain⟨ra,rb,kd,c,d1,d2,_,_,_,_,_,rfl⟩:=o;exact⟨kd,by simp⟩
  obtain⟨hfb,ef⟩:=Op (n:=n+2) hw o l;have eu:=Jn (n:=n+2) kd V;have hul:=Hr (k:=kd) (x:=l);generalize IJ w road l=fb at hfb ef;have hls3:=V.1;have pre:∀(i r':Nat)(H K A C s e:Option D)(S:U)(g:ES),ai (xV (bD [av 6,av 7,av 8]) pF) (ai (aD 9 (O (ae (ae dU dj) km))) g) (m i r' (qi (k:Int)) (qp (pr road a c)) H K A C s e) S=g (m i r' (qi (k:Int)) (qp (pr road a c)) (qp road) (qi (a:Int)) (qi (c:Int)) (qt l) s e) S:=λi r' H K A C s e S g=>by
   rw [aq (by simp [m,pr];exact⟨rfl,rfl⟩),
    aq (by simp[m,bS hkr];exact⟨rfl,rfl⟩)]
   rfl
  cases fb with
  |false=>refine⟨[],by simp,λ_ h=>(by cases h),λG L S Q j fr t hM=>?_⟩;obtain⟨X,Z,H,K,A,C,s,e,rfl⟩:=j;refine⟨m G.i G.r (qi (k:Int)) (qp (pr road a c)) H K A C s e,m G.i G.r (qi (k:Int)) (qp (pr road a c)) (qp road) (qi (a:Int)) (qi (c:Int)) (qt l) s e,S,rfl,?_,⟨_,_,_,_,_,_,_,_,rfl⟩,fr,by simpa using t⟩;unfold ei;rw[pre];simp[m,ef]
  |true=>
   obtain⟨f,k1,kR,k3⟩:=dP (t:=GC B) (R:=λ_ zs=>∀z ∈ zs,okE B z) (g:=av 10) (b:=gh (Ph (n+4))) (Sp:=λG S=>Fr G.b G.S0 S) (r:=λG=>G.r) (c:=1) (M:=10000) (s:=cH (Cf kd l)) (p:=λG L=>∃s e,L=m G.i G.r (qi (k:Int)) (qp (pr road a c)) (qp road) (qi (a:Int)) (qi (c:Int)) (qt l) s e) (λy hy=>by obtain⟨sp,hsp',rfl⟩:=aU.mp hy;have hsp:=Hq hsp';obtain⟨I,ez⟩:=OA (n:=n+1) hw V (λq=>hfb q rfl) hsp;have er:=qD (n:=n+2) (xs:=u) (k:=k) hkl (by lia) (.tup (Oz w l sp));generalize Oz w l sp=zs at I ez er;refine⟨[.tup [.tup [.str w,.int (a:Int),.int (c:Int),.int (sp:Int)],.tup [.tup W,.tup (u.set k (.tup zs))]]],by simp,λz hz'=>⟨_,_,b_.mp hz',by simp[how],W,_,rfl,hS.hl,hS.hh,hS.hr.set k I⟩,λG L S Q j fr t hM=>?_⟩;obtain⟨s,e,rfl⟩:=j;refine⟨m G.i G.r (qi (k:Int)) (qp (pr road a c)) (qp road) (qi (a:Int)) (qi (c:Int)) (qt l) (qi (sp:Int)) e,m G.i G.r (qi (k:Int)) (qp (pr road a c)) (qp road) (qi (a:Int)) (qi (c:Int)) (qt l) (qi (sp:Int)) (qt (u.set k (.tup zs))),_,rfl,?_,⟨_,_,rfl⟩,fr.set G.le G.hr _,kt t⟩;unfold gh;refine(aq (by simp[m,ez,er])).trans (pO rfl t ?_ t (by lia));simp[m])
   have hnl:(cH (Cf kd l)).length=(Cf kd l).length:=by simp[cH]
   rw[hnl]at k1 k3;refine⟨_,au k1 (by lia),λz I=>?_,λG L S Q j fr t hM=>?_⟩
   .obtain⟨y,hy,I⟩:=bQ.mp I;exact kR y hy z I
   obtain⟨X,Z,H,K,A,C,s,e,rfl⟩:=j;obtain⟨L',N,e3,⟨q10',q11',rfl⟩,T,h5⟩:=k3 G _ S Q ⟨s,e,rfl⟩ fr t (by lia);refine⟨m G.i G.r (qi (k:Int)) (qp (pr road a c)) H K A C s e,m G.i G.r (qi (k:Int)) (qp (pr road a c)) (qp road) (qi (a:Int)) (qi (c:Int)) (qt l) q10' q11',N,rfl,?_,⟨_,_,_,_,_,_,_,_,rfl⟩,T,h5⟩;unfold ei;rw[pre];simp only[m]at e3;simp[m,ef,hkd,eu,e3])
 rw[d5]at h1 h3;refine⟨(cq 0 B.PR).flatMap F,by lia,λz I=>?_,λb i S hB=>?_⟩
 .obtain⟨v,hv,I⟩:=bQ.mp I;exact hR v hv z I
 have frA:=Fr.app b S [.lst []];obtain⟨jh,jp,jl,jm,mk,mv,h⟩:=hB.fr frA;have frB:=frA.trans (Fr.frz h.bp h.pr);have hb:=hB.le;have hjp:=h.bp;obtain⟨L',N,e3,⟨X,Z,H,K,A,C,s,e,rfl⟩,T,h5⟩:=h3 ⟨b,i,S,S.length,hB,ah _⟩ (m i S.length none none none none none none none none) ((S++[SO.lst []]).set jp (.fz (.lst B.PR))) [] ⟨none,none,none,none,none,none,none,none,rfl⟩ frB (by rw[aP (by lia)];exact gB _ _) (by simp;lia);refine⟨.ref S.length,N,?_,T,.inr ⟨S.length,ah _,rfl,.inl h5⟩⟩;rw[show Ph (n+5) "flaw_ends"=mV 3 12 (gA (Ph (n+4))) by subst hn;exact rZ];show lc (gA _ [qr i,qt [.tup W,.tup u],qs w,none,none,none,none,none,none,none,none,none] S)=_;unfold gA;rw[aq (by simp[m];exact⟨rfl,rfl⟩)];rw[aq (by rw[cf,lH,vE,h.pairs rfl,ak,h.pr.frz];exact e3)];rfl
end My
namespace My
open PySem L2 Ev
theorem BQ:∀{s:List b0}{h:List D},cC k s h=bW k s h
 | [],_=>by cases ‹List D›<;>rfl
 |_::_,[]=>rfl
 |x::s,v::h=>by
  show(if x=k then some v else cC k s h)=if x=k then some v else bW k s h
  rw[BQ]
theorem IQ{n c:Nat}{a:List P}{S:U}{d x e:D}(h:S[c]? = some (.ins "Board" fields [.p (.lst a),.ref (c+1),d,x,e]))(t:S[c+1]? = some (.lst ((homes a).map .p))){k:Nat}{f:P}(q:(bq a)[k]? = some f):Ph (n+2) "Board.family_of" [.ref c,.p (.int (k:Int))] S=some (.p f,S):=by
 obtain⟨p,s,b⟩:=sK q;have m:lu (dR (aT Att) (aj 0) "homes") (vE (aj 1)) [some (.ref c),some (.p (.int (k:Int)))] S=some (.p (.int (p:Int)),S):=kK.ix (j:=c+1) (.inl t) (by simp[h,lh,Iv]) rfl (bS s);have r:dR (aT Att) (aj 0) "families" [some (.ref c),some (.p (.int (k:Int)))] S=some (.p (.lst a),S):=by simp[h,lh,Iv]
 rw[gU];show lc (be _ [some (.ref c),some (.p (.int (k:Int)))] S)=_;rw[be,lu,r,ak,vE,m];simp[bS b]
noncomputable def iT(N:LS)(t:Nat)(s:Str):List Nat:=(List.range t).filter λi=>decide (N[i]? = some s)
theorem jZ(N:LS)(t:Nat)(s:Str):iT N (t+1) s=if N[t]? = some s then iT N t s++[t] else iT N t s:=by
 unfold iT;rw[List.range_succ,List.filter_append];by_cases h:N[t]? = some s
 .rw [ac h,um (by simpa using h)];rfl
 .rw [af h,ul (by simpa using h)];simp
theorem yE(a:t≤N.length)(h:s ∉ N.take t):iT N t s=[]:=by
 unfold iT;refine Ak.mpr λi x q=>h ?_
 have x:i < t:=iF.mp x;have e:=aJ q;rw[<- g9 x]at e;exact a8 e
theorem wg(T X:U)(k:Nat):(T++X)[T.length+k]? = X[k]?:=by rw[bI (zL _ _),zQ]
theorem wj(T X:U)(x:SO):(T++x::X)[T.length]? = some x:=wg T (x::X) 0
theorem Lr(T X:U)(k:Nat)(o:SO):(T++X).set (T.length+k) o=T++X.set k o:=by rw[Aj _ _ (zL _ _),zQ]
theorem Bx(T X:U)(x o:SO):(T++x::X).set T.length o=T++o::X:=Lr T (x::X) 0 o
structure MI(T:U)(fams:List P)(o2 o3:SO)(t:Nat)(mk:List b0)(mv:List D)(S:U):Prop where
 h0:S[T.length]? = some (.ins "Board" fields [.p (.lst fams),.ref (T.length+1),.ref (T.length+2),.ref (T.length+3),.ref (T.length+4)])
 h1:S[T.length+1]? = some (.lst ((homes fams).map .p))
 h2:S[T.length+2]? = some o2
 h3:S[T.length+3]? = some o3
 h4:S[T.length+4]? = some (.dct mk mv)
 nd:mk.Nodup
 ln:mk.length=mv.length
 le:mk.length≤t
 yes:∀s ∈ (aY fams).take t,∃j,cC (.inr s) mk mv=some (.ref j)/\T.length+5≤j/\S[j]? = some (.lst ((cH (iT (aY fams) t s)).map .p))
 no:∀s,s ∉ (aY fams).take t->cC (.inr s) mk mv=none
 lo:∀k,k < T.length->S[k]? = T[k]?
 inj:∀s s' j,cC (.inr s) mk mv=some (.ref j)->cC (.inr s') mk mv=some (.ref j)->s=s'
noncomputable abbrev ML(T:U)(p:P)(q h x:Option D):Lc:=[some (.ref T.length),some (.p p),q,h,x]
set_option tactic.hygienic true in
theorem Ip{T:U}{a:List P}{o2 o3:SO}{t:Nat}{mk:List b0}{m:List D}{S:U}(h:MI T a o2 o3 t mk m S){n:Nat}(ht:t≤100){rs:List P}(L:∀f ∈ a,isFam rs f){f:P}(I:(bq a)[t]? = some f)(l:P)(v d:Option D) :
  ∃V W S',MI T a o2 o3 (t+1) V W S'/\cz (Ph (n+2)) (ML T l v d (some (.p (.int (t:Int))))) S=some (.nx,(ML T l v d (some (.p (.int (t:Int))))),S'):=by
 have N:(aY a)[t]? = some (a9 f):=by unfold aY;rw[b9,I];rfl
 have htl:t < (aY a).length:=bB N;have ef:=IQ (n:=n) h.h0 h.h1 I;have em:dQ (mT Tb (Ph (n+2))) (aj 0) "family_of" (bC (aj 4) fC) (ML T l v d (some (.p (.int (t:Int))))) S=some (.p f,S):=by rw[dQ];show bG (some (D.ref T.length,S)) _=_;rw[ak];simp only[h.h0,Pn,Pt];exact ef
 have ek:(kZ rh (vE (dQ (mT Tb (Ph (n+2))) (aj 0) "family_of" (bC (aj 4) fC))) (vC (.int 0))) (ML T l v d (some (.p (.int (t:Int))))) S=some (.str (a9 f),S):=by obtain⟨nm,c,X,G,whos,steps,_,rfl⟩:=jk L (a8 I);rw[kZ,vE,em];simp[a9]
 have eo:dR (aT Att) (aj 0) "members" (ML T l v d (some (.p (.int (t:Int))))) S=some (.ref (T.length+4),S):=by simp[h.h0,lh,Iv]
 have l5:T.length+4 < S.length:=bB h.h4;have C:(aY a).take (t+1)=(aY a).take t++[a9 f]:=by rw[List.take_add_one,N];rfl
 have p:∀k,k < S.length->(S++[SO.lst []])[k]? = S[k]?:=λk hk=>bL hk;have u:mN (.ref (T.length+4)) S=some (T.length+4,mk,m):=by simp[mN,h.h4]
 have o:mN (.ref (T.length+4)) (S++[.lst []])=some (T.length+4,mk,m):=by simp[mN,p (T.length+4) l5,h.h4]
 have A:(mk.Nodup/\few mk=true):=⟨h.nd,by rw[qW];have:=h.le;lia⟩;by_cases R:a9 f ∈ (aY a).take t
 .obtain⟨j,F,hj,e2⟩:=h.yes _ R;have M:j < S.length:=bB e2;have K:(S++[SO.lst []])[j]? = some (.lst ((cH (iT (aY a) t (a9 f))).map .p)):=by rw[p j M];exact e2
  have B:(cH (iT (aY a) t (a9 f))).length≤1000000:=by have:=g8 (λi=>decide ((aY a)[i]? = some (a9 f))) (List.range t);simp[cH,iT];simp at this;lia
  refine⟨mk,m,(S++[SO.lst []]).set j (.lst ((cH (iT (aY a) (t+1) (a9 f))).map .p)),?_,?_⟩
  .have e:∀k,k < S.length->k≠j->((S++[SO.lst []]).set j (.lst ((cH (iT (aY a) (t+1) (a9 f))).map .p)))[k]? = S[k]?:=λk hk q=>by rw[aP (λz=>q z.symm),p k hk]
   refine⟨by rw[e T.length (by lia) (by lia)];exact h.h0,by rw[e (T.length+1) (by lia) (by lia)];exact h.h1,by rw[e (T.length+2) (by lia) (by lia)];exact h.h2,by rw[e (T.length+3) (by lia) (by lia)];exact h.h3,by rw[e (T.length+4) (by lia) (by lia)];exact h.h4,h.nd,h.ln,by have:=h.le;lia,λs x=>?_,λs x=>?_,λk hk=>by rw[e k (by lia) (by lia)];exact h.lo k hk,h.inj⟩
   .by_cases q:s=a9 f
    .subst q;exact⟨j,F,hj,by rw[bv (by simp;lia)]⟩
    .have g:s ∈ (aY a).take t:=by
      rw[C]at x;rcases bA.mp x with z|z
      .exact z
      .exact absurd (b_.mp z) q
     obtain⟨y,b,r,H⟩:=h.yes s g;have Q:y≠j:=λz=>q (h.inj s (a9 f) j (z ▸ b) F);refine⟨y,b,r,?_⟩;rw[e y (bB H) Q,jZ,af λz=>q (by rw[N]at z;cases z;rfl)];exact H
   .exact h.no s λz=>x (by rw[C];exact iI _ z)
  .unfold cz;rw[b8,bM,mZ,eo,ak];simp only[u,ek,ak];rw[show dG aR (ML T l v d (some (.p (.int (t:Int))))) S=some (.ref S.length,S++[.lst []]) by simp];simp only[ak,o,cR,ac A,F,dw,K];rw[show aj 4 (ML T l v d (some (.p (.int (t:Int))))) (S++[SO.lst []])=some (.p (.int (t:Int)),S++[.lst []]) from rfl,ak];simp only[K];rw[ac (by rw[qW,aX];exact B),jZ,ac N];simp[cH]
 .have F:=h.no _ R;obtain⟨g1,g2,g3,g4,E⟩:=k7 (.inr (a9 f):b0) (.ref S.length) mk m h.nd h.ln;have c0:iT (aY a) t (a9 f)=[]:=yE (by lia) R;refine⟨(dq (Sum.inr (a9 f):b0) (.ref S.length) mk m).1,(dq (Sum.inr (a9 f):b0) (.ref S.length) mk m).2,((S++[SO.lst []]).set (T.length+4) (SO.dct (dq (Sum.inr (a9 f):b0) (.ref S.length) mk m).1 (dq (Sum.inr (a9 f):b0) (.ref S.length) mk m).2)).set S.length (.lst [.p (.int (t:Int))]),?_,?_⟩
  .have e:∀k,k < S.length->k≠T.length+4->(((S++[SO.lst []]).set (T.length+4) (.dct (dq (.inr (a9 f)) (.ref S.length) mk m).1 (dq (.inr (a9 f)) (.ref S.length) mk m).2)).set S.length (.lst [.p (.int (t:Int))]))[k]? = S[k]?:=λk hk q=>by rw[aP (by lia),aP (λz=>q z.symm),p k hk]
   refine⟨by rw[e T.length (by lia) (by lia)];exact h.h0,by rw[e (T.length+1) (by lia) (by lia)];exact h.h1,by rw[e (T.length+2) (by lia) (by lia)];exact h.h2,by rw[e (T.length+3) (by lia) (by lia)];exact h.h3,by rw[aP (by lia),bv (by simp;lia)],g1,g2,by have:=h.le;lia,λs x=>?_,λs x=>?_,λk hk=>by rw[e k (by lia) (by lia)];exact h.lo k hk,λs s' j b r=>?_⟩
   .by_cases q:s=a9 f
    .subst q;refine⟨S.length,by rw[E,ac rfl],by lia,?_⟩;rw[bv (by simp),jZ,ac N,c0];rfl
    .have g:s ∈ (aY a).take t:=by
      rw[C]at x;rcases bA.mp x with z|z
      .exact z
      .exact absurd (b_.mp z) q
     obtain⟨y,b,r,H⟩:=h.yes s g;refine⟨y,by rw[E,af λz=>q (gX z).symm];exact b,r,?_⟩;rw[e y (bB H) (by lia),jZ,af λz=>q (by rw[N]at z;cases z;rfl)];exact H
   .rw [E,af λz=>x (by rw[C,<- gX z];simp)];exact h.no s λz=>x (by rw[C];exact iI _ z)
   .have low:∀s j,cC (.inr s) mk m=some (.ref j)->j < S.length:=λs j q=>by
     by_cases w:s ∈ (aY a).take t
     .obtain⟨y,b,_,H⟩:=h.yes s w;rw[q]at b;cases b;exact bB H
     .rw [h.no s w]at q;cases q
    rw[E]at b r;split at b
    .rename_i z1;cases b;split at r
     .rename_i z2;exact(gX z1).symm.trans (gX z2)
     .exact absurd (low _ _ r) (by lia)
    .split at r
     .cases r;exact absurd (low _ _ b) (by lia)
     .exact h.inj s s' j b r
  .have l1:((S++[SO.lst []]).set (T.length+4) (.dct (dq (.inr (a9 f)) (.ref S.length) mk m).1 (dq (.inr (a9 f)) (.ref S.length) mk m).2))[S.length]? = some (.lst []):=by
    rw[aP (by lia)];exact gB _ _
   unfold cz;rw[b8,bM,mZ,eo,ak];simp only[u,ek,ak];rw[show dG aR (ML T l v d (some (.p (.int (t:Int))))) S=some (.ref S.length,S++[.lst []]) by simp];simp only[ak,o,cR,ac A,F,dw,l1];rw[show ∀Z:U,aj 4 (ML T l v d (some (.p (.int (t:Int))))) Z=some (.p (.int (t:Int)),Z) from λ_=>rfl,ak];simp only[l1];rfl
theorem Iq(r:∀f ∈ a,isFam A f)(H:(bq a).length≤100)(p:P)(s c:Option D)(h:MI T a o u 0 [] [] S) :
  ∃mk m x q,MI T a o u (bq a).length mk m x/\bZ (av 4) (cz (Ph (n+2))) (intsFrom 0 (bq a).length) [some (.ref T.length),some (.p p),s,c,none] S=some (.nx,[some (.ref T.length),some (.p p),s,c,q],x):=by
 obtain⟨z,x,e,mk,m,q,I,rfl⟩:=dh (g:=av 4) (b:=cz (Ph (n+2))) (Inv:=λt L S=>∃mk m q,MI T a o u t mk m S/\L=[some (.ref T.length),some (.p p),s,c,q]) (s:=intsFrom 0 (bq a).length) (k:=0) (L:=[some (.ref T.length),some (.p p),s,c,none]) (S:=S) (λi v L S y I=>by obtain⟨rfl,l⟩:=ints_get y;obtain⟨mk,m,q,I,rfl⟩:=I;simp only[cO];rw[fG]at I ⊢;obtain⟨d,w,x,j,e⟩:=Ip I (n:=n) (by lia) r (bo l) p s c;exact⟨_,_,x,rfl,e,d,w,_,j,rfl⟩) ⟨[],[],none,h,rfl⟩
 rw[cL,fG]at I;exact⟨mk,m,x,q,I,e⟩
theorem w_(e:Pln f o w)(T:U):∃S,Ph (n+4) "Board.__init__" [.ref T.length,.p (.tup [.lst f,.lst o,.lst w])] (T++[.ins "Board" [] []])=some (.p .non,S)/\Bd (iN f o w) S.length T.length S/\∀k,k < T.length->S[k]? = T[k]?:=by
 let l:P:=.tup [.lst f,.lst o,.lst w]
 let R:=bJ (aY f) o
 have C:R.length≤2048:=vG (B:=iN f o w) e;have Q:=jj e;have q:=nV (s:=f);obtain⟨u,g,m⟩:=JG (K:=Ph (n+3)) l (.p (.lst f)) (.ref (T.length+1)) (.ref (T.length+2)) (i:=T.length) (j:=T.length+3) (by lia) R 0 ([],[]) Q6 (by simp;lia) (λp A=>by obtain⟨r,_,a,b,rfl⟩:=rH (B:=iN f o w) A;exact⟨r,a,b,rfl⟩) none none (T++[.ins "Board" ["families","homes","pairs","places"] [.p (.lst f),.ref (T.length+1),.ref (T.length+2),.ref (T.length+3)],.lst ((homes f).map .p),.fz (.lst R),.dtt [] []]) (wj _ _ _) (wg _ _ 3)
 rw[show((0:Nat):Int)=0 from rfl,Lr]at m;generalize d:putAll 0 R ([],[])=v at m;let c:U:=T++[.ins "Board" ["families","homes","pairs","places"] [.p (.lst f),.ref (T.length+1),.ref (T.length+2),.ref (T.length+3)],.lst ((homes f).map .p),.lst (R.map .p),.dtt [] []]
 let x:U:=T++[.ins "Board" fields [.p (.lst f),.ref (T.length+1),.ref (T.length+2),.ref (T.length+3),.ref (T.length+4)],.lst ((homes f).map .p),.fz (.lst R),.dtt v.1 v.2,.dct [] []]
 have I:MI T f (.fz (.lst R)) (.dtt v.1 v.2) 0 [] [] x:=
  ⟨wj _ _ _,wg _ _ 1,wg _ _ 2,wg _ _ 3,wg _ _ 4,by simp,rfl,by simp,λs h=>(by simp at h),λs _=>rfl,λk hk=>bL hk,λs W j h=>(by cases h)⟩
 obtain⟨mk,z,S,V,M,H⟩:=Iq (n:=n+1) e.hf (by lia) l u g I;have t:Bat (iN f o w) S.length T.length (T.length+1) (T.length+2) (T.length+3) (T.length+4) mk z S:=by
  refine⟨M.h0,.inl M.h1,.inr M.h2,?_,M.h4,λs G=>?_,bB M.h0,bB M.h1,bB M.h2,bB M.h3,bB M.h4,ah _⟩
  .have:=M.h3;rw[<- d]at this;exact this
  .have N:(aY f).length=(bq f).length:=by simp[aY]
   obtain⟨j,L,_,y⟩:=M.yes s (by rw[<- N,mj];exact G);refine⟨j,bB y,by rw[<- BQ];exact L,.inl ?_⟩;have:iT (aY f) (bq f).length s=eM (iN f o w).N s:=by rw[<- N];rfl
   rw[<- this];exact y
 refine⟨S,?_,⟨_,_,_,_,mk,z,t⟩,M.lo⟩;have F:=JE (n:=n+1) e.hf e.f0.2 (.lst o) (.lst w);have K:=Jr (n:=n) e;rw[qY];show lc (iy _ [some (.ref T.length),some (.p l),none,none,none] (T++[.ins "Board" [] []]))=_;unfold iy;rw[aq (e:=[some (.ref T.length),some (.p l),none,none,none]) (c:=T++[.ins "Board" ["families"] [.p (.lst f)]]) (by simp[l,lh,Ev.putK,Ev.rN])];rw[aq (e:=[some (.ref T.length),some (.p l),none,none,none]) (c:=T++[.ins "Board" ["families","homes"] [.p (.lst f),.ref (T.length+1)],.lst ((homes f).map .p)]) (by simp[l,lh,Ev.putK,Ev.rN,F,wj,Bx])];rw[aq (e:=[some (.ref T.length),some (.p l),none,none,none]) (c:=T++[.ins "Board" ["families","homes","pairs"] [.p (.lst f),.ref (T.length+1),.ref (T.length+2)],.lst ((homes f).map .p),.lst (R.map .p)]) (by simp[l,lh,Ev.putK,Ev.rN,K,R,wj,Bx])];rw[aq (e:=[some (.ref T.length),some (.p l),none,none,none]) (c:=c) (by simp[c,lh,Ev.putK,Ev.rN,wj,Bx])];rw[aq (by rw[cf,lH,vE];rw[show dR (aT Att) (aj 0) "pairs" [some (D.ref T.length),some (.p l),none,none,none] c=some (.ref (T.length+2),c) by simp[c,lh,iO,wj],ak,gu (wg _ _ 2),Lr];exact m)]
 rw[aq (e:=[some (.ref T.length),some (.p l),u,g,none]) (c:=x) (by simp[x,lh,Ev.putK,Ev.rN,oB,fields,wj,Bx])];have E:(homes f).length < 1000000:=by lia
 rw[cf,show i6 (eG (dR (aT Att) (aj 0) "homes")) [some (D.ref T.length),some (.p l),u,g,none] x=some (intsFrom 0 (homes f).length,x) by simp[x,lh,Iv,dO,E,wj,wg],ak,q];rw[H];rfl
variable{B:BD}
theorem StL.at(S:StL B h r)(hk:k < (bq B.fams).length):∃f x,(bq B.fams)[k]? = some f/\h[k]? = some x/\HandOk B k f x:=by have a:=bo hk;have e:h[k]? = some (h[k]'(by rw[S.hl];exact hk)):=bo _;exact⟨_,_,a,e,S.hh k _ _ a e⟩
theorem KA:∀n:Nat,Ph (n+14) "ends_on"=Ph 14 "ends_on"
 |0=>rfl
 |n+1=>by have h:o_ 14 (n+14)=true:=Nat.ble_eq_true_of_le (by lia);rw[<- KA n];exact Cv (n:=n+14) (by unfold stays;rw[h];generalize o_ 13 (n+14)=c;revert c;decide +kernel)
def SE(B:BD)(st:P)(E:List P):Prop:=E.length≤40000/\(∀z ∈ E,okE B z)/\∀(b i:Nat)(S:U),Bd B b i S->∃h,Ph 14 "ends_on" [.ref i,.p st] S=some (.ref S.length,h)/\Fr b S h/\h[S.length]? = some (.lst (E.map .p))
theorem OD(Q:BP B)(hL:Places B)(T:StL B A s):∃E,SE B (.tup [.tup A,.tup s]) E:=by
 have h4:=jj Q;have hhl:=nV (s:=B.fams);obtain⟨la,la1,la3,ela⟩:=JD Q (n:=8) rfl (.inl rfl) T;obtain⟨da,da1,da3,eda⟩:=JD Q (n:=8) rfl (.inr rfl) T;let p:Nat->Nat->Option D->Lc:=λi r' j=>[qr i,qt [.tup A,.tup s],qr r',j]
 obtain⟨f,h1,hR,h3⟩:=dP (t:=GC B) (g:=av 3) (b:=kH (Ph 13)) (Sp:=fun G S=>Fr G.b G.S0 S) (r:=fun G=>G.r) (R:=fun v ys=>∀z ∈ ys,okE B z) (c:=6144) (M:=100000) (s:=intsFrom 0 (homes B.fams).length) (p:=fun G L=>∃j,L=p G.i G.r j) (fun x hx=>by
  obtain⟨k,rfl,hk⟩:=gF hx;simp only[cO];obtain⟨f,x,g1,g2,_,_,_,_,_,_,X,r,cs,ws,rfl,hr1,hcs,hwl,hwi⟩:=T.at (k:=k) (by lia);obtain⟨nm,C,H,y,whos,F,hF,rfl⟩:=jk Q.hf (a8 g1);obtain⟨rfl,hce,rfl,rfl,rfl,rfl⟩:nm=_/\C=_/\H=_/\y=_/\whos=_/\F=_:=by simp only[P.tup.injEq,jC,P.str.injEq,P.int.injEq,P.lst.injEq,and_true]at X;obtain⟨a,b,c,d,e,f⟩:=X;exact⟨a,Int.ofNat.inj b,c,d,e,f⟩
  obtain⟨E,m1,m2,m3⟩:=Oq Q hL (n:=1) rfl hF g1 hr1 hcs hwl hwi T.hr T g2;refine⟨E,m1,m2,λG L S acc hLp fr V hM=>?_⟩;obtain⟨j,rfl⟩:=hLp;obtain⟨d,S1,e1,m,an⟩:=m3 G.b G.i S (G.bd.fr fr);obtain⟨S2,e2,q⟩:=sU (b:=G.b) (g:=Ph 13 "hand_ends") (q:=Mx fL kh Ca) (L:=p G.i G.r (qi (k:Int))) (S:=S) (l:=[.ref G.i,.p (.tup [.tup A,.tup s]),.p (.int (k:Int))]) rfl e1 m (au G.le fr.len) an;have W:=q.hi _ _ (au G.le G.hr) V;exact⟨p G.i G.r (qi (k:Int)),_,_,rfl,mW rfl V e2 W (by lia),⟨_,rfl⟩,(fr.trans q).set G.le G.hr _,kt W⟩)
 rw[cL]at h1 h3;refine⟨(intsFrom 0 (homes B.fams).length).flatMap f++la++da,?_,λz t=>?_,λb i S N=>?_⟩
 .rw [aZ,aZ];lia
 .rcases bA.mp t with t|t
  .rcases bA.mp t with t|t
   .obtain⟨v,hv,t⟩:=bQ.mp t;exact hR v hv z t
   .exact la3 z t
  .exact da3 z t
 .generalize (intsFrom 0 (homes B.fams).length).flatMap f=ys at h1 h3;have I:=Fr.app b S [.lst []];have K:=N.le;obtain⟨L',S1,e1,⟨j,rfl⟩,m,Z⟩:=h3 ⟨b,i,S,S.length,N,ah _⟩ (p i S.length none) (S++[.lst []]) [] ⟨none,rfl⟩ I (gB _ _) (by simp;lia);obtain⟨d2,T2,f2,q,an2⟩:=ela b i S1 (N.fr m);obtain⟨S2,e2,w⟩:=sU (b:=b) (g:=Ph 13 "flaw_ends") (q:=Mx fL kh (O (vt "lose"))) (L:=p i S.length j) (S:=S1) (l:=[.ref i,.p (.tup [.tup A,.tup s]),.p (.str "lose")]) rfl f2 q (au K m.len) an2;have hl2:=w.hi _ _ K Z;have o:Fr b S (S2.set S.length (.lst (([]++ys++la).map .p))):=(m.trans w).set K (ah _) _;have l:=kt (x:=.lst (([]++ys++la).map .p)) hl2;obtain⟨d3,T3,f3,fr3,an3⟩:=eda b i _ (N.fr o);obtain⟨S3,e3,u⟩:=sU (b:=b) (g:=Ph 13 "flaw_ends") (q:=Mx fL kh (O (vt "double"))) (L:=p i S.length j) (l:=[.ref i,.p (.tup [.tup A,.tup s]),.p (.str "double")]) rfl f3 fr3 (au K o.len) an3;have hl3:=u.hi _ _ K l;refine⟨S3.set S.length (.lst (([]++ys++la++da).map .p)),?_,(o.trans u).set K (ah _) _,by rw[kt hl3];simp⟩;obtain⟨jh,jp,jl,jm,mk,mv,h⟩:=N.fr I;have hq:(homes B.fams).length < 1000000:=by lia
  rw[wR];show lc (kI _ [qr i,qt [.tup A,.tup s],none,none] S)=_;unfold kI;rw[aq (by simp[p];exact⟨rfl,rfl⟩)];rw[aq (e:=p i S.length j) (c:=S1) (by rw[cf,show i6 (eG (dR (aT Att) fL "homes")) (p i S.length none) (S++[.lst []])=some (intsFrom 0 (homes B.fams).length,S++[.lst []]) by rw[ID,Ho,h.homes rfl];simp[h.ho.len,hq]];exact e1)]
  rw[aq (mW rfl Z e2 hl2 (by simp;lia))];rw[aq (mW rfl l e3 hl3 (by simp;lia))];rfl
theorem isStep.ok(q:oH e)(f:∀x ∈ r,j' x)(h:isStep s r e w l v):cA 8 v=true:=by
 obtain⟨i,b,j,k,g,p,m,a,S,rfl⟩:=h;have N:=qI q.1;have M:∀x ∈ nQ e++more k,j' x:=λx n=>(bA.mp n).elim (N x) (uV k x);have o:cA 7 (.lst g)=true:=Il λc h=>by obtain⟨x,t,n,d,rfl⟩:=S.ch c h;simp[n,cJ (d.ok M) (show 4≤5 by lia)]
 have u:cA 7 (.lst p)=true:=Il λc h=>cJ ((S.hsn c h).ok N) (by lia);show(List.all [P.str i,b,j,k,.lst g,.lst p,m] (cA 7))=true;simp only[c_,ma,o,u,uU,a,(f b S.h1).ok 7,(f m S.h2).ok 7,S.wh.ok N,cJ S.htk.ok (show 2≤7 by lia),mu]
theorem CA(m:BP B):cA 19 (.tup [.lst B.fams,.lst B.roads,.lst B.wishes])=true:=by
 have A:cA 18 (.lst B.fams)=true:=Il λf p=>by
  obtain⟨K,n,o,e,w,t,F,rfl⟩:=m.hf f p;have u:cA 16 (.lst o)=true:=fO F.hro 15;have g:cA 16 (.lst e)=true:=Il λc h=>by obtain⟨x,lo,I,l,S,_,_,_,_,rfl⟩:=F.hce.1 c h;have v:aW x=true:=S;simp[v]
  have i:cA 16 (.lst w)=true:=fO F.hwh 15;have j:cA 16 (.lst t)=true:=Il λc h=>cJ ((F.hst c h).ok F.hce F.hro) (by lia);show(List.all [P.str K,.int (n:Int),.lst o,.lst e,.lst w,.lst t] (cA 16))=true;simp only[c_,ma,u,g,i,j,uU,Bw,F.hnm,mu]
 have C:cA 18 (.lst B.roads)=true:=Il λr q=>by
  obtain⟨a,b,kd,c,E,G,y,z,d,_,_,rfl⟩:=m.hr r q;have:aW kd=true:=by rcases d with rfl|rfl<;>simp
  simp[y,z,this]
 have D:cA 18 (.lst B.wishes)=true:=Il λr q=>by
  obtain⟨k,f,s,hk,p,H,rfl⟩:=m.hw r q;have:aW k=true:=by rcases hk with rfl|rfl<;>simp
  simp[p,H,this]
 show(List.all [P.lst B.fams,.lst B.roads,.lst B.wishes] (cA 18))=true;simp only[c_,ma,A,C,D,mu]
theorem jA.ok(h:jA B st):cA 5 st=true:=by
 obtain⟨f,d,rfl,S⟩:=h;have b:cA 4 (.tup f)=true:=a_.mpr λx s=>by
  obtain⟨i,a,rfl⟩:=iJ.mp s;obtain⟨_,_,_,_,_,_,_,r,k,w,n,_,t,_,hw⟩:=S.hh i _ _ (bo (by rw[<- S.hl];exact a)) (bo a);have o:cA 2 (.tup k)=true:=a_.mpr λc h=>by obtain⟨i,_,rfl⟩:=t.2.1 c h;simp
  have q:cA 2 (.tup w)=true:=a_.mpr λc h=>(hw c h).isI.ok 1;rw[n];show(List.all [_,P.tup k,P.tup w] (cA 2))=true;rw[c_,c_,c_,o,q];simp
 have m:cA 4 (.tup d)=true:=a_.mpr λx s=>by obtain⟨i,a,rfl⟩:=iJ.mp s;obtain⟨v,p,e⟩:=S.hr.2 i _ (bo a);rw[e];exact a_.mpr λl h=>cJ (p.2 l h).1.ok (by lia)
 show(List.all [P.tup f,P.tup d] (cA 4))=true;rw[c_,c_,b,m];rfl
theorem kds_all:∀{xs:List P},(∀x ∈ xs,Nk.kd (pd x)=true)->Nk.kds (jf xs)=true
 | [],_=>rfl
 |x::xs,h=>by rw[jf,Nk.kds,h x aH,kds_all λy hy=>h y (aG _ hy)];rfl
theorem kB(h:∀x ∈ xs,Nk.kd (pd x)=true):Nk.kd (pd (.tup xs))=true:=kds_all h
theorem jA.good(h:jA B st):eD st=true:=by
 have ho:=cJ h.ok (show 5≤8 by lia);obtain⟨hs,rds,rfl,hS⟩:=h;unfold eD;rw[ho];show(true && (true && Nk.kd (pd (.tup [.tup hs,.tup rds]))))=true;rw[ut,ut];refine kB λx hx=>?_;rcases aN.mp hx with rfl|hx
 .refine kB λx hx=>?_;obtain⟨i,hi,rfl⟩:=iJ.mp hx;obtain⟨_,_,_,_,_,_,_,r,cs,ws,hxe,_,hc,_,hw⟩:=hS.hh i _ _ (bo (by rw[<- hS.hl];exact hi)) (bo hi);rw[hxe];refine kB λx hx=>?_;simp only[aN,de,cZ]at hx;rcases hx with rfl|rfl|rfl
  .rfl
  .exact kB λc h=>by obtain⟨i,_,rfl⟩:=hc.2.1 c h;rfl
  .exact kB λc h=>by obtain⟨i,rfl⟩:=(hw c h).isI;rfl
 .rw [b_.mp hx];refine kB λx hx=>?_;obtain⟨i,hi,rfl⟩:=iJ.mp hx;obtain⟨ls,hl,e⟩:=hS.hr.2 i _ (bo hi);rw[e];refine kB λl h=>?_;obtain⟨m,j,hm,_,rfl⟩:=(hl.2 l h).1;refine kB λy hy=>?_;simp only[aN,de,cZ]at hy;rcases hy with rfl|rfl
  .exact hm
  .rfl
theorem Gn{B:BD}(P:BP B):StL B ((bq B.fams).map iq) (List.replicate B.PR.length (.tup [])):=by
 refine⟨by simp,λk f x t q=>?_,by simp,λk r z=>⟨[],⟨by simp,λ_ h=>(by cases h)⟩,(ml.mp (a8 z)).2⟩⟩;rw[b9,t]at q;cases q;obtain⟨H,n,m,e,o,s,F,rfl⟩:=jk P.hf (a8 t);refine⟨H,n,m,e,o,s,rfl,0,e.map qU,List.replicate o.length (.int (-1)),rfl,len_pos F.r0,⟨by simp,λc b=>?_,λi c v b p=>?_⟩,by simp,λw hw=>.inl (ml.mp hw).2⟩
 .obtain⟨d,hd,rfl⟩:=aU.mp b;obtain⟨x,lo,y,a,_,u,g,j,l,rfl⟩:=F.hce.1 d hd;exact⟨a,by lia,rfl⟩
 .rw [b9,b]at p;cases p;obtain⟨x,lo,y,a,_,u,g,j,l,rfl⟩:=F.hce.1 c (a8 b);exact Bm (by lia) (by lia)
end My
namespace My
open PySem L2 Ev
variable{a:Type}
theorem ya:∀{s l:List a},s.Nodup->(∀x ∈ s,x ∈ l)->s.length≤l.length
 | [],_,_,_=>by simp
 |k::s,l,h,e=>by
  obtain⟨b,c⟩:=bP.mp h;obtain⟨m,r,rfl⟩:=List.append_of_mem (e k aH);have:=ya (l:=m++r) c λx f=>by have:=e x (aG _ f);have n:x≠k:=λz=>b (z ▸ f);simp only[bA,aN,n,false_or]at this ⊢;exact this
  simp only[aZ,aV]at this ⊢;lia
theorem jn{a n:Type}{f:a->List n}{c:Nat}:∀{s:List a},(∀x ∈ s,(f x).length≤c)->(s.flatMap f).length≤s.length * c
 | [],_=>by simp
 |x::s,h=>by
  have:=jn (s:=s) λy e=>h y (aG _ e);have:=h x aH
  rw[g7,aZ,aV,lY];lia
theorem wa(l:List a):∀n:Nat,(eK (List.replicate n l)).length=l.length ^ n
 |0=>rfl
 |n+1=>by have i:=wa l n;rw[je]at i ⊢;rw[cF,az,z0,i,pa,kP]
variable{B:BD}
theorem oz(P:BP B):∃b h,bq B.fams=b++h/\b.length≤2/\(h=[]\/∃z,h=[z]/\vY z)/\∀r ∈ B.roads,∀z ∈ h,a9 z≠rA r/\a9 z≠rB r:=by
 obtain⟨base,t,e,b,h,s⟩:=P.st;rcases b with ⟨f,rfl,a⟩|⟨f,g,rfl,a,n⟩
 .refine⟨List.replicate (dE f) f,t,?_,by simpa using a,h,s⟩;rcases h with rfl|⟨z,rfl,x⟩<;>rw[e]<;>simp[bq,hw];simp[x.1]
 .refine⟨List.replicate (dE f) f++List.replicate (dE g) g,t,?_,by simp;lia,h,s⟩;rcases h with rfl|⟨z,rfl,x⟩<;>rw[e]<;>simp[bq,hw];simp[x.1]
theorem xf(i:BP B)(h:pr r x b ∈ B.PR):((x=0/\b=1)\/(x=1/\b=0))/\r ∈ B.roads/\B.N[x]? = some (rA r)/\B.N[b]? = some (rB r):=by
 obtain⟨g,o,e,F,_,l⟩:=oz i;unfold BD.PR bJ at h;obtain⟨p,n,h⟩:=bQ.mp h;unfold x5 at h;obtain⟨v,j,h⟩:=bQ.mp h;obtain⟨d,c,h⟩:=aU.mp h;obtain⟨m,a⟩:=fJ.mp c;simp only[pr,P.tup.injEq,jC,P.int.injEq,and_true]at h;obtain⟨rfl,H,S⟩:=h;obtain rfl:v=x:=by lia
 obtain rfl:d=b:=by lia
 have w:=ju.mp j;have u:=ju.mp m;have a:v≠d:=by simpa using a
 have y:∀{k:Nat}{s:Str},B.N[k]? = some s->(s=rA p\/s=rB p)->k < 2:=λ{k s} hk f=>by
  unfold BD.N aY at hk;rw[e,b9]at hk;by_cases q:k < g.length
  .lia
  .rw [bI (by lia)]at hk;cases t:o[k-g.length]? with
   |none=>rw[t]at hk;cases hk
   |some z=>
    rw[t]at hk;cases hk;have:=l p n z (a8 t)
    rcases f with f|f
    .exact absurd f this.1
    .exact absurd f this.2
 have:=y w (.inl rfl);have:=y u (.inr rfl)
 exact⟨by lia,n,w,u⟩
def pk(x:P):P:=.tup [gE x 1,gE x 2]
theorem Mv(s:BP B):B.PR.length≤2:=by
 have p:B.PR.Pairwise λx y=>pk x≠pk y:=by
  refine Ai.mpr ⟨λr _=>?_,s.rd.imp_of_mem λ{r z} i c hd x h y e q=>?_⟩
  .unfold x5;refine Ai.mpr ⟨λa _=>?_,(B1 B.N (rA r)).imp λ{a m} n x h y e q=>?_⟩
   .refine z_.mpr (((B1 B.N (rB r)).filter _).imp λ{b k} n q=>n ?_);simp only[pk,pr,gE,P.tup.injEq,jC]at q;have:=q.2.1;simp at this;lia
   .obtain⟨b,_,rfl⟩:=aU.mp h;obtain⟨k,_,rfl⟩:=aU.mp e;refine n ?_;simp only[pk,pr,gE,P.tup.injEq,jC]at q;have:=q.1;simp at this;lia
  .have d:x ∈ B.PR:=bQ.mpr ⟨r,i,h⟩;have w:y ∈ B.PR:=bQ.mpr ⟨z,c,e⟩;have f:∀{r x},x ∈ x5 B.N r->∃a b,x=pr r a b:=λ{r x} h=>by
    unfold x5 at h;obtain⟨a,_,h⟩:=bQ.mp h;obtain⟨b,_,rfl⟩:=aU.mp h;exact⟨a,b,rfl⟩
   obtain⟨a,b,rfl⟩:=f h;obtain⟨m,k,rfl⟩:=f e;obtain⟨_,_,u,g⟩:=xf s d;obtain⟨_,_,t,v⟩:=xf s w;have j:a=m/\b=k:=by simp only[pk,pr,gE,P.tup.injEq,jC]at q;simp at q;lia
   obtain⟨rfl,rfl⟩:=j;rw[u]at t;rw[g]at v;exact hd ⟨cw t,cw v⟩
 have:=ya (s:=B.PR.map pk) (l:=[.tup [.int 0,.int 1],.tup [.int 1,.int 0]]) (z_.mpr p) λy e=>by obtain⟨x,h,rfl⟩:=aU.mp e;obtain⟨r,_,a,b,rfl⟩:=rH h;rcases(xf s h).1 with ⟨rfl,rfl⟩|⟨rfl,rfl⟩<;>simp[pk,pr,gE]
 simpa using this
noncomputable def WS(k:Nat):List P:=if k=0 then [.int (-1),.int 1] else if k=1 then [.int (-1),.int 0] else [.int (-1)]
theorem Mq(k:Nat):(WS k).length≤2:=by
 unfold WS;split
 .simp
 .split<;>simp
theorem WH.ws(P:BP B)(L:Places B)(h:WH B k w):w ∈ WS k:=by
 rcases h with rfl|⟨s,d,rfl,g⟩
 .unfold WS;split
  .simp
  .split<;>simp
 .obtain⟨j,r,a,b,_,_,p,x,e⟩:=L.ok _ _ _ g;have:=(xf P (a8 p)).1
  have x:s=a:=by lia
  have e:k=b:=by lia
  subst x e;rcases this with ⟨rfl,rfl⟩|⟨rfl,rfl⟩<;>simp[WS]
def hst(k:Nat)(f:P):List P:=(List.range (rL (gE f 2)).length).flatMap λ(r:Nat)=>(gG (rL (gE f 3))).flatMap λc=>(eK (List.replicate (rL (gE f 4)).length (WS k))).map λw=>.tup [.int (r:Int),.tup c,.tup w]
theorem BN(k:Nat)(f:P):(hst k f).length≤(rL (gE f 2)).length * ((gG (rL (gE f 3))).length * (WS k).length ^ (rL (gE f 4)).length):=by
 unfold hst;have:=jn (s:=List.range (rL (gE f 2)).length) (f:=λ(r:Nat)=>(gG (rL (gE f 3))).flatMap λs=>(eK (List.replicate (rL (gE f 4)).length (WS k))).map λw=>P.tup [.int (r:Int),.tup s,.tup w]) (c:=(gG (rL (gE f 3))).length * (WS k).length ^ (rL (gE f 4)).length) λr _=>jn λs _=>by rw[aX,wa];exact ah _
 rwa [z5]at this
variable{f:P}
theorem Ra(h:isFam b f)(k:Nat):(hst k f).length≤4:=by obtain⟨m,e,r,c,w,s,F,rfl⟩:=h;have x:=BN k (.tup [.str m,.int (e:Int),.lst r,.lst c,.lst w,.lst s]);have a:=F.b2;have n:(WS k).length ^ w.length≤2 ^ w.length:=Nat.pow_le_pow_left (Mq k) _;refine au x (au ?_ a);show r.length * ((gG c).length * (WS k).length ^ w.length)≤_;rw[pb];exact pc _ (pc _ n)
theorem Rb(h:vY f):(hst 2 f).length≤1:=by refine au (BN 2 f) ?_;rw[h.2.1,h.2.2];simp[WS]
theorem HandOk.mem(P:BP B)(L:Places B)(h:HandOk B k f x):x ∈ hst k f:=by obtain⟨v,e,o,c,a,s,rfl,r,n,q,rfl,p,t,w,hw⟩:=h;refine bQ.mpr ⟨r,iF.mpr p,bQ.mpr ⟨n,Ga t,aU.mpr ⟨q,jg (by rw[uk];exact w) λi d y b m=>?_,rfl⟩⟩⟩;rw[(ml.mp (a8 b)).2];exact(hw y (a8 m)).ws P L
def QF(B:BD)(x:P):List P:=.tup []::(LB ((bq B.fams)[(iv (gE x 1)).toNat]?.getD .non)).map λl=>.tup [l]
theorem Oe{b:List P}{f:P}(h:isFam b f):(LB f).length≤4:=by
 obtain⟨t,w,r,l,o,s,F,rfl⟩:=h;have:=F.b1
 have x:=F.b3;refine au (jn (c:=2) λe hst=>?_) (by show s.length * 2≤4;lia);obtain⟨q,p,d,v,g,n,m,k,S,rfl⟩:=F.hst e hst;have:=S.sl
 refine au (jn (c:=2) λn a=>?_) (by show n.length * 2≤2;lia);rw[aX];exact x
def JH(B:BD):List P:=(eK ((bq B.fams).mapIdx hst)).flatMap λh=>(eK (B.PR.map (QF B))).map λr=>.tup [.tup h,.tup r]
theorem Br:∀{s:List (List a)}{c:Nat},(∀e ∈ s,e.length≤c)->(eK s).length≤c ^ s.length
 | [],c,_=>by simp[eK]
 |e::r,c,h=>by have i:=Br (s:=r) λx k=>h x (aG _ k);have n:=h e aH;rw[je]at i ⊢;rw[az,z0,aV,pa,kP];exact lZ i n
theorem Dd{B:BD}(P:BP B):(JH B).length≤400:=by
 have q:(eK ((bq B.fams).mapIdx hst)).length≤16:=by
  obtain⟨w,i,e,l,t,_⟩:=oz P;have h:∀f ∈ bq B.fams,∀k,(hst k f).length≤4:=λf m k=>Ra (jk P.hf m) k;rw[e]at h ⊢;rw[je];match w,l with
  | [],_=>
   rcases t with rfl|⟨z,rfl,_⟩
   .simp
   .have:=h z (by simp) 0;simp;lia
  | [f],_=>
   have q:=h f (by simp) 0;rcases t with rfl|⟨z,rfl,_⟩
   .simp;lia
   .have n:=h z (by simp) 1;have:=lZ q n
    simpa using this
  | [f,g],_=>
   have q:=h f (by simp) 0;have n:=h g (by simp) 1;have s:=lZ q n;rcases t with rfl|⟨z,rfl,t⟩
   .simpa using s
   .have:=lZ s (Rb t);simpa[pb] using this
 have n:(eK (B.PR.map (QF B))).length≤25:=by
  refine au (Br (c:=5) λj v=>?_) ?_
  .obtain⟨x,d,rfl⟩:=aU.mp v;obtain⟨r,_,a,b,rfl⟩:=rH d;have p:=(xf P d).2.2.1;unfold BD.N aY at p;rw[b9]at p;cases m:(bq B.fams)[a]? with
   |none=>rw[m]at p;cases p
   |some f=>have:=Oe (jk P.hf (a8 m));unfold QF;rw[show(iv (gE (pr r a b) 1)).toNat=a from rfl,m,aV,aX];simp;lia
  .rw [aX];exact au (tY (by decide) (Mv P)) (by decide)
 refine au (jn (c:=25) λu _=>by rw[aX];exact n) ?_;lia
variable{e:P}
theorem jA.mem(P:BP B)(L:Places B)(h:jA B e):e ∈ JH B:=by
 obtain⟨q,d,rfl,S⟩:=h;refine bQ.mpr ⟨q,jg (by rw[List.length_mapIdx];exact S.hl) λi w y n k=>?_,aU.mpr ⟨d,jg (by rw[aX];exact S.hr.1) λi w y n k=>?_,rfl⟩⟩
 .rw [List.getElem?_mapIdx]at n;obtain⟨f,c,rfl⟩:=dW.mp n;exact(S.hh i f y c k).mem P L
 .rw [b9]at n;obtain⟨x,m,rfl⟩:=dW.mp n;obtain⟨v,s,rfl⟩:=S.hr.2 i y k;match v,s with
  | [],_=>exact aH
  | [l],s=>obtain⟨r,a,b,p,f,c,t⟩:=(s.2 l (by simp)).2;rw[p]at m;cases m;refine aG _ (aU.mpr ⟨l,?_,rfl⟩);rw[show(iv (gE (pr r a b) 1)).toNat=a from rfl,c];exact t
  |_::_::_,s=>have:=s.1;simp at this
theorem Kz{B:BD}(x:BP B)(L:Places B){s:List P}(h:∀k ∈ s,jA B k)(n:s.Nodup):s.length≤400:=au (ya n λk hk=>(h k hk).mem x L) (Dd x)
noncomputable def EN(B:BD)(e:P):List P:=open Classical in if h:∃E,SE B e E then h.choose else []
theorem B7(P:BP B)(L:Places B)(h:jA B e):SE B e (EN B e):=by obtain⟨s,r,rfl,S⟩:=h;have h:=OD P L S;unfold EN;rw[dif_pos h];exact h.choose_spec
def KI(B:BD)(s:List P):Prop:=(∀k ∈ s,jA B k)/\s.Nodup
theorem KI.good(h:KI B s):s.all eD=true:=a_.mpr λk hk=>(h.1 k hk).good
theorem Bu:∀{s:List P},k ∈ s->pd k ∈ jf s
 |q::s,h=>by
  rw[jf];rcases aN.mp h with rfl|h
  .exact aH
  .exact aG _ (Bu h)
noncomputable def fD(t:P×P×P):P:=.tup [t.1,t.2.1,t.2.2]
noncomputable abbrev Rw:=List (P×P×P)
noncomputable def kn(r:Rw):List P:=r.map (·.1)
def xc(p:P)(r:Rw)(z:P):Rw:=if lf (gE z 1) (kn r)=true then r else r++[(gE z 1,p,gE z 0)]
def qw(p:P)(r:Rw)(E:List P):Rw:=E.foldl (xc p) r
structure KR(B:BD)(rs:Rw):Prop where
 ki:KI B (kn rs)
 le:1≤rs.length
 pl:∀t ∈ rs.drop 1,∃i:Int,t.2.1=.int i
 ok:∀t ∈ rs,cA 3 t.2.1=true/\cA 3 t.2.2=true
theorem Gu{a:Type}{s:List a}{Q:a->Prop}(h:∀x ∈ s,Q x){y:a}(n:Q y):∀x ∈ s++[y],Q x:=λx e=>(bA.mp e).elim (h x) λz=>by rw[b_.mp z];exact n
set_option tactic.hygienic true in
theorem KR.add{B:BD}{r:Rw}(h:KR B r){z:P}(f:okE B z)(i:Int):KR B (xc (.int i) r z):=by
 obtain⟨d,e,rfl,hd,x⟩:=f;unfold xc;split
 .exact h
 .rename_i q;rw[show gE (.tup [d,e]) 1=e from rfl]at q;have k:kn (r++[(e,.int i,d)])=kn r++[e]:=by simp[kn]
  refine⟨?_,by simp,?_,Gu h.ok ⟨by simp,hd⟩⟩
  .show KI B (kn (r++[(e,.int i,d)]));rw[k];refine⟨eO h.ki.1 x,jN.mpr ⟨h.ki.2,by simp,λa s b n w=>?_⟩⟩;rw[b_.mp n]at w;subst w;exact q ((qR x.good h.ki.good).mpr (Bu s))
  .rw [List.drop_append_of_le_length h.le];exact Gu h.pl ⟨i,rfl⟩
theorem KR.step(i:Int):∀{E:List P}{r:Rw},KR B r->(∀z ∈ E,okE B z)->KR B (qw (.int i) r E)
 | [],_,h,_=>h
 |z::E,r,h,x=>KR.step i (E:=E) (h.add (x z aH) i) λy a=>x y (aG _ a)
theorem qv(p:P):∀(E:List P)(r:Rw),r.length≤(qw p r E).length
 | [],r=>ah _
 |z::E,r=>by
  refine au ?_ (qv p E (xc p r z));unfold xc;split
  .exact ah _
  .simp
theorem KR.few{B:BD}(P:BP B)(L:Places B){r:Rw}(h:KR B r):r.length≤400:=by have:=Kz P L h.ki.1 h.ki.2;simpa[kn] using this
def BF(B:BD):Nat->Nat->Rw->Rw
 |0,_,r=>r
 |n+1,i,r=>match r[i]? with
  |some t=>BF B n (i+1) (qw (.int (i:Int)) r (EN B t.1))
  |none=>r
theorem KR.at{B:BD}{r:Rw}(h:KR B r){i:Nat}{t:P×P×P}(e:r[i]? = some t):jA B t.1:=h.ki.1 _ (aU.mpr ⟨t,a8 e,rfl⟩)
theorem JM{B:BD}(P:BP B)(L:Places B):∀(n i:Nat){r:Rw},KR B r->KR B (BF B n i r)
 |0,_,_,h=>h
 |n+1,i,r,h=>by
  unfold BF;cases e:r[i]? with
  |none=>exact h
  |some t=>exact JM P L n (i+1) (h.step _ (B7 P L (h.at e)).2.1)
noncomputable def yes(k:List P):List D:=k.map λ_=>.p (.bl true)
theorem vP(s:List P)(k:P):yes (s++[k])=yes s++[.p (.bl true)]:=by simp[yes]
theorem BJ(r:Rw)(t:P×P×P):kn (r++[t])=kn r++[t.1]:=by simp[kn]
theorem Bk(r:Rw)(t:P×P×P):(r++[t]).map fD=r.map fD++[fD t]:=by simp
abbrev LL(sc p hd a:P)(x e s n q h:Option D):Lc:=[some (.p sc),some (.p p),some (.p hd),some (.ref 0),some (.ref 1),some (.p a),x,e,s,n,q,h]
def SS(r:Rw):U:=[.lst ((r.map fD).map .p),.dtn (kn r) (yes (kn r))]
theorem Fi(l:Str->GF)(u:BP B)(L:Places B)(sc p hd:P)(i:Int)(f b x a:Option D):∀{E:List P}{r:Rw},KR B r->(∀z ∈ E,okE B z)->∀c m,∃s n,bZ (bD [av 6,av 7]) (lS l) E (LL sc p hd (.int i) c m f b x a) (SS r)=some (.nx,LL sc p hd (.int i) s n f b x a,SS (qw (.int i) r E))
 | [],r,_,_,c,m=>⟨c,m,rfl⟩
 |z::E,r,h,j,c,m=>by
  have k:=j z aH;have H:=h.add k i;obtain⟨d,e,rfl,_,S⟩:=k;obtain⟨s,n,o⟩:=Fi l u L sc p hd i f b x a (E:=E) H (λy F=>j y (aG _ F)) (some (.p d)) (some (.p e));refine⟨s,n,(cm (h:=LL sc p hd (.int i) (some (.p d)) (some (.p e)) f b x a) (L2:=LL sc p hd (.int i) (some (.p d)) (some (.p e)) f b x a) rfl ?_).trans o⟩;have g:=S.good;have w:=h.ki.good;have A:=h.few u L;have t:(kn r).length≤1000000:=by simp[kn];lia
  have v:r.length≤1000000:=by lia
  unfold lS xc;rw[show gE (.tup [d,e]) 1=e from rfl,show gE (.tup [d,e]) 0=d from rfl];by_cases q:lf e (kn r)=true
  .rw [ac q];simp[SS,hY,ME,rO,g,w,q]
  .rw [af q];have K:lf e (kn r)=false:=by simpa using q
   unfold SS;rw[BJ,Bk,vP];simp[-jL,hY,ME,rO,g,w,K,sk,t,v,dw,fD]
noncomputable abbrev eU(f r w:List P):P:=.tup [.lst f,.lst r,.lst w]
theorem OE(P:Pln m r w)(h:jA (iN m r w) e):cI (Ph (n+15) "ends_from") [eU m r w,e]=some (.lst (EN (iN m r w) e)):=by
 obtain⟨S,x,c,_⟩:=w_ P (n:=n+9) [];obtain⟨_,_,b⟩:=B7 (B:=iN m r w) P (h7 ..) h;obtain⟨a,s,_,f⟩:=b _ _ _ c;have x:Ph (n+13) "Board.__init__" [.ref 0,.p (eU m r w)] [.ins "Board" [] []]=some (.p .non,S):=x;have k:Ph (n+15) "ends_from" [.p (eU m r w),.p e] []=some (.ref S.length,a):=by rw[r9];show lc (i9 (Ph (n+14)) (Ph (n+13)) [some (.p (eU m r w)),some (.p e)] [])=_;rw[i9,KA];simp only[be,gM,bC,qZ,aj,fC,ak,mq,kT,pf,eR,x];rw[show Ph 14 "ends_on" [.ref 0,.p e] S=_ from s];rfl
 unfold cI;rw[az,az,dY,k];show(toP 9 (.ref S.length) a).map (·.1)=_;rw[gu f];rfl
theorem R4{r:Rw}{i:Nat}{t:P×P×P}(e:r[i]? = some t):L2.atI ((r.map fD).map D.p) (i:Int)=some (.p (.tup [t.1,t.2.1,t.2.2])):=by rw[pN,pN,bS e];rfl
theorem sF{n:Nat}{f r w:List P}(g:Pln f r w)(sc hd:P)(p v q x:Option D):∀(m i:Nat){s:Rw}(d u:Option D),KR (iN f r w) s->m+i=1000->i≤s.length->∃y k c,hV (bV (kZ IV (vE (aj 5)) (eG (aj 3)))) (j5 (Ph (n+15))) m (LL sc (eU f r w) hd (.int (i:Int)) d u p v q x) (SS s)=some (.nx,LL sc (eU f r w) hd y k c p v q x,SS (BF (iN f r w) m i s))
 |0,i,s,_,_,h,C,A=>by have:=h.few g (h7 ..);lia
 |m+1,i,s,d,u,h,C,A=>by
  have L:=h7 f r w;have I:=h.few g L;have o:(bV (kZ IV (vE (aj 5)) (eG (aj 3)))) (LL sc (eU f r w) hd (.int (i:Int)) d u p v q x) (SS s)=some (decide (i < s.length),SS s):=by simp[SS,dO]
  unfold hV BF;rw[o,ak];cases e:s[i]? with
  |none=>
   have:¬i < s.length:=by simpa using e
   rw[af (by simpa using this)];exact⟨_,d,u,rfl⟩
  |some t=>
   have l:=bB e;rw[ac (by simpa using l)];have hst:=h.at e;have z:=B7 (B:=iN f r w) g L hst;obtain⟨k,c,H⟩:=Fi (Ph (n+15)) g L sc (eU f r w) hd (i:Int) p v q x (E:=EN (iN f r w) t.1) h z.2.1 d u;have G:=qv (.int (i:Int)) (EN (iN f r w) t.1) s;obtain⟨y,a,b,S⟩:=sF (n:=n) g sc hd p v q x m (i+1) k c (h.step (i:Int) z.2.1) (by lia) (by lia);have j:=R4 e;have K:=OE (n:=n) g hst;refine⟨y,a,b,?_⟩;have F:j5 (Ph (n+15)) (LL sc (eU f r w) hd (.int (i:Int)) d u p v q x) (SS s)=some (.nx,LL sc (eU f r w) hd (.int ((i+1:Nat):Int)) k c p v q x,SS (qw (.int (i:Int)) s (EN (iN f r w) t.1))):=by
    unfold j5;rw[aq (e:=LL sc (eU f r w) hd (.int (i:Int)) k c p v q x) (c:=SS (qw (.int (i:Int)) s (EN (iN f r w) t.1))) (by rw[cf,show i5 (cQ (cI (Ph (n+15) "ends_from")) (aB (vE (aj 1)) (aB (vE (lu (lu (aj 3) (vE (aj 5))) (vC (.int 0)))) aR))) (LL sc (eU f r w) hd (.int (i:Int)) d u p v q x) (SS s)=some (EN (iN f r w) t.1,SS s) by simp[-jL,SS,j,K]];exact H)]
    simp
   rw[F];exact S
end My
namespace My
open PySem L2 Ev
noncomputable abbrev vL(f:P)(j r:Nat)(a:P)(q h x:Option D):Lc:=[some (.p f),some (.ref j),some (.ref r),some (.ref (r+1)),some (.p a),q,h,x]
structure RI(b:Nat)(S0:U)(rs:Rw)(S:U):Prop where
 fr:Fr b S0 S
 ro:S[S0.length]? = some (.lst ((rs.map fD).map .p))
 li:S[S0.length+1]? = some (.dtn (kn rs) (yes (kn rs)))
variable{B:BD}{b:Nat}
theorem Bl(M:Str->GF)(W:BP B)(V:Places B)(K:b≤c.length)(f:P)(j:Nat)(i:Int)(x:Option D):∀{E:List P}{s:Rw}{S:U},KR B s->RI b c s S->(∀z ∈ E,okE B z)->∀v u,∃n m p,bZ (bD [av 6,av 7]) (d8 M) E (vL f j c.length (.int i) x v u) S=some (.nx,vL f j c.length (.int i) x n m,p)/\RI b c (qw (.int i) s E) p
 | [],s,S,_,R,_,v,u=>⟨v,u,S,rfl,R⟩
 |z::E,s,S,h,R,X,v,u=>by
  have t:=X z aH;have h1:=h.add t i;obtain⟨d,e,rfl,_,he⟩:=t;have Q:=he.good;have T:=h.ki.good;have hf:=h.few W V;have A:(kn s).length≤1000000:=by simp[kn];lia
  have C:s.length≤1000000:=by lia
  have I:¬((s.length:Int)=2000):=by lia
  have Z:rO (.ref (c.length+1)) S=some (c.length+1,kn s,yes (kn s)):=by simp[rO,R.li]
  suffices hs:∃g,d8 M (vL f j c.length (.int i) x (some (.p d)) (some (.p e))) S=some (.nx,vL f j c.length (.int i) x (some (.p d)) (some (.p e)),g)/\RI b c (xc (.int i) s (.tup [d,e])) g by obtain⟨g,e1,H⟩:=hs;obtain⟨n,m,p,e2,F⟩:=Bl M W V K f j i x (E:=E) h1 H (λy hy=>X y (aG _ hy)) (some (.p d)) (some (.p e));exact⟨n,m,p,(cm (h:=vL f j c.length (.int i) x (some (.p d)) (some (.p e))) rfl e1).trans e2,F⟩
  unfold d8 jy xc;rw[show gE (.tup [d,e]) 1=e from rfl,show gE (.tup [d,e]) 0=d from rfl];have N:∀w:Bool,lf e (kn s)=w->(bV (dH hY (aj 7) (aj 3))) (vL f j c.length (.int i) x (some (.p d)) (some (.p e))) S=some (!w,S):=λw hw=>by simp[hY,ME,Z,Q,T,hw]
  by_cases q:lf e (kn s)=true
  .rw [ac q];exact⟨S,by rw[dI,N true q];rfl,R⟩
  .rw [af q];have q':lf e (kn s)=false:=by simpa using q
   have G:c.length < S.length:=bB R.ro;have l:c.length+1 < S.length:=bB R.li;have o:(S.set (c.length+1) (.dtn (kn s++[e]) (yes (kn s)++[.p (.bl true)])))[c.length]? = some (.lst ((s.map fD).map .p)):=by rw[aP (by lia)];exact R.ro
   refine⟨(S.set (c.length+1) (.dtn (kn s++[e]) (yes (kn s)++[.p (.bl true)]))).set c.length (.lst (((s++[(e,P.int i,d)]).map fD).map .p)),?_,?_⟩
   .rw [dI,N false q',ak];show ai _ _ _ _=_;rw [aq (e:=vL f j c.length (.int i) x (some (.p d)) (some (.p e))) (c:=S) (by simp [dO,R.ro,I])];rw [aq (e:=vL f j c.length (.int i) x (some (.p d)) (some (.p e))) (c:=S.set (c.length+1) (.dtn (kn s++[e]) (yes (kn s)++[.p (.bl true)]))) (by
     simp[sk,Z,Q,T,q',A])]
    have:=pO (r:=aj 2) (a:=O (aK (aB (vE (aj 7)) (aB (vE (aj 4)) (aB (vE (aj 6)) aR))))) (L:=vL f j c.length (.int i) x (some (.p d)) (some (.p e))) (k:=c.length) (c:=s.map fD) (y:=fD (e,.int i,d)) rfl o (x:=S.set (c.length+1) (.dtn (kn s++[e]) (yes (kn s)++[.p (.bl true)]))) (by simp[fD]) o (by rw[aX];exact C);rw[this,Bk]
   .refine⟨(R.fr.set K (by lia) _).set K (by lia) _,?_,?_⟩
    .rw [bv (by simpa using G)]
    .rw [aP (by lia),bv l,BJ,vP]
variable{S:U}{f:P}
theorem OW(t:SE B f E)(x:Bd B b i S)(p:S[a]? = some (.fn (some (.ref i))))(hk:L[k]? = some (some (.ref a)))(q:L[j]? = some (some (.p f))):∃h,qf (Ph 14 "ends_on") k (vE (aj j)) L S=some (.lst E,h)/\Fr b S h:=by
 obtain⟨v,c,r,m⟩:=t.2.2 b i S x;refine⟨_,?_,(r.set x.le (ah _) (.fz (.lst E))).trunc⟩;have e:aj k L S=some (.ref a,S):=by simp[hk]
 have s:vE (aj j) L S=some (f,S):=by simp[q]
 have n:fnOf (.ref a) S=some (.ref i):=by simp[fnOf,p]
 unfold qf;rw[e,ak,n];show bG (vE (aj j) L S) _=_;rw[s,ak,c,ak,gu m,ak]
theorem qC{n:Nat}{B:BD}(y:BP B)(l:Places B){b i f:Nat}{x:U}(g:Bd B b i x)(T:b≤f)(Q:x[f]? = some (.fn (some (.ref i))))(v:P):∀(m p:Nat){r:Rw}{S:U}(z d w:Option D),KR B r->RI b x r S->m+p=1000->p≤r.length->∃I M q s o,hV (bV (kZ IV (vE (aj 4)) (eG (aj 2)))) (d7 (Ph (n+15)) (Ph (n+14))) m (vL v f x.length (.int (p:Int)) z d w) S=some (.nx,vL v f x.length I M q s,o)/\RI b x (BF B m p r) o
 |0,p,r,S,_,_,_,h,R,hm,hi=>by have:=h.few y l;lia
 |m+1,p,r,S,z,d,w,h,R,hm,hi=>by
  have hft:=h.few y l;have X:(bV (kZ IV (vE (aj 4)) (eG (aj 2)))) (vL v f x.length (.int (p:Int)) z d w) S=some (decide (p < r.length),S):=by simp[dO,R.ro]
  unfold hV BF;rw[X,ak];cases e:r[p]? with
  |none=>
   have:¬p < r.length:=by simpa using e
   rw[af (by simpa using this)];exact⟨_,z,d,w,S,rfl,R⟩
  |some t=>
   have G:=bB e;rw[ac (by simpa using G)];have hst:=h.at e;have H:=B7 y l hst;have et:=qv (.int (p:Int)) (EN B t.1) r;have C:=R4 e;obtain⟨V,Z,u⟩:=OW (k:=1) (j:=5) (L:=vL v f x.length (.int (p:Int)) (some (.p t.1)) d w) H (g.fr R.fr) (R.fr.hi _ _ T Q) rfl rfl;have F:RI b x r V:=⟨R.fr.trans u,u.hi _ _ g.le R.ro,u.hi _ _ (au g.le (iD _)) R.li⟩;obtain⟨q,s,N,e2,K⟩:=Bl (Ph (n+15)) y l g.le v f (p:Int) (some (.p t.1)) (E:=EN B t.1) h F H.2.1 d w;obtain⟨I,a,W,c,o,e3,A⟩:=qC (n:=n) y l g T Q v m (p+1) (some (.p t.1)) q s (h.step (p:Int) H.2.1) K (by lia) (by lia);refine⟨I,a,W,c,o,?_,A⟩;have e4:d7 (Ph (n+15)) (Ph (n+14)) (vL v f x.length (.int (p:Int)) z d w) S=some (.nx,vL v f x.length (.int ((p+1:Nat):Int)) (some (.p t.1)) q s,N):=by
    unfold d7;rw[aq (e:=vL v f x.length (.int (p:Int)) (some (.p t.1)) d w) (c:=S) (by simp[-jL,R.ro,C])];rw[KA,aq (e:=vL v f x.length (.int (p:Int)) (some (.p t.1)) q s) (c:=N) (by rw[cf,i5,Z];exact e2)]
    simp[Ej]
   rw[e4];exact e3
noncomputable def CM(B:BD)(f:P):Rw:=BF B 1000 0 [(f,.non,.non)]
theorem KR.one(h:jA B f):KR B [(f,.non,.non)]:=⟨⟨λk hk=>by rw[b_.mp hk];exact h,by simp[kn]⟩,by simp,λt x=>by simp at x,λt x=>by rw[b_.mp x];simp⟩
variable{n:Nat}
theorem HI(P:BP B)(L:Places B)(x:Bd B b i k)(m:b≤j)(s:k[j]? = some (.fn (some (.ref i))))(hst:jA B f):∃S:U,Ph (n+16) "rows_from" [.p (.lst [f]),.ref j] k=some (.ref k.length,S)/\S[k.length]? = some (.lst (((CM B f).map fD).map .p)):=by have g:=hst.good;have hk:=KR.one hst;have R:RI b k [(f,.non,.non)] (k++[.lst [.p (.tup [f,.non,.non])],.dtn [f] [.p (.bl true)]]):=⟨Fr.app ..,by simp[fD],by simp[yes,kn]⟩;obtain⟨p,a,r,c,S,e,h⟩:=qC (n:=n) P L x m s (.lst [f]) 1000 0 none none none hk R (by lia) (by simp);refine⟨S,?_,h.ro⟩;rw[rS];show lc (i8 _ _ [some (.p (.lst [f])),some (.ref j),none,none,none,none,none,none] k)=_;unfold i8;rw[aq (e:=[some (.p (.lst [f])),some (.ref j),some (.ref k.length),none,none,none,none,none]) (c:=k++[.lst [.p (.tup [f,.non,.non])]]) (by simp[cx,bR,nw])];rw[aq (e:=[some (.p (.lst [f])),some (.ref j),some (.ref k.length),some (.ref (k.length+1)),none,none,none,none]) (c:=k++[.lst [.p (.tup [f,.non,.non])],.dtn [f] [.p (.bl true)]]) (by simp[cx,bR,nw,vl,wc,Jv,lf,g])];rw[aq (e:=vL (.lst [f]) j k.length (.int 0) none none none) (c:=k++[.lst [.p (.tup [f,.non,.non])],.dtn [f] [.p (.bl true)]]) (by simp)];rw[aq (by unfold nK;exact e)];simp
variable{s:List P}{x:List P}{h:List P}
theorem OP(P:Pln s x h)(hst:jA (iN s x h) f)(t:cI (Ph (n+16) "begin") [eU s x h]=some f):∃r a,Ph (n+17) "coming_rows" [.p (eU s x h)] []=some (.ref r,a)/\a[r]? = some (.lst (((CM (iN s x h) f).map fD).map .p)):=by
 obtain⟨S,e,q,_⟩:=w_ P (n:=n+11) [];have k:Bd (iN s x h) S.length 0 (S++[.fn (some (.ref 0))]):=q.fr (Fr.app ..);obtain⟨a,m,p⟩:=HI (n:=n) (B:=iN s x h) P (h7 ..) k (j:=S.length) (ah _) (by simp) hst;have e:Ph (n+15) "Board.__init__" [.ref 0,.p (eU s x h)] [.ins "Board" [] []]=some (.p .non,S):=e;refine⟨(S++[SO.fn (some (.ref 0))]).length,a.map IZ,?_,by rw[b9,p];rfl⟩;rw[oQ];show lc (gQ (Ph (n+16)) (Ph (n+15)) [some (.p (eU s x h)),none] [])=_;unfold gQ;rw[aq (e:=[some (.p (eU s x h)),some (.ref 0)]) (c:=S) (by simp only[aD,bC,qZ,aj,fC,ak,mq,kT,pf,eR,e];rfl)]
 have b:bu (aB (cQ (cI (Ph (n+16) "begin")) (aB (vE (aj 0)) aR)) aR) [some (.p (eU s x h)),some (.ref 0)] S=some (.lst [f],S):=by simp[t]
 have c:aj 1 [some (.p (eU s x h)),some (.ref 0)] S=some (.ref 0,S):=rfl;rw[be,vo,b,ak,c,ak,m,ak,ak];rfl
theorem uP:∀s:List P,x4 (s.map .p)=some s
 | []=>rfl
 |p::s=>by rw[az,x4,uP s];rfl
theorem Ng(P:Pln s x h)(hst:jA (iN s x h) f)(t:cI (Ph (n+16) "begin") [eU s x h]=some f)(p:a L S=some ([eU s x h],S)):rc (Ph (n+18) "whole") a L S=some (.ref S.length,S++[.lst (((CM (iN s x h) f).map fD).map .p)]):=by
 obtain⟨r,e,k,b⟩:=OP (n:=n) P hst t;have c:Ph (n+18) "whole" [.p (eU s x h)] []=some (.ref r,e):=by rw[CW];show lc (be _ [some (.p (eU s x h))] [])=_;rw[be,gM,show bC (aj 0) fC [some (.p (eU s x h))] []=some ([.p (eU s x h)],[]) from rfl,ak,k];rfl
 have m:mM (.ref r) e=some (r,(CM (iN s x h) f).map fD):=by unfold mM;rw[show dw (.ref r) e=some (r,((CM (iN s x h) f).map fD).map .p) by simp only[dw,b]];show(x4 _).map _=_;rw[uP];rfl
 rw[rc,p,ak,az,dY,c];show(mM (.ref r) e).elim none _=_;rw[m];rfl
theorem vZ(h:S[r]? = some (.lst (a.map .p))):eI S 9 (.ref r)=some (.lst a):=by simp[eI,h,Bz]
theorem KJ(h:KR B r):cA 20 (.lst (r.map fD))=true:=Il λx k=>by obtain⟨t,a,rfl⟩:=aU.mp k;have e:=cJ (h.ki.1 t.1 (aU.mpr ⟨t,a,rfl⟩)).ok (show 5≤18 by lia);have s:=cJ (h.ok t a).1 (show 3≤18 by lia);have n:=cJ (h.ok t a).2 (show 3≤18 by lia);show(List.all [t.1,t.2.1,t.2.2] (cA 18))=true;simp only[c_,ma,e,s,n,mu]
theorem Fh(g:Str->GF)(sc p hd x:P)(m r v:Option D)(S:U):∀{w:Rw},(∀t ∈ w,∃i:Int,t.2.1=.int i)->∀d n k,∃f q s,bZ (bD [av 10,av 11,av 6]) (lR g) (w.map fD) (LL sc p hd x d m r v n k) S=some (.nx,LL sc p hd x f m r v q s,S)
 | [],_,d,n,k=>⟨d,n,k,rfl⟩
 |(a,b,c)::w,h,d,n,k=>by obtain⟨i,u⟩:=h _ aH;have u:b=.int i:=u;subst u;obtain⟨f,q,s,e⟩:=Fh g sc p hd x m r v S (w:=w) (λt j=>h t (aG _ j)) (some (.p c)) (some (.p a)) (some (.p (.int i)));refine⟨f,q,s,(cm (h:=LL sc p hd x (some (.p c)) m r v (some (.p a)) (some (.p (.int i)))) (L2:=LL sc p hd x (some (.p c)) m r v (some (.p a)) (some (.p (.int i)))) rfl ?_).trans e⟩;simp[lR,wF]
theorem wz(g:Pln s x h)(hst:jA (iN s x h) f)(o:cI (Ph (n+16) "begin") [eU s x h]=some f)(sc t:P)(i d w Q p v:Option D)(T:U) :
  ∃c q k,lQ (Ph (n+18)) (LL sc (eU s x h) (eU s x h) t i d w Q p v) (SS (CM (iN s x h) f)++T)=some (.nx,LL sc (eU s x h) (eU s x h) t c d w (some (.ref (SS (CM (iN s x h) f)++T).length)) q k,SS (CM (iN s x h) f)++(T++[.lst []])):=by
 have j:=λ(L:Lc)(a:jB) C=>Ng (n:=n) g hst o (L:=L) (S:=SS (CM (iN s x h) f)++T) (a:=a) C;have hk:KR (iN s x h) (CM (iN s x h) f):=JM g (h7 ..) _ _ (KR.one hst);have E:=hk.few g (h7 ..);generalize CM (iN s x h) f=m at j hk E ⊢;have M:=KJ hk;have N:=cJ (CA (B:=iN s x h) g) (show 19≤20 by lia);have G:=wo M;have I:Di (eU s x h) (eU s x h)=some false:=wo N;let r:=(SS m++T).length
 let e:=SS m++T++[SO.lst ((m.map fD).map .p)]
 have u:e[r]? = some (.lst ((m.map fD).map .p)):=gB _ _;have A:e[0]? = some (.lst ((m.map fD).map .p)):=rfl;have V:=vZ u;have R:=vZ A;let b:=LL sc (eU s x h) (eU s x h) t i d w (some (.ref r)) p v
 obtain⟨c,q,k,F⟩:=Fh (Ph (n+18)) sc (eU s x h) (eU s x h) t d w (some (.ref r)) e hk.pl i p v;refine⟨c,q,k,?_⟩;unfold lQ;rw[aq (e:=b) (c:=e) (by rw[aD,j _ _ rfl];rfl)];have l:bT (O (oh "list" (aj 9))) b e=some (true,e):=by simp only[b,bT,O,oh,aj,kT,mq,ak,wF,u];rfl
 have y:bV (dH Dk (aj 9) (aj 3)) b e=some (false,e):=by simp only[b,bV,dH,aj,kT,mq,ak,Dk,V,R,jE,G];rfl
 have z:bV (dH Dk (aj 2) (aj 1)) b e=some (false,e):=by simp only[b,bV,dH,aj,kT,mq,ak,Dk,uM,jE,I];rfl
 rw[aq (e:=b) (c:=e) (by rw[dI,Dc,vD,l,ak,ak];simp only[mw];rw[Dc,y,ak];simp only[z];rfl)]
 have K:mM (.ref r) e=some (r,m.map fD):=by unfold mM;rw[show dw (.ref r) e=some (r,(m.map fD).map .p) by simp only[dw,u]];show(x4 _).map _=_;rw[uP];rfl
 have H:cut (m.map fD) (some 1) none=(m.drop 1).map fD:=by rw[List.map_drop];exact wU 1
 rw [aq (e:=LL sc (eU s x h) (eU s x h) t c d w (some (.ref r)) q k) (c:=e) (by
  rw[cf,show i5 (DZ (aj 9) (gS (vC (.int 1))) il) b e=some ((m.drop 1).map fD,e) by rw[i5,DZ,show aj 9 b e=some (.ref r,e) from rfl,ak,show gS (vC (.int 1)) b e=some (some 1,e) from rfl,ak,show il b e=some (none,e) from rfl,ak,K];show bG (some (P.lst (cut (m.map fD) (some 1) none),e)) _=_;rw[H];rfl]
  exact F)]
 rw[b8,vn,show aj 9 (LL sc (eU s x h) (eU s x h) t c d w (some (.ref r)) q k) e=some (.ref r,e) from rfl,ak];simp only[dw,u,ak];rw[Aj _ _ (ah _),zJ];simp[r]
theorem LD{n:Nat}(a:List Int):cI (Ph (n+19) "law") [gI a]=some (.bl true):=by
 obtain⟨s,x,h,t,j⟩:=HZ (n:=n+12) a;have j:cI (Ph (n+18) "_law_plan") [gI a,.int 2]=some (eU s x h):=j;have o:=Gn (B:=iN s x h) t;have w:∀k,cI (Ph (k+4) "begin") [eU s x h]=some (.tup [.tup ((bq s).map iq),.tup (List.replicate (bJ (aY s) x).length (.tup []))]):=λk=>Go t;have hst:jA (iN s x h) (.tup [.tup ((bq s).map iq),.tup (List.replicate (bJ (aY s) x).length (.tup []))]):=⟨_,_,rfl,o⟩;generalize P.tup [.tup ((bq s).map iq),.tup (List.replicate (bJ (aY s) x).length (.tup []))]=f at w hst;have u:cI (Ph (n+18) "begin") [eU s x h]=some f:=w (n+14);have g:=hst.good;obtain⟨i,l,r,z⟩:=sF (n:=n+3) t (gI a) (eU s x h) none none none none 1000 0 none none (KR.one hst) (by lia) (by simp);obtain⟨p,q,c,H⟩:=wz (n:=n) t hst (w (n+12)) (gI a) i l r (some (.p (.int 0))) none none none [];obtain⟨v,b,m,F⟩:=wz (n:=n) t hst (w (n+12)) (gI a) i p r (some (.p (.int 1))) (some (.ref (SS (CM (iN s x h) f)++[]).length)) q c ([]++[.lst []]);rw[IT,aS];have e:∃L y,pM (Ph (n+18)) [some (.p (gI a)),none,none,none,none,none,none,none,none,none,none,none] []=some (.rt (.p (.bl true)),L,y):=by
  refine⟨LL (gI a) (eU s x h) (eU s x h) i v r (some (.p (.int 1))) (some (.ref (SS (CM (iN s x h) f)++([]++[SO.lst []])).length)) b m,SS (CM (iN s x h) f)++([]++[SO.lst []]++[SO.lst []]),?_⟩;unfold pM;rw[aq (e:=[some (.p (gI a)),some (.p (eU s x h)),none,none,none,none,none,none,none,none,none,none]) (c:=[]) (by simp[j])];rw[aq (e:=[some (.p (gI a)),some (.p (eU s x h)),some (.p (eU s x h)),none,none,none,none,none,none,none,none,none]) (c:=[]) (by simp[eU,i7])];rw[aq (e:=[some (.p (gI a)),some (.p (eU s x h)),some (.p (eU s x h)),some (.ref 0),none,none,none,none,none,none,none,none]) (c:=[.lst [.p (.tup [f,.non,.non])]]) (by simp[u])];rw[aq (e:=[some (.p (gI a)),some (.p (eU s x h)),some (.p (eU s x h)),some (.ref 0),some (.ref 1),none,none,none,none,none,none,none]) (c:=SS [(f,.non,.non)]) (by simp[vm,g,SS,yes,kn,fD])];rw[aq (e:=LL (gI a) (eU s x h) (eU s x h) (.int 0) none none none none none none) (c:=SS [(f,.non,.non)]) (by simp)];rw[aq (by unfold nK;exact z)];rw[aq (e:=LL (gI a) (eU s x h) (eU s x h) i v r (some (.p (.int 1))) (some (.ref (SS (CM (iN s x h) f)++([]++[SO.lst []])).length)) b m) (c:=SS (CM (iN s x h) f)++([]++[SO.lst []]++[SO.lst []])) (by rw[cf,show i6 (vC (.int 2)) (LL (gI a) (eU s x h) (eU s x h) i l r none none none none) (SS (BF (iN s x h) 1000 0 [(f,.non,.non)]))=some ([.int 0,.int 1],SS (CM (iN s x h) f)++[]) by rw[cP];rfl,ak];rw[cm (h:=LL (gI a) (eU s x h) (eU s x h) i l r (some (.p (.int 0))) none none none) rfl H];exact cm (h:=LL (gI a) (eU s x h) (eU s x h) i p r (some (.p (.int 1))) _ q c) rfl F)]
  rfl
 obtain⟨L,y,e⟩:=e;show (match pM (Ph (n+18)) [some (.p (gI a)),none,none,none,none,none,none,none,none,none,none,none] [] with
  |some (.rt d,_,S)=>(toP 9 d S).map Prod.fst
  |some (.nx,_,_)=>some P.non
  |_=>none)=_
 rw[e];rfl
theorem Fg{K:FG}{H:Hp}{a:Addr}{s:List Int}(l:s.length≤63)(h:Dh H)(S:iB K H a (s.map V.int)):mI K (Ji Gv Att Tb 200 "law") [.ref a] H (λv _=>v=.bl true) (λ_ _ _=>False):=by have e:cI (Ji Gv Att Tb 200 "law") [.ro (s.map .int)]=some (.bl true):=LD (n:=181) s;exact LF h S e
end My
set_option tactic.hygienic true
namespace PySem.W.Fast
def tw3754264145804143705:=Nat
def tw2649311789974564277:=Nat
def tw3005471134402244052:=Nat
def tw2224415365066875194:=Nat
def tw12546032351920001685:=Nat
def tw5270698284257372851:=Nat
def tw6364952968570519623:=Nat
def tw1485077525937258337:=Nat
def tw321753956892809337:=Nat
def tw2103805170273689525:=Nat
def tw6519310428100239316:=Nat
def tw2878261759943154582:=Nat
def tw8078783346172599624:=Nat
def tw10326299209323322022:=Nat
def tw9674361018398118666:=Nat
def tw7945847606512095093:=Nat
def tw12620906122620571475:=Nat
def tw2743022707962513146:=Nat
def tw16747993474963331123:=Nat
def tw6107949154524609721:=Nat
def tw3997404527642604585:=Nat
def tw12505484579982050085:=Nat
def tw1774458085345963168:=Nat
def tw15450038150509393397:=Nat
def tw15578906621580542794:=Nat
def tw7574764528440973890:=Nat
def tw11486880238838648816:=Nat
def tw5349829736233823067:=Nat
def tw11107296590792743451:=Nat
def tw16925298261828643908:=Nat
def tw5916508876476731761:=Nat
def tw9025134732115676935:=Nat
def tw7139228788311729967:=Nat
def tw5283366824074051791:=Nat
def tw491726250813991521:=Nat
def tw11503247931621994894:=Nat
def tw12990845852612505694:=Nat
def tw4299213306801962382:=Nat
def tw5343167696890843963:=Nat
def tw18382454095792534089:=Nat
def tw13764488422726728166:=Nat
def tw8751310707820186140:=Nat
def tw15524891229334594025:=Nat
def tw896830721772918326:=Nat
def tw1158973681574272727:=Nat
def tw12241194182874095037:=Nat
def tw73188254692761605:=Nat
def tw14334777432926818077:=Nat
def tw5830995151754448345:=Nat
def tw14465054735897523144:=Nat
def tw18257410190927466964:=Nat
def tw5810333137546961548:=Nat
def tw2282398769064191602:=Nat
def tw17279976518732521329:=Nat
def tw14742209821007059338:=Nat
def tw8798026143958757254:=Nat
def tw1378593689780177999:=Nat
def tw12769150033449091045:=Nat
def tw3692187885219163024:=Nat
def tw12363884361275067522:=Nat
def tw3102748815386602029:=Nat
def tw16710629314927861139:=Nat
def tw593199463182163232:=Nat
def tw12460486201559401775:=Nat
def tw6177385609002706554:=Nat
def tw16630578475825917450:=Nat
def tw452983356687852287:=Nat
def tw13016588351698961584:=Nat
def tw266837045547011990:=Nat
def tw18302604761875501737:=Nat
def tw11218077911393789333:=Nat
def tw14117801319965827420:=Nat
def tw10304204162487084556:=Nat
def tw1257871838325188524:=Nat
def tw5730000620533051126:=Nat
def tw1476961955139250427:=Nat
def tw573096192354401708:=Nat
def tw13948755122254469837:=Nat
def tw2504252059925434210:=Nat
def tw8951751074470064848:=Nat
def tw13655787367429702961:=Nat
def tw11138737021954892702:=Nat
def tw1055628969818742255:=Nat
def tw18063712671504005009:=Nat
def tw2777229903048795961:=Nat
def tw14902329467930449031:=Nat
def tw6537726374858867689:=Nat
def tw6301929887599587741:=Nat
def tw2472476646133789493:=Nat
def tw13095661379637378763:=Nat
def tw7650534722995562215:=Nat
def tw9647471945273601223:=Nat
def tw2672533298506665238:=Nat
def tw8431510238835858415:=Nat
def tw2289087100908501015:=Nat
def tw15886273206056192114:=Nat
def tw12720984332836163447:=Nat
def tw1370279104261859132:=Nat
def tw7199690728438074849:=Nat
def tw689231375610631995:=Nat
def tw2251349363413039675:=Nat
def tw15328141712472737:=Nat
def tw14485735253845438638:=Nat
def tw4541176509956063784:=Nat
def tw18167919224787564909:=Nat
def tw16396277290068714827:=Nat
def tw10271540531102100851:=Nat
def tw1899026212472889439:=Nat
def tw9941520289815220671:=Nat
def tw18255793182671161950:=Nat
def tw12635500060463397164:=Nat
def tw2556460898153111774:=Nat
def tw12039711312422809322:=Nat
def tw15212095203392756357:=Nat
def tw13257949662148780743:=Nat
def tw14287656750836010122:=Nat
def tw15817048462595589328:=Nat
def tw8389560245341538848:=Nat
def tw7445364574167529844:=Nat
def tw1557566913465838554:=Nat
def tw3134667077647741258:=Nat
def tw10820133651152490378:=Nat
def tw9802600607842641444:=Nat
def tw17383921643018384752:=Nat
def tw9428856189051035595:=Nat
def tw14952424790898484245:=Nat
def tw2931897057467916296:=Nat
def tw12528216110346615311:=Nat
def tw16328714118470657998:=Nat
def tw14092540937322383413:=Nat
def tw7089114418662487696:=Nat
def tw2770292773877655662:=Nat
def tw7773881636513776067:=Nat
def tw16676087789236573564:=Nat
def tw16779772387625133884:=Nat
def tw1271744776690552948:=Nat
def tw6209264045083927948:=Nat
def tw11473002783889716350:=Nat
def tw1510521395884438816:=Nat
def tw2051745727606823316:=Nat
def tw3286847076615337027:=Nat
def tw1810539525414551571:=Nat
def tw18254952148381115236:=Nat
def tw8503031194867769537:=Nat
def tw390014618083059336:=Nat
def tw5999918802424899314:=Nat
def tw16364077950045854221:=Nat
def tw7682218850945210941:=Nat
def tw2271323285095570861:=Nat
def tw3617071176108036900:=Nat
def tw8860696390894002130:=Nat
def tw3486594458445889765:=Nat
def tw3655120657029243781:=Nat
def tw1596059756812185283:=Nat
def tw1672150926514193701:=Nat
def tw11061783329640046057:=Nat
def tw10611173251579424964:=Nat
def tw7432849198322661271:=Nat
def tw129037586090490613:=Nat
def tw1579419931079416685:=Nat
def tw10803486785964040101:=Nat
def tw4167143207274885609:=Nat
def tw350459950273049199:=Nat
def tw14636190540925916213:=Nat
def tw12811958398337237060:=Nat
def tw745265697210306621:=Nat
def tw271660179411147884:=Nat
def tw16843189749869223327:=Nat
def tw6838367110653201024:=Nat
def tw448879010002282340:=Nat
def tw3774708676815245362:=Nat
def tw15074857729336314918:=Nat
def tw13096596182540357670:=Nat
def tw15101872961155988662:=Nat
def tw9139888067795853885:=Nat
def tw15753041473211056527:=Nat
def tw13215295856236088503:=Nat
def tw4600326234739789540:=Nat
def tw14865712653541712644:=Nat
def tw15281369297604230695:=Nat
end PySem.W.Fast
open PySem PySem.W PyProof.Rows
set_option maxRecDepth 100000 in
set_option maxHeartbeats 0 in
theorem PySem.Challenge.cw_roadsall_k51_whole_goings_holds : PySem.Challenge.rw_roadsall_k51_whole_goings.Holds := by
 w_on;o_law;k_head;(case hw=>w_witness2)
 k_fill
 refine L2.DX (l:=PySem.Challenge.rw_roadsall_k51_whole_goings) (n:=63) (k:=200) (x:="_law_script") (CX:=L2.og) (sp:=fun K=>Ev.mI K (Ev.Ji My.Gv My.Att My.Tb 200 "law")) rfl (by decide) rfl ⟨rfl,by decide,by decide⟩ (fun w h Y=>PySem.W.km_in_of Y) (fun w=>by kernel_rfl) (fun w h Y=>My.Hz Y (by kernel_rfl) (by kernel_rfl)) ?F ?S ?C
 case F=>
  intro w mg fa h KX G hmg
  have T:Ev.TOk w My.Gv My.Att My.Tb (L2.R9 KX) mg:=by
   dsimp only [L2.R9]
   refine' My.Mp KX G ?cb ?hh ?lmk ?gv2 ?gv0 ?gv1 ?z
   case cb=>exact⟨⟨by k_is,by k_is,by k_is,by k_is,by k_is,by k_is,by k_is⟩,by k_is,by k_is,by k_is,by k_is,by k_is,⟨_,_,_,_,_,_,_,_,_,_,by k_is,by k_is,by k_is,by k_is,by k_is⟩,⟨_,_,_,_,_,_,_,_,_,_,by k_is,by k_is,by k_is,by k_is,by k_is⟩,⟨_,_,_,_,_,_,_,_,_,_,by k_is,by k_is,by k_is,by k_is,by k_is⟩⟩
   case hh=>
    intro d hd
    simp only [My.MT,List.mem_cons,List.not_mem_nil,or_false] at hd
    rcases hd with rfl|rfl|rfl|rfl|rfl|rfl|rfl|rfl|rfl|rfl|rfl|rfl|rfl|rfl|rfl|rfl|rfl|rfl|rfl|rfl|rfl|rfl|rfl|rfl|rfl|rfl|rfl|rfl|rfl|rfl|rfl|rfl|rfl|rfl|rfl|rfl|rfl|rfl <;> (dsimp only [My.pK,My.j_,My.Q2];exact⟨_,_,_,_,_,_,_,_,_,_,by k_is,by k_is,by k_is,by k_is⟩)
   case lmk=>kernel_rfl
   case gv0|gv1|gv2=>exact⟨_,by k_is⟩
   case z=>
    intro x hx
    simp only [Ev.Jc,List.mem_cons,List.not_mem_nil,or_false] at hx
    rcases hx with rfl|rfl|rfl|rfl|rfl|rfl|rfl|rfl|rfl|rfl|rfl|rfl|rfl|rfl|rfl|rfl|rfl|rfl|rfl <;> k_is
  obtain⟨f,fd,h1⟩:=T.fn My.pK (by simp [My.Tb,My.MT])
  have e0:=hmg.symm.trans (h1.gl (by decide +kernel))
  cases e0
  refine⟨fd,?_,fun base kb nb=>(Ev.BX T 200).1 My.pK (by simp [My.Tb,My.MT]) _ fd h1.fn⟩
  obtain⟨kV,doc,pm,an,cdv,ct,rfl⟩:=h1.pl (by decide +kernel)
  exact fun s v=>.of_eq rfl
 case S=>exact fun w H a ns hl hO hS=>My.Fg hl hO hS
 case C=>exact fun _ _ _ _ z=>z
