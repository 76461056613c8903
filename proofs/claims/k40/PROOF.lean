import PyProof.Rows.All
import Wide.All
import OpenK.AllK
import Wide.FinOn
import Lean
import PyProof.EqAt
import PyProof.EqKinds
import PyProof.TupleCall
import PySem.Challenge.RW_roadsall_k40_all_that_can_come
set_option Elab.async false
set_option linter.all false
set_option maxRecDepth 100000
set_option maxHeartbeats 4000000
noncomputable section
abbrev VP:=PySem.Value->PySem.Shared->Prop
abbrev PN:=List (PySem.Addr×PySem.Obj)
abbrev SV:=PySem.Str->Option PySem.Value
abbrev Aa:=PySem.Addr->Prop
abbrev LS:=List PySem.Str
abbrev LV:=List PySem.Value
abbrev Ab:=List PySem.Expr
abbrev OV:=Option PySem.Value
abbrev FG:=PySem.W.Frag
open PySem.PyData renaming strOk->aW,eqv->eA,depthAll->pZ,canLayAll0->vw,depth->rX,eqvAll->yz,canLay0->De
open PySem.Builtin.Tuple renaming tupleExact->yy,tupleItemsOf->Dd,tupleHashOf->IX,tupleTooMany->Jy
open PySem.W renaming findIn->dB,keepIn->dH,emptyDict->jG,codeIn->iU,instObj->kj,fnOf->iT,callWith_K->p7,plainGet->p6,tabObj->p0,CodeHd->pY,hasDictIn->uh,nsIn->pX,lookIn->t_,plainGet_of->xq,plainOver->xp,methodObj->xo,isFn->tU,codeHdIn->xn,takerIn->xm,makesIn->xl,noTabs->xk,mg_of->xj,mem_of_lookupK->Dq,cellsFrom_some->Dp,methodCall_KW->Do,pyHash_slot->Dn,codeHd_of_K->Dm,specialIn->Dl,handedIn->Dk,kia_one->Dj,OpenLaw->Di,KasFin->Dh,WalkO->Dg
open PySem renaming wpAny_bind->ab,wpAny_pure->al,wpAny_mono->cA,wpAny_field->dj,wpAny_Call_Name_kw->iR,wpAny_holding->fD,wpAny_seqItems->iQ,wpAny_truthy_bool->ki,call_meets->gG,wpAny_callSpecial?_slot->pW,wpAny_passesOwn->lB,wpAny_loadPart'->lA,mem_of_lookup->pV,wpAny_call_entry->nw,wpAny_setField_rec->pU,tupleKind_room_in1->pT,wpAny_typeOf->lz,wpAny_newObj_type->pS,codeAny_mono->nv,wpAny_pyIter_tuple->s_,wpAny_pyIter_enum->sZ,sizeLine_eq->nu,wpAny_nextOf_list_item->xi,call_meetsIn->pR,wpAny_execs_nil->sY,codeAny_builtin->sX,builtinLookup_eq_fast->xh,wpAny_loadName_local->xg,wpAny_standAt->sW,plainId_quiet->sV,wpAny_rule->pQ,wpAny_call->pP,wpAny_Name->pO,typeIs_int->pN,wpAny_pyIter_list->xf,wpAny_assign_Name->xc,wpAny_Call_method->xb,noFill_tuple_add->xa,typeLookup_type->w_,Within->w9,wpAny_newTuple->w8,wpAny_letOwnedTupleGo_enum->Dc,wpAny_binaryOp_repeat_ref->Db,wpAny_onRaise->w5,seq_tuple_add->w4,wpAny_pyNext_list_item->C_,wpAny_Call_method_late->C9,wpAny_Assign_Subscript->C8,seqSlot_of->C7,seqIndex_neg->w1,concat_meets->wZ,wpAny_pyNext_list_end->C6,wpAny_notOrdered_dict->C5,wpAny_nextOf_list_end->C4,exec_Assign_Name_used->C3,wpAny_updateSeq_pair->C2,wpAny_newFunctionEnv->AM,seqIndex_of->um,wpAny_loadName_free->AL,wpAny_loadName_cell->AK,wpAny_setItem_heap->AJ,wpAny_dictSet_heap->AI,sub_AttributeError->AH,wpAny_sequenceKey->AG,slot_list_getitem->AF,slot_dict_getitem->AE,wpAny_pyHash_str->AD,wpAny_pyHash_int->AC,wpAny_isInstance->AB,wpAny_forIn_list->AA,wpAny_execs_cons->Az,wpAny_eqBool_str->Ay,wpAny_eqBool_int->Ax,wpAny_Dict_empty->Aw,kt_code_dict_new->Av,beq_builtin_none->Au,wpAny_tryCatch->As,wpAny_setField->Ar,callType_codes->Aq,wpAny_newList->Ap,rangeSize_one->Ao,eval_ListComp->An,evalPart_none->Am,call_list_seq->Al
open Array renaming length_toList->mu,forIn_toList->pE,getElem?_eq_some_iff->Ak,getElem?_append_left->Aj,getElem?_eq_getElem->Ai,size_append->Ah,all_append->Ag,toList->Af
open PySem.Around renaming in1_units->mq,under_plainId->pD,under->ul,frames_deeper->Ae
open Bool renaming and_eq_true->ar,false_ne_true->bx,eq_iff_iff->kU,not_eq_true'->mn,false_or->kT,not_true->ml,and_true->pC,false_eq_true->uk,or_eq_true->uj,true_and->ui,or_eq_false_iff->Ad
open List renaming mem_cons_of_mem->aG,mem_cons_self->aH,getElem?_set_ne->aP,mem_of_getElem?->aZ,getElem?_eq_getElem->bg,map_cons->aA,length_append->aX,getElem?_eq_some_iff->bw,getElem?_append_right->bH,length_cons->aV,length_map->aQ,getElem?_set_self->bv,getElem?_append_left->bL,mem_cons->aN,size_toArray->bc,all_eq_true->a_,mem_map->aY,mem_append->bE,getElem?_map->bY,mem_flatMap->bR,replicate_succ->cD,mem_singleton->cC,nodup_cons->bQ,eq_nil_of_length_eq_zero->g9,not_mem_nil->db,mem_append_right->eT,length_set->c_,append_nil->cZ,set_set->cB,getElem?_take_of_lt->g8,set_getElem_self->gp,append_assoc->eS,any_cons->du,all_cons->dt,length_filter_le->g7,nil_append->eR,flatten_cons->gn,mem_filter->fI,foldl_cons->fH,mem_iff_getElem->iG,mem_append_left->iF,map_nil->dX,getD_eq_getElem?_getD->kS,flatMap_cons->g6,length_take->g0,getElem_mem->gZ,getElem?_cons_succ->kQ,forIn_cons->iD,find?_cons->iC,nodup_append->jF,lookup->fG,mem_range->iB,getElem?_cons_zero->mj,mem_filterMap->kP,map_append->jE,filter_eq_self->mi,filterMap_cons->mh,mem_replicate->mf,length_singleton->pB,getElem?_eq_none->pA,take_length->ma,isEmpty_iff->l_,map_map->kO,nodup_nil->l8,drop_zero->l7,pairwise_iff_getElem->ug,lookup_cons->pu,getElem_map->pq,getElem?_replicate->uf,filter_cons_of_pos->ue,filter_cons_of_neg->ud,drop_length->pj,cons_append->pi,any_eq_true->ph,length_nil->pf,length_replicate->uc,mem_of_mem_take->ua,length->l0,findIdx?_eq_some_iff_getElem->Ac,all_nil->pe,range'_succ->t8,length_drop->t6,of_mem_zip->t5,filter_map->tZ,foldl->pc,drop_drop->tY,mem_of_find?_eq_some->z_,getElem?_eq_none_iff->z5,drop_eq_getElem_cons->z4,mem_of_mem_eraseIdx->z3,map_take->tX,length_eraseIdx_le->z0,take_of_length_le->zZ,filter_eq_nil_iff->zY,set_append_right->zX,pairwise_flatMap->zW,mem_of_mem_drop->zV,map_id->tW,map_congr_left->zU,length_pos_iff->zT,zip_cons_cons->zS,map_inj_right->zR,take_sublist->zQ,pairwise_map->zP,length_range->zO,mem_reverse->zN,flatMap_def->zM,foldr_cons->zL,find?_some->zK,forIn_nil->zJ,range'->zI
abbrev aJ:=@of_decide_eq_true
abbrev ac:=@if_pos
abbrev af:=@if_neg
abbrev bo:=@decide_eq_false
abbrev gY:=@beq_eq_false_iff_ne
abbrev gX:=@decide_eq_true
abbrev cY:=@or_false
abbrev cX:=@congrArg
abbrev jD:=@if_false
abbrev lZ:=@beq_iff_eq
abbrev jC:=@if_true
abbrev tT:=@decide_eq_true_eq
abbrev kN:=@not_or
open PySem.SeqAt renaming readOf->lY,eqv_refl->zH,shaped->zG,eqAt_reads->G1
open Sum.inr renaming inj->gW
open PySem.Heap renaming get?_push_of_some->aO,lt_size->aB,get?_push_size->br,SameBut->dW,size_push->lX,get?_update_self->tS,get?_update_other->zF,get?_none_of_le->zE,ExtBut->tR,NewAttrErr->zD,IsTuple->zC
open Option.some renaming inj->cc,injEq->G0
open Nat renaming le_refl->ag,le_trans->au,lt_of_lt_of_le->bD,ne_of_lt->bb,ne_of_gt->bP,zero_le->bX,lt_irrefl->eQ,le_of_lt->eP,zero_add->fF,lt_of_le_of_lt->jB,lt_succ_self->jA,le_succ->iA,mul_le_mul_left->pb,mul_comm->kM,lt_trans->kL,mul_le_mul->lW,succ_mul->lV,pow_le_pow_right->tP,mul_assoc->pa,pow_succ->o_,le_of_succ_le->tN,add_sub_cancel_left->zB,sub_zero->tM,lt_or_ge->tL,le_of_eq->tK,not_lt->tJ,eq_zero_or_pos->zA,add_sub_cancel->zz,le_succ_of_le->zy,ble->o8,min_eq_right->zx,le_add_right->zw,min_eq_left->zu,sub_self->zt,mul_succ->zr,add_comm->zq,log2_lt->zp
open Ne renaming symm->aI
open PySem.Calls renaming spliced_cons->dq,spliced_nil->gm,callWith_builtin->kK,evalArgs_plain->lU,Name_function_global->tH,loadGlobal_global->zo
open PyProof.Rows renaming callWith_type1->jz,slot_tuple_getitem->jy,boot_list->tG,boot_dict->zn,reads_list_at->tF,subscriptTail_builtinR->zm,tail_any->o7,lt_int->zj,entry_tuple_getitem->zi,args_tuple_getitem->zh,get?_update_seq->zg,callWith_builtin1->GZ,boot_zip->GY,boot_tuple->GX,boot_sorted->GW,boot_isinstance->GV,boot_int->GU,boot_bool->GR,boot_abs->GQ,slicePart_none->zf,boot_enumerate->ze,tupleItemsOf_->zd,listUpdate_at->zc
open PySem.EqNone renaming ne_str_none->GP,ne_none_str->GO,ne_none_none->GN,ne_none_int->GL,ne_none_bool->GK,ne_int_none->GJ,ne_bool_none->GI,eq_str_none->GH,eq_none_str->GG,eq_none_none->GD,eq_none_int->GB,eq_none_bool->GA,eq_int_none->Gz,eq_bool_none->Gy
open PySem.EqMixed renaming ne_str_int->Gx,ne_str_bool->Gw,ne_int_str->Gu,ne_bool_str->Gs,eq_str_int->Gr,eq_str_bool->Gq,eq_int_str->Gp,eq_bool_str->Go
open Option renaming map_eq_some_iff->gU,bind_some->jx,isSome_iff_exists->tD,map->tB,isSome_map->zb,getD_none->y'
open PySem.F renaming slot_dict_get->kJ,slot_tuple_iterator_next->o6,plainAttrs_list->o5,slot_tuple_mul->o4,entry_dict_get->o0,slot_int_rmul->oZ,args_tuple_add_2->tz,plainAttrs_dict->tw,entry_tuple_add->tu,slot_tuple_add->tt,slot_list_getattribute->tq,slot_zip_getattribute->tm,slot_dict_setdefault->y_,slot_tuple_index->y9,args_tuple_mul_2->y8,slot_tuple_rmul->y7,slot_list_index->y6,entry_tuple_mul->y4,args_dict_get_3->y3,args_dict_get_2->y2,args_tuple_iterator_next_1->y0,type_dict_get->yZ,entry_tuple_iterator_next->yY,slot_list_extend->yX,slot_list_append->yW,slot_list_clear->yV,args_int_rmul_2->yU,slot_int_index->yS,entry_int_rmul->yR,fills_int_mul->yQ,kt_typeCall_dict_1->yP,args_dict_init_2->yO,entry_dict_init->yN,kt_called_dict->yM,slot_zip_next->yL
open Int renaming zero_add->cO,emod_nonneg->gj,emod_lt_of_pos->iz,toNat_natCast->oY,toNat_of_nonneg->yK,natCast_mul->yJ,le_of_lt->yI
open PySem.Builtin.Slice renaming slicePlaces->oX,sliceAdjust->tj,sliceApplied->yH,slicePartIndex->Gn,sliceFields->Gm
open PySem.Str renaming length->lT,ofString_eq_toList->yG
open PySem.Obj renaming mapSeq->jw,mapFields->yF
open PySem.Builtin.List renaming listTooLong->oW
open PySem.AutoSeq1 renaming wpAny_loadPart'->tf,sub_tuple_tuple->yE,idx_int->yD
open List.cons renaming injEq->jv
open PySem.Heap.SameBut renaming update->lS
open PySem.Builtin.SmallTypes renaming nextOf->fE,ownedTupleIsFree->oV,ownedTupleHandOut->Gk
open PySem.Builtin.Dict renaming updateFrom->oU,selfAndRest->yC,addKeywords->yB,pairItems->yA
set_option tactic.hygienic false
namespace Nk
open PySem
mutual
noncomputable def kd:PyData->Bool
 | .none=>true
 | .int _=>true
 | .str x=>De (.str x)
 | .tuple xs=>kds xs
 | .bool _=>false
 | .list _=>false
 | .dict _=>false
noncomputable def kds:List PyData->Bool
 | []=>true
 |x::xs=>kd x && kds xs
end
mutual
noncomputable def hk(w:World):PyData->Int
 | .none=>PySem.W.hashW w.params .none
 | .int i=>hashInt i
 | .str x=>hashStr w x
 | .tuple xs=>reduceHash (IX (N0 w xs))
 | .bool _=>0
 | .list _=>0
 | .dict _=>0
noncomputable def N0(w:World):List PyData->List Int
 | []=>[]
 |x::xs=>hk w x::N0 w xs
end
mutual
noncomputable def dr:PyData->Nat
 | .tuple xs=>Pa xs+1
 | .none=>1
 | .int _=>1
 | .str _=>1
 | .bool _=>0
 | .list _=>0
 | .dict _=>0
noncomputable def Pa:List PyData->Nat
 | []=>0
 |x::xs=>dr x+Pa xs
end
noncomputable instance decPD:DecidableEq PyData:=λa b=>Classical.propDecidable (a=b)
section
variable{prog:Program}{w:World}{E:VP}
mutual
theorem Bu:∀(d:PyData)(v:Value)(as:List Addr)(A:Around)(s:Shared)(Q:Int->Shared->Prop),kd d=true->Reads s.heap v d as->A.units+d.depth < cLine->Q (hk w d) { s with toks:=s.toks+dr d }->wpAny (model prog w) A (pyHash v) Q E s
 | .none,_,_,A,s,Q,_,r,hu,h=>by cases r;exact Dn (T:="NoneType") rfl F.slot_NoneType_hash F.entry_NoneType_hash (F.args_NoneType_hash_1 _) (Au _) (.inr (by lia)) (ab (al (ab (wpAny_mkInt (al ⟨_,_,rfl,h⟩)))))
 | .int _,_,_,_,_,_,_,r,_,h=>by cases r;exact AC h
 | .str _,_,_,_,_,_,_,r,_,h=>by cases r;exact AD h
 | .tuple xs,_,_,A,s,Q,k,r,hu,h=>by
  cases r with
  | @tuple a o vs n _ _ g1 g2 g3 g4=>simp only[rX]at hu;refine Dn ⟨o,g1,g2⟩ F.slot_tuple_hash F.entry_tuple_hash (F.args_tuple_hash_1 _) (Au _) (.inr (by lia)) ?_;show wpAny _ _ (Dd (.ref a) >>= _) _ _ s;refine ab (wpAny_tupleItemsOf g1 g3 (ab ?_));rw[<- pE];refine wt xs vs.toList _ A.in1 s #[] _ k g4 (by rw[mq];lia) λb e=>?_;show wpAny _ _ (retInt (IX b.toList)) _ _ _;rw[e];exact ab (wpAny_mkInt (al ⟨_,_,rfl,h⟩))
 | .bool _,_,_,_,_,_,k,_,_,_ | .list _,_,_,_,_,_,k,_,_,_ | .dict _,_,_,_,_,_,k,_,_,_=>nomatch k
theorem wt:∀(xs:List PyData)(vs:LV)(as:List Addr)(A:Around)(s:Shared)(b:Array Int)(Q:Array Int->Shared->Prop),kds xs=true->ReadsAll s.heap vs xs as->A.units+pZ xs < cLine ->
  (∀b',b'.toList=b.toList++N0 w xs->Q b' { s with toks:=s.toks+Pa xs })->wpAny (model prog w) A (forIn vs b λx r=>do let h <- pyHash x;pure PUnit.unit;pure (ForInStep.yield (r.push h))) Q E s
 | [],_,_,_,s,b,_,_,r,_,h=>by cases r;exact al (h b (by simp[N0]))
 |d::xs,_,_,A,s,b,Q,k,r,hu,h=>by
  cases r with
  |cons r1 r2=>
   simp only[kds,ar]at k;simp only[pZ]at hu;rw[iD];refine ab (ab (Bu d _ _ A s _ k.1 r1 (by lia) ?_));refine al (wt xs _ _ A { s with toks:=s.toks+dr d } _ Q k.2 r2 (by lia) λb' e=>?_);have:=h b' (by rw[e];simp[N0])
   simpa[Pa,Nat.add_assoc] using this
end
end
mutual
theorem Ie:∀d:PyData,kd d=true->d.canLay0=true
 | .none,_ | .int _,_=>rfl
 | .str _,k=>k
 | .tuple xs,k=>by have:=wf xs k;simpa[De] using this
 | .bool _,k | .list _,k | .dict _,k=>nomatch k
theorem wf:∀xs:List PyData,kds xs=true->vw xs=true
 | [],_=>rfl
 |d::xs,k=>by simp only[kds,ar]at k;simp[vw,Ie d k.1,wf xs k.2]
end
mutual
theorem eqv_kd:∀a b:PyData,kd a=true->kd b=true->(eA a b=true↔a=b)
 | .none,.none,_,_=>by simp[eA]
 | .none,.int _,_,_ | .none,.str _,_,_ | .none,.tuple _,_,_=>by simp[eA]
 | .int _,.none,_,_ | .int _,.str _,_,_ | .int _,.tuple _,_,_ | .int _,.int _,_,_=>by simp[eA]
 | .str _,.none,_,_ | .str _,.str _,_,_ | .str _,.tuple _,_,_ | .str _,.int _,_,_=>by simp[eA]
 | .tuple _,.none,_,_ | .tuple _,.str _,_,_ | .tuple _,.int _,_,_=>by simp[eA]
 | .tuple xs,.tuple ys,h,k=>by have:=By xs ys h k;simp[eA,this]
 | .bool _,_,k,_ | .list _,_,k,_ | .dict _,_,k,_=>nomatch k
 | .none,.bool _,_,k | .none,.list _,_,k | .none,.dict _,_,k | .int _,.bool _,_,k | .int _,.list _,_,k | .int _,.dict _,_,k=>nomatch k
 | .str _,.bool _,_,k | .str _,.list _,_,k | .str _,.dict _,_,k | .tuple _,.bool _,_,k | .tuple _,.list _,_,k | .tuple _,.dict _,_,k=>nomatch k
theorem By:∀xs ys:List PyData,kds xs=true->kds ys=true->(yz xs ys=true↔xs=ys)
 | [],[],_,_=>by simp[yz]
 | [],_::_,_,_|_::_,[],_,_=>by simp[yz]
 |x::xs,y::ys,h,k=>by simp only[kds,ar]at h k;simp[yz,eqv_kd x y h.1 k.1,By xs ys h.2 k.2]
end
mutual
theorem stay:∀(x:PyData){h h':Heap}{v:Value}{as:List Addr},kd x=true->Reads h v x as->(∀b o,h.get? b=some o->o.cls=.type "tuple"->(∃vs n,o.data=.seq vs n)->h'.get? b=some o)->Reads h' v x as
 | .none,_,_,_,_,_,r,_ | .int _,_,_,_,_,_,r,_ | .str _,_,_,_,_,_,r,_=>by cases r;constructor
 | .tuple xs,_,_,_,_,k,r,q=>by
  cases r with
  |tuple g1 g2 g3 g4=>exact .tuple (q _ _ g1 g2 ⟨_,_,g3⟩) g2 g3 (stays xs k g4 q)
 | .bool _,_,_,_,_,k,_,_ | .list _,_,_,_,_,k,_,_ | .dict _,_,_,_,_,k,_,_=>nomatch k
theorem stays:∀(xs:List PyData){h h':Heap}{vs:LV}{as:List Addr},kds xs=true->ReadsAll h vs xs as->(∀b o,h.get? b=some o->o.cls=.type "tuple"->(∃vs n,o.data=.seq vs n)->h'.get? b=some o)->ReadsAll h' vs xs as
 | [],_,_,_,_,_,r,_=>by cases r;constructor
 |x::xs,_,_,_,_,k,r,q=>by
  simp only[kds,ar]at k;cases r with
  |cons r1 r2=>exact .cons (stay x k.1 r1 q) (stays xs k.2 r2 q)
end
section
variable{prog:Program}{w:World}{E:VP}
mutual
theorem vS:∀(d:PyData)(n:Nat)(v:Value)(as:List Addr)(A:Around)(s:Shared)(Q:Bool->Shared->Prop),kd d=true->d.depth≤n->Reads s.heap v d as->Q true s->wpAny (model prog w) A (eqIsQuiet n v) Q E s
 | .none,n,_,_,_,_,_,_,_,r,q | .int _,n,_,_,_,_,_,_,_,r,q | .str _,n,_,_,_,_,_,_,_,r,q=>by cases r;rw[eqIsQuiet_byValue n rfl];exact al q
 | .tuple xs,n,_,_,A,s,Q,k,l,r,q=>by
  simp only[rX]at l;obtain⟨n,rfl⟩:∃m,n=m+1:=⟨n-1,by lia⟩;cases r with
  | @tuple a o vs m _ _ g1 g2 g3 g4=>
   have T:s.TypeIs (.ref a) "tuple":=⟨o,g1,g2⟩;unfold eqIsQuiet;refine ab (wpAny_specialOf T F.slot_tuple_eq.lookup ?_);show wpAny _ _ (isInstance (.ref a) (.type "tuple") >>= _) _ _ s;refine ab (AB T isSubtype_tuple_tuple ?_);simp only[ml,uk,jD];refine ab (iQ g1 g3 (ab ?_));show wpAny _ _ (forIn vs _ _) _ _ s;rw[<- pE];have all:=sg xs n vs.toList _ A s k (by lia) g4;refine AA _ (λrest r s'=>r.1=none/\s'=s/\∀v ∈ rest,∀Q:Bool->Shared->Prop,Q true s->wpAny (model prog w) A (eqIsQuiet n v) Q E s) _ ?_ ?_ _ _ ⟨rfl,rfl,λv hv Q=>all v hv Q⟩
   .rintro v rest ⟨r1,r2⟩ s' ⟨e1,e2,hall⟩;subst e2;refine ab (hall v aH _ ?_);simp only[ml,uk,jD];exact al ⟨rfl,rfl,λu hu=>hall u (aG _ hu)⟩
   .rintro ⟨r1,r2⟩ s' ⟨e1,e2,_⟩;cases e1;cases e2;exact al q
 | .bool _,_,_,_,_,_,_,k,_,_,_ | .list _,_,_,_,_,_,_,k,_,_,_ | .dict _,_,_,_,_,_,_,k,_,_,_=>nomatch k
theorem sg:∀(xs:List PyData)(n:Nat)(vs:LV)(as:List Addr)(A:Around)(s:Shared),kds xs=true->pZ xs≤n->ReadsAll s.heap vs xs as->∀v ∈ vs,∀Q:Bool->Shared->Prop,Q true s->wpAny (model prog w) A (eqIsQuiet n v) Q E s
 | [],_,_,_,_,_,_,_,r,v,hv,_,_=>by cases r;cases hv
 |x::xs,n,_,_,A,s,k,l,r,v,hv,Q,q=>by
  simp only[kds,ar]at k;simp only[pZ]at l;cases r with
  |cons r1 r2=>
   rcases aN.mp hv with rfl|hv
   .exact vS x n _ _ A s Q k.1 (by lia) r1 q
   .exact sg xs n _ _ A s k.2 (by lia) r2 v hv Q q
end
end
def nest(prog:Program)(w:World):HeapKind prog w PyData where
 is:=λh d a=>kd d=true/\d.depth≤8/\∃n,Reads h (.ref a) d n
 hash:=hk w
 draws:=dr
 room:=λA=>A.units+8 < cLine
 inj:=λx y=>by obtain⟨k,_,_,r⟩:=x;obtain⟨_,_,_,m⟩:=y;exact PySem.SeqAt.Reads.unique _ _ _ _ _ (Ie _ k) r m
 keeps:=λx hd v j=>by obtain⟨k,l,n,r⟩:=x;refine⟨k,l,n,stay _ k r λb o c _ f=>?_⟩;refine(j.2 b λe=>?_).trans c;subst e;obtain⟨_,_,f⟩:=f;rw[hd]at c;cases c;rw[v]at f;cases f
 pyHash:=λu x q=>by obtain⟨k,l,n,r⟩:=x;exact Bu _ _ _ _ _ _ k r (by lia) q
 eqBool:=λ{A E s x y a b Q} u g i q=>by
  obtain⟨k,l,n,r⟩:=g;obtain⟨t,z,p,m⟩:=i;have e:=G1 x y A s _ _ n p r m (Ie _ k) (Ie _ t) (by lia);refine e prog w E Q ?_;have:eA x y=decide (x=y):=by rw[kU,eqv_kd x y k t,decide_eq_true_iff]
  rw[this];exact q
 quiet:=λx q=>by obtain⟨k,l,n,r⟩:=x;exact vS _ 8 _ _ _ _ _ k l r q
end Nk
set_option Elab.async false
set_option linter.all false
set_option maxRecDepth 100000
namespace L2
open PySem PySem.Spec PyProof.Rows
noncomputable abbrev b0:=Sum Int Str
noncomputable def sB:b0->Value->Bool
 | .inl k,v=>Value.isInt k v
 | .inr x,v=>Value.isStrOf x v
noncomputable def QM(w:World):b0->Int
 | .inl k=>hashInt k
 | .inr x=>hashStr w x
theorem cQ:∀{k:b0}{v:Value},sB k v=true->(∃i t,k=Sum.inl i/\v=Value.int i t)\/(∃x t,k=Sum.inr x/\v=Value.str x t)
 | .inl i,v,h=>by obtain⟨t,e⟩:=Value.isInt_shape (k:=i) (v:=v) h;exact .inl ⟨i,t,rfl,e⟩
 | .inr x,v,h=>by obtain⟨t,e⟩:=Value.isStrOf_shape (x:=x) (v:=v) h;exact .inr ⟨x,t,rfl,e⟩
theorem Cq(i:Int)(t:Tok):sB (.inl i) (.int i t)=true:=by simp[sB,Value.isInt]
theorem Cp(x:Str)(t:Tok):sB (.inr x) (.str x t)=true:=by simp[sB,Value.isStrOf]
theorem Lp(a b:Int):decide ((Sum.inl a:b0)=Sum.inl b)=(a == b):=by
 by_cases e:a=b
 .subst e;simp
 .have h:¬(Sum.inl a:b0)=Sum.inl b:=λq=>e (Sum.inl.inj q);rw[bo h];exact(gY.mpr e).symm
theorem Lm(a b:Str):decide ((Sum.inr a:b0)=Sum.inr b)=decide (a=b):=by
 by_cases e:a=b
 .subst e;simp
 .have h:¬(Sum.inr a:b0)=Sum.inr b:=λq=>e (gW q);rw[bo h,bo e]
theorem Lo(a:Int)(b:Str):decide ((Sum.inl a:b0)=Sum.inr b)=false:=bo (λq=>nomatch q)
theorem Ln(a:Str)(b:Int):decide ((Sum.inr a:b0)=Sum.inl b)=false:=bo (λq=>nomatch q)
def ce(prog:Program)(w:World):PySem.KeyKind prog w b0 where
 is:=sB
 hash:=QM w
 inj:=λv a b c f=>by
  rcases cQ c with ⟨i,t,rfl,rfl⟩|⟨x,t,rfl,rfl⟩
  .rcases cQ f with ⟨j,u,rfl,e⟩|⟨y,u,rfl,e⟩
   .injection e with s _;rw[s]
   .exact nomatch e
  .rcases cQ f with ⟨j,u,rfl,e⟩|⟨y,u,rfl,e⟩
   .exact nomatch e
   .injection e with s _;rw[s]
 byValue:=λk v h=>by rcases cQ h with ⟨i,t,rfl,rfl⟩|⟨x,t,rfl,rfl⟩<;>rfl
 pyHash:=λn h=>by
  rcases cQ n with ⟨i,t,rfl,rfl⟩|⟨x,t,rfl,rfl⟩
  .exact AC h
  .exact AD h
 eqBool:=λm n h=>by
  rcases cQ m with ⟨i,t,rfl,rfl⟩|⟨x,t,rfl,rfl⟩
  .rcases cQ n with ⟨j,u,rfl,rfl⟩|⟨y,u,rfl,rfl⟩
   .rw [Lp]at h;exact Ax h
   .rw [Lo]at h;exact SeqAt.EqAt.int_str i t y u _ _ _ _ h
  .rcases cQ n with ⟨j,u,rfl,rfl⟩|⟨y,u,rfl,rfl⟩
   .rw [Ln]at h;exact SeqAt.EqAt.str_int x t j u _ _ _ _ h
   .rw [Lm]at h;exact Ay h
 «strs»:=λk x t v h=>by
  rcases cQ h with ⟨i,u,rfl,e⟩|⟨y,u,rfl,e⟩
  .exact nomatch e
  .injection e with s _;subst s;cases v<;>rfl
theorem wb(prog:Program)(w:World)(i:Int)(t:Tok):(ce prog w).is (.inl i) (.int i t)=true:=Cq i t
theorem wa(prog:Program)(w:World)(x:Str)(t:Tok):(ce prog w).is (.inr x) (.str x t)=true:=Cp x t
inductive V where
 |non|bl (b:Bool)|int (i:Int)|str (x:Str)|byt (b:Array UInt8)|flt (b:UInt64)|ref (a:Addr)|ty (n:String)
 deriving DecidableEq
def RelV:V->Value->Prop
 | .non,u=>u=Value.none
 | .bl b,u=>u=Value.bool b
 | .int i,u=>∃t,u=Value.int i t
 | .str x,u=>∃t,u=Value.str x t
 | .byt b,u=>∃t,u=Value.bytes b t
 | .flt b,u=>∃t,u=Value.float b t
 | .ref a,u=>u=Value.ref a
 | .ty n,u=>u=Value.type n
abbrev ba:List V->LV->Prop:=Paired RelV
variable{j:LV}
theorem ba.length(r:ba xs j):xs.length=j.length:=Paired.length r
theorem ba.get:∀{xs:List V}{j:LV}{i:Nat}{x:V},ba xs j->xs[i]? = some x->∃u,j[i]? = some u/\RelV x u
 |_,_,_,_,.nil,e=>by simp at e
 |_,_,0,_,.cons r _,e=>by simp at e;subst e;exact⟨_,rfl,r⟩
 |_,_,i+1,x,.cons _ t,e=>by obtain⟨u,h1,h2⟩:=ba.get (i:=i) (x:=x) t (by simpa using e);exact⟨u,by simpa using h1,h2⟩
variable{u:Value}
theorem ba.set(r:RelV x u):∀{xs:List V}{j:LV}(i:Nat),ba xs j->ba (xs.set i x) (j.set i u)
 |_,_,_,.nil=>.nil
 |_,_,0,.cons _ t=>.cons r t
 |_,_,i+1,.cons q t=>.cons q (ba.set r i t)
theorem ba.append:∀{xs ys:List V}{j w:LV},ba xs j->ba ys w->ba (xs++ys) (j++w)
 |_,_,_,_,.nil,s=>s
 |_,_,_,_,.cons r t,s=>.cons r (ba.append t s)
theorem ba.take:∀{xs:List V}{j:LV}(n:Nat),ba xs j->ba (xs.take n) (j.take n)
 |_,_,0,_=>.nil
 |_,_,_+1,.nil=>.nil
 |_,_,n+1,.cons r t=>.cons r (ba.take n t)
theorem ba.drop:∀{xs:List V}{j:LV}(n:Nat),ba xs j->ba (xs.drop n) (j.drop n)
 |_,_,0,r=>r
 |_,_,_+1,.nil=>.nil
 |_,_,n+1,.cons _ t=>ba.drop n t
def kf:Option V->OV->Prop
 |some v,some u=>RelV v u
 |none,none=>True
 |_,_=>False
def KV:List (κ×V)->List (κ×Value)->Prop:=Paired λ(p:κ×V)(q:κ×Value)=>p.1=q.1/\RelV p.2 q.2
noncomputable def kV:b0->V
 | .inl i=>.int i
 | .inr x=>.str x
def nX(h:Heap)(a:Addr)(i:Array Value):Prop:=∃o,h.get? a=some o/\(o.cls=.type "tuple"/\∃n,o.data=.seq i n)/\o.dict=none
variable{h:Heap}{a:Addr}
theorem nX.tup(x:nX h a q):IsTup h a q:=by obtain⟨o,e,c,_⟩:=x;exact⟨o,e,c⟩
theorem nX.lt(x:nX h a q):a < h.objs.size:=x.tup.lt
theorem nX.new(h:Heap)(i:Array Value):nX (h.push { cls:=.type "tuple",data:=.seq i }) h.objs.size i:=⟨_,br _ rfl,⟨rfl,_,rfl⟩,rfl⟩
inductive HO where
 |lst (xs:List V)
 |tup (xs:List V)
 |dK (kvs:List (b0×V))|dT (kvs:List (List b0×V))|dN (kvs:List (PyData×V×V))
 |set (S:Int->Bool) (n:Nat)
 |ins (C dx:Addr) (fs:List (Str×V))
 |own (x:Addr)
 |xd (fs:List (Str×V))
 |met (f x:Addr)
 |rng (lo hi:Int)
 |frz (o:Obj) (u:HO)
 |tbl
 |ext (φ:Heap->Prop)
noncomputable abbrev Hp:=Addr->Option HO
noncomputable def bO(H:Hp)(a:Addr)(o:HO):Hp:=λb=>if b=a then some o else H b
variable{H:Hp}
theorem aD:bO H a o a=some o:=by unfold bO;rw[ac rfl]
variable{b:Addr}
theorem aj(h:b≠a):bO H a o b=H b:=by unfold bO;rw[af h]
theorem NR{H:Hp}{a b:Addr}{o u:HO}(h:H a=some o)(h':H b=some u)(d:o≠u):a≠b:=by intro e;subst e;rw[h]at h';exact d (cc h')
theorem bz(h:H a=some o)(h':H b=none):a≠b:=by intro e;subst e;rw[h]at h';cases h'
noncomputable def E6:Str:="coming_rows"
noncomputable def xZ:Str:="coming_rows.<locals>.<lambda>"
noncomputable def uP:Pos:=⟨217,36,217,77⟩
def DP(p:Addr×Obj):Option Addr:=match p.2.data with
 | .fields v=>match (v[1]?:OV),(v[11]?:OV) with
  |some (.str q _),some (.ref P)=>if q=E6 then some P else none
  |_,_=>none
 |_=>none
def cf(K:FG):List Addr:=K.filterMap DP
def x8(o:Obj):Prop:=∃v t,o.data=.fields v/\v[1]? = some (.str xZ t)
def qZ(H:Hp)(h:Heap)(a:Addr):Prop:=∃ps,h.get? a=some (p0 ps)/\(ps=#[]\/∃c o,ps=#[rawInt uP.line,rawInt uP.col,.ref c]/\H c=some (.frz o (.own a))/\x8 o)
section
variable(P:Program)(w:World)
def cU(H:Hp)(h:Heap)(a:Addr):HO->Prop
 | .lst xs=>xs.length≤sizeLine/\∃(its:LV)(n:Nat),ba xs its/\h.get? a=some { cls:=.type "list",data:=.seq its.toArray n }
 | .tup xs=>xs.length≤sizeLine/\∃its:LV,ba xs its/\nX h a its.toArray
 | .dK kvs=>kvs.length≤sizeLine/\(a == sysModules)=false/\∃vs,KV kvs vs/\h.DictOf (ce P w) a vs
 | .dT kvs=>kvs.length≤sizeLine/\(a == sysModules)=false/\∃xs:List (List b0×Addr×Value),
   Paired (λ(p:List b0×V)(q:List b0×Addr×Value)=>p.1=q.1/\H q.2.1=some (.tup (p.1.map kV))/\RelV p.2 q.2.2) kvs xs /\
   ∃o es ep,h.get? a=some o/\o.ExactDict/\o.data=.dict es ep/\es.toList=xs.map (entryOfKey (tupleKind (ce P w)))/\(xs.map (·.1)).Nodup
 | .dN kvs=>kvs.length≤sizeLine/\(a == sysModules)=false/\∃xs:List (PyData×Addr×Value),Paired (λ(p:PyData×V×V)(q:PyData×Addr×Value)=>p.1=q.1/\p.2.1=V.ref q.2.1/\RelV p.2.2 q.2.2) kvs xs /\
   ∃o es ep,h.get? a=some o/\o.ExactDict/\o.data=.dict es ep/\es.toList=xs.map (entryOfKey (Nk.nest P w))/\(xs.map (·.1)).Nodup
 | .set S n=>h.SetOf (intKind P w) a S n
 | .ins C dx fs=>H dx=some (.own a)/\fs.length≤1000/\dx≠a/\h.get? a=some (kj C dx) /\
   ∃mA,h.Ns1 dx mA/\(∀f,kf (fs.lookup f) (mA f))/\w9 mA (fs.map (·.1))
 | .own _=>∃o,h.get? a=some o
 | .xd fs=>∃mA,h.Ns1 a mA/\∀f,kf (fs.lookup f) (mA f)
 | .rng lo hi=>∃t u v,h.get? a=some { cls:=.type "range",data:=.fields #[.int lo t,.int hi u,.int 1 v] }
 | .frz o u=>h.get? a=some o/\cU H h a u
 | .tbl=>qZ H h a
 | .met f x=>h.get? a=some (xo (.ref f) (.ref x))
 | .ext φ=>φ h/\(∃o,h.get? a=some o)/\∀h1 h2:Heap,φ h1->(∀o,h1.get? a=some o->h2.get? a=some o)->φ h2
def i5(H:Hp)(h:Heap):Prop:=∀a o,H a=some o->cU P w H h a o
end
section
variable{P:Program}{w:World}{H H':Hp}{h h':Heap}{a:Addr}{o:HO}
theorem cU.lt(x:cU P w H h a o):a < h.objs.size:=by
 cases o with
 |lst xs=>obtain⟨_,_,_,_,e⟩:=x;exact aB e
 |tup xs=>obtain⟨_,_,_,p⟩:=x;exact p.lt
 |dK kvs=>obtain⟨_,_,_,_,o,_,_,e,_⟩:=x;exact aB e
 |dT kvs=>obtain⟨_,_,_,_,o,_,_,e,_⟩:=x;exact aB e
 |dN kvs=>obtain⟨_,_,_,_,o,_,_,e,_⟩:=x;exact aB e
 |set S n=>obtain⟨o,_,_,_,e,_⟩:=x;exact aB e
 |ins C dx fs=>obtain⟨_,_,_,e,_⟩:=x;exact aB e
 |own y=>obtain⟨_,e⟩:=x;exact aB e
 |xd fs=>obtain⟨_,⟨_,_,_,e,_⟩,_⟩:=x;exact aB e
 |rng lo hi=>obtain⟨_,_,_,e⟩:=x;exact aB e
 |frz ob u=>obtain⟨e,_⟩:=x;exact aB e
 |tbl=>obtain⟨_,e,_⟩:=(show qZ H h a from x);exact aB e
 |met f y=>exact aB (show h.get? a=some _ from x)
 |ext φ=>obtain⟨_,⟨_,e⟩,_⟩:=x;exact aB e
theorem Paired.mapP:∀{l:List α}{h:List z},Paired F l h->(∀a b,F a b->q a b)->Paired q l h
 |_,_,.nil,_=>.nil
 |_,_,.cons r t,f=>.cons (f _ _ r) (Paired.mapP t f)
theorem cU.stay(x:cU P w H h a o)(k:∀b u,(b=a\/H b=some (.own a))->h.get? b=some u->h'.get? b=some u)
  (ho:∀b,H b=some (.own a)->H' b=some (.own a)) (ht:∀b xs,H b=some (.tup xs)->H' b=some (.tup xs))
  (hf:∀b oc,H b=some (.frz oc (.own a))->H' b=some (.frz oc (.own a)):=by first|exact λ_ _ q=>q|exact λ_ _ q=>(aj (bz q (by assumption))).trans q):cU P w H' h' a o:=by
 induction o with
 |lst xs=>obtain⟨z,its,n,r,e⟩:=x;exact⟨z,its,n,r,k _ _ (.inl rfl) e⟩
 |tup xs=>obtain⟨z,its,r,ob,e,c⟩:=x;exact⟨z,its,r,ob,k _ _ (.inl rfl) e,c⟩
 |dK kvs=>obtain⟨z,y,vs,r,ob,es,ep,e,c⟩:=x;exact⟨z,y,vs,r,ob,es,ep,k _ _ (.inl rfl) e,c⟩
 |dT kvs=>obtain⟨z,y,xs,r,ob,es,ep,e,c⟩:=x;exact⟨z,y,xs,Paired.mapP r λp q z=>⟨z.1,ht _ _ z.2.1,z.2.2⟩,ob,es,ep,k _ _ (.inl rfl) e,c⟩
 |dN kvs=>obtain⟨z,y,xs,r,ob,es,ep,e,c⟩:=x;exact⟨z,y,xs,r,ob,es,ep,k _ _ (.inl rfl) e,c⟩
 |set S n=>obtain⟨ob,es,ep,t,e,c⟩:=x;exact⟨ob,es,ep,t,k _ _ (.inl rfl) e,c⟩
 |ins C dx fs=>obtain⟨d,z,ne,e,mA,⟨od,es,ep,e2,c⟩,r⟩:=x;exact⟨ho _ d,z,ne,k _ _ (.inl rfl) e,mA,⟨od,es,ep,k _ _ (.inr d) e2,c⟩,r⟩
 |own y=>obtain⟨ob,e⟩:=x;exact⟨ob,k _ _ (.inl rfl) e⟩
 |xd fs=>obtain⟨mA,⟨od,es,ep,e,c⟩,r⟩:=x;exact⟨mA,⟨od,es,ep,k _ _ (.inl rfl) e,c⟩,r⟩
 |rng lo hi=>obtain⟨t,u,v,e⟩:=x;exact⟨t,u,v,k _ _ (.inl rfl) e⟩
 |frz ob u ih=>obtain⟨e,q⟩:=x;exact⟨k _ _ (.inl rfl) e,ih q⟩
 |tbl=>obtain⟨ps,e,z⟩:=(show qZ H h a from x);refine⟨ps,k a _ (.inl rfl) e,z.imp id ?_⟩;rintro ⟨c,oc,e1,e2,e3⟩;exact⟨c,oc,e1,hf _ _ e2,e3⟩
 |met f y=>have e:h.get? a=some (xo (.ref f) (.ref y)):=x;show h'.get? a=some (xo (.ref f) (.ref y));exact k a _ (.inl rfl) e
 |ext φ=>obtain⟨p,⟨o,e⟩,st⟩:=x;exact⟨st _ _ p λo q=>k _ _ (.inl rfl) q,⟨o,k _ _ (.inl rfl) e⟩,st⟩
theorem i5.lt(x:i5 P w H h)(e:H a=some o):a < h.objs.size:=(x a o e).lt
theorem i5.fresh(x:i5 P w H h)(e:h.objs.size≤a):H a=none:=by
 cases q:H a with
 |none=>rfl
 |some u=>exact absurd (bD (x.lt q) e) (eQ _)
theorem i5.kept(x:i5 P w H h)(k:∀b u,h.get? b=some u->h'.get? b=some u):i5 P w H h':=λa o e=>
 (x a o e).stay (λb u _ q=>k b u q) (λ_ q=>q) λ_ _ q=>q
theorem i5.laid(x:i5 P w H h)(k:∀b u,h.get? b=some u->h'.get? b=some u)(p:h.objs.size≤a)(n:cU P w (bO H a o) h' a o):i5 P w (bO H a o) h':=λb u e=>by
 have f:=x.fresh p;by_cases s:b=a
 .subst s;rw[aD]at e;cases e;exact n
 .rw [aj s]at e;exact(x b u e).stay (λc v _ q=>k c v q) (λc q=>by rw[aj (bz q f)];exact q) λc xs q=>by rw[aj (bz q f)];exact q
end
def Rd(H:Hp)(a:Addr)(u:HO):Prop:=H a=some u\/∃o,H a=some (.frz o u)
theorem Rd.ok{P:Program}{w:World}{H:Hp}{h:Heap}{a:Addr}{u:HO}(r:Rd H a u)(x:i5 P w H h):cU P w H h a u:=by
 rcases r with r|⟨o,r⟩
 .exact x a u r
 .obtain⟨_,q⟩:=x a _ r;exact q
def OK:Option HO->Prop
 |some (.lst _)=>True
 |some (.dK _)=>True
 |some (.dT _)=>True
 |some (.dN _)=>True
 |some (.set _ _)=>True
 |some (.ins _ _ _)=>True
 |some (.ext _)=>True
 |_=>False
section
variable{P:Program}{w:World}{H:Hp}{h h':Heap}{x e:Addr}{o':HO}
theorem i5.write(ok:i5 P w H h)(m:OK (H x))(i:e=x\/H e=some (.own x))(k:∀b u,b≠e->h.get? b=some u->h'.get? b=some u)(d:∃u,h'.get? e=some u)
  (g:cU P w (bO H x o') h' x o'):i5 P w (bO H x o') h':=λb u q=>by
 have n:∀c y,H c=some (.own y)->c≠x:=λc y r z=>by subst z;rw[r]at m;exact m
 have t:∀c xs,H c=some (.tup xs)->c≠x:=λc xs r z=>by subst z;rw[r]at m;exact m
 have f:∀c o u,H c=some (.frz o u)->c≠x:=λc o u r z=>by subst z;rw[r]at m;exact m
 by_cases s:b=x
 .subst s;rw[aD]at q;cases q;exact g
 .rw [aj s]at q;by_cases a:b=e
  .have j:H b=some (.own x):=by
    rcases i with z|z
    .exact absurd (a.trans z) s
    .rw [a];exact z
   rw[q]at j;cases j;obtain⟨v,l⟩:=d;exact⟨v,by rw[a];exact l⟩
  .refine (ok b u q).stay (λc v p r=>k c v ?_ r) (λc r=>by rw[aj (n c b r)];exact r) (λc xs r=>by rw[aj (t c xs r)];exact r) (λc S r=>by rw[aj (f c _ _ r)];exact r);rcases p with rfl|p
   .exact a
   .rintro rfl;rcases i with z|z
    .exact n c b p z
    .rw [p]at z;cases z;exact s rfl
end
structure Un(fs ex:List Addr)(H H':Hp)(h h':Heap):Prop where
 keep:∀b o,h.get? b=some o->H b=none->b ∉ fs->b ∉ ex->h'.get? b=some o
 slot:∀b o,h.get? b=some o->H b=none->b ∈ fs->b ∉ ex->∃sl,h'.get? b=some { o with slots:=sl }
 free:∀b o,h.get? b=some o->H b=none->b ∉ ex->H' b=none
 there:∀b o,h.get? b=some o->b ∉ ex->∃o',h'.get? b=some o'
 tups:∀b xs,H b=some (.tup xs)->H' b=some (.tup xs)
 frzs:∀b o u,H b=some (.frz o u)->H' b=some (.frz o u)
 tbls:∀b,H b=some .tbl->H' b=some .tbl
section
variable{fs fs' ex ex':List Addr}{H G H2:Hp}{h h1 h2 h':Heap}{a x e:Addr}{o:HO}
theorem Un.any(u:Un fs ex H G h h1)(q:h.get? b=some z)(n:H b=none)(a:b ∉ ex):∃s,h1.get? b=some { z with slots:=s }:=by
 by_cases x:b ∈ fs
 .exact u.slot b z q n x a
 .exact⟨z.slots,u.keep b z q n x a⟩
theorem Un.kept(k:∀b u,h.get? b=some u->h'.get? b=some u):Un fs ex H H h h':=
 ⟨λb o q _ _ _=>k b o q,λb o q _ _ _=>⟨o.slots,k b o q⟩,λ_ _ _ n _=>n,λb o q _=>⟨o,k b o q⟩,λ_ _ q=>q,λ_ _ _ q=>q,λ_ q=>q⟩
theorem Un.refl:Un fs ex H H h h:=Un.kept λ_ _ q=>q
theorem Un.laid(k:∀b u,h.get? b=some u->h'.get? b=some u)(p:h.objs.size≤a)(x:H a=none):Un fs ex H (bO H a o) h h' where
 keep:=λb u q _ _ _=>k b u q
 slot:=λb u q _ _ _=>⟨u.slots,k b u q⟩
 free:=λb u q n _=>by rw[aj (bb (bD (aB q) p))];exact n
 there:=λb u q _=>⟨u,k b u q⟩
 tups:=λb xs q=>by rw[aj (bz q x)];exact q
 frzs:=λb u xs q=>by rw[aj (bz q x)];exact q
 tbls:=λb q=>by rw[aj (bz q x)];exact q
theorem Un.write(m:OK (H x))(p:e=x\/H e=some (.own x))(k:∀b u,b≠e->h.get? b=some u->h'.get? b=some u)(s:∃u,h'.get? e=some u):Un fs ex H (bO H x o) h h':=by
 have t:∀b,H b=none->b≠x:=λb n z=>by subst z;rw[n]at m;exact m
 have c:∀b,H b=none->b≠e:=λb n z=>by
  subst z;rcases p with r|r
  .exact t b n r
  .rw [n]at r;cases r
 have f:∀b u,H b=some u->¬OK (some u)->b≠x:=λb u q nm z=>by subst z;rw[q]at m;exact nm m
 refine⟨fun b u q n _ _=>k b u (c b n) q,fun b u q n _ _=>⟨u.slots,k b u (c b n) q⟩,fun b u q n _=>by rw [aj (t b n)];exact n,fun b u q _=>?_,
  λb xs q=>by rw[aj (f b _ q λz=>z)];exact q,λb u xs q=>by rw[aj (f b _ q λz=>z)];exact q,λb q=>by rw[aj (f b _ q λz=>z)];exact q⟩
 by_cases a:b=e
 .subst a;exact s
 .exact⟨u,k b u a q⟩
end
noncomputable def trk(h:Heap)(H:Hp):List Addr:=(List.range h.objs.size).filter λa=>(H a).isSome
def uX(h:Heap)(H:Hp):Heap:=PySem.W.hideAll h (trk h H)
theorem Cu(h:Heap)(H:Hp):(uX h H).objs.size=h.objs.size:=PySem.W.hideAll_size _ _
variable{o:Obj}
theorem Fq(e:h.get? b=some o)(n:H b=none):(uX h H).get? b=some o:=
 PySem.W.hideAll_get _ e λm=>by have q:(H b).isSome=true:=(fI.mp m).2;rw[n]at q;simp at q
theorem HX(e:(uX h H).get? b=some o):h.get? b=some o/\H b=none:=by
 have a:h.get? b=some o:=PySem.W.of_hideAll (trk h H) e;refine⟨a,?_⟩;cases q:H b with
 |none=>rfl
 |some x=>have m:b ∈ trk h H:=fI.mpr ⟨iB.mpr (aB a),by simp[q]⟩;have z:(uX h H).get? b=none:=PySem.W.hideAll_none (trk h H) m;rw[z]at e;cases e
noncomputable def nj(g h:Heap)(L:Addr):PN:=(List.range h.objs.size).filterMap λa=>if a=L\/(g.get? a).isSome=true then none else (h.get? a).map λo=>(a,o)
variable{g:Heap}{L:Addr}
theorem wc(h1:a≠L)(h2:g.get? a=none)(x:h.get? a=some o):(a,o) ∈ nj g h L:=
 kP.mpr ⟨a,iB.mpr (aB x),by simp[h1,h2,x]⟩
set_option tactic.hygienic true in
theorem qC(x:p ∈ nj g h L):p.1≠L/\g.get? p.1=none/\h.get? p.1=some p.2:=by
 obtain⟨b,_,e⟩:=kP.mp x;split at e
 .cases e
 .rename_i n;cases q:h.get? b with
  |none=>rw[q]at e;simp at e
  |some u=>
   rw[q]at e;simp only[Option.map_some,G0]at e;subst e;refine⟨λz=>n (.inl z),?_,q⟩;show g.get? b=none;cases r:g.get? b with
   |none=>rfl
   |some v=>exact(n (.inr (by simp[r]))).elim
theorem EG:News g L h (nj g h L):=λp x=>let ⟨a,b,c⟩:=qC x;⟨c,a,b⟩
structure Mod(K:FG)(mg:SV)(base:Heap):Prop where
 kin:K.In base
 glob:base.Ns mainGlobals mg
 blt:∃mb,base.Ns builtinsNs mb/\∀x:Str,x≠"__name__"->mb x=bootBuiltins x
 nolimit:base.NoLimit
 bmain:∃bm ob,mg "__builtins__"=some (.ref bm)/\bm≠builtinsNs/\base.get? bm=some ob/\ob.cls=.type "module"/\ob.dict=some builtinsNs/\ob.data=.plain
structure Cx where
 p:Program
 w:World
 K:FG
 g:SV
 b:Heap
 A:Around
 N:LS
 z:Shared
 y:Hp
 e:Env
 o:List Env
 k:List Env
 ex:List Addr
 fn:Str->Bool
 c:Bool
 pn:PN
 xe:VP
noncomputable def Cy(l:List Env):List Addr:=l.filterMap (·.frame)
abbrev Cx.fs(X:Cx):List Addr:=Cy X.o
def IU(sc:Scope)(x:Str):Prop:=sc.names.lookup x=some .local\/sc.names.lookup x=some .cell\/sc.names.lookup x=some .free
def Loc(sc:Scope)(x:Str):Prop:=sc.names.lookup x=some .local\/sc.names.lookup x=some .cell
def Look(e:Env)(h:Heap)(m:SV)(x:Str)(u:Value):Prop:=
 (e.kindOf x=some .local/\m x=some u)\/((e.kindOf x=some .cell\/e.kindOf x=some .free)/\∃c,e.cells.lookup x=some c/\h.IsCell c (some u))
structure Cx.Ok(X:Cx):Prop where
 mod:Mod X.K X.g X.b
 kind:X.e.scope.kind=.function
 glob:X.e.globals=mainGlobals
 blt:X.e.builtins=builtinsNs
 above:X.z.heap.objs.size≤X.e.locals
 inj:∀x y c,X.e.cells.lookup x=some c->X.e.cells.lookup y=some c->x=y
 has:∀x,(X.e.kindOf x=some .cell\/X.e.kindOf x=some .free)->∃c,X.e.cells.lookup x=some c
 cab:∀x c,X.fn x=true->X.e.cells.lookup x=some c->X.z.heap.objs.size≤c
 hd:X.c=true->X.A.handled=none
 frames:X.A.frames=some X.k
 stk:X.k=X.o\/(X.k=X.e::X.o/\X.e.frame=some X.e.locals)
 exf:∀b ∈ X.ex,b≠X.e.locals/\∀x c,X.e.cells.lookup x=some c->c≠b
 bs:∀b o,X.b.get? b=some o->X.z.heap.get? b=some o/\X.y b=none
 bsz:X.b.objs.size≤X.z.heap.objs.size
 noex:∀b o,X.b.get? b=some o->b ∉ X.ex
 exfs:∀b ∈ X.ex,b ∉ X.fs
 funs:X.z.heap.FunFrames X.b X.o
 frf:∀b ∈ X.fs,X.y b=none
 tab:∀P ∈ cf X.K,X.y P=some .tbl
structure Inv(X:Cx)(pins:PN)(J:List (Option V))(H:Hp)(s:Shared):Prop where
 o:X.Ok
 os:s.os=X.z.os
 bare:AllBare s.gens
 base:Un X.fs X.ex X.y H X.z.heap s.heap
 loc:∃m,s.heap.Ns X.e.locals m/\∀(i:Nat)(x:Str)(v:V),X.N[i]? = some x->J[i]? = some (some v)->IU X.e.scope x->∃u,RelV v u/\Look X.e s.heap m x u
 cell:∀x c,X.e.cells.lookup x=some c->∃v,s.heap.IsCell c v
 free:H X.e.locals=none
 freeC:∀x c,X.e.cells.lookup x=some c->H c=none
 pin:∀p ∈ X.pn++pins,s.heap.get? p.1=some p.2/\H p.1=none/\p.1≠X.e.locals/\p.1 ∉ X.fs/\∀v,p.2.data≠.cell v
 h:i5 X.p X.w H s.heap
 len:J.length=X.N.length
section
variable{X:Cx}{pins:PN}{J:List (Option V)}{H H':Hp}{s:Shared}{h':Heap}
theorem Cx.Ok.nofr(ok:X.Ok)(e:X.b.get? b=some o):b ∉ X.fs:=λh=>by have:=(ok.funs.mem h).1;rw[e]at this;cases this
theorem Inv.bs(I:Inv X pins J H s):∀b o,X.b.get? b=some o->s.heap.get? b=some o/\H b=none:=λb o e=>
 ⟨I.base.keep b o (I.o.bs b o e).1 (I.o.bs b o e).2 (I.o.nofr e) (I.o.noex b o e),I.base.free b o (I.o.bs b o e).1 (I.o.bs b o e).2 (I.o.noex b o e)⟩
theorem Inv.bk(I:Inv X pins J H s):∀b o,X.b.get? b=some o->s.heap.get? b=some o:=λb o e=>(I.bs b o e).1
theorem Inv.mod(I:Inv X pins J H s):Mod X.K X.g X.b:=I.o.mod
theorem Inv.kIn(I:Inv X pins J H s):X.K.In s.heap:=I.o.mod.kin.keeps I.bk
theorem Inv.nolimit(I:Inv X pins J H s):s.heap.NoLimit:=I.o.mod.nolimit.keeps I.bk
theorem Inv.fr(I:Inv X pins J H s):∃m,Fr X.b X.e.locals s.heap m:=
 let ⟨m,h,_⟩:=I.loc
 ⟨m,h,I.bk,au I.o.bsz I.o.above⟩
theorem Inv.lt(I:Inv X pins J H s):X.e.locals < s.heap.objs.size:=let ⟨_,h,_⟩:=I.loc;h.lt
theorem Inv.sz(I:Inv X pins J H s):X.z.heap.objs.size≤s.heap.objs.size:=au I.o.above (eP I.lt)
theorem Inv.nofs(I:Inv X pins J H s)(h:s.heap.objs.size≤a):a ∉ X.fs:=λb=>by obtain⟨_,o,x,_⟩:=I.o.funs.mem b;exact absurd (bD (aB x) (au I.sz h)) (eQ _)
theorem Inv.cne(I:Inv X pins J H s):∀x c,X.e.cells.lookup x=some c->c≠X.e.locals:=λx c e z=>by obtain⟨v,o,n,hd⟩:=I.cell x c e;obtain⟨m,⟨o',es,p,a,h,_⟩,_⟩:=I.loc;rw[z,a]at n;cases n;rw[h]at hd;cases hd
theorem Inv.funs(I:Inv X pins J H s):s.heap.FunFrames X.b X.o:=by
 have all:∀(l:List Env),(∀b ∈ Cy l,b ∈ X.fs)->X.z.heap.FunFrames X.b l->s.heap.FunFrames X.b l:=by
  intro l;induction l with
  |nil=>intro _ _;trivial
  |cons n r i=>
   intro a k;obtain⟨hk,⟨L,o,f,c,m,hd⟩,t⟩:=k;have h:L ∈ X.fs:=a L (by unfold Cy;rw[mh,f];exact aH);obtain⟨p,e⟩:=I.base.slot L o m (I.o.frf L h) h λz=>I.o.exfs L z h
   exact⟨hk,⟨L,_,f,c,e,hd⟩,i (λb x=>a b (by unfold Cy;rw[mh,f];exact aG _ x)) t⟩
 exact all X.o (λ_ x=>x) I.o.funs
theorem Inv.stack(I:Inv X pins J H s):s.heap.FunFrames X.b X.k:=by
 rcases I.o.stk with e|⟨e,h⟩
 .rw [e];exact I.funs
 .rw [e];obtain⟨m,n,_⟩:=I.loc;refine .cons (by rw[I.o.kind];decide) h n ?_ I.funs;exact zE (au I.o.bsz I.o.above)
theorem Inv.stkSub(I:Inv X pins J H s):∀b ∈ Cy X.k,b ∈ X.e.locals::X.fs:=λb h=>by
 rcases I.o.stk with e|⟨e,f⟩
 .rw [e]at h;exact aG _ h
 .rw [e]at h;unfold Cy at h;rw[mh,f]at h;exact h
theorem Inv.stkFree(I:Inv X pins J H s):∀b ∈ Cy X.k,H b=none:=λb h=>by
 rcases aN.mp (I.stkSub b h) with e|h
 .rw [e];exact I.free
 .obtain⟨_,o,x,_⟩:=I.o.funs.mem h;exact I.base.free b o x (I.o.frf b h) λz=>I.o.exfs b z h
theorem Inv.step{g':Array GenState}{t':Nat}{d':Drawn}{ch:List Addr}(I:Inv X pins J H s)
  (a:∀b ∈ ch,(b ∈ X.ex\/X.z.heap.objs.size≤b)/\b≠X.e.locals/\(∀x c,X.e.cells.lookup x=some c->c≠b)/\∀p ∈ X.pn++pins,p.1≠b)
  (t:∀b o,b≠X.e.locals->b ∉ X.fs->b ∉ ch->s.heap.get? b=some o->H b=none->h'.get? b=some o)
  (slot:∀b o,b≠X.e.locals->b ∈ X.fs->b ∉ ch->s.heap.get? b=some o->H b=none->∃E,h'.get? b=some { o with slots:=E }) (f:∀b o,b ∉ ch->s.heap.get? b=some o->H b=none->H' b=none)
  (y:∀b o,b ∉ ch->s.heap.get? b=some o->∃o',h'.get? b=some o')
  (A:∀b xs,H b=some (.tup xs)->H' b=some (.tup xs)) (F:∀b o u,H b=some (.frz o u)->H' b=some (.frz o u)) (P:∀b,H b=some .tbl->H' b=some .tbl)
  (ns:∀m,s.heap.Ns X.e.locals m->h'.Ns X.e.locals m) (D:i5 X.p X.w H' h') (V:AllBare g') :
  Inv X pins J H' { s with heap:=h',gens:=g',drawn:=d',toks:=t' }:=by
 have L:∀b o,X.z.heap.get? b=some o->b≠X.e.locals:=λb o e=>bb (bD (aB e) I.o.above);have C:∀b o,X.z.heap.get? b=some o->b ∉ X.ex->b ∉ ch:=λb o e h j=>by
  rcases(a b j).1 with z|z
  .exact h z
  .exact absurd (bD (aB e) z) (eQ _)
 have K:∀x c,X.e.cells.lookup x=some c->∀v,s.heap.IsCell c v->h'.IsCell c v:=λx c e v hz=>by
  obtain⟨o,S,hd⟩:=hz;have w:c ∉ ch:=λz=>(a c z).2.2.1 x c e rfl;by_cases M:c ∈ X.fs
  .obtain⟨E,q⟩:=slot c o (I.cne x c e) M w S (I.freeC x c e);exact⟨_,q,hd⟩
  .exact⟨o,t c o (I.cne x c e) M w S (I.freeC x c e),hd⟩
 refine⟨I.o,I.os,V,⟨λb o e n j h=>?_,λb o e n j h=>?_,λb o e n h=>?_,λb o e h=>?_,λb xs e=>A b xs (I.base.tups b xs e),λb o xs e=>F b o xs (I.base.frzs b o xs e),λb e=>P b (I.base.tbls b e)⟩,?_,λx c e=>?_,?_,λx c e=>?_,λp N=>?_,D,I.len⟩
 .exact t b o (L b o e) j (C b o e h) (I.base.keep b o e n j h) (I.base.free b o e n h)
 .obtain⟨E,g⟩:=I.base.slot b o e n j h;obtain⟨G,B⟩:=slot b _ (L b o e) j (C b o e h) g (I.base.free b o e n h);exact⟨G,B⟩
 .obtain⟨o',g⟩:=I.base.there b o e h;exact f b o' (C b o e h) g (I.base.free b o e n h)
 .obtain⟨o',g⟩:=I.base.there b o e h;exact y b o' (C b o e h) g
 .obtain⟨m,Z,W⟩:=I.loc;refine⟨m,ns m Z,λi x v g B T=>?_⟩;obtain⟨u,r,l⟩:=W i x v g B T;refine⟨u,r,?_⟩;rcases l with l|⟨k,c,e,z⟩
  .exact .inl l
  .exact .inr ⟨k,c,e,K x c e _ z⟩
 .obtain⟨v,z⟩:=I.cell x c e;exact⟨v,K x c e v z⟩
 .obtain⟨m,⟨o,_,_,S,_⟩,_⟩:=I.loc;exact f _ o (λz=>(a _ z).2.1 rfl) S I.free
 .obtain⟨v,o,S,hd⟩:=I.cell x c e;exact f c o (λz=>(a c z).2.2.1 x c e rfl) S (I.freeC x c e)
 .obtain⟨e,n,Q,R,d⟩:=I.pin p N;have w:p.1 ∉ ch:=λz=>(a p.1 z).2.2.2 p N rfl;exact⟨t p.1 p.2 Q R w e n,f p.1 p.2 w e n,Q,R,d⟩
theorem Inv.un{t':Nat}(I:Inv X pins J H s)(u:Un X.fs [] H H' s.heap h')(k:i5 X.p X.w H' h'):Inv X pins J H' { s with heap:=h',toks:=t' }:=by
 obtain⟨m,⟨o,es,q,f,r⟩,_⟩:=id I.loc;obtain⟨l,L⟩:=u.any f I.free (by simp);exact I.step (g':=s.gens) (d':=s.drawn) (ch:=[]) (λ_ z=>nomatch z) (λb o _ a _ e n=>u.keep b o e n a (by simp)) (λb o _ a _ e n=>u.slot b o e n a (by simp)) (λb o _ e n=>u.free b o e n (by simp)) (λb o _ e=>u.there b o e (by simp)) u.tups u.frzs u.tbls (λv c=>by obtain⟨o',x,p,h,t⟩:=c;rw[f]at h;cases h;exact⟨_,x,p,L,t⟩) k I.bare
theorem Inv.call{g':Array GenState}{t':Nat}{d':Drawn}{ch:List Addr}(I:Inv X pins J H s)(u:Un (Cy X.k) ch H H' s.heap h')(q:i5 X.p X.w H' h')(g:AllBare g')
  (a:∀b ∈ ch,(b ∈ X.ex\/X.z.heap.objs.size≤b)/\b≠X.e.locals/\(∀x c,X.e.cells.lookup x=some c->c≠b)/\∀p ∈ X.pn++pins,p.1≠b) :
  Inv X pins J H' { s with heap:=h',gens:=g',drawn:=d',toks:=t' }:=by
 obtain⟨m,⟨o,es,j,v,r⟩,_⟩:=id I.loc;obtain⟨y,L⟩:=u.any v I.free λz=>(a _ z).2.1 rfl;exact I.step (ch:=ch) a (λb o L d h e n=>u.keep b o e n (λz=>(aN.mp (I.stkSub b z)).elim L d) h) (λb o _ _ h e n=>u.any e n h) (λb o h e n=>u.free b o e n h) (λb o h e=>u.there b o e h) u.tups u.frzs u.tbls (λl w=>by obtain⟨o',t,f,k,i⟩:=w;rw[v]at k;cases k;exact⟨_,t,f,L,i⟩) q g
theorem Inv.turned{t':Nat}{i:Addr}(I:Inv X pins J H s)(k:∀b o,b≠i->s.heap.get? b=some o->h'.get? b=some o)(g:H i=none)(L:i≠X.e.locals)
  (h1:i ∈ X.ex\/X.z.heap.objs.size≤i) (h2:∀x c,X.e.cells.lookup x=some c->c≠i) (f:∀p ∈ X.pn++pins,p.1≠i):Inv X pins J H { s with heap:=h',toks:=t' }:=by
 have t:∀b u,H b=some u->b≠i:=λb u e z=>by rw[z,g]at e;cases e
 refine I.step (g':=s.gens) (d':=s.drawn) (ch:=[i]) (λb d=>?_) (λb o _ _ h e _=>k b o (λz=>h (by simp[z])) e) (λb o _ _ h e _=>⟨o.slots,k b o (λz=>h (by simp[z])) e⟩) (λ_ _ _ _ n=>n)
  (λb o h e=>⟨o,k b o (λz=>h (by simp[z])) e⟩) (λ_ _ e=>e) (λ_ _ _ e=>e) (λ_ e=>e) (λm w=>?_) (λb u e=>?_) I.bare
 .have e:b=i:=by simpa using d
  subst e;exact⟨h1,L,h2,f⟩
 .obtain⟨o,es,a,j,r⟩:=w;exact⟨o,es,a,k _ o (aI L) j,r⟩
 .refine (I.h b u e).stay (λc v h q=>k c v ?_ q) (λ_ q=>q) λ_ _ q=>q;rcases h with z|z
  .rw [z];exact t b u e
  .exact t c _ z
theorem Inv.tok(I:Inv X pins J H s)(t:Nat):Inv X pins J H { s with toks:=t }:=I.un (h':=s.heap) (t':=t) Un.refl I.h
theorem Inv.kept{t':Nat}(I:Inv X pins J H s)(k:∀b u,s.heap.get? b=some u->h'.get? b=some u):Inv X pins J H { s with heap:=h',toks:=t' }:=I.un (Un.kept k) (I.h.kept k)
theorem Inv.laid{a:Addr}{o:HO}{t':Nat}(I:Inv X pins J H s)(k:∀b u,s.heap.get? b=some u->h'.get? b=some u)(h:s.heap.objs.size≤a)(n:cU X.p X.w (bO H a o) h' a o) :
  Inv X pins J (bO H a o) { s with heap:=h',toks:=t' }:=I.un (Un.laid k h (I.h.fresh h)) (I.h.laid k h n)
theorem Inv.write{x e:Addr}{o:HO}{t:Nat}(I:Inv X pins J H s)(m:OK (H x))(a:e=x\/H e=some (.own x))(k:∀b u,b≠e->s.heap.get? b=some u->h'.get? b=some u)(h:∃u,h'.get? e=some u)
  (n:cU X.p X.w (bO H x o) h' x o):Inv X pins J (bO H x o) { s with heap:=h',toks:=t }:=I.un (Un.write m a k h) (I.h.write m a k h n)
theorem Inv.pins_of(I:Inv X pins J H s)(h:∀p ∈ q,s.heap.get? p.1=some p.2/\H p.1=none/\p.1≠X.e.locals/\p.1 ∉ X.fs/\∀v,p.2.data≠.cell v):Inv X q J H s:=
 ⟨I.o,I.os,I.bare,I.base,I.loc,I.cell,I.free,I.freeC,λp x=>(bE.mp x).elim (λz=>I.pin p (iF _ z)) (h p),I.h,I.len⟩
theorem vZ{N:LS}(s:N.Nodup){i j:Nat}{x:Str}(a:N[i]? = some x)(b:N[j]? = some x):i=j:=by obtain⟨h1,e⟩:=bw.mp a;obtain⟨h2,h⟩:=bw.mp b;exact(List.getElem_inj s).mp (e.trans h.symm)
theorem nE{M:Model}{A:Around}{E:VP}{i:Nat}{x:Str}{v:V}{u:Value}{Q:Unit->Shared->Prop}(I:Inv X pins J H s)(hN:X.N.Nodup)(hi:X.N[i]? = some x)(l:Loc X.e.scope x)(r:RelV v u)
  (h:∀s',Inv X pins (J.set i (some v)) H s'->(∃a,dW a s.heap s'.heap/\(a=X.e.locals\/X.e.cells.lookup x=some a))->Q () s') (hf:X.fn x=true\/X.e.scope.names.lookup x=some .local:=by first|exact .inl rfl|exact .inr rfl|assumption):wpAny M A (storeName X.e x u) Q E s:=by
 obtain⟨m,hn,hl⟩:=id I.loc;have L:(X.e.scope.kind == .class ||(X.e.scope.kind == .module && X.e.locals != X.e.globals))=false:=by rw[I.o.kind];rfl
 have N:i < J.length:=by rw[I.len];exact(bw.mp hi).1
 have K:=I.cne;have w:∀{a:Addr}{h':Heap},(∃o,s.heap.get? a=some o/\H a=none)->dW a s.heap h'->i5 X.p X.w H h':=λ{a h'} ha f b ob e=>by
  obtain⟨_,_,S⟩:=ha;refine(I.h b ob e).stay (λc w' g q=>(f.2 c ?_).trans q) (λ_ q=>q) λ_ _ q=>q;rintro rfl;rcases g with rfl|g
  .rw [S]at e;cases e
  .rw [S]at g;cases g
 rcases l with hk|hk
 .refine wpAny_storeName_local hk hn (λh' hn' f=>?_) L;obtain⟨oL,_,_,hoL,_⟩:=id hn;refine h _ ⟨I.o,I.os,I.bare,⟨λb o e n P l=>?_,λb o e n P l=>?_,I.base.free,λb o e l=>?_,I.base.tups,I.base.frzs,I.base.tbls⟩,⟨_,hn',λj y v' t F e3=>?_⟩,λy c e=>?_,I.free,I.freeC,λp hp=>?_,w ⟨oL,hoL,I.free⟩ f,by simpa using I.len⟩ ⟨_,f,.inl rfl⟩
  .exact (f.2 b (bb (bD (aB e) I.o.above))).trans (I.base.keep b o e n P l)
  .obtain⟨sl,t⟩:=I.base.slot b o e n P l;exact⟨sl,(f.2 b (bb (bD (aB e) I.o.above))).trans t⟩
  .obtain⟨o',t⟩:=I.base.there b o e l;exact⟨o',(f.2 b (bb (bD (aB e) I.o.above))).trans t⟩
  .by_cases C:j=i
   .subst C;rw[hi]at t;cases t;rw[bv N]at F;cases F;exact⟨u,r,.inl ⟨hk,by simp⟩⟩
   .rw [aP (aI C)]at F;obtain⟨u',r',q⟩:=hl j y v' t F e3;refine⟨u',r',?_⟩;rcases q with ⟨k,e⟩|⟨k,c,e,z⟩
    .refine .inl ⟨k,?_⟩;have:y≠x:=λe=>C (vZ hN t (e ▸ hi));simp[this,e]
    .exact .inr ⟨k,c,e,z.sameBut f (K y c e)⟩
  .obtain⟨w',z⟩:=I.cell y c e;exact⟨w',z.sameBut f (K y c e)⟩
  .obtain⟨e,n,Z,nf,d⟩:=I.pin p hp;exact⟨(f.2 p.1 Z).trans e,n,Z,nf,d⟩
 .have B:X.fn x=true:=by
   rcases hf with z|z
   .exact z
   .rw [z]at hk;cases hk
  obtain⟨c,g⟩:=I.o.has x (.inl hk);obtain⟨w',z⟩:=I.cell x c g;refine wpAny_storeName_cell I.o.kind hk g z (λh' D f=>?_);obtain⟨oc,R,T⟩:=id z;refine h { s with heap:=h' } ⟨I.o,I.os,I.bare,⟨λb o e n P l=>?_,λb o e n P l=>?_,I.base.free,λb o e l=>?_,I.base.tups,I.base.frzs,I.base.tbls⟩,⟨m,hn.sameBut f (aI (K x c g)),λj y v' t F e3=>?_⟩,λy W e=>?_,I.free,I.freeC,λp hp=>?_,w ⟨oc,R,I.freeC x c g⟩ f,by simpa using I.len⟩ ⟨c,f,.inr g⟩
  .exact (f.2 b (bb (bD (aB e) (I.o.cab x c B g)))).trans (I.base.keep b o e n P l)
  .obtain⟨sl,t⟩:=I.base.slot b o e n P l;exact⟨sl,(f.2 b (bb (bD (aB e) (I.o.cab x c B g)))).trans t⟩
  .obtain⟨o',t⟩:=I.base.there b o e l;exact⟨o',(f.2 b (bb (bD (aB e) (I.o.cab x c B g)))).trans t⟩
  .by_cases C:j=i
   .subst C;rw[hi]at t;cases t;rw[bv N]at F;cases F;exact⟨u,r,.inr ⟨.inl hk,c,g,D⟩⟩
   .rw [aP (aI C)]at F;obtain⟨u',r',q⟩:=hl j y v' t F e3;refine⟨u',r',?_⟩;rcases q with q|⟨k,W,e,z'⟩
    .exact .inl q
    .refine .inr ⟨k,W,e,z'.sameBut f ?_⟩;rintro rfl;exact C (vZ hN t (I.o.inj _ _ _ e g ▸ hi))
  .by_cases G:W=c
   .subst G;exact⟨_,D⟩
   .obtain⟨w2,z2⟩:=I.cell y W e;exact⟨w2,z2.sameBut f G⟩
  .obtain⟨e,n,Z,nf,d⟩:=I.pin p hp;refine⟨(f.2 p.1 ?_).trans e,n,Z,nf,d⟩;intro q;rw[q,R]at e;have q':oc=p.2:=cc e;exact d w' (by rw[<- q'];exact T)
theorem qj(I:Inv X pins J H s)(N:X.N.Nodup)(hi:X.N[i]? = some x)(e:Loc X.e.scope x)(r:RelV v u)
  (h:∀s',Inv X pins (J.set i (some v)) H s'->Q () s') (f:X.fn x=true\/X.e.scope.names.lookup x=some .local:=by first|exact .inl rfl|exact .inr rfl|assumption):wpAny M A (storeName X.e x u) Q E s:=
 nE I N hi e r (λs' a _=>h s' a) f
theorem Inv.call'(I:Inv X pins J H s)(n:s'.os=s.os)(u:Un (Cy X.k) q H H' s.heap s'.heap)(o:i5 X.p X.w H' s'.heap)(a:AllBare s'.gens)
  (h:∀b ∈ q,(b ∈ X.ex\/X.z.heap.objs.size≤b)/\b≠X.e.locals/\(∀x c,X.e.cells.lookup x=some c->c≠b)/\∀p ∈ X.pn++pins,p.1≠b):Inv X pins J H' s':=by
 obtain⟨h',g,d,t,o'⟩:=s';have e:o'=s.os:=n;subst e;exact I.call (g':=g) (t':=t) (d':=d) u o a h
end
noncomputable abbrev XK:=Value->Option Addr->Hp->Prop
noncomputable abbrev St:=List (Option V)
noncomputable abbrev VK:=V->Hp->Prop
noncomputable abbrev TE:=St->Hp->VK->Prop
noncomputable abbrev TT:=St->Hp->(Bool->Hp->Prop)->Prop
noncomputable abbrev TA:=St->Hp->(List V->Hp->Prop)->Prop
structure Ends where
 nx:St->Hp->Prop
 rt:VK
 bk:St->Hp->Prop:=λ_ _=>False
 ct:St->Hp->Prop:=λ_ _=>False
noncomputable abbrev TS:=Ends->St->Hp->Prop
def EP(X:Cx)(pins:PN)(J:St)(Q:VK)(u:Value)(s':Shared):Prop:=∃v H',Inv X pins J H' s'/\RelV v u/\Q v H'
def TP(X:Cx)(pins:PN)(J:St)(Q:Bool->Hp->Prop)(b:Bool)(s':Shared):Prop:=∃H',Inv X pins J H' s'/\Q b H'
def AP(X:Cx)(pins:PN)(J:St)(Q:List V->Hp->Prop)(j:LV)(s':Shared):Prop:=∃v H',Inv X pins J H' s'/\ba v j/\Q v H'
def SP(X:Cx)(pins:PN)(D:Ends)(f:Flow)(s':Shared):Prop:=
 match f with
 | .next=>∃h H',Inv X pins h H' s'/\D.nx h H'
 | .brk=>∃h H',Inv X pins h H' s'/\D.bk h H'
 | .cont=>∃h H',Inv X pins h H' s'/\D.ct h H'
 | .ret u=>∃v h H',Inv X pins h H' s'/\RelV v u/\D.rt v H'
variable{α:Type}
noncomputable abbrev wx(X:Cx)(m:Sem α):=wpAny (model X.p X.w) X.A m
def Y(X:Cx)(e:Expr)(t:TE):Prop:=
 ∀(pins:PN)(s:Shared)(J:St)(H:Hp)(Q:VK),Inv X pins J H s->t J H Q->wx X (eval e X.e) (EP X pins J Q) X.xe s
def PT(X:Cx)(e:Expr)(t:TT):Prop:=
 ∀(pins:PN)(s:Shared)(J:St)(H:Hp)(Q:Bool->Hp->Prop),Inv X pins J H s->t J H Q->wx X (isTrue e X.e (eval e X.e)) (TP X pins J Q) X.xe s
def PW(X:Cx)(e:Expr)(t:TT):Prop:=
 ∀(w:Sem Value)(pins:PN)(s:Shared)(J:St)(H:Hp)(Q:Bool->Hp->Prop),Inv X pins J H s->t J H Q->wx X (isTrue e X.e w) (TP X pins J Q) X.xe s
variable{X:Cx}{e:Expr}
theorem PW.pt(h:PW X e t):PT X e t:=h _
def PA(X:Cx)(es:Ab)(t:TA):Prop:=
 ∀(B:Pos)(pins:PN)(s:Shared)(J:St)(H:Hp)(Q:List V->Hp->Prop),Inv X pins J H s->t J H Q->wx X (spliced (backTo B (starEach es X.e))) (AP X pins J Q) X.xe s
def PS(X:Cx)(st:Stmt)(t:TS):Prop:=
 ∀(pins:PN)(s:Shared)(J:St)(H:Hp)(D:Ends),Inv X pins J H s->t D J H->wx X (exec st X.e) (SP X pins D) X.xe s
def nZ(X:Cx)(st:List Stmt)(t:TS):Prop:=
 ∀(pins:PN)(s:Shared)(J:St)(H:Hp)(D:Ends),Inv X pins J H s->t D J H->wx X (execs st X.e) (SP X pins D) X.xe s
variable{M:Model}{A:Around}{E:VP}{s:Shared}
theorem cF(h:wpAny M A t Q E s)(e:∀a s,Q a s->q a s):wpAny M A t q E s:=cA h e λ_ _ x=>x
section
variable{X:Cx}
noncomputable def P7(i:Nat):TE:=λJ H Q=>∃v,J[i]? = some (some v)/\Q v H
noncomputable def tC(v:V):TE:=λ_ H Q=>Q v H
theorem KH(N:X.N[i]? = some x)(p:IU X.e.scope x)(hd:(x == ("__debug__":Str))=false:=by decide)(d:(x == ("__classdict__":Str))=false:=by decide):Y X (.Name x B) (P7 i):=by
 intro pins s J H Q I h;obtain⟨v,e,h⟩:=h;obtain⟨m,t,k⟩:=I.loc;obtain⟨u,r,l⟩:=k i x v N e p;have f:EP X pins J Q u s:=⟨v,H,I,r,h⟩;rcases l with ⟨hk,b⟩|⟨hk,c,n,a⟩
 .exact pO (xg I.o.kind hk t b f) hd
 .rcases hk with hk|hk
  .exact pO (AK I.o.kind hk n a f) hd
  .exact pO (AL I.o.kind hk n a f d) hd
theorem KQ {i q B}:Y X (.Constant (.int i) q B) (tC (.int i)):=λ_ _ _ H _ I h=>wpAny_Constant_int ⟨.int i,H,I.tok _,⟨_,rfl⟩,h⟩
theorem Nx {b q B}:Y X (.Constant (.bool b) q B) (tC (.bl b)):=λ_ _ _ H _ I h=>Constant_bool ⟨.bl b,H,I,rfl,h⟩
theorem KP {q B}:Y X (.Constant .none q B) (tC .non):=λ_ _ _ H _ I h=>Constant_none ⟨.non,H,I,rfl,h⟩
theorem KJ {x q B}:Y X (.Constant (.str x) q B) (tC (.str x)):=λ_ _ _ H _ I h=>Calls.Constant_str ⟨.str x,H,I.tok _,⟨_,rfl⟩,h⟩
def Gl(X:Cx)(x:Str):Prop:=X.e.kindOf x=some .globalImplicit
theorem pH(I:Inv X pins J H s)(g:Gl X x)(m:X.g x=some u)(h:Q u s)
  (hd:(x == ("__debug__":Str))=false:=by decide):wx X (eval (.Name x B) X.e) Q E s:=
 tH I.o.kind g (zo (by rw[I.o.glob];exact I.mod.glob.keeps I.bk) m h) hd
theorem jN(I:Inv X pins J H s)(g:Gl X x)(m:X.g x=none)(v:bootBuiltins x=some u)(h:Q u s)
  (n:x≠"__name__":=by decide) (hd:(x == ("__debug__":Str))=false:=by decide):wx X (eval (.Name x B) X.e) Q E s:=by
 obtain⟨b,h1,h2⟩:=I.mod.blt;exact tH I.o.kind g (Calls.loadGlobal_builtin (by rw[I.o.glob];exact I.mod.glob.keeps I.bk) m (by rw[I.o.blt];exact h1.keeps I.bk) ((h2 x n).trans v) h) hd
theorem HN(g:Gl X x)(m:X.g x=some u)(r:RelV v u)(hd:(x == ("__debug__":Str))=false:=by decide):Y X (.Name x B) (tC v):=
 λ_ _ _ H _ I h=>pH I g m ⟨v,H,I,r,h⟩ hd
theorem HP(g:Gl X x)(m:X.g x=none)(a:bootBuiltins x=some u)(r:RelV v u)(n:x≠"__name__":=by decide)(hd:(x == ("__debug__":Str))=false:=by decide):Y X (.Name x B) (tC v):=
 λ_ _ _ H _ I h=>jN I g m a ⟨v,H,I,r,h⟩ n hd
variable{a b:Expr}{ta tb:TE}{B:Pos}
variable{tA tB':TT}{rest:Ab}
noncomputable def Qi(t u:TT):TT:=λJ H Q=>t J H λc G=>if c=true then u J G Q else Q false G
noncomputable def R3(t u:TT):TT:=λJ H Q=>t J H λc G=>if c=true then Q true G else u J G Q
noncomputable def Qa(t:TT):TT:=λJ H Q=>t J H λc G=>Q (!c) G
theorem Hy(x:PT X a tA):PW X (.BoolOp .And [a] B) tA:=by
 intro w pins s J H Q I h;refine isTrue_and (cF (x pins s J H Q I h) λc n e=>?_);cases c with
 |true=>exact isTrue_and_nil e
 |false=>exact e
theorem Kr(x:PT X a tA):PW X (.BoolOp .Or [a] B) tA:=by
 intro w pins s J H Q I h;refine isTrue_or (cF (x pins s J H Q I h) λc n e=>?_);cases c with
 |false=>exact isTrue_or_nil e
 |true=>exact e
theorem Ks(e:PT X a tA)(n:PW X (.BoolOp .And (b::rest) B) tB'):PW X (.BoolOp .And (a::b::rest) B) (Qi tA tB'):=by
 intro w pins s J H Q I h;refine isTrue_and (cF (e pins s J H _ I h) λc k z=>?_);obtain⟨G,x,q⟩:=z;cases c with
 |true=>exact n w pins k J G Q x q
 |false=>exact⟨G,x,q⟩
theorem Nr(e:PT X a tA)(n:PW X (.BoolOp .Or (b::rest) B) tB'):PW X (.BoolOp .Or (a::b::rest) B) (R3 tA tB'):=by
 intro w pins s J H Q I h;refine isTrue_or (cF (e pins s J H _ I h) λc k z=>?_);obtain⟨G,x,q⟩:=z;cases c with
 |true=>exact⟨G,x,q⟩
 |false=>exact n w pins k J G Q x q
theorem Kt(x:PT X a tA):PT X (.UnaryOp .Not a B) (Qa tA):=by intro pins s J H Q I h;exact isTrue_not (x pins s J H (λc G=>Q (!c) G) I h)
noncomputable def Ng(ta tb:TE):TE:=λJ H Q=>ta J H λx G=>∃c,x=.bl c/\if c=true then tb J G Q else Q (.bl false) G
noncomputable def P'(ta tb:TE):TE:=λJ H Q=>ta J H λx G=>∃c,x=.bl c/\if c=true then Q (.bl true) G else tb J G Q
noncomputable def M9(ta:TE):TE:=λJ H Q=>ta J H λx G=>∃c,x=.bl c/\Q (.bl (!c)) G
theorem KL {q} (h:Y X a t):Y X (.BoolOp q [a] B) t:=λpins s J H Q I hw=>BoolOp_one (h pins s J H Q I hw)
theorem KU(n:Y X a ta)(k:Y X (.BoolOp .And (b::rest) B) tb):Y X (.BoolOp .And (a::b::rest) B) (Ng ta tb):=by
 intro pins s J H Q I h;refine BoolOp_and (cF (n pins s J H _ I h) λv f z=>?_);obtain⟨x,G,e,r,q⟩:=z;obtain⟨c,rfl,q⟩:=q;cases r;refine ki ?_;cases c with
 |true=>exact k pins f J G Q e q
 |false=>exact⟨.bl false,G,e,rfl,q⟩
theorem Nv(n:Y X a ta)(k:Y X (.BoolOp .Or (b::rest) B) tb):Y X (.BoolOp .Or (a::b::rest) B) (P' ta tb):=by
 intro pins s J H Q I h;refine BoolOp_or (cF (n pins s J H _ I h) λv f z=>?_);obtain⟨x,G,e,r,q⟩:=z;obtain⟨c,rfl,q⟩:=q;cases r;refine ki ?_;cases c with
 |false=>exact k pins f J G Q e q
 |true=>exact⟨.bl true,G,e,rfl,q⟩
theorem KO(n:Y X a ta):Y X (.UnaryOp .Not a B) (M9 ta):=by intro pins s J H Q I h;refine UnaryOp_ (cF (n pins s J H _ I h) λv k z=>?_);obtain⟨x,G,e,r,q⟩:=z;obtain⟨c,rfl,q⟩:=q;cases r;exact not_of (ki ⟨.bl (!c),G,e,rfl,q⟩)
noncomputable def R4(t:TT)(ta tb:TE):TE:=λJ H Q=>t J H λc G=>if c=true then ta J G Q else tb J G Q
theorem En(f:PT X c tA)(n:Y X a ta)(k:Y X b tb):Y X (.IfExp c a b B) (R4 tA ta tb):=by
 intro pins s J H Q I h;refine wpAny_IfExp (cF (f pins s J H _ I h) λd e z=>?_);obtain⟨G,x,q⟩:=z;cases d with
 |true=>exact n pins e J G Q x q
 |false=>exact k pins e J G Q x q
end
def iy(K:FG)(H:Hp)(a:Addr)(xs:List V):Prop:=
 Rd H a (.lst xs) \/
  ∃(o:Obj)(i:Array Value)(n:Nat),K.lookup a=some o/\o.cls=.type "list"/\o.dict=none/\o.data=.seq i n/\i.size≤sizeLine/\ba xs i.toList
def nr(K:FG)(H:Hp)(a:Addr)(xs:List V):Prop:=
 Rd H a (.tup xs) \/
  ∃(o:Obj)(i:Array Value)(n:Nat),K.lookup a=some o/\o.cls=.type "tuple"/\o.dict=none/\o.data=.seq i n/\i.size≤sizeLine/\ba xs i.toList
noncomputable def Q8:Value->Option V
 | .none=>some .non
 | .bool b=>some (.bl b)
 | .int i _=>some (.int i)
 | .str x _=>some (.str x)
 | .bytes b _=>some (.byt b)
 | .float b _=>some (.flt b)
 | .ref a=>some (.ref a)
 | .type n=>some (.ty n)
 |_=>none
theorem RelV.abs(r:RelV x u):Q8 u=some x:=by
 cases x with
 |non=>cases r;rfl
 |bl _=>cases r;rfl
 |int _=>obtain⟨t,rfl⟩:=r;rfl
 |str _=>obtain⟨t,rfl⟩:=r;rfl
 |byt _=>obtain⟨t,rfl⟩:=r;rfl
 |flt _=>obtain⟨t,rfl⟩:=r;rfl
 |ref _=>cases r;rfl
 |ty _=>cases r;rfl
variable{y:V}
theorem RelV.inj(r:RelV x u)(q:RelV y u):x=y:=cc (r.abs.symm.trans q.abs)
theorem ba.inj:∀{xs ys:List V}{j:LV},ba xs j->ba ys j->xs=ys
 |_,_,_,.nil,.nil=>rfl
 |_,_,_,.cons r t,.cons h x=>by rw[r.inj h,ba.inj t x]
section
variable{X:Cx}{pins:PN}{J:St}{H:Hp}{s:Shared}{a:Addr}{xs ys:List V}
theorem iy.of{K:FG}(h:H a=some (.lst xs)):iy K H a xs:=.inl (.inl h)
theorem Inv.list(I:Inv X pins J H s)(h:iy X.K H a xs):∃i:LV,ba xs i/\PlainL s.heap a i.toArray/\xs.length≤sizeLine:=by
 rcases h with h|⟨o,i,n,hk,c,hd,x,k,r⟩
 .obtain⟨z,i,n,r,e⟩:=h.ok I.h;exact⟨i,r,⟨_,n,e,rfl,rfl,rfl⟩,z⟩
 .refine⟨i.toList,r,⟨o,n,I.kIn a o hk,c,hd,by simpa using x⟩,?_⟩;have e:=r.length;simp only[mu]at e;lia
theorem Inv.tuple(I:Inv X pins J H s)(h:nr X.K H a xs):∃i:LV,ba xs i/\IsTup s.heap a i.toArray/\xs.length≤sizeLine:=by
 rcases h with h|⟨o,i,n,hk,c,_,x,k,r⟩
 .obtain⟨z,i,r,p⟩:=h.ok I.h;exact⟨i,r,p.tup,z⟩
 .refine⟨i.toList,r,⟨o,I.kIn a o hk,c,n,by simpa using x⟩,?_⟩;have e:=r.length;simp only[mu]at e;lia
theorem Inv.tupleN(I:Inv X pins J H s)(h:nr X.K H a xs):∃its:LV,ba xs its/\nX s.heap a its.toArray:=by
 rcases h with q|⟨ob,vs,m,e1,e2,e3,e4,_,rv⟩
 .exact⟨_,(q.ok I.h).2.choose_spec⟩
 .exact⟨vs.toList,rv,ob,I.kIn a ob e1,⟨e2,m,by simpa using e4⟩,e3⟩
theorem Inv.list_inj(I:Inv X pins J H s)(h:iy X.K H a xs)(h':iy X.K H a ys):xs=ys:=by
 obtain⟨t,r,⟨o,n,e,_,_,d⟩,_⟩:=I.list h;obtain⟨i,b,⟨o',c,k,_,_,x⟩,_⟩:=I.list h';rw[e]at k;cases k;rw[d]at x;injection x with f _;have:t=i:=by simpa using cX Af f
 subst this;exact r.inj b
theorem Inv.tuple_inj(I:Inv X pins J H s)(h:nr X.K H a xs)(h':nr X.K H a ys):xs=ys:=by
 obtain⟨t,r,⟨o,e,_,n,d⟩,_⟩:=I.tuple h;obtain⟨i,b,⟨o',k,_,c,x⟩,_⟩:=I.tuple h';rw[e]at k;cases k;rw[d]at x;injection x with f _;have:t=i:=by simpa using cX Af f
 subst this;exact r.inj b
end
noncomputable abbrev Cx.wish(X:Cx)(E:VP):Cx:={ X with xe:=E }
abbrev Cx.nox(X:Cx):Cx:=X.wish λ_ _=>False
theorem Cx.Ok.wish(ok:X.Ok)(E:VP):(X.wish E).Ok:=
 ⟨ok.mod,ok.kind,ok.glob,ok.blt,ok.above,ok.inj,ok.has,ok.cab,ok.hd,ok.frames,ok.stk,ok.exf,ok.bs,ok.bsz,ok.noex,ok.exfs,ok.funs,ok.frf,ok.tab⟩
theorem Cx.Ok.unwish(ok:(X.wish E).Ok):X.Ok:=
 ⟨ok.mod,ok.kind,ok.glob,ok.blt,ok.above,ok.inj,ok.has,ok.cab,ok.hd,ok.frames,ok.stk,ok.exf,ok.bs,ok.bsz,ok.noex,ok.exfs,ok.funs,ok.frf,ok.tab⟩
section
variable{X:Cx}{pins:PN}{J:St}{H:Hp}{s:Shared}{E:VP}
theorem Inv.wish(I:Inv X pins J H s)(E:VP):Inv (X.wish E) pins J H s:=⟨I.o.wish E,I.os,I.bare,I.base,I.loc,I.cell,I.free,I.freeC,I.pin,I.h,I.len⟩
theorem Inv.unwish(I:Inv (X.wish E) pins J H s):Inv X pins J H s:=⟨I.o.unwish,I.os,I.bare,I.base,I.loc,I.cell,I.free,I.freeC,I.pin,I.h,I.len⟩
set_option tactic.hygienic true in
theorem SP.unwish(h:SP (X.wish E) pins D f s'):SP X pins D f s':=by
 cases f with
 |next=>obtain⟨x,H',I,q⟩:=h;exact⟨x,H',I.unwish,q⟩
 |brk=>obtain⟨x,H',I,q⟩:=h;exact⟨x,H',I.unwish,q⟩
 |cont=>obtain⟨x,H',I,q⟩:=h;exact⟨x,H',I.unwish,q⟩
 |ret u=>obtain⟨v,x,H',I,r,q⟩:=h;exact⟨v,x,H',I.unwish,r,q⟩
theorem nZ.nox{st:List Stmt}{t:TS}(h:nZ X.nox st t):nZ X st t:=λpins s J H D I hw=>
 cA (h pins s J H D (I.wish _) hw) (λ_ _ q=>q.unwish) λ_ _ z=>False.elim z
end
section
variable{X:Cx}{st:Stmt}{rest:List Stmt}{t u:TS}{e:Expr}{te:TE}{B:Pos}
noncomputable def M':TS:=λD J H=>D.nx J H
noncomputable def P9(t u:TS):TS:=λD J H=>t { D with nx:=u D } J H
theorem HA:nZ X [] M':=λ_ _ J H _ I h=>sY ⟨J,H,I,h⟩
set_option tactic.hygienic true in
theorem Eb(h1:PS X st t)(h2:nZ X rest u):nZ X (st::rest) (P9 t u):=by
 intro pins s J H D I h;refine Az (cF (h1 pins s J H { D with nx:=u D } I h) λf e q=>?_);cases f with
 |next=>obtain⟨a,H',x,q⟩:=q;exact h2 pins e a H' D x q
 |ret v=>exact q
 |brk=>exact q
 |cont=>exact q
set_option tactic.hygienic true in
theorem Hz(h1:PS X st t):nZ X [st] t:=by
 intro pins s J H D I h;refine Az (cF (h1 pins s J H D I h) λf x q=>?_);cases f with
 |next=>exact sY q
 |ret v=>exact q
 |brk=>exact q
 |cont=>exact q
theorem Inv.quiet(I:Inv X pins J H s):interactive X.e=false:=by simp[interactive,I.o.kind]
noncomputable def Nb(te:TE):TS:=λD J H=>te J H λ_ G=>D.nx J G
theorem HC(n:Y X e te)(k:swapsWith e none B.line X.e=pure false:=by rfl):PS X (.Expr e B) (Nb te):=by intro pins s J H D I h;exact wpAny_Expr_any (cF (n pins s J H _ I h) λv f z=>by obtain⟨x,G,a,r,q⟩:=z;exact⟨J,G,a,q⟩) I.quiet k
noncomputable def P_(te:TE):TS:=λD J H=>te J H D.rt
theorem Kv(n:Y X e te):PS X (.Return (some e) B) (P_ te):=by intro pins s J H D I h;exact wpAny_Return_some (cF (n pins s J H _ I h) λv k z=>by obtain⟨x,G,a,r,q⟩:=z;exact⟨x,J,G,a,r,q⟩)
noncomputable def Qc(c:TT)(t u:TS):TS:=λD J H=>c J H λb G=>if b=true then t D J G else u D J G
theorem Nt{c:Expr}{a b:List Stmt}{tc:TT}(f:PT X c tc)(n:nZ X a t)(k:nZ X b u):PS X (.If c a b B) (Qc tc t u):=by
 intro pins s J H D I h;refine wpAny_If (cF (f pins s J H _ I h) λd e z=>?_);obtain⟨G,x,q⟩:=z;cases d with
 |true=>exact n pins e J G D x q
 |false=>exact k pins e J G D x q
noncomputable def DS:TS:=λ_ _ _=>False
theorem Ed:PS X st DS:=λ_ _ _ _ _ _ h=>h.elim
theorem B':nZ X q DS:=λ_ _ _ _ _ _ h=>h.elim
end
noncomputable abbrev TG:=V->St->Hp->(St->Hp->Prop)->Prop
noncomputable abbrev L_:=List V->St->Hp->(St->Hp->Prop)->Prop
def PG(X:Cx)(a:Expr)(t:TG):Prop:=
 ∀(pins:PN)(s:Shared)(J:St)(H:Hp)(v:V)(u:Value)(Q:St->Hp->Prop),Inv X pins J H s->RelV v u->t v J H Q ->
  wx X (assign a X.e u) (λ_ s'=>∃h H',Inv X pins h H' s'/\Q h H') X.xe s
def OJ(X:Cx)(x:Ab)(t:L_):Prop:=
 ∀(pins:PN)(s:Shared)(J:St)(H:Hp)(v:List V)(j:LV)(Q:St->Hp->Prop),Inv X pins J H s->ba v j->t v J H Q ->
  wx X (assignInOrder ((assignEach x X.e).map (·.2)) j) (λ_ s'=>∃h H',Inv X pins h H' s'/\Q h H') X.xe s
noncomputable abbrev L9:=V->V->V->Hp->(Hp->Prop)->Prop
def OH(X:Cx)(t:L9):Prop:=
 ∀(pins:PN)(s:Shared)(J:St)(H:Hp)(o i v:V)(h iv u:Value)(Q:Hp->Prop),Inv X pins J H s->RelV o h->RelV i iv->RelV v u->t o i v H Q ->
  wx X (setItem h iv u) (λ_ s'=>∃H',Inv X pins J H' s'/\Q H') X.xe s
noncomputable abbrev Q':=V->V->Hp->VK->Prop
def RG(X:Cx)(o:Operator)(t:Q'):Prop:=
 ∀(pins:PN)(s:Shared)(J:St)(H:Hp)(x y:V)(v u:Value)(Q:VK),Inv X pins J H s->RelV x v->RelV y u->t x y H Q ->
  wx X (inplaceOp o v u) (EP X pins J Q) X.xe s
section
variable{X:Cx}{B:Pos}
noncomputable def Jo(i:Nat):TG:=λv J H Q=>Q (J.set i (some v)) H
theorem HK(N:X.N.Nodup)(hi:X.N[i]? = some x)(e:Loc X.e.scope x)(f:X.fn x=true\/X.e.scope.names.lookup x=some .local:=by first|exact .inl rfl|exact .inr rfl|assumption):PG X (.Name x B) (Jo i):=by intro pins s J H v u Q I r h;exact xc (qj I N hi e r (λs' a=>⟨_,H,a,h⟩) f)
noncomputable def QX:L_:=λv J H Q=>v=[]/\Q J H
noncomputable def N9(t:TG)(u:L_):L_:=λs J H Q=>∃v r,s=v::r/\t v J H λh H'=>u r h H' Q
theorem HJ:OJ X [] QX:=by intro pins s J H v j Q I r h;obtain⟨e,h⟩:=h;subst e;cases r;exact assignInOrder_nil ⟨J,H,I,h⟩
theorem Ei{e:Expr}{es:Ab}{t:TG}{u:L_}(h1:PG X e t)(h2:OJ X es u)
  (k:(assignEach (e::es) X.e).map (·.2)=assign e X.e::(assignEach es X.e).map (·.2):=by rfl):OJ X (e::es) (N9 t u):=by
 intro pins s J H m j Q I r h;obtain⟨v,c,n,h⟩:=h;subst n;cases r with
 |cons r f=>rw[k];refine assignInOrder_cons (cF (h1 pins s J H _ _ _ I r h) λ_ b z=>?_);obtain⟨a,G,x,q⟩:=z;exact h2 pins b a G _ _ Q x f q
noncomputable def QV(K:FG)(n:Nat)(t:L_):TG:=λv J H Q=>∃a xs,v=.ref a/\nr K H a xs/\xs.length=n/\t xs J H Q
theorem KE(m:X.c=true)(h:OJ X es t)
  (p:(assignEach es X.e).length=n:=by rfl) (hst:(assignEach es X.e).findIdx? (·.1)=none:=by rfl):PG X (.Tuple es k B) (QV X.K n t):=by
 intro pins s J H v u Q I r hw;obtain⟨a,xs,c,q,l,hw⟩:=hw;subst c;cases r;obtain⟨i,x,d,z⟩:=I.tuple q;refine assign_Tuple_tuple (I.o.hd m) d (by simp[p,<- l,x.length]) hst λh' w=>?_
 have f:Inv X pins J H { s with heap:=h' }:=I.kept (t':=s.toks) λb o e=>w b o (bb (aB e)) e;exact h pins _ J H xs _ Q f (by simpa using x) hw
noncomputable def QW(to x:TE)(t:L9):TG:=λv J H Q=>to J H λo G=>x J G λi H2=>t o i v H2 λh=>Q J h
theorem KG{o i:Expr}{to a:TE}{t:L9}(c:Y X o to)(hi:Y X i a)(m:OH X t)
  (b:∀v,assign (.Subscript o i B) X.e v=(do
   let q <- holding [v] (eval o X.e)
   let iv <- holding [v,q] (eval i X.e)
   standAt B
   holding [v,q,iv] (setItem q iv v)
   release [v,q,iv] []):=by intro _;rfl):PG X (.Subscript o i B) (QW to a t):=by
 intro pins s J H v u Q I r h;rw[b];refine ab (fD (cF (c pins s J H _ I h) λq l z=>?_));obtain⟨x,G,n,g,p⟩:=z;refine ab (fD (cF (hi pins l J G _ n p) λiv S z=>?_));obtain⟨y,H2,k,j,d⟩:=z;refine ab (sW (ab (fD (cF (m pins S J H2 x y v q iv u _ k g j r d) λ_ F z=>?_))));obtain⟨e,f,w⟩:=z;exact wpAny_release ⟨J,e,f,w⟩
noncomputable def Nf(te:TE)(g:TG):TS:=λD J H=>te J H λx G=>g x J G D.nx
theorem Ee{tg e:Expr}{te:TE}{g:TG}(n:Y X e te)(k:PG X tg g)(f:swapsWithSole [tg] e B.line X.e=pure false:=by rfl)(hw:swappedStores [tg] e X.e=pure none:=by rfl)
  (h1:(assignEach [tg] X.e).map (·.2)=[assign tg X.e]:=by rfl):PS X (.Assign [tg] e B) (Nf te g):=by
 intro pins s J H D I h;refine wpAny_Assign_stores (cF (n pins s J H _ I h) λv c z=>?_) f hw;obtain⟨x,G,a,r,b⟩:=z;rw[h1];exact cF (k pins c J G x v _ a r b) λ_ m q=>q
theorem Ku(N:X.N.Nodup)(hi:X.N[i]? = some x)(c:Loc X.e.scope x)(k:Y X e te)(b:swapsWith e (some (.Name x pos')) B.line X.e=pure false:=by rfl)(f:X.fn x=true\/X.e.scope.names.lookup x=some .local:=by first|exact .inl rfl|exact .inr rfl|assumption) :
  PS X (.Assign [.Name x pos'] e B) (Nf te (Jo i)):=by
 intro pins s J H D I h;refine wpAny_Assign_Name (cF (k pins s J H _ I h) λv m z=>?_) b;obtain⟨y,G,a,r,q⟩:=z;exact qj a N hi c r (λt n=>⟨_,G,n,q⟩) f
noncomputable def Qh(i:Nat)(te:TE)(t:Q'):TS:=λD J H=>∃x,J[i]? = some (some x)/\te J H λy G=>t x y G λz H2=>D.nx (J.set i (some z)) H2
set_option tactic.hygienic true in
theorem Kz(N:X.N.Nodup)(hi:X.N[i]? = some x)(b:Loc X.e.scope x)(K:Y X e te)(L:RG X q ti)(P:X.fn x=true\/X.e.scope.names.lookup x=some .local:=by first|exact .inl rfl|exact .inr rfl|assumption) :
  PS X (.AugAssign (.Name x pos') q e B) (Qh i te ti):=by
 intro pins s J H D I h;obtain⟨v,S,h⟩:=h;obtain⟨m,E,A⟩:=I.loc;have p:IU X.e.scope x:=by rcases b with k|k;exact .inl k;exact .inr (.inl k)
 obtain⟨u,r,l⟩:=A i x v hi S p;refine wpAny_AugAssign_Name ?_;have g:wx X (eval e X.e) (λw n=>wx X (inplaceOp q u w) (λr f=>wx X (storeName X.e x r) (λ_=>SP X pins D .next) X.xe f) X.xe n) X.xe s:=by refine cF (K pins s J H _ I h) λw V t=>?_;obtain⟨y,G,d,R,M⟩:=t;refine cF (L pins V J G v y u w _ d r R M) λz W t=>?_;obtain⟨zv,H2,j,T,Q⟩:=t;exact qj j N hi b T (λZ o=>⟨_,H2,o,Q⟩) P
 rcases l with ⟨hk,C⟩|⟨hk,c,F,a⟩
 .exact xg I.o.kind hk E C g
 .rcases hk with hk|hk
  .exact AK I.o.kind hk F a g
  .rcases b with k|k
   .have:X.e.scope.names.lookup x=some .free:=hk;rw[k]at this;cases this
   .have:X.e.scope.names.lookup x=some .free:=hk;rw[k]at this;cases this
noncomputable def Se(f:Int->Int->Int):Q':=λx y H Q=>∃i j,x=.int i/\y=.int j/\Q (.int (f i j)) H
theorem Lw:RG X .Add (Se λi j=>i+j):=by intro pins s J H x y v u Q I r n h;obtain⟨i,j,e,a,q⟩:=h;subst e;subst a;obtain⟨t,rfl⟩:=r;obtain⟨k,rfl⟩:=n;exact iadd_int ⟨.int _,H,I.tok _,⟨_,rfl⟩,q⟩
end
section
variable{X:Cx}{B:Pos}
noncomputable def Ka(c:TT)(tb:TS):TS:=λD J H=>∃W:Nat->St->Hp->Prop,(∃m,W m J H)/\∀m J H,W m J H ->
 c J H λb G=>if b=true then ∃N:St->Hp->Prop,(∀h H',N h H'->∃x,x < m/\W x h H')/\tb { D with nx:=N,ct:=N,bk:=D.nx } J G else D.nx J G
set_option tactic.hygienic true in
theorem Ec(l:PassesOwn (model X.p X.w) X.A X.e X.xe)(o:PT X c tc)(z:nZ X q tb):PS X (.While c q [] B) (Ka tc tb):=by
 intro pins s J H D I h;obtain⟨W,⟨F,A⟩,t⟩:=h;refine wpAny_While (codeAny_whileLoop (λn s'=>∃i H',Inv X pins i H' s'/\W n i H') ?_ F ⟨J,H,I,A⟩);rintro n K ⟨e,G,y,C⟩;refine lB l (cF (o pins K e G _ y (t n e G C)) λb P S=>?_);obtain⟨H2,g,k⟩:=S;cases b with
 |true=>
  obtain⟨N,j,k⟩:=k;rw[ac rfl];refine lB l (cF (z pins P e H2 _ g k) λf E m=>?_);cases f with
  |next=>obtain⟨a,x,r,w⟩:=m;obtain⟨d,p,u⟩:=j a x w;exact⟨d,p,a,x,r,u⟩
  |cont=>obtain⟨a,x,r,w⟩:=m;obtain⟨d,p,u⟩:=j a x w;exact⟨d,p,a,x,r,u⟩
  |brk=>exact m
  |ret v=>exact m
 |false=>rw[af bx];exact sY ⟨e,H2,g,k⟩
end
structure It where
 go:Nat->Hp->Prop
 yld:Nat->Hp->V->Hp->Prop
 stop:Nat->Hp->Prop
def vq(X:Cx)(pins:PN)(H:Hp)(b:Addr):Prop:=
 H b=none/\b≠X.e.locals/\b ∉ X.fs/\(b ∈ X.ex\/X.z.heap.objs.size≤b)/\(∀x c,X.e.cells.lookup x=some c->c≠b)/\∀p ∈ X.pn++pins,p.1≠b
variable{pins:PN}{J:St}
theorem Inv.fpOk(I:Inv X pins J H s)(h:s.heap.objs.size≤b)(n:H' b=none):vq X pins H' b:=by
 refine⟨n,bP (bD I.lt h),I.nofs h,.inr (au I.sz h),λx c e z=>?_,λp a z=>?_⟩
 .obtain⟨v,q⟩:=I.cell x c e;exact absurd (bD q.lt (by rw[z];exact h)) (eQ _)
 .exact absurd (bD (aB (I.pin p a).1) (by rw[z];exact h)) (eQ _)
structure Turn(P:Program)(w:World)(K:FG)(tg:Expr)(J9:It)(fp:List Addr)(it:Addr)(tn:Nat->Heap->Prop):Prop where
 mem:it ∈ fp
 obj:∀i h,tn i h->∀b ∈ fp,∃o,h.get? b=some o/\∀v,o.data≠.cell v
 keep:∀i h h',tn i h->(∀b ∈ fp,∀o,h.get? b=some o->h'.get? b=some o)->tn i h'
 item:∀(X:Cx),X.p=P->X.w=w->X.K=K->X.c=true->∀(i:Nat)(pins:PN)(s:Shared)(J:St)(H:Hp)(E:VP),Inv X pins J H s->(∀b ∈ fp,vq X pins H b)->tn i s.heap->J9.go i H ->
  wpAny (model P w) X.A (pyNext (.ref it)) (fun r s1=>∃u,r=some u /\
   wpAny (model P w) X.A (letOwnedTupleGo tg (.ref it) u) (λ_ s2=>∃x H',Inv X pins J H' s2/\RelV x u/\J9.yld i H x H'/\tn (i+1) s2.heap/\∀b ∈ fp,H' b=none) E s1) E s
 done:∀(X:Cx),X.p=P->X.w=w->X.K=K->X.c=true->∀(i:Nat)(pins:PN)(s:Shared)(J:St)(H:Hp)(E:VP),Inv X pins J H s->(∀b ∈ fp,vq X pins H b)->tn i s.heap->J9.stop i H ->
  wpAny (model P w) X.A (pyNext (.ref it)) (λr s1=>r=none/\Inv X pins J H s1) E s
 self:∀(A:Around)(i:Nat)(s:Shared)(Q:VP)(E:VP),tn i s.heap->Q (.ref it) s->wpAny (model P w) A (pyIter (.ref it)) Q E s
noncomputable abbrev TI:=St->Hp->(It->Hp->Prop)->Prop
def Pm(X:Cx)(pins:PN)(J:St)(tg:Expr)(R:It->Hp->Prop)(i:Value)(s:Shared):Prop:=
 ∃(t:Addr)(f:List Addr)(n:Nat->Heap->Prop)(h:It)(H':Hp),i=.ref t/\Inv X pins J H' s/\Turn X.p X.w X.K tg h f t n/\n 0 s.heap/\(∀b ∈ f,vq X pins H' b)/\R h H'
def PI(X:Cx)(tg iter:Expr)(w:TI):Prop:=
 ∀(pins:PN)(s:Shared)(J:St)(H:Hp)(R:It->Hp->Prop),Inv X pins J H s->w J H R ->
  wx X (eval iter X.e) (λv h=>wx X (pyIter v) (Pm X pins J tg R) X.xe h) X.xe s
variable{tg:Expr}
theorem Fs(e:s.heap.get? q=some o)(c:o.cls=.type n)(hd:o.data=.fields z)
    (a:["enumerate","zip","dict_itemiterator","dict_reverseitemiterator","odict_iterator","itertools.zip_longest","itertools.pairwise"].contains n=false) (x:Q () s):wpAny M A (letOwnedTupleGo tg (.ref q) u) Q E s:=by
  unfold letOwnedTupleGo;cases tg<;>first
    |exact al x
    | (cases u <;> first
        |exact al x
        | (refine ab (wpAny_load e ?_)
           rw[c,hd];show wpAny M A (if (["enumerate","zip","dict_itemiterator","dict_reverseitemiterator","odict_iterator","itertools.zip_longest","itertools.pairwise"].contains n && z[0]? == some (rawInt _))=true then _ else _) Q E s;rw[af (by intro h;rw[a,Bool.false_and]at h;cases h)];exact al x))
noncomputable def Pp(K:FG)(a:Addr):It:=
 ⟨λi H=>∃xs x,iy K H a xs/\xs[i]? = some x,λi H x H'=>H'=H/\∀xs,iy K H a xs->xs[i]? = some x,λi H=>∃xs,iy K H a xs/\xs.length≤i⟩
noncomputable def RK(K:FG)(a:Addr):It:=
 ⟨λi H=>∃xs x,nr K H a xs/\xs[i]? = some x,λi H x H'=>H'=H/\∀xs,nr K H a xs->xs[i]? = some x,λi H=>∃xs,nr K H a xs/\xs.length≤i⟩
noncomputable def Po(lo:Int)(n:Nat):It:=⟨λi _=>i < n,λi H x H'=>H'=H/\x=.int (lo+i),λi _=>n≤i⟩
variable{w:World}{K:FG}
theorem B0(a t:Addr):Turn P w K tg (Pp K a) [t] t (λi h=>h.IsListIter t a i) where
 mem:=by simp
 obj:=λi h st b n=>by
  have e:b=t:=by simpa using n
  subst e;obtain⟨o,e,c,d⟩:=st;exact⟨o,e,λv z=>by rw[d]at z;cases z⟩
 keep:=λi h h' st k=>st.at λo e=>k t (by simp) o e
 item:=by
  intro X F hw S G i pins s J H E I m st A;subst F hw S;obtain⟨xs,x,q,B⟩:=A;obtain⟨C,D,p,T⟩:=I.list q;obtain⟨u,Q,V⟩:=D.get B;obtain⟨r,g,N,j,l,y⟩:=m t (by simp);refine C_ st p.isList (x:=u) (by simpa using Q) λh' f W=>?_
  have L:Inv X pins J H { s with heap:=h' }:=I.turned (t':=s.toks) (λb o n e=>(W.2 b n).trans e) r g j l y;obtain⟨o,e,c,d⟩:=id f;exact⟨u,rfl,Fs (s:={ s with heap:=h' }) e c d (by decide) ⟨x,H,L,V,⟨rfl,λys R=>by rw[I.list_inj R q];exact B⟩,f,λb n=>(m b n).1⟩⟩
 done:=by intro X F hw S G i pins s J H E I m st A;subst F hw S;obtain⟨xs,q,B⟩:=A;obtain⟨C,D,p,T⟩:=I.list q;obtain⟨r,g,N,j,l,y⟩:=m t (by simp);have Z:=D.length;exact C6 (I.o.hd G) st p.isList (by simp;lia) λh' M=>⟨rfl,I.turned (t':=s.toks) (λb o n e=>M b o n e) r g j l y⟩
 self:=λ_ _ _ _ _ st h=>wpAny_pyIter_listiter st h
theorem xy(a t:Addr):Turn P w K tg (RK K a) [t] t (λi h=>h.IsTupleIter t a i) where
 mem:=by simp
 obj:=λi h st b n=>by
  have e:b=t:=by simpa using n
  subst e;obtain⟨o,e,c,d⟩:=st;exact⟨o,e,λv z=>by rw[d]at z;cases z⟩
 keep:=λi h h' st k=>st.at λo e=>k t (by simp) o e
 item:=by
  intro X A hw F G i pins s J H E I r st B;subst A hw F;obtain⟨xs,x,q,C⟩:=B;obtain⟨f,D,p,T⟩:=I.tuple q;obtain⟨u,Q,V⟩:=D.get C;obtain⟨g,j,N,l,y,S⟩:=r t (by simp);refine wpAny_pyNext_tuple_item st (show s.heap.IsTuple a f.toArray from p) (x:=u) (by simpa using Q) λh' m W=>?_
  have L:Inv X pins J H { s with heap:=h' }:=I.turned (t':=s.toks) (λb o n e=>(W.2 b n).trans e) g j l y S;obtain⟨o,e,c,d⟩:=id m;exact⟨u,rfl,Fs (s:={ s with heap:=h' }) e c d (by decide) ⟨x,H,L,V,⟨rfl,λys R=>by rw[I.tuple_inj R q];exact C⟩,m,λb n=>(r b n).1⟩⟩
 done:=by intro X A hw F G i pins s J H E I r st B;subst A hw F;obtain⟨xs,q,C⟩:=B;obtain⟨f,D,p,T⟩:=I.tuple q;obtain⟨g,j,N,l,y,S⟩:=r t (by simp);have Z:=D.length;exact wpAny_pyNext_tuple_end (I.o.hd G) st (show s.heap.IsTuple a f.toArray from p) (by simp;lia) λh' M=>⟨rfl,I.turned (t':=s.toks) (λb o n e=>M b o n e) g j l y S⟩
 self:=λ_ _ _ _ _ st h=>wpAny_pyIter_tupleiter st h
theorem xz(x:Addr)(lo:Int)(n:Nat):Turn P w K tg (Po lo n) [x] x (λi h=>IsRangeIter h x (lo+(i:Nat) * 1) ((n:Int)-(i:Nat)) 1) where
 mem:=by simp
 obj:=λi h st b a=>by
  have e:b=x:=by simpa using a
  subst e;exact⟨_,st,λv z=>by have C:Data.fields _=Data.cell v:=z;cases C⟩
 keep:=λi h h' st k=>k x (by simp) _ st
 item:=by
  intro X g hw u j i pins s J H E I c st l;subst g hw u;obtain⟨m,r,F,p,q,d⟩:=c x (by simp);have W:=Walks.range (prog:=X.p) (w:=X.w) (I.o.hd j) x lo 1 n;refine W.item i s _ _ l st λv h' tk A f B=>?_
  obtain⟨t,rfl⟩:=A;have y:Inv X pins J H { s with heap:=h',toks:=tk }:=I.turned (λb o a e=>B b o (by simpa using a) e) m r p q d;refine⟨_,rfl,Fs (s:={ s with heap:=h',toks:=tk }) (n:="range_iterator") f rfl rfl (by decide) ⟨.int (lo+i),H,y,⟨t,?_⟩,⟨rfl,rfl⟩,f,λb a=>(c b a).1⟩⟩;rw[Int.mul_one]
 done:=by intro X g hw u j i pins s J H E I c st l;subst g hw u;obtain⟨m,r,F,p,q,d⟩:=c x (by simp);exact wpAny_pyNext_range_end (I.o.hd j) st (by have:n≤i:=l;lia) λh' S=>⟨rfl,I.turned (t':=s.toks) (λb o a e=>S b o a e) m r p q d⟩
 self:=λ_ _ _ _ _ st h=>wpAny_pyIter_rangeiter st h
section
variable{X:Cx}{tg:Expr}
theorem D9{lo hi:Int}{t u v:Tok}{tk:Nat}(I:Inv X pins J H s)(h1:-(2 ^ 62)≤lo)(h2:lo < 2 ^ 62)(n:-(2 ^ 62)≤hi)(k:hi < 2 ^ 62)
  (q:R (Po lo (hi-lo).toNat) H):wx X (pyIter (.ref s.heap.objs.size)) (Pm X pins J tg R) E { s with heap:=s.heap.push { cls:=.type "range",data:=.fields #[.int lo t,.int hi u,.int 1 v] },toks:=tk }:=by
 refine wpAny_pyIter_range (IsRange.new ..) (small_one h1 h2 n k) ?_;have h:Inv X pins J H { s with heap:=s.heap.push { cls:=.type "range",data:=.fields #[.int lo t,.int hi u,.int 1 v] },toks:=tk }:=I.kept fun b o e=>aO _ e;refine⟨(s.heap.push { cls:=.type "range",data:=.fields #[.int lo t,.int hi u,.int 1 v] }).objs.size,[(s.heap.push { cls:=.type "range",data:=.fields #[.int lo t,.int hi u,.int 1 v] }).objs.size],_,_,H,rfl,
  h.kept (t':=tk) λb o e=>aO _ e,xz _ lo (hi-lo).toNat,?_,λb f=>?_,q⟩
 .have x:lo+((0:Nat):Int) * 1=lo:=by simp
  have a:(((hi-lo).toNat:Nat):Int)-((0:Nat):Int)=Builtin.Range.rangeSize lo hi 1:=by rw[Ao];split<;>lia
  show IsRangeIter _ _ (lo+((0:Nat):Int) * 1) ((((hi-lo).toNat:Nat):Int)-((0:Nat):Int)) 1;rw[x,a];exact br _ rfl
 .have e:b=(s.heap.push { cls:=.type "range",data:=.fields #[.int lo t,.int hi u,.int 1 v] }).objs.size:=by simpa using f
  subst e;exact h.fpOk (ag _) (h.h.fresh (ag _))
noncomputable def NZ(ta:TA):TI:=λJ H R=>ta J H λv G=>∃j:Int,v=[.int j]/\-(2 ^ 62)≤j/\j < 2 ^ 62/\R (Po 0 j.toNat) G
theorem Cf{a:Expr}{ta:TA}{p B:Pos}(g:Gl X "range")(m:X.g "range"=none)(f:PA X [a] ta)(b:starEach [a] X.e=[(false,eval a X.e)]:=by rfl):PI X tg (.Call (.Name "range" p) [a] [] B) (NZ ta):=by
 intro pins s J H R I h;refine Call_ (jN I g m boot_range (jz (cF (f B pins s J H _ I h) λj w z=>?_) b rfl));obtain⟨u,G,k,v,n⟩:=z;obtain⟨x,e,n,c,q⟩:=n;subst e;cases v with
 |cons r d=>cases d;obtain⟨t,rfl⟩:=r;exact call_range_1 (D9 k (by lia) (by lia) n c (by simpa using q))
noncomputable def Qd(w:TI)(g:TG)(tb:TS):TS:=λD J H=>w J H λh G=>∃W:Nat->Nat->St->Hp->Prop,(∃m,W 0 m J G)/\∀i m J H,W i m J H ->
 (h.stop i H/\D.nx J H)\/(h.go i H/\∃N:St->Hp->Prop,(∀a H',N a H'->∃e,e < m/\W (i+1) e a H')/\∀x H',h.yld i H x H'->g x J H' λs H2=>tb { D with nx:=N,ct:=N,bk:=D.nx } s H2)
noncomputable def nK(f:List Addr)(h:Heap):PN:=f.filterMap λb=>(h.get? b).map λo=>(b,o)
theorem jM(x:b ∈ q)(e:h.get? b=some o):(b,o) ∈ nK q h:=kP.mpr ⟨b,x,by rw[e];rfl⟩
theorem Ch(s:p ∈ nK z h):p.1 ∈ z/\h.get? p.1=some p.2:=by
 obtain⟨b,a,e⟩:=kP.mp s;cases q:h.get? b with
 |none=>rw[q]at e;cases e
 |some o=>rw[q]at e;have x:(b,o)=p:=cc e;subst x;exact⟨a,q⟩
theorem Inv.pinned(I:Inv X pins J H s)(k:∀b ∈ q,vq X pins H b)(c:∀b ∈ q,∃o,s.heap.get? b=some o/\∀v,o.data≠.cell v):Inv X (pins++nK q s.heap) J H s:=
 I.pins_of λp m=>(bE.mp m).elim (λz=>I.pin p (eT _ z)) λz=>by obtain⟨x,e⟩:=Ch z;obtain⟨f,a,n,_⟩:=k p.1 x;obtain⟨o,h,d⟩:=c p.1 x;rw[e]at h;cases h;exact⟨e,f,a,n,d⟩
theorem Inv.unpinned(I:Inv X (pins++q) J H s):Inv X pins J H s:=I.pins_of λp h=>I.pin p (eT _ (iF _ h))
set_option tactic.hygienic true in
theorem Kw{iter:Expr}{y:List Stmt}{wi:TI}{g:TG}{tb:TS}{B:Pos}(F:PassesOwn (model X.p X.w) X.A X.e X.xe)(hc:X.c=true)(hi:PI X tg iter wi)(hg:PG X tg g)(t:nZ X y tb)
  (hs:∀x,foldedSetIterable iter X.e x=pure x:=by intro _;rfl):PS X (.For tg iter y [] B) (Qd wi g tb):=by
 intro pins s J H D I h;refine wpAny_For (cF (hi pins s J H _ I h) λv s1 h1=>cF h1 λitv s2 h2=>?_) hs;obtain⟨it,l,tn,J9,H2,e,I2,T,Q,Z,W,⟨m0,w0⟩,A⟩:=h2;subst e;have p:∀{H':Hp},(∀b ∈ l,H' b=none)->∀b ∈ l,vq X pins H' b:=λhn b t=>⟨hn b t,(Z b t).2⟩
 refine codeAny_forLoop_any (λn s'=>∃i w H',Inv X pins w H' s'/\tn i s'.heap/\(∀b ∈ l,H' b=none)/\W i n w H') ?_ m0 ⟨0,J,H2,I2,Q,λb t=>(Z b t).1,w0⟩;rintro n s3 ⟨i,j,C,V,qo,S,w3⟩;rcases A i n j C w3 with ⟨P,qn⟩|⟨go,N,hN,step⟩
 .refine lB F (cF (T.done X rfl rfl rfl hc i pins s3 j C X.xe V (p S) qo P) λr s4 z=>?_);obtain⟨L,I4⟩:=z;subst L;exact sY ⟨j,C,I4,qn⟩
 .refine lB F (cF (T.item X rfl rfl rfl hc i pins s3 j C X.xe V (p S) qo go) λr s4 z=>?_);obtain⟨u,L,h4⟩:=z;subst L;refine lB F (cF h4 λ_ s5 z=>?_);obtain⟨x,R,I5,r5,y5,Nh,G⟩:=z;have E:=I5.pinned (p G) (T.obj _ _ Nh);refine lB F (cF (hg _ s5 j R x u _ E r5 (step x R y5)) λ_ s6 z=>?_);obtain⟨J6,H6,I6,q6⟩:=z;refine lB F (cF (t _ s6 J6 H6 _ I6 q6) λf M q=>?_);have again:∀{c:St}{a:Hp},Inv X (pins++nK l s5.heap) c a M->N c a->∃m,m < n/\∃i w H',Inv X pins w H' M/\tn i M.heap/\(∀b ∈ l,H' b=none)/\W i m w H':=λ{c a} k K=>by
   obtain⟨m',hm,w7⟩:=hN c a K;refine⟨m',hm,i+1,c,a,k.unpinned,T.keep _ _ _ Nh λb t o e=>(k.pin (b,o) (eT _ (eT _ (jM t e)))).1,λb t=>?_,w7⟩;obtain⟨o,e,d⟩:=T.obj _ _ Nh b t;exact(k.pin (b,o) (eT _ (eT _ (jM t e)))).2.1
  cases f with
  |next=>obtain⟨c,a,k,K⟩:=q;exact again k K
  |cont=>obtain⟨c,a,k,K⟩:=q;exact again k K
  |brk=>obtain⟨c,a,k,q⟩:=q;exact⟨c,a,k.unpinned,q⟩
  |ret v=>obtain⟨x7,c,a,k,r7,q⟩:=q;exact⟨x7,c,a,k.unpinned,r7,q⟩
end
noncomputable abbrev R2:=V->V->Hp->VK->Prop
def i4(X:Cx)(f:Value->Value->Sem Value)(r:R2):Prop:=
 ∀(pins:PN)(s:Shared)(J:St)(H:Hp)(x y:V)(v u:Value)(Q:VK),Inv X pins J H s->RelV x v->RelV y u->r x y H Q ->
  wx X (f v u) (EP X pins J Q) X.xe s
def Q9(X:Cx)(f:Value->Sem Value)(r:V->Hp->VK->Prop):Prop:=
 ∀(pins:PN)(s:Shared)(J:St)(H:Hp)(x:V)(v:Value)(Q:VK),Inv X pins J H s->RelV x v->r x H Q ->
  wx X (f v) (EP X pins J Q) X.xe s
def eE(X:Cx)(f:Value)(r:List V->Hp->VK->Prop):Prop:=
 ∀(pins:PN)(s:Shared)(J:St)(H:Hp)(xs:List V)(j:LV)(Q:VK),Inv X pins J H s->ba xs j->r xs H Q ->
  wx X (call f j) (EP X pins J Q) X.xe s
def Q_(X:Cx)(r:V->Hp->(Bool->Hp->Prop)->Prop):Prop:=
 ∀(pins:PN)(s:Shared)(J:St)(H:Hp)(x:V)(v:Value)(Q:Bool->Hp->Prop),Inv X pins J H s->RelV x v->r x H Q ->
  wx X (truthy v) (TP X pins J Q) X.xe s
noncomputable def Kb(r:R2)(ta tb:TE):TE:=λJ H Q=>ta J H λx G=>tb J G λy H2=>r x y H2 Q
noncomputable def R0(r:V->Hp->VK->Prop)(ta:TE):TE:=λJ H Q=>ta J H λx G=>r x G Q
noncomputable def rI(C:Int->Int->Prop)(g:Int->Int->V):R2:=λx y H Q=>∃i j,x=.int i/\y=.int j/\C i j/\Q (g i j) H
noncomputable def Hv(g:Int->Int->V):R2:=λx y H Q=>∃i j,x=.int i/\y=.int j/\Q (g i j) H
def rU(g:Int->V):V->Hp->VK->Prop:=λx H Q=>∃i,x=.int i/\Q (g i) H
section
variable{X:Cx}{a b c:Expr}{ta tb tc:TE}{B:Pos}
theorem L5(r:Y X a ta)(t:Y X b tb){pins:PN}{s:Shared}{J:St}{H:Hp}{R:V->V->Hp->Prop}(I:Inv X pins J H s)
  (h:ta J H λx G=>tb J G λy H2=>R x y H2) {Q:VP}{f:Value->Value->Sem Value}
  (p:∀v u k x y H2,Inv X pins J H2 k->RelV x v->RelV y u->R x y H2->wx X (f v u) Q X.xe k) :
  wx X (eval a X.e) (λv e=>wx X (eval b X.e) (λu n=>wx X (f v u) Q X.xe n) X.xe e) X.xe s:=by
 refine cF (r pins s J H _ I h) λv i z=>?_;obtain⟨x,G,c,w,q⟩:=z;refine cF (t pins i J G _ c q) λu k z=>?_;obtain⟨y,H2,m,g,d⟩:=z;exact p v u k x y H2 m w g d
theorem Nw{o:Operator}{r:R2}(f:i4 X (binaryOp o) r)(n:Y X a ta)(k:Y X b tb):Y X (.BinOp a o b B) (Kb r ta tb):=by intro pins s J H Q I h;exact wpAny_BinOp (L5 n k I h λv u t x y H2 e c m q=>f pins t J H2 x y v u Q e c m q)
theorem Nu(o:Q9 X (unaryOp q) r)(n:Y X a ta):Y X (.UnaryOp q a B) (R0 r ta):=by intro pins s J H Q I h;exact UnaryOp_ (cF (n pins s J H _ I h) λv b z=>by obtain⟨x,G,e,f,k⟩:=z;exact o pins b J G x v Q e f k)
theorem OT{f:Value->Value->Sem Value}{C:Int->Int->Prop}{g:Int->Int->Int}
  (rule:∀(i j:Int)(t u:Tok)(s:Shared)(Q:VP)(E:VP),C i j->Q (.int (g i j) s.toks) { s with toks:=s.toks+1 }->wx X (f (.int i t) (.int j u)) Q E s) :
  i4 X f (rI C λi j=>.int (g i j)):=by
 intro pins s J H x y v u Q I r a h;obtain⟨i,j,rfl,rfl,c,q⟩:=h;obtain⟨t,rfl⟩:=r;obtain⟨e,rfl⟩:=a;exact rule i j t e s _ _ c ⟨.int (g i j),H,I.tok _,⟨_,rfl⟩,q⟩
theorem NK{f:Value->Value->Sem Value}{g:Int->Int->Int}
  (rule:∀(i j:Int)(t u:Tok)(s:Shared)(Q:VP)(E:VP),Q (.int (g i j) s.toks) { s with toks:=s.toks+1 }->wx X (f (.int i t) (.int j u)) Q E s) :
  i4 X f (Hv λi j=>.int (g i j)):=by
 intro pins s J H x y v u Q I r a h;obtain⟨i,j,rfl,rfl,q⟩:=h;obtain⟨t,rfl⟩:=r;obtain⟨e,rfl⟩:=a;exact rule i j t e s _ _ ⟨.int (g i j),H,I.tok _,⟨_,rfl⟩,q⟩
theorem HV{f:Value->Value->Sem Value}{g:Int->Int->Bool}
  (rule:∀(i j:Int)(t u:Tok)(s:Shared)(Q:VP)(E:VP),Q (.bool (g i j)) s->wx X (f (.int i t) (.int j u)) Q E s) :
  i4 X f (Hv λi j=>.bl (g i j)):=by
 intro pins s J H x y v u Q I r a h;obtain⟨i,j,rfl,rfl,q⟩:=h;obtain⟨t,rfl⟩:=r;obtain⟨e,rfl⟩:=a;exact rule i j t e s _ _ ⟨.bl (g i j),H,I,rfl,q⟩
def Ri(i j:Int):Prop:=0≤j/\j≤1000000/\i.natAbs < 2 ^ 64
theorem K3:i4 X (binaryOp .Add) (Hv λi j=>.int (i+j)):=NK λ_ _ _ _ _ _ _ q=>add_int q
theorem KW:i4 X (binaryOp .Sub) (Hv λi j=>.int (i-j)):=NK λ_ _ _ _ _ _ _ q=>sub_int q
theorem K0:i4 X (binaryOp .Mod) (rI (λ_ j=>0 < j) λi j=>.int (i % j)):=OT λi j _ _ _ _ _ h q=>by have h1:(0:Int) < j:=h;exact mod_int' (by lia) (by rw[Int.fmod_eq_emod_of_nonneg i (by lia)];exact q)
theorem KZ:i4 X (binaryOp .Pow) (rI Ri λi j=>.int (i ^ j.toNat)):=OT λ_ _ _ _ _ _ _ h q=>pow_int_small h.1 h.2.1 h.2.2 q
theorem RY{f:Value->Sem Value}{g:Int->Int}
  (rule:∀(i:Int)(t:Tok)(s:Shared)(Q:VP)(E:VP),Q (.int (g i) s.toks) { s with toks:=s.toks+1 }->wx X (f (.int i t)) Q E s) :
  Q9 X f (rU λi=>.int (g i)):=by
 intro pins s J H x v Q I r h;obtain⟨i,rfl,q⟩:=h;obtain⟨t,rfl⟩:=r;exact rule i t s _ _ ⟨.int (g i),H,I.tok _,⟨_,rfl⟩,q⟩
theorem JW:Q9 X (unaryOp .USub) (rU λi=>.int (-i)):=RY λ_ _ _ _ _ q=>neg_int q
end
noncomputable def Nm:V->V->Bool
 | .non,.non=>true | .non,.int _=>true | .int _,.non=>true | .non,.bl _=>true | .bl _,.non=>true | .non,.str _=>true | .str _,.non=>true
 | .int _,.int _=>true | .bl _,.bl _=>true | .str _,.str _=>true | .byt _,.byt _=>true
 | .int _,.str _=>true | .str _,.int _=>true | .bl _,.str _=>true | .str _,.bl _=>true
 |_,_=>false
def R9:R2:=λx y H Q=>Nm x y=true/\Q (.bl (decide (x=y))) H
def R8:R2:=λx y H Q=>Nm x y=true/\Q (.bl (!decide (x=y))) H
theorem BE{i j:Int}:decide (V.int i=V.int j)=(i == j):=by rw[kU];simp
theorem FH:decide (V.bl i=V.bl q)=(i == q):=by rw[kU];simp
theorem BC:decide (V.str i=V.str q)=(i == q):=by rw[kU];simp
theorem BG:decide (V.byt i=V.byt q)=(i.toList == q.toList):=by rw[kU];cases i;cases q;simp
section
variable{X:Cx}{a b c:Expr}{ta tb tc:TE}{B:Pos}
theorem bG(I:Inv X pins J H s)(q:Q (.bl k) H)(e:k=z):EP X pins J Q (.bool z) s:=by subst e;exact⟨.bl k,H,I,rfl,q⟩
theorem Ez:i4 X (compareOp .Eq) R9:=by
 intro pins s J H x y v u Q I n r h;obtain⟨e,q⟩:=h;cases x with
 |non=>
  cases n;cases y with
  |non=>cases r;exact GD (bG I q (by simp))
  |bl j=>cases r;exact GA (bG I q (by simp))
  |int j=>obtain⟨a,rfl⟩:=r;exact GB (bG I q (by simp))
  |str j=>obtain⟨a,rfl⟩:=r;exact GG (bG I q (by simp))
  |_=>exact absurd (show false=true from e) bx
 |bl i=>
  cases n;cases y with
  |non=>cases r;exact Gy (bG I q (by simp))
  |bl j=>cases r;exact eq_bool (bG I q FH)
  |str j=>obtain⟨a,rfl⟩:=r;exact Go (bG I q (by simp))
  |_=>exact absurd (show false=true from e) bx
 |int i=>
  obtain⟨t,rfl⟩:=n;cases y with
  |non=>cases r;exact Gz (bG I q (by simp))
  |int j=>obtain⟨a,rfl⟩:=r;exact eq_int (bG I q BE)
  |str j=>obtain⟨a,rfl⟩:=r;exact Gp (bG I q (by simp))
  |_=>exact absurd (show false=true from e) bx
 |str i=>
  obtain⟨t,rfl⟩:=n;cases y with
  |non=>cases r;exact GH (bG I q (by simp))
  |bl j=>cases r;exact Gq (bG I q (by simp))
  |int j=>obtain⟨a,rfl⟩:=r;exact Gr (bG I q (by simp))
  |str j=>obtain⟨a,rfl⟩:=r;exact eq_str (bG I q BC)
  |_=>exact absurd (show false=true from e) bx
 |byt i=>
  obtain⟨t,rfl⟩:=n;cases y with
  |byt j=>obtain⟨a,rfl⟩:=r;exact PySem.W.eq_bytes (bG I q BG)
  |_=>exact absurd (show false=true from e) bx
 |_=>cases y<;>exact absurd (show false=true from e) bx
theorem Ex:i4 X (compareOp .NotEq) R8:=by
 intro pins s J H x y v u Q I n r h;obtain⟨e,q⟩:=h;cases x with
 |non=>
  cases n;cases y with
  |non=>cases r;exact GN (bG I q (by simp))
  |bl j=>cases r;exact GK (bG I q (by simp))
  |int j=>obtain⟨a,rfl⟩:=r;exact GL (bG I q (by simp))
  |str j=>obtain⟨a,rfl⟩:=r;exact GO (bG I q (by simp))
  |_=>exact absurd (show false=true from e) bx
 |bl i=>
  cases n;cases y with
  |non=>cases r;exact GI (bG I q (by simp))
  |bl j=>cases r;exact ne_bool (bG I q (cX not FH))
  |str j=>obtain⟨a,rfl⟩:=r;exact Gs (bG I q (by simp))
  |_=>exact absurd (show false=true from e) bx
 |int i=>
  obtain⟨t,rfl⟩:=n;cases y with
  |non=>cases r;exact GJ (bG I q (by simp))
  |int j=>obtain⟨a,rfl⟩:=r;exact ne_int (bG I q (cX not BE))
  |str j=>obtain⟨a,rfl⟩:=r;exact Gu (bG I q (by simp))
  |_=>exact absurd (show false=true from e) bx
 |str i=>
  obtain⟨t,rfl⟩:=n;cases y with
  |non=>cases r;exact GP (bG I q (by simp))
  |bl j=>cases r;exact Gw (bG I q (by simp))
  |int j=>obtain⟨a,rfl⟩:=r;exact Gx (bG I q (by simp))
  |str j=>obtain⟨a,rfl⟩:=r;exact ne_str (bG I q (cX not BC))
  |_=>exact absurd (show false=true from e) bx
 |byt i=>
  obtain⟨t,rfl⟩:=n;cases y with
  |byt j=>obtain⟨a,rfl⟩:=r;exact PySem.W.ne_bytes (bG I q (cX not BG))
  |_=>exact absurd (show false=true from e) bx
 |_=>cases y<;>exact absurd (show false=true from e) bx
theorem Ny:i4 X (compareOp .Lt) (Hv λi j=>.bl (decide (i < j))):=HV λ_ _ _ _ _ _ _ q=>zj q
theorem Nz:i4 X (compareOp .LtE) (Hv λi j=>.bl (decide (i≤j))):=HV λ_ _ _ _ _ _ _ q=>le_int q
theorem NA:i4 X (compareOp .Gt) (Hv λi j=>.bl (decide (j < i))):=HV λ_ _ _ _ _ _ _ q=>gt_int q
theorem NB:i4 X (compareOp .GtE) (Hv λi j=>.bl (decide (j≤i))):=HV λ_ _ _ _ _ _ _ q=>ge_int q
theorem K1:i4 X (compareOp .Is) (λx y H Q=>y=.non/\Q (.bl (decide (x=.non))) H):=by
 intro pins s J H x y v u Q I r a h;obtain⟨rfl,q⟩:=h;cases a;refine is_none_gen (bG I q ?_);cases x<;>first
  |(cases r;rfl)
  |(obtain⟨t,rfl⟩:=r;rfl)
theorem HQ:i4 X (compareOp .IsNot) (λx y H Q=>y=.non/\Q (.bl (!decide (x=.non))) H):=by
 intro pins s J H x y v u Q I r a h;obtain⟨rfl,q⟩:=h;cases a;refine isnot_none_gen (bG I q ?_);cases x<;>first
  |(cases r;rfl)
  |(obtain⟨t,rfl⟩:=r;rfl)
theorem Ba{o:CmpOp}{r:R2}(f:i4 X (compareOp o) r)(n:Y X a ta)(k:Y X b tb)(m:behindInMarks o b=false):Y X (.Compare a [o] [b] B) (Kb r ta tb):=by intro pins s J H Q I h;exact wpAny_Compare1 (L5 n k I h λv u p x y H2 e c t q=>f pins p J H2 x y v u Q e c t q) m
noncomputable def DR(t:TE):TT:=λJ H Q=>t J H λx H'=>∃k,x=.bl k/\Q k H'
theorem A7(o:i4 X (compareOp q) r)(p:Y X a ta)(d:Y X b tb)(w:behindInMarks q b=false):PT X (.Compare a [q] [b] B) (DR (Kb r ta tb)):=by
 intro pins s J H Q I h;refine wpAny_isTrue_Compare1 (cF (p pins s J H _ I h) fun v K ⟨x,G,f,l,g⟩=>cF (d pins K J G _ f g) fun u P ⟨y,H2,m,S,i⟩=>
  cF (o pins P J H2 x y v u _ m l S i) λc A ⟨z,n,t,F,k,e,j⟩=>?_) w
 subst e;cases F;exact ki ⟨n,t,j⟩
noncomputable def xD(r e:R2)(ta tb tc:TE):TE:=λJ H Q=>ta J H λx G=>tb J G λy H2=>r x y H2 λz h=>∃k,z=.bl k /\
 (if k=true then tc J h λw a=>e y w a Q else Q (.bl false) h)
theorem Et(K:i4 X (compareOp N) r)(o:i4 X (compareOp q) r')(j:Y X a ta)(l:Y X b tb)(S:Y X c tc)
  (F:lastMarks [N,q] [b,c]=false:=by with_unfolding_all rfl):Y X (.Compare a [N,q] [b,c] B) (xD r r' ta tb tc):=by
 intro pins s J H Q I h;refine Compare_chain (cF (j pins s J H _ I h) fun v M ⟨x,G,w,D,P⟩=>chain_link (cF (l pins M J G _ w P) fun u R ⟨y,H2,g,t,A⟩=>
  cF (K pins R J H2 x y v u _ g D t A) λd T ⟨z,n,f,E,k,e,m⟩=>?_)) F
 subst e;cases E;refine ki ?_;cases k with
 |false=>exact ite_ff ⟨.bl false,n,f,rfl,m⟩
 |true=>exact ite_tt (chain_last (cF (S pins T J n _ f m) λW V ⟨Z,p,i,L,C⟩=>o pins V J p y Z u W Q i t L C))
theorem Ea(D:i4 X (compareOp N) r)(o:i4 X (compareOp q) r')(K:Y X a ta)(P:Y X b tb)(A:Y X c tc)
  (C:lastMarks [N,q] [b,c]=false:=by with_unfolding_all rfl):PT X (.Compare a [N,q] [b,c] B) (DR (xD r r' ta tb tc)):=by
 intro pins s J H Q I h;refine isTrue_chain (cF (K pins s J H _ I h) fun v s1 ⟨x,G,g,W,M⟩=>test_link (cF (P pins s1 J G _ g M) fun u s2 ⟨y,H2,i,t,R⟩=>
  cF (D pins s2 J H2 x y v u _ i W t R) λd s3 ⟨z,n,f,Z,k,e,m⟩=>?_)) C
 subst e;cases Z;refine ki ?_;cases k with
 |false=>obtain⟨k',S,L⟩:=m;cases S;exact ite_ff ⟨n,f,L⟩
 |true=>refine ite_tt (test_last (cF (A pins s3 J n _ f m) λw' s4 ⟨z',p,j,r4,T⟩=>cF (o pins s4 J p y z' u w' _ j t r4 T) λd' s5 E=>?_));obtain⟨z2,w,l,r5,k2,F,V⟩:=E;subst F;cases r5;exact ki ⟨w,l,V⟩
def L8(K:FG)(x:V)(H:Hp)(k:Bool):Prop:=
 match x with
 | .non=>k=false
 | .bl b=>k=b
 | .int i=>k=(i != 0)
 | .str y=>y.length≤sizeLine/\k=((y.length:Int) != 0)
 | .byt y=>y.size≤sizeLine/\k=((y.size:Int) != 0)
 | .ref p=>(∃xs,iy K H p xs/\k=!xs.isEmpty)\/(∃xs,nr K H p xs/\k=!xs.isEmpty)\/∃kvs,H p=some (.dK kvs)/\k=!kvs.isEmpty
 |_=>False
theorem x_(r:KV kvs q):(!q.isEmpty)=!kvs.isEmpty:=by cases r<;>rfl
theorem qI(r:ba xs q):(!q.toArray.isEmpty)=!xs.isEmpty:=by cases r<;>simp
theorem ko:(sizeLine:Nat) < 2 ^ 63:=by rw[nu];decide
theorem JX:Q_ X (λx H Q=>∃k,L8 X.K x H k/\Q k H):=by
 intro pins s J H x v Q I rx h;obtain⟨k,e,q⟩:=h;have hl:=ko;have hs:sizeLine=16777216:=nu;cases x with
 |non=>cases rx;have e':k=false:=e;subst e';exact truthy_none ⟨H,I,q⟩
 |bl b=>cases rx;have e':k=b:=e;subst e';exact ki ⟨H,I,q⟩
 |int i=>obtain⟨t,rfl⟩:=rx;have e':k=(i != 0):=e;subst e';exact PySem.P.truthy_int ⟨H,I,q⟩
 |str y=>obtain⟨t,rfl⟩:=rx;obtain⟨hy,e'⟩:y.length≤sizeLine/\k=((y.length:Int) != 0):=e;subst e';exact PySem.P.truthy_str (by lia) ⟨H,I.tok _,q⟩
 |byt y=>obtain⟨t,rfl⟩:=rx;obtain⟨hy,e'⟩:y.size≤sizeLine/\k=((y.size:Int) != 0):=e;subst e';exact PySem.W.truthy_bytes (by lia) ⟨H,I.tok _,q⟩
 |ref p=>
  cases rx;have e':(∃xs,iy X.K H p xs/\k=!xs.isEmpty)\/(∃xs,nr X.K H p xs/\k=!xs.isEmpty)\/∃kvs,H p=some (.dK kvs)/\k=!kvs.isEmpty:=e;rcases e' with ⟨xs,hx,e'⟩|⟨xs,hx,e'⟩|⟨kvs,hx,e'⟩
  .subst e';obtain⟨its,r,pl,hz⟩:=I.list hx;have hlen:=r.length;exact wpAny_truthy_list pl.isList (by simp only[bc];lia) ⟨H,I.tok _,by rw[qI r];exact q⟩
  .subst e';obtain⟨its,r,pl,hz⟩:=I.tuple hx;have hlen:=r.length;exact truthy_tuple pl (by simp only[bc];lia) ⟨H,I.tok _,by rw[qI r];exact q⟩
  .subst e';obtain⟨hz,hS,vs,r,m⟩:kvs.length≤sizeLine/\(p == sysModules)=false/\∃vs,KV kvs vs/\s.heap.DictOf (ce X.p X.w) p vs:=I.h p _ hx;have hlen:kvs.length=vs.length:=Paired.length r;exact wpAny_truthy_dict hS m (by lia) ⟨H,I.tok _,by rw[x_ r];exact q⟩
 |_=>exact(show False from e).elim
theorem D'(n:Y X a ta)(f:∀w,isTrue a X.e w=(do let v <- w;standAt a.pos;holding [v] (truthy v))) :
  PT X a (λJ H Q=>ta J H λx H'=>∃k,L8 X.K x H' k/\Q k H'):=by
 intro pins s J H Q I h;exact isTrue_plain (cF (n pins s J H _ I h) λv b z=>by obtain⟨x,G,e,r,q⟩:=z;exact JX pins b J G x v Q e r q) (f _)
theorem xS:i4 X (binaryOp .Add) (λx y H Q=>∃i j,x=.str i/\y=.str j/\i.length+j.length≤sizeLine/\Q (.str (i++j)) H):=by intro pins s J H x y v u Q I r a h;obtain⟨i,j,rfl,rfl,z,q⟩:=h;obtain⟨t,rfl⟩:=r;obtain⟨e,rfl⟩:=a;exact add_str (λe tk=>⟨.str (i++j),H,I.tok _,⟨_,rfl⟩,q⟩) z
theorem vals1(r:ba [x] j):∃u,j=[u]/\RelV x u:=by
 cases r with
 |cons h a=>cases a;exact⟨_,rfl,h⟩
theorem vals2(r:ba [x,y] j):∃u w,j=[u,w]/\RelV x u/\RelV y w:=by
 cases r with
 |cons h a=>
  cases a with
  |cons e s=>cases s;exact⟨_,_,rfl,h,e⟩
theorem FT:eE X (.builtin "abs") (λxs H Q=>∃i,xs=[.int i]/\Q (.int (if i < 0 then -i else i)) H):=by intro pins s J H xs j Q I r h;obtain⟨i,rfl,q⟩:=h;obtain⟨u,rfl,t,rfl⟩:=vals1 r;exact call_abs_int λu tk=>⟨.int (if i < 0 then -i else i),H,I.tok _,⟨_,rfl⟩,q⟩
theorem sM:eE X (.type "int") (λxs H Q=>(∃i,xs=[.int i]/\Q (.int i) H)\/∃k,xs=[.bl k]/\Q (.int (if k then 1 else 0)) H):=by
 intro pins s J H xs j Q I r h;rcases h with ⟨i,rfl,q⟩|⟨k,rfl,q⟩
 .obtain⟨u,rfl,t,rfl⟩:=vals1 r;exact call_int_int ⟨.int i,H,I,⟨_,rfl⟩,q⟩
 .obtain⟨u,rfl,x⟩:=vals1 r;cases x;exact call_int_bool ⟨.int (if k then 1 else 0),H,I.tok _,⟨_,rfl⟩,q⟩
end
structure ObjM(h:Heap)(x dx C:Addr)(mA:SV):Prop where
 obj:h.get? x=some (kj C dx)
 ns:h.Ns1 dx mA
 ne:dx≠x
set_option tactic.hygienic true in
theorem Co(n:h.Ns1 dx mA):∃d,h.get? dx=some d/\∀name,t_ name d=some (mA name):=by
 obtain⟨o,es,p,s,hd,hk,_,m⟩:=n;refine⟨o,s,λname=>?_⟩;have e:=m name;unfold nsFind findBy at e;rw[<- Array.find?_toList]at e;unfold t_;rw[hd];dsimp only;split
 .rename_i y q;rw[q]at e;exact cX some e
 .rename_i q;rw[q]at e;have a:es.toList.any (·.refKey)=false:=by
   rw[List.any_eq_false];intro y f;obtain⟨z,t,k⟩:=hk y (Array.mem_toList_iff.mp f);simp[DictEntry.refKey,k]
  have x:¬es.toList.any (·.refKey)=true:=by rw[a];exact bx
  rw[af x];exact cX some e
variable{C:Addr}
theorem ObjM.look(I:ObjM h x dx C mA):∃o,PySem.W.InstAt h x (kj C dx) C (some o)/\∀name,t_ name o=some (mA name):=
 let ⟨o,a,l⟩:=Co I.ns
 ⟨o,⟨I.obj,rfl,rfl,a⟩,l⟩
section
variable{prog:Program}{w:World}{A:Around}{E:VP}{s:Shared}{K:FG}{x dx C f:Addr}{mA:SV}{name:Str}{v:Value}
theorem Iv(X:K.In s.heap)(I:ObjM s.heap x dx C mA)(g:p6 K C name=true)(k:uh K C=true)
  (n:dB K (.ref C) name=some none) (f:mA name=some v) (a:Dk v=true) (h:Q v { s with toks:=s.toks+1 }) :
  wpAny (model prog w) A (getAttr (.ref x) name q) Q E s:=by
 obtain⟨o,e,l⟩:=I.look;exact PySem.W.get_value X e (xq g).1 (PySem.W.findObj_own k n rfl (by rw[l,f])) a h
theorem Fu(X:K.In s.heap)(I:ObjM s.heap x dx C mA)(g:p6 K C name=true)
  (e:dB K (.ref C) name=some (some (.ref f))) (t:tU K (.ref f)=true) (v:mA name=none) (h:Q (.ref f,[.ref x]) s) :
  wpAny (model prog w) A (getMethod (.ref x) name q) Q E s:=by
 obtain⟨o,a,l⟩:=I.look;exact PySem.W.method_fn X a (xq g).1 (xq g).2 e (lZ.mp t) (by show(t_ name o).map (·.isSome)=some false;rw[l,v];rfl) h
theorem Ho(X:K.In s.heap)(I:ObjM s.heap x dx C mA)
  (u:dB K (.ref C) "__setattr__"=some (some (.builtin "object.__setattr__"))) (q:xp K C=true) (g:xm K C name=some none) (t:uh K C=true)
  (hw:w9 mA N) (z:N.length≤sizeLine)
  (h:∀h',ObjM h' x dx C (λy=>if y=name then some v else mA y)->dW dx s.heap h'->Q () { s with heap:=h',toks:=s.toks+2 }) :
  wpAny (model prog w) A (setAttr (.ref x) name v) Q E s:=by
 obtain⟨S,k,l⟩:=I.look;refine PySem.W.set_plain X k u (PySem.W.osa_open (s:={ s with toks:=s.toks+1 }) (r:=none) X k q g λb=>?_);obtain⟨j,m,d⟩:=PySem.W.any_some t;have i:s.heap.get? x=some ⟨.ref C,some dx,.plain,#[]⟩:=I.obj;refine ab (al (ab (ab (wpAny_loadPart i (ab (PySem.W.Looks.here (s:={ s with toks:=s.toks+1 }) (PySem.W.looks_clsIn X m) ?_))))));rw[d];refine al (a:=some dx) (ab (al (ab ?_)));refine wpAny_nsSet1 (s:={ s with toks:=s.toks+1 }) I.ns λh' n e=>?_;obtain⟨H,f,p,o,D,c⟩:=n.count (PySem.Within.cons name v hw);refine ab (wpAny_lookBehind o (by rw[D];exact pastItsLine_dict (au c (by rw[aV];lia))) ?_);exact al (h _ ⟨(e.2 _ (aI I.ne)).trans I.obj,n,I.ne⟩ e)
theorem ET(X:K.In s.heap)(m:xl K C=true)
  (hi:dB K (.ref C) "__init__"=some (some (.ref f))) (x:PySem.W.typeIn K (.ref f)=some (.type "function"))
  (h:codeAny (model prog w) (A.under (.builtin "type.__call__" ⟨.ref C::q,kw⟩)) (.call (.ref f) ⟨.ref (s.heap.objs.size+1)::q,kw⟩) (PySem.W.InitBack (s.heap.objs.size+1) R)
   { s with heap:=(s.heap.push jG).push (kj C s.heap.objs.size) }) :
  codeAny (model prog w) A (.call (.ref C) ⟨q,kw⟩) R s:=by
 obtain⟨a,g,d,t,os⟩:=s;exact PySem.W.make_core (PySem.W.makes_of X m) (PySem.W.looks_findIn X hi) (λe=>PySem.W.bind_fn X e x) (.inl rfl) h
end
noncomputable def iW(f:Str)(v:V):List (Str×V)->List (Str×V)
 | []=>[(f,v)]
 |(g,x)::r=>if g=f then (g,v)::r else (g,x)::iW f v r
theorem oe(f g:Str)(v:V):∀fs:List (Str×V),(iW f v fs).lookup g=if g=f then some v else fs.lookup g
 | []=>by
  show fG g [(f,v)]=_;by_cases h:g=f
  .have b:(g == f)=true:=lZ.mpr h;simp only[fG,b,ac h]
  .have b:(g == f)=false:=gY.mpr h;simp only[fG,b,af h]
 |(k,x)::r=>by
  have i:=oe f g v r;rw[show iW f v ((k,x)::r)=(if k=f then (k,v)::r else (k,x)::iW f v r) from rfl];by_cases hk:k=f
  .rw [ac hk];by_cases h:g=k
   .have b:(g == k)=true:=lZ.mpr h;simp only[fG,b,ac (h.trans hk)]
   .have b:(g == k)=false:=gY.mpr h;simp only[fG,b,af (λe:g=f=>h (e.trans hk.symm))]
  .rw [af hk];by_cases h:g=k
   .have b:(g == k)=true:=lZ.mpr h;simp only[fG,b,af (λe:g=f=>hk (h.symm.trans e))]
   .have b:(g == k)=false:=gY.mpr h;simp only[fG,b];exact i
theorem nP(f:Str)(v:V):∀fs:List (Str×V),f ∈ (iW f v fs).map (·.1)/\∀g,g ∈ fs.map (·.1)->g ∈ (iW f v fs).map (·.1)
 | []=>⟨by simp[iW],λg h=>by simp at h⟩
 |(k,x)::r=>by
  obtain⟨i,a⟩:=nP f v r;rw[show iW f v ((k,x)::r)=(if k=f then (k,v)::r else (k,x)::iW f v r) from rfl];by_cases hk:k=f
  .rw [ac hk];subst hk;exact⟨by simp,λg h=>by simpa using h⟩
  .rw [af hk];refine⟨?_,λg h=>?_⟩
   .rw [aA];exact aG _ i
   .rw [aA]at h ⊢;rcases aN.mp h with e|e
    .exact aN.mpr (.inl e)
    .exact aG _ (a g e)
theorem og(f:Str)(v:V):∀fs:List (Str×V),(iW f v fs).length≤fs.length+1
 | []=>by simp[iW]
 |(k,x)::r=>by
  have i:=og f v r;rw[show iW f v ((k,x)::r)=(if k=f then (k,v)::r else (k,x)::iW f v r) from rfl];by_cases hk:k=f
  .rw [ac hk,aV,aV];lia
  .rw [af hk,aV,aV];lia
theorem kf.some_of{v:V}{o:OV}(r:kf (some v) o):∃u,o=some u/\RelV v u:=by
 cases o with
 |none=>exact(show False from r).elim
 |some u=>exact⟨u,rfl,r⟩
theorem kf.none_of{o:OV}(r:kf none o):o=none:=by
 cases o with
 |none=>rfl
 |some u=>exact(show False from r).elim
variable{v:V}
theorem Cw(r:RelV v u):Dk u=true:=by
 cases v with
 |non=>cases (show u=Value.none from r);rfl
 |bl b=>cases (show u=Value.bool b from r);rfl
 |int i=>obtain⟨t,e⟩:=(show ∃t,u=Value.int i t from r);cases e;rfl
 |str x=>obtain⟨t,e⟩:=(show ∃t,u=Value.str x t from r);cases e;rfl
 |byt b=>obtain⟨t,e⟩:=(show ∃t,u=Value.bytes b t from r);cases e;rfl
 |flt b=>obtain⟨t,e⟩:=(show ∃t,u=Value.float b t from r);cases e;rfl
 |ref a=>cases (show u=Value.ref a from r);rfl
 |ty n=>cases (show u=Value.type n from r);rfl
section
variable{P:Program}{w:World}{H H':Hp}{h h':Heap}{a C dx:Addr}{fs fs':List (Str×V)}
theorem uV(o:i5 P w H h)(e:H a=some (.ins C dx fs)):∃mA,ObjM h a dx C mA/\(∀f,kf (fs.lookup f) (mA f))/\w9 mA (fs.map (·.1))/\fs.length≤1000/\H dx=some (.own a):=by obtain⟨d,z,x,b,mA,n,r,q⟩:=(show cU P w H h a (.ins C dx fs) from o a _ e);exact⟨mA,⟨b,n,x⟩,r,q,z,d⟩
end
structure Cls(K:FG)(C:Addr):Prop where
 pg:p6 K C Str.empty=true
 hd:uh K C=true
 po:xp K C=true
 sa:dB K (.ref C) "__setattr__"=some (some (.builtin "object.__setattr__"))
theorem Cls.get(c:Cls K C)(f:Str):p6 K C f=true:=c.pg
def lR(K:FG)(C:Addr)(f:Str):Prop:=dB K (.ref C) f=some none
theorem lR.taker(n:lR K C f):xm K C f=some none:=by unfold xm;rw[show dB K (.ref C) f=some none from n];rfl
structure Con(K:FG)(C:Addr)(f:Str)(v:V)(u:Value):Prop where
 at_:dB K (.ref C) f=some (some u)
 rel:RelV v u
 get:Dl K u "__get__"=some none
 cp:PySem.W.copiedNames.contains f=false
structure Meth(K:FG)(C:Addr)(m:Str)(f:Addr):Prop where
 at_:dB K (.ref C) m=some (some (.ref f))
 fn:tU K (.ref f)=true
 kp:dH K (.ref f)=true
section
variable{X:Cx}{pins:PN}{J:St}{H:Hp}{s:Shared}{a C dx:Addr}{fs:List (Str×V)}{f:Str}{v:V}{A:Around}{E:VP}
theorem ye{b:Bool}{Q:VP}(I:Inv X pins J H s)(e:H a=some (.ins C dx fs))(c:Cls X.K C)(n:lR X.K C f)(l:fs.lookup f=some v)
  (h:∀u s',Inv X pins J H s'->RelV v u->Q u s'):wpAny (model X.p X.w) A (getAttr (.ref a) f b) Q E s:=by
 obtain⟨mA,k,r,_,_,_⟩:=uV I.h e;obtain⟨u,m,x⟩:=kf.some_of (v:=v) (o:=mA f) (by rw[<- l];exact r f);exact Iv I.kIn k (c.get f) c.hd n m (Cw x) (h u _ (I.tok _) x)
theorem qO{m:Str}{g:Addr}{p:Sem Bool}{Q:Value×LV->Shared->Prop}(I:Inv X pins J H s)(e:H a=some (.ins C dx fs))(c:Cls X.K C)(k:Meth X.K C m g)(l:fs.lookup m=none)
  (h:Q (.ref g,[.ref a]) s):wpAny (model X.p X.w) A (getMethod (.ref a) m p) Q E s:=by
 obtain⟨mA,x,r,_,_,_⟩:=uV I.h e;have n:mA m=none:=kf.none_of (by rw[<- l];exact r m);exact Fu I.kIn x (c.get m) k.at_ k.fn n h
theorem xH(I:Inv X pins J H s)(e:H a=some (.ins C dx fs))(c:Cls X.K C)(n:lR X.K C f)(hl:fs.length < 1000)(ry:RelV y u)
  (h:∀s',Inv X pins J (bO H a (.ins C dx (iW f y fs))) s'->Q () s'):wpAny (model X.p X.w) A (setAttr (.ref a) f u) Q E s:=by
 obtain⟨mA,O9,r,wi,_,ho⟩:=uV I.h e;have hz:(fs.map (·.1)).length≤sizeLine:=by rw[aQ,nu];lia
 refine Ho I.kIn O9 c.sa c.po n.taker c.hd wi hz λh' O' sb=>h _ ?_;have hd:∃o,h'.get? dx=some o:=let ⟨o,_,_,e',_⟩:=O'.ns;⟨o,e'⟩
 refine I.write (x:=a) (e:=dx) (by rw[e];exact True.intro) (.inr ho) (λb q hb z=>(sb.2 b hb).trans z) hd ?_;refine⟨by rw[aj O9.ne];exact ho,?_,O9.ne,O'.obj,_,O'.ns,λg=>?_,λg hg=>?_⟩
 .have:=og f y fs;lia
 .show kf ((iW f y fs).lookup g) (if g=f then some u else mA g);rw[oe];by_cases q:g=f
  .rw [ac q,ac q];exact ry
  .rw [af q,af q];exact r g
 .by_cases q:g=f
  .rw [q];exact(nP f y fs).1
  .refine (nP f y fs).2 g (wi g λz=>hg ?_);show(if g=f then some u else mA g)=none;rw[af q];exact z
theorem Inv.made(I:Inv X pins J H s):Inv X pins J (bO (bO H s.heap.objs.size (.own (s.heap.objs.size+1))) (s.heap.objs.size+1) (.ins C s.heap.objs.size []))
  { s with heap:=(s.heap.push jG).push (kj C s.heap.objs.size) }:=by
 have h:(s.heap.push jG).get? s.heap.objs.size=some jG:=br s.heap rfl;have k:((s.heap.push jG).push (kj C s.heap.objs.size)).get? (s.heap.objs.size+1)=some (kj C s.heap.objs.size):=by have:=br (s.heap.push jG) (o:=kj C s.heap.objs.size) rfl;rwa [lX]at this
 have f:(s.heap.push jG).Ns s.heap.objs.size (λ_=>none):=⟨jG,#[],_,h,rfl,(λe c=>absurd c (by simp)),λ_=>rfl⟩;have x:=I.laid (a:=s.heap.objs.size) (o:=.own (s.heap.objs.size+1)) (h':=s.heap.push jG) (t':=s.toks) (λb u q=>aO _ q) (ag _) ⟨_,h⟩;refine x.laid (a:=s.heap.objs.size+1) (o:=.ins C s.heap.objs.size []) (t':=s.toks) (λb u q=>aO _ q) (tK (lX _ _)) ?_;have n:s.heap.objs.size≠s.heap.objs.size+1:=bb (jA _);refine⟨by rw[aj n,aD],bX _,n,k,λ_=>none,(Heap.Ns1.of_empty f).at λo q=>aO _ q,λ_=>True.intro,λy m=>absurd rfl m⟩
theorem IP(b:attributeBase e f q (eval e q)=eval e q)
  (h:wpAny (model prog w) A (eval e q) (λo x=>wpAny (model prog w) A (getAttr o f true) Q E x) E s):wpAny (model prog w) A (eval (.Attribute e f B) q) Q E s:=
 Attribute_any_ h (by rw[arm_eval_Attribute,b])
end
def Qe(K:FG)(ta:TE)(f:Str):TE:=λJ H Q=>ta J H λx G=>∃a C dx fs v,x=.ref a/\G a=some (.ins C dx fs)/\Cls K C/\lR K C f/\fs.lookup f=some v/\Q v G
def Qk(K:FG)(ta tv:TE)(f:Str):TS:=λD J H=>tv J H λy G=>ta J G λx H2=>∃a C dx fs,x=.ref a/\H2 a=some (.ins C dx fs)/\Cls K C/\lR K C f/\fs.length < 1000 /\
 D.nx J (bO H2 a (.ins C dx (iW f y fs)))
section
variable{X:Cx}{o e value:Expr}{f:Str}{B pos' tpos:Pos}{ta tv:TE}
theorem KR(t:Y X e ta)(r:attributeBase e f X.e (eval e X.e)=eval e X.e):Y X (.Attribute e f B) (Qe X.K ta f):=by intro pins s J H Q I h;refine IP r (cF (t pins s J H _ I h) λu w z=>?_);obtain⟨x,G,k,d,a,C,dx,fs,v,ex,m,c,n,l,q⟩:=z;subst ex;obtain rfl:u=Value.ref a:=d;exact ye k m c n l λi g b p=>⟨v,G,b,p,q⟩
theorem Ky(r:Y X o ta)(v:Y X value tv)(t:swapsWith value (some (.Attribute o f pos')) B.line X.e=pure false):PS X (.Assign [.Attribute o f pos'] value B) (Qk X.K ta tv f):=by intro pins s J H D I h;refine plainObj_wpAny_Assign_Attribute (cF (v pins s J H _ I h) λu i ⟨y,G,e,g,q⟩=>cF (r pins i J G _ e q) λp j z=>?_) t;obtain⟨x,H2,k,w,a,C,dx,fs,ex,m,c,n,l,d⟩:=z;subst ex;obtain rfl:p=Value.ref a:=w;exact xH k m c n l g λS b=>⟨J,_,b,d⟩
end
section
variable{X:Cx}{pins:PN}{J:St}{H:Hp}{s:Shared}{A:Around}{E:VP}{Q:VP}{c:Value}{b:Bool}
inductive TyOf(K:FG)(H:Hp):V->Value->Prop where
 |non:TyOf K H .non (.type "NoneType")
 |bl (x:Bool):TyOf K H (.bl x) (.type "bool")
 |int (i:Int):TyOf K H (.int i) (.type "int")
 |str (x:Str):TyOf K H (.str x) (.type "str")
 |flt (x:UInt64):TyOf K H (.flt x) (.type "float")
 |lst {a:Addr}{xs:List V} (e:H a=some (.lst xs)):TyOf K H (.ref a) (.type "list")
 |frz {a:Addr}{o:Obj}{xs:List V} (e:H a=some (.frz o (.lst xs))):TyOf K H (.ref a) (.type "list")
 |tup {a:Addr}{xs:List V} (e:H a=some (.tup xs)):TyOf K H (.ref a) (.type "tuple")
 |dK {a:Addr}{kvs:List (b0×V)} (e:H a=some (.dK kvs)):TyOf K H (.ref a) (.type "dict")
 |dT {a:Addr}{kvs:List (List b0×V)} (e:H a=some (.dT kvs)):TyOf K H (.ref a) (.type "dict")
 |ins {a C dx:Addr}{fs:List (Str×V)} (e:H a=some (.ins C dx fs)) (cl:Cls K C) (ha:dB K (.ref C) "__class__"=some (some (.builtin "object.__class__")))
   (hn:Dl K (.builtin "object.__class__") "__get__"=some (some (.builtin "getset_descriptor.__get__"))) (htk:PySem.W.takesIn K (.builtin "object.__class__")=some true)
   (hm:PySem.W.mroIn K C (.type "object")=some true):TyOf K H (.ref a) (.ref C)
end
structure Room(k:Nat)(A:Around):Prop where
 hd:A.handled=none
 dp:A.depth+3 * k+5 < recursionLimit
 un:A.units+16 * k+200 < cLine
variable{k:Nat}
theorem Room.mono(r:Room k A)(h:q≤k):Room q A:=⟨r.hd,by have:=r.dp;lia,by have:=r.un;lia⟩
theorem Room.deeper(r:Room (k+1) A)(e:Env):Room k (A.deeper e):=
 ⟨r.hd,by have:=r.dp;show A.depth+1+3 * k+5 < _;lia,by have:=r.un;show A.units+3+16 * k+200 < _;lia⟩
variable{kw:List (Str×Value)}
theorem xX:(A.under (.builtin "type.__call__" ⟨.ref C::j,kw⟩)).depth=A.depth+1:=by first|rfl|simp[ul,Code.weight,Code.isCreation,Code.isGuard,Code.isCaller,Code.frames,Code.isFrame,guardIds]
theorem xW:(A.under (.builtin "type.__call__" ⟨.ref C::j,kw⟩)).units=A.units+1:=by first|rfl|simp[ul,Code.cUnits,Code.frames,Code.isFrame]
theorem Room.make(r:Room (k+1) A)(C:Addr)(j:LV)(kw:List (Str×Value)):Room k (A.under (.builtin "type.__call__" ⟨.ref C::j,kw⟩)):=
 ⟨r.hd,by have:=r.dp;rw[xX];lia,by have:=r.un;rw[xW];lia⟩
theorem Room.depth(r:Room k A):A.depth < recursionLimit:=by have:=r.dp;lia
noncomputable def M_:TA:=λ_ H Q=>Q [] H
noncomputable def Nc(ta:TE)(tr:TA):TA:=λJ H Q=>ta J H λx G=>tr J G λxs H2=>Q (x::xs) H2
section
variable{X:Cx}{e:Expr}{es:Ab}{te:TE}{t:TA}{B:Pos}
theorem ij:PA X [] M_:=λ_ _ _ _ H Q I h=>gm ⟨[],H,I,.nil,h⟩
theorem eW(k:Y X e te)(r:PA X es t)(f:starEach (e::es) X.e=(false,eval e X.e)::starEach es X.e:=by rfl):PA X (e::es) (Nc te t):=by intro B pins s J H Q I h;rw[f];show wpAny _ _ (spliced ((false,eval e X.e)::backTo B (starEach es X.e))) _ _ s;refine dq (cF (k pins s J H _ I h) λu p z=>?_);obtain⟨x,G,a,c,q⟩:=z;exact cF (r B pins p J G _ a q) λj v z=>by obtain⟨xs,H2,n,m,b⟩:=z;exact⟨x::xs,H2,n,.cons c m,b⟩
def P8(t:TA):TE:=λJ H Q=>t J H λxs G=>xs.length≤sizeLine/\∀p,G p=none->Q (.ref p) (bO G p (.tup xs))
def Qb(t:TA):TE:=λJ H Q=>t J H λxs G=>xs.length≤sizeLine/\∀p,G p=none->Q (.ref p) (bO G p (.lst xs))
theorem uG {N} (h:PA X es t):Y X (.Tuple es N B) (P8 t):=by intro pins s J H Q I n;refine wpAny_Tuple_spliced (cF (h B pins s J H _ I n) λj x k=>?_);obtain⟨xs,G,a,r,z,q⟩:=k;refine⟨by rw[<- r.length];exact z,?_⟩;have f:G x.heap.objs.size=none:=a.h.fresh (ag _);refine⟨.ref x.heap.objs.size,bO G x.heap.objs.size (.tup xs),a.laid (t':=x.toks) (λb u e=>aO _ e) (ag _) ?_,rfl,q _ f⟩;exact⟨z,j,r,nX.new _ _⟩
theorem El(h:PA X es t):Y X (.List es B) (Qb t):=by intro pins s J H Q I n;refine wpAny_List_spliced (cF (h B pins s J H _ I n) λj x k=>?_);obtain⟨xs,G,a,r,z,q⟩:=k;refine⟨by rw[<- r.length];exact z,?_⟩;have f:G x.heap.objs.size=none:=a.h.fresh (ag _);refine⟨.ref x.heap.objs.size,bO G x.heap.objs.size (.lst xs),a.laid (t':=x.toks) (λb u e=>aO _ e) (ag _) ?_,rfl,q _ f⟩;exact⟨z,j,0,r,br _ rfl⟩
end
noncomputable abbrev Sp:=List V->Hp->VK->XK->Prop
noncomputable abbrev C1:=List Env->Hp->Shared->XK->VP
structure Env0(P:Program)(w:World)(K:FG)(mg:SV)(base:Heap)(A:Around)(outer:List Env)(s:Shared)(H:Hp):Prop where
 frames:A.frames=some outer
 mod:Mod K mg base
 bs:∀b o,base.get? b=some o->s.heap.get? b=some o/\H b=none
 bsz:base.objs.size≤s.heap.objs.size
 funs:s.heap.FunFrames base outer
 frf:∀b ∈ Cy outer,H b=none
 tab:∀P ∈ cf K,H P=some .tbl
 h:i5 P w H s.heap
 bare:AllBare s.gens
def CE(o:List Env)(P:Program)(w:World)(H:Hp)(s:Shared)(Q:VK)(u:Value)(s':Shared):Prop:=
 ∃v H',s'.os=s.os/\AllBare s'.gens/\Un (Cy o) [] H H' s.heap s'.heap/\i5 P w H' s'.heap/\RelV v u/\Q v H'
def CR(CX:C1)(o:List Env)(P:Program)(w:World)(H:Hp)(s:Shared)(Q:VK)(E:XK)(r:Result)(s':Shared):Prop:=
 match r with
 | .ok (.ret u)=>CE o P w H s Q u s'
 | .ok _=>False
 | .error e=>CX o H s E e s'
structure FnOk(P:Program)(w:World)(K:FG)(mg:SV)(base:Heap)(CX:C1)(k:Nat)(f:Addr)(fd:FuncData)(ps:LS)(sp:Sp):Prop where
 len:∀vs H Q E,sp vs H Q E->vs.length=ps.length
 run:∀(A:Around)(outer:List Env)(s:Shared)(H:Hp)(args:Args)(us:LV)(vs:List V)(Q:VK)(E:XK),Room k A->Env0 P w K mg base A outer s H->BindsTo s fd args (ps.zip us)->ba vs us->sp vs H Q E ->
  codeAny (model P w) A (.call (.ref f) args) (CR CX outer P w H s Q E) s
variable{mg:SV}{base:Heap}{fd:FuncData}{ps:LS}
theorem FnOk.mono(F:FnOk P w K mg base CX q f fd ps sp)(h:q≤k) :
  FnOk P w K mg base CX k f fd ps sp:=⟨F.len,λA o s H a j v Q E r=>F.run A o s H a j v Q E (r.mono h)⟩
theorem FnOk.imp(F:FnOk P w K mg base CX k f fd ps sp)
  (h:∀v H Q E,z v H Q E->sp v H Q E):FnOk P w K mg base CX k f fd ps z:=
 ⟨λv H Q E q=>F.len v H Q E (h _ _ _ _ q),λA o s H a j v Q E r e b n x=>F.run A o s H a j v Q E r e b n (h _ _ _ _ x)⟩
theorem Env0.make(e:Env0 P w K mg base A q s H)(C:Addr)(j:LV)(kw:List (Str×Value)) :
  Env0 P w K mg base (A.under (.builtin "type.__call__" ⟨.ref C::j,kw⟩)) q s H:=⟨by first|exact e.frames|(simpa[ul,Code.envs,Code.isFrame,pushEnvs] using e.frames),e.mod,e.bs,e.bsz,e.funs,e.frf,e.tab,e.h,e.bare⟩
section
variable{X:Cx}{pins:PN}{J:St}{H:Hp}{s s':Shared}
theorem Inv.env0(I:Inv X pins J H s):Env0 X.p X.w X.K X.g X.b X.A X.k s H:=
 ⟨I.o.frames,I.o.mod,I.bs,au I.o.bsz I.sz,I.stack,I.stkFree,λP h=>I.base.tbls P (I.o.tab P h),I.h,I.bare⟩
theorem Inv.after(I:Inv X pins J H s)(h:CE X.k X.p X.w H s Q u s'):EP X pins J Q u s':=by obtain⟨v,H',os,a,un,o,r,q⟩:=h;obtain⟨e,g,d,t,x⟩:=s';obtain rfl:x=s.os:=os;exact⟨v,H',I.call (h':=e) (g':=g) (d':=d) (t':=t) (ch:=[]) un o a (λb z=>absurd z (by simp)),r,q⟩
end
noncomputable def Nd(sp:Sp)(dvs:List V)(E:XK)(t:TA):TE:=λJ H Q=>t J H λv G=>sp (v++dvs) G Q E
def DT(C:Addr)(m:Str)(sp:Sp)(dvs:List V)(E:XK)(ta:TE)(t:TA):TE:=λJ H Q=>ta J H λx G=>∃a dx fs,x=.ref a/\G a=some (.ins C dx fs)/\fs.lookup m=none /\
 t J G λv H2=>sp (x::(v++dvs)) H2 Q E
def Na(C:Addr)(sp:Sp)(dvs:List V)(E:XK)(t:TA):TE:=λJ H Q=>t J H λs G=>∀x dx,G x=none->G dx=none->dx≠x ->
 sp (.ref x::(s++dvs)) (bO (bO G dx (.own x)) x (.ins C dx [])) (λv H2=>v=.non/\Q (.ref x) H2) E
def Binds(K:FG)(fd:FuncData)(ps:LS)(ds:LV):Prop:=
 ∀(s:Shared)(j:LV),K.In s.heap->(j++ds).length=ps.length->BindsTo s fd ⟨j,[]⟩ (ps.zip (j++ds))
theorem Binds.all(h:∀j:LV,j.length=ps.length->bindArgs fd ⟨j,[]⟩=pure (ps.zip j)):Binds K fd ps []:=λs j _ l=>by rw[cZ]at l ⊢;exact .of_eq (h j l)
def lQ(CX:C1)(X:Cx)(E:XK):Prop:=∀(pins:PN)(J:St)(H:Hp)(s:Shared)(e:Value)(s':Shared),Inv X pins J H s->CX X.k H s E e s'->X.xe e s'
section
variable{X:Cx}{CX:C1}{k:Nat}{f C:Addr}{fd:FuncData}{ps:LS}{sp:Sp}{dvs:List V}{ds:LV}{E:XK}{x m:Str}{p B apos:Pos}{e o:Expr}{es:Ab}{ta:TE}{t:TA}
set_option tactic.hygienic true in
theorem xL(F:FnOk X.p X.w X.K X.g X.b CX k f fd ps sp)(n:Room k X.A)(b:Binds X.K fd ps ds)(hd:ba dvs ds)(c:lQ CX X E)
  (I:Inv X pins J H s) (r:ba z j) (h:sp (z++dvs) H Q E):wx X (call (.ref f) j) (EP X pins J Q) X.xe s:=by
 have x:ba (z++dvs) (j++ds):=r.append hd;have a:(j++ds).length=ps.length:=by rw[<- x.length];exact F.len _ _ _ _ h
 refine pP (nv (F.run X.A X.k s H ⟨j,[]⟩ (j++ds) (z++dvs) Q E n I.env0 (b s j I.kIn a) x h) λr s' q=>?_);cases r with
 |error e=>exact c pins J H s e s' I q
 |ok l=>
  cases l with
  |ret u=>exact I.after q
  |next=>exact False.elim q
  |brk=>exact False.elim q
  |cont=>exact False.elim q
theorem uH(F:FnOk X.p X.w X.K X.g X.b CX k f fd ps sp)(v:Room k X.A)(g:Gl X x)(m:X.g x=some (.ref f))(hk:dH X.K (.ref f)=true)(b:Binds X.K fd ps ds)(hd:ba dvs ds)(w:lQ CX X E)
  (n:PA X (e::es) t) (d:(x == ("__debug__":Str))=false:=by decide) (c:starEach (e::es) X.e=(false,eval e X.e)::starEach es X.e:=by rfl) (l:(backTo B (starEach es X.e)).any (·.1)=false:=by rfl) :
  Y X (.Call (.Name x p) (e::es) [] B) (Nd sp dvs E t):=by
 intro pins s J H Q I h;refine iR (pH I g m ?_ d);refine p7 (h₀:=X.b) I.o.mod.kin hk (cF (n B pins s J H _ I h) λj u z=>?_) c l;obtain⟨i,G,a,r,q⟩:=z;refine⟨a.kIn,?_⟩;exact xL F v b hd w a r q
theorem HL(i:Y X o ta)(c:Cls X.K C)(v:Meth X.K C m f)(F:FnOk X.p X.w X.K X.g X.b CX k f fd ps sp)(y:Room k X.A)(g:Binds X.K fd ps ds)(hd:ba dvs ds)(K:lQ CX X E)(w:PA X (e::es) t)
  (hst:starEach (e::es) X.e=(false,eval e X.e)::starEach es X.e:=by rfl) (p:(backTo B (starEach es X.e)).any (·.1)=false:=by rfl)
  (S:eval (.Call (.Attribute o m apos) (e::es) [] B) X.e=(do
   let N <- eval o X.e
   standAt apos.atName
   let (f,first) <- holding [N] (getMethod N m pl)
   callWith B f first (backTo B (starEach (e::es) X.e)) (backToKw B (keywordEach [] X.e))):=by rfl) :
  Y X (.Call (.Attribute o m apos) (e::es) [] B) (DT C m sp dvs E ta t):=by
 intro pins s J H Q I h;refine Do (pl:=pl) (cF (i pins s J H _ I h) λu D z=>?_) S;obtain⟨x,G,n,A,a,dx,fs,ex,d,l,q⟩:=z;subst ex;obtain rfl:u=Value.ref a:=A;refine qO n d c v l ?_;refine p7 (first:=[.ref a]) (h₀:=X.b) I.o.mod.kin v.kp (cF (w B pins D J G _ n q) λj M z=>?_) hst p;obtain⟨L,H2,b,r,P⟩:=z;refine⟨b.kIn,?_⟩;exact xL (j:=.ref a::j) (z:=.ref a::L) F y g hd K b (.cons rfl r) P
theorem Ek(t:Y X o ta)(c:Cls X.K C)(n:Meth X.K C m f)(F:FnOk X.p X.w X.K X.g X.b CX k f fd ps sp)(p:Room k X.A)(r:Binds X.K fd ps ds)(hd:ba dvs ds)(d:lQ CX X E)
  (v:eval (.Call (.Attribute o m apos) [] [] B) X.e=(do
   let z <- eval o X.e
   standAt apos.atName
   let (f,first) <- holding [z] (getMethod z m N)
   callWith B f first (backTo B (starEach [] X.e)) (backToKw B (keywordEach [] X.e))):=by rfl) :
  Y X (.Call (.Attribute o m apos) [] [] B) (DT C m sp dvs E ta M_):=by
 intro pins s J H Q I h;refine Do (pl:=N) (cF (t pins s J H _ I h) λu i w=>?_) v;obtain⟨x,G,e,g,a,dx,fs,ex,b,l,q⟩:=w;subst ex;obtain rfl:u=Value.ref a:=g;refine qO e b c n l ?_;exact PySem.W.callWith_K0 (first:=[.ref a]) e.kIn n.kp (xL (j:=[.ref a]) (z:=[.ref a]) F p r hd d e (.cons rfl .nil) q)
structure Mk(K:FG)(C f:Addr):Prop where
 makes:xl K C=true
 init:dB K (.ref C) "__init__"=some (some (.ref f))
 fn:tU K (.ref f)=true
 kp:dH K (.ref C)=true
set_option tactic.hygienic true in
theorem D3(M:Mk X.K C f)(F:FnOk X.p X.w X.K X.g X.b CX k f fd ps sp)(d:Room (k+1) X.A)(t:Binds X.K fd ps ds)(hd:ba dvs ds)
  (w:lQ CX X E) (I:Inv X pins J H s) (r:ba z j)
  (h:∀x dx,H x=none->H dx=none->dx≠x->sp (.ref x::(z++dvs)) (bO (bO H dx (.own x)) x (.ins C dx [])) (λv H2=>v=.non/\Q (.ref x) H2) E) :
  wx X (call (.ref C) j) (EP X pins J Q) X.xe s:=by
 have n:=h (s.heap.objs.size+1) s.heap.objs.size (I.h.fresh (iA _)) (I.h.fresh (ag _)) (bb (jA _));have a:=Inv.made (C:=C) I;have b:ba (V.ref (s.heap.objs.size+1)::(z++dvs)) (Value.ref (s.heap.objs.size+1)::(j++ds)):=.cons rfl (r.append hd);have p:(Value.ref (s.heap.objs.size+1)::j++ds).length=ps.length:=by have e:=b.length;rw[F.len _ _ _ _ n]at e;exact e.symm
 refine pP (ET (f:=f) I.kIn M.makes M.init (lZ.mp M.fn) (nv (F.run _ X.k _ _ ⟨Value.ref (s.heap.objs.size+1)::j,[]⟩ (Value.ref (s.heap.objs.size+1)::(j++ds)) _ _ E (d.make C j [])
  (a.env0.make C j []) (t _ (Value.ref (s.heap.objs.size+1)::j) a.kIn p) b n) λr s' q=>?_))
 cases r with
 |error e=>exact w pins J _ _ e s' a q
 |ok l=>
  cases l with
  |ret u=>obtain⟨v,H',c,i,m,g⟩:=a.after q;subst m;exact⟨i,⟨V.ref (s.heap.objs.size+1),H',c,rfl,g⟩⟩
  |next=>exact False.elim q
  |brk=>exact False.elim q
  |cont=>exact False.elim q
theorem HM(M:Mk X.K C f)(F:FnOk X.p X.w X.K X.g X.b CX k f fd ps sp)(v:Room (k+1) X.A)(g:Gl X x)(m:X.g x=some (.ref C))(b:Binds X.K fd ps ds)(hd:ba dvs ds)(w:lQ CX X E)
  (n:PA X (e::es) t) (d:(x == ("__debug__":Str))=false:=by decide) (c:starEach (e::es) X.e=(false,eval e X.e)::starEach es X.e:=by rfl) (l:(backTo B (starEach es X.e)).any (·.1)=false:=by rfl) :
  Y X (.Call (.Name x p) (e::es) [] B) (Na C sp dvs E t):=by
 intro pins s J H Q I h;refine iR (pH I g m ?_ d);refine p7 (h₀:=X.b) I.o.mod.kin M.kp (cF (n B pins s J H _ I h) λj u z=>?_) c l;obtain⟨i,G,a,r,q⟩:=z;refine⟨a.kIn,?_⟩;exact D3 M F v b hd w a r q
end
section
variable{X:Cx}{CX:C1}{k:Nat}{f C:Addr}{fd:FuncData}{ps ks:LS}{sp:Sp}{E:XK}{x m:Str}{p B apos kpos:Pos}{e o:Expr}{es:Ab}{kws:List Keyword}{te ta:TE}{t tk:TA}{nm:Option Str}
structure KBinds(K:FG)(fd:FuncData)(ps ks:LS)(g:LV->LV->LV)(gV:List V->List V->List V):Prop where
 to:∀(s:Shared)(us ws:LV),K.In s.heap->(g us ws).length=ps.length->BindsTo s fd ⟨us,ks.zip ws⟩ (ps.zip (g us ws))
 rel:∀{vs:List V}{us:LV}{zs:List V}{ws:LV},ba vs us->ba zs ws->ba (gV vs zs) (g us ws)
variable{g:LV->LV->LV}{gV:List V->List V->List V}
end
structure FnScope(N P:LS)(sc:Scope):Prop where
 kind:sc.kind=.function
 co:sc.isCoroutine=false
 gen:sc.isGenerator=false
 nd:N.Nodup
 pre:N.take P.length=P
 par:∀x ∈ P,sc.names.lookup x=some .local\/sc.names.lookup x=some .cell
 nofree:∀y ∈ sc.names,y.2≠.free
theorem sQ{kindOf:Str->Option NameKind}{x:Str}:∀{b:List (Str×Value)}{m:SV},(∀v,(x,v) ∉ b)->bindL kindOf b m x=m x
 | [],_,_=>rfl
 |(n,v)::r,m,h=>by
  unfold bindL;rw[sQ λw hw=>h w (aG _ hw)];split
  .have:x≠n:=by rintro rfl;exact h v aH
   simp[this]
  .rfl
theorem sS{kindOf:Str->Option NameKind}{x:Str}:∀{b:List (Str×Value)}{m:SV},(∀v,(x,v) ∉ b)->bindC kindOf b m x=m x
 | [],_,_=>rfl
 |(n,v)::r,m,h=>by
  unfold bindC;rw[sS λw hw=>h w (aG _ hw)];split
  .rfl
  .have:x≠n:=by rintro rfl;exact h v aH
   simp[this]
theorem sR{kindOf:Str->Option NameKind}{x:Str}{v:Value}:∀{P:LS}{s:LV}{i:Nat}{m:SV},P.Nodup->P[i]? = some x->s[i]? = some v->kindOf x=some .local ->
  bindL kindOf (P.zip s) m x=some v
 | [],_,_,_,_,h,_,_=>by simp at h
 |_::_,[],_,_,_,_,h,_=>by simp at h
 |p::P,w::s,0,m,n,h1,h2,hk=>by simp at h1 h2;subst h1;subst h2;show bindL kindOf ((p,w)::P.zip s) m p=_;unfold bindL;rw[sQ λv a=>(bQ.mp n).1 (t5 a).1,ac hk];simp
 |p::P,w::s,i+1,m,n,h1,h2,hk=>by show bindL kindOf ((p,w)::P.zip s) m x=_;unfold bindL;exact sR (i:=i) (bQ.mp n).2 (by simpa using h1) (by simpa using h2) hk
theorem sT{kindOf:Str->Option NameKind}{x:Str}{v:Value}:∀{P:LS}{s:LV}{i:Nat}{m:SV},P.Nodup->P[i]? = some x->s[i]? = some v->kindOf x≠some .local ->
  bindC kindOf (P.zip s) m x=some v
 | [],_,_,_,_,h,_,_=>by simp at h
 |_::_,[],_,_,_,_,h,_=>by simp at h
 |p::P,w::s,0,m,n,h1,h2,hk=>by simp at h1 h2;subst h1;subst h2;show bindC kindOf ((p,w)::P.zip s) m p=_;unfold bindC;rw[sS λv a=>(bQ.mp n).1 (t5 a).1,af hk];simp
 |p::P,w::s,i+1,m,n,h1,h2,hk=>by show bindC kindOf ((p,w)::P.zip s) m x=_;unfold bindC;exact sT (i:=i) (bQ.mp n).2 (by simpa using h1) (by simpa using h2) hk
noncomputable def start(N:LS)(v:List V):St:=v.map some++List.replicate (N.length-v.length) none
noncomputable def wG(CX:C1)(P:Program)(w:World)(K:FG)(mg:SV)(base:Heap)(N:LS)(q:Str)(h:Scope)(f:Addr)(d:Value)(A:Around)(u:List Env)(s:Shared)(H:Hp)(E:XK):Cx where
 p:=P
 w:=w
 K:=K
 g:=mg
 b:=base
 A:=A.deeper (envOfC q h s.heap.objs.size f d)
 N:=N
 z:=s
 y:=H
 e:=envOfC q h s.heap.objs.size f d
 o:=u
 k:=envOfC q h s.heap.objs.size f d::u
 ex:=[]
 c:=true
 fn:=λ_=>true
 pn:=[]
 xe:=λe s'=>wpAny (model P w) (A.deeper (envOfC q h s.heap.objs.size f d)) (leaving (envOfC q h s.heap.objs.size f d) e) (λ_ x=>CX u H s E e x) (λa x=>CX u H s E a x) s'
variable{x:Str}
theorem wN{sc:Scope}(h:sc.names.lookup x=some .cell):∃c,(cellsFrom n sc.names []).lookup x=some c:=by have q:=Dp sc.names n [] (.inl h);exact tD.mp q
theorem Cr{CX:C1}{P:Program}{w:World}{K:FG}{mg:SV}{base:Heap}{N ps:LS}{l:Str}{o:Scope}{f:Addr}{C:Value}{A:Around}{t:List Env}{s G:Shared}{H:Hp}{E:XK}{j:LV}{F:List V}
  (S:FnScope N ps o) (hd:A.handled=none) (m:Env0 P w K mg base A t s H) (R:F.length=ps.length) (r:ba F j)
  (x:InCallC s s.heap.objs.size (bindL (envOfC l o s.heap.objs.size f C).kindOf (ps.zip j) λ_=>none) (cellsFrom (s.heap.objs.size+1) o.names []) (bindC (envOfC l o s.heap.objs.size f C).kindOf (ps.zip j) λ_=>none) G) :
  Inv (wG CX P w K mg base N l o f C A t s H E) [] (start N F) H G:=by
 have L:ps.length≤N.length:=by have:=cX l0 S.pre;rw[g0]at this;lia
 obtain⟨h1,tk,rfl,hk⟩:=x.done;have g:∀b:Addr,b ∉ (wG CX P w K mg base N l o f C A t s H E).ex:=fun b z=>absurd (show b ∈ ([]:List Addr) from z) (by simp);refine⟨⟨m.mod,S.kind,rfl,rfl,ag _,fun y z c h1 h2=>?_,fun y d=>?_,fun y c _ h=>?_,fun _=>hd,Ae m.frames,.inr ⟨rfl,rfl⟩,fun b z=>absurd z (g b),m.bs,m.bsz,fun b _ _=>g b,fun b z=>absurd z (g b),m.funs,m.frf,m.tab⟩,
  rfl,m.bare,Un.kept hk,⟨_,x.toInCall.ns,λi y v h1 h2 Q=>?_⟩,λy c h=>⟨_,x.cell y c h⟩,m.h.fresh (ag _),λy c h=>?_,λp B=>absurd (show p ∈ ([]:PN) from B) (by simp),m.h.kept hk,?_⟩
 .exact name_of_addr x.apart (pV h1) (pV h2)
 .have d:o.names.lookup y=some .cell\/o.names.lookup y=some .free:=d;rcases d with d|d
  .exact wN d
  .exact absurd rfl (S.nofree _ (pV d))
 .exact eP (x.above y c (pV h))
 .have hi:i < F.length:=by
   unfold start at h2;by_cases hi:i < F.length
   .exact hi
   .rw [bH (by simpa using hi)]at h2;rw[uf]at h2;split at h2<;>cases h2
  have I:F[i]? = some v:=by
   unfold start at h2;rw[bL (by simpa using hi),bY]at h2;cases e:F[i]? with
   |none=>rw[e]at h2;cases h2
   |some a=>rw[e]at h2;cases h2;rfl
  obtain⟨u,D,M⟩:=r.get I;have B:ps[i]? = some y:=by rw[<- S.pre,g8 (by lia)];exact h1
  have Jh:ps.Nodup:=by rw[<- S.pre];exact S.nd.sublist (zQ _ _)
  refine⟨u,M,?_⟩;rcases S.par y (aZ B) with k|k
  .exact .inl ⟨k,sR Jh B D k⟩
  .obtain⟨c,e⟩:=wN (n:=s.heap.objs.size+1) k;refine .inr ⟨.inl k,c,e,?_⟩;have q:=x.cell y c e;rw[sT Jh B D (by show o.names.lookup y≠_;rw[k];decide)]at q;exact q
 .exact m.h.fresh (eP (x.above y c (pV h)))
 .unfold start;show _=N.length;rw[aX,aQ,uc];lia
set_option tactic.hygienic true in
theorem N_{CX:C1}{P:Program}{w:World}{K:FG}{mg:SV}{base:Heap}{k:Nat}{f:Addr}{name a:Str}{p:Arguments}{m:List Stmt}{c:Scope}{dV kV B pm d ct oc:Value}{an od:Option Addr}
  {W:Array (OV)}{N ps:LS}{sp:Sp} (lk:K.lookup f=some ⟨oc,od,.func (iT name a p m c dV kV B pm an d ct),W⟩) (M:iU K d a=true) (S:FnScope N ps c)
  (len:∀g H Q E,sp g H Q E->g.length=ps.length)
  (l:∀(A:Around) (h:List Env) (s:Shared) (H:Hp) (g:List V) (Q:VK) (E:XK),Room k (A.deeper (envOfC a c s.heap.objs.size f d))->sp g H Q E ->
   ∃t,nZ (wG CX P w K mg base N a c f d A h s H E) m t/\t { nx:=λ_ H'=>Q .non H',rt:=Q } (start N g) H) :
  FnOk P w K mg base CX (k+1) f (iT name a p m c dV kV B pm an d ct) ps sp:=by
 refine⟨len,λA h s H args j g Q E R C hb r G=>?_⟩;have hl:=len _ _ _ _ G;have Z:K.In s.heap:=C.mod.kin.keeps λb o e=>(C.bs b o e).1;have T:s.heap.NoLimit:=C.mod.nolimit.keeps λb o e=>(C.bs b o e).1;have z:∀y ∈ ps.zip j,c.names.lookup y.1=some .local\/(c.names.lookup y.1=some .cell/\((cellsFrom (s.heap.objs.size+1) c.names []).lookup y.1).isSome=true):=λ⟨n,v⟩ hy=>by
  rcases S.par n (t5 hy).1 with q|q
  .exact .inl q
  .exact .inr ⟨q,Dp _ _ _ (.inl q)⟩
 refine codeAny_call_function R.depth (Z _ _ lk) rfl S.co S.gen rfl (PySem.W.codeRec_of Z M) (hb _ _ _ _ ?_);refine wpAny_newFunctionEnv_cells S.kind z λenv he s1 x=>?_;subst he;refine⟨T.keeps x.toInCall.keep,codeAny_func ?_⟩;obtain⟨t,ht,hq⟩:=l A h s H g Q E (R.deeper _) G;have I:Inv (wG CX P w K mg base N a c f d A h s H E) [] (start N g) H s1:=Cr S R.hd C hl r x;refine cA (ht [] s1 (start N g) H _ I hq) (λfl s' F=>?_) λe s' F=>F;have D:∀{L:St}{H':Hp}{v:V}{u:Value},Inv (wG CX P w K mg base N a c f d A h s H E) [] L H' s'->RelV v u->Q v H'->CE h P w H s Q u s':=
  λ{L H' v u} i X q=>⟨v,H',i.os,i.bare,i.base,i.h,X,q⟩
 cases fl with
 |ret u=>obtain⟨v,L,H',i,X,q⟩:=F;exact D i X q
 |next=>obtain⟨L,H',i,q⟩:=F;exact D (v:=V.non) (u:=Value.none) i rfl q
 |brk=>obtain⟨_,_,_,q⟩:=F;exact False.elim q
 |cont=>obtain⟨_,_,_,q⟩:=F;exact False.elim q
section
variable{X:Cx}{x:Str}{p B:Pos}{e:Expr}{es:Ab}{t:TA}{id T:String}{r:List V->Hp->VK->Prop}
noncomputable def Ro(r:List V->Hp->VK->Prop)(t:TA):TE:=λJ H Q=>t J H λv G=>r v G Q
theorem mG(c:eE X (.builtin id) r)(g:Gl X x)(m:X.g x=none)(v:bootBuiltins x=some (.builtin id))(n:PA X (e::es) t)(f:x≠"__name__":=by decide)(d:(x == ("__debug__":Str))=false:=by decide)
  (k:starEach (e::es) X.e=(false,eval e X.e)::starEach es X.e:=by rfl) (l:(backTo B (starEach es X.e)).any (·.1)=false:=by rfl):Y X (.Call (.Name x p) (e::es) [] B) (Ro r t):=by
 intro pins s J H Q I h;refine iR (jN I g m v ?_ f d);exact GZ (cF (n B pins s J H _ I h) λj w z=>by obtain⟨u,G,a,b,q⟩:=z;exact c pins w J G u j Q a b q) k l
theorem nL(c:eE X (.type T) r)(g:Gl X x)(m:X.g x=none)(v:bootBuiltins x=some (.type T))(n:PA X (e::es) t)(f:x≠"__name__":=by decide)(d:(x == ("__debug__":Str))=false:=by decide)
  (k:starEach (e::es) X.e=(false,eval e X.e)::starEach es X.e:=by rfl) (l:(backTo B (starEach es X.e)).any (·.1)=false:=by rfl):Y X (.Call (.Name x p) (e::es) [] B) (Ro r t):=by
 intro pins s J H Q I h;refine iR (jN I g m v ?_ f d);exact jz (cF (n B pins s J H _ I h) λj w z=>by obtain⟨u,G,a,b,q⟩:=z;exact c pins w J G u j Q a b q) k l
end
end L2
set_option tactic.hygienic true
namespace HT
open PySem PyProof.Rows
section
variable{prog:Program}{w:World}{A:Around}{E:VP}{s:Shared}
theorem IJ(g:IsTup s.heap t z.toArray)(u:IsTup s.heap b q.toArray)(v:z≠[])
  (h1:q=[]->Q (.ref t) s) (h2:q≠[]->Q (.ref s.heap.objs.size) { s with heap:=s.heap.push { cls:=.type "tuple",data:=.seq (z++q).toArray } })
  (a:z.length+q.length≤sizeLine):wpAny (model prog w) A (binaryOp .Add (.ref t) (.ref b)) Q E s:=by
 obtain⟨⟨N,f,I,p⟩,o,m,n,hd⟩:=id g;obtain⟨⟨k,d,data2,l⟩,h,c,r,x⟩:=id u;simp only at m hd c x;subst m hd c x;have e:z.toArray++q.toArray=(z++q).toArray:=by simp
 by_cases hw:q=[]
 .exact wZ ⟨_,o,rfl⟩ ⟨_,h,rfl⟩ xa w4 tt tu (tz _ _)
   (tuple_addW1 t b z.toArray q.toArray n r f d p l (by simpa using v) (by simp[hw])) ⟨o,h,h1 hw⟩
 .refine wZ ⟨_,o,rfl⟩ ⟨_,h,rfl⟩ xa w4 tt tu (tz _ _)
   (tuple_addW2 t b z.toArray q.toArray n r f d p l (by simpa using v) (by simpa using hw) (by rw[bc,bc];exact a)) ⟨o,h,?_⟩
  rw[e];exact h2 hw
noncomputable def eJ(n d:Nat):Option Int->Nat
 |none=>d
 |some v=>if v < 0 then (v+(n:Int)).toNat else min v.toNat n
theorem qx(n d:Nat):eJ n d none=d:=rfl
theorem A3(n d k:Nat):eJ n d (some (k:Int))=min k n:=by show(if (k:Int) < 0 then ((k:Int)+(n:Int)).toNat else min (k:Int).toNat n)=min k n;rw[af (by lia),oY]
theorem Km(n d:Nat)(hd:d≤n)(o:Option Int):eJ n d o≤n:=by
 cases o with
 |none=>exact hd
 |some v=>
  show(if v < 0 then (v+(n:Int)).toNat else min v.toNat n)≤n;by_cases h:v < 0
  .rw [ac h];lia
  .rw [af h];exact Nat.min_le_right _ _
theorem BI(v:Int)(n d:Nat):(if v < 0 then max (v+(n:Int)) 0 else min v (n:Int))=((eJ n d (some v):Nat):Int):=by
 show(if v < 0 then max (v+(n:Int)) 0 else min v (n:Int))=(((if v < 0 then (v+(n:Int)).toNat else min v.toNat n):Nat):Int);by_cases h:v < 0
 .simp only[ac h];lia
 .simp only[af h];lia
theorem yw(lo hi:Option Int)(n:Nat):tj lo hi 1 (n:Int)=(((eJ n 0 lo:Nat):Int),((eJ n n hi:Nat):Int)):=by
 have h1:¬((1:Int) < 0):=by lia
 unfold tj;simp only[h1,jD];refine Prod.ext ?_ ?_
 .cases lo with
  |none=>rfl
  |some v=>exact BI v n 0
 .cases hi with
  |none=>rfl
  |some v=>exact BI v n n
theorem xQ(i j:Nat):oX (i:Int) (j:Int) 1=j-i:=by
 unfold oX;have h1:(1:Int) > 0:=by lia
 simp only[h1,jC,Int.ediv_one];split<;>lia
theorem qw(p:IsPart v o)(h:Q o s):wpAny (model prog w) A (Gn v) Q E s:=by
 cases p with
 |none=>exact zf h
 |int i t=>exact slicePart_int h
theorem i7{l:Addr}{v u:Value}{lo hi:Option Int}{n:Nat}{Q:Int×Int×Nat->Shared->Prop}(a:s.heap.IsSliceOf l v u .none)(p:IsPart v lo)(e:IsPart u hi)
  (h:Q (((eJ n 0 lo:Nat):Int),1,eJ n n hi-eJ n 0 lo) s):wpAny (model prog w) A (yH (.ref l) (pure (n:Int))) Q E s:=by
 obtain⟨os,o,c,d⟩:=id a;unfold yH Gm;refine ab (ab (dj o d (x:=v) rfl (ab (dj o d (x:=u) rfl (ab (dj o d (x:=.none) rfl (al ?_)))))));refine ab (zf ?_);show wpAny _ _ (if ((1:Int) == 0)=true then _ else _) _ _ s;rw[af (by decide)];refine ab (qw p (ab (qw e (ab (al ?_)))));show wpAny _ _ (match tj lo hi 1 (n:Int) with|(lo,hi)=>pure (lo,(1:Int),oX lo hi 1)) _ _ s;rw[yw lo hi n];show wpAny _ _ (pure (((eJ n 0 lo:Nat):Int),(1:Int),oX ((eJ n 0 lo:Nat):Int) ((eJ n n hi:Nat):Int) 1)) _ _ s;rw[xQ];exact al h
theorem Eg(xs:Array Value)(i k:Nat):((List.range k).filterMap λ(m:Nat)=>xs[((i:Int)+(m:Int) * 1).toNat]?).toArray=((xs.toList.drop i).take k).toArray:=by
 have e:(λ(m:Nat)=>xs[((i:Int)+(m:Int) * 1).toNat]?)=λm=>xs[i+m]?:=by
  funext m;have:((i:Int)+(m:Int) * 1).toNat=i+m:=by lia
  rw[this]
 rw[e];have:=pick_run xs i k
 rw[List.filterMap_map]at this;have h:((λx=>xs[x]?) ∘ λx=>i+x)=λm=>xs[i+m]?:=rfl;rw[h]at this;rw[this]
theorem mO{t l:Addr}{i:Array Value}{v u:Value}{lo hi:Option Int}{Q:VP}(x:IsTup s.heap t i)(e:s.heap.IsSliceOf l v u .none)(p:IsPart v lo)(k:IsPart u hi)
  (hw:¬(eJ i.size 0 lo=0/\eJ i.size i.size hi=i.size))
  (h:Q (.ref s.heap.objs.size) { s with heap:=s.heap.push { cls:=.type "tuple",data:=.seq ((i.toList.drop (eJ i.size 0 lo)).take (eJ i.size i.size hi-eJ i.size 0 lo)).toArray } })
  (z:i.size≤sizeLine):wpAny (model prog w) A (getItem (.ref t) (.ref l)) Q E s:=by
 have a:sizeOk (.seq ((i.toList.drop (eJ i.size 0 lo)).take (eJ i.size i.size hi-eJ i.size 0 lo)).toArray):=by show((i.toList.drop (eJ i.size 0 lo)).take (eJ i.size i.size hi-eJ i.size 0 lo)).toArray.size≤sizeLine;rw[bc,g0,t6,mu];lia
 have j:eJ i.size i.size hi≤i.size:=Km _ _ (ag _) hi;obtain⟨os,o,c,d⟩:=id e;have T:s.TypeIs (.ref l) "slice":=⟨os,o,c⟩;unfold getItem;try with_reducible refine fD ?_
 first|refine ab (al ?_)|skip
 refine ab (AG x.typeIs (by decide) ?_);refine ab (pW (name:=Str.ofString "__getitem__") x.typeIs jy
  (nw jy x.typeIs zi ?_ (zh _ _)))
 show wpAny _ _ (Dd (.ref t) >>= _) _ _ s;refine ab (zd x ?_);refine ab (lz T ?_);rw[ac (by decide)];refine ab (i7 e p k ?_);have n:¬((((eJ i.size 0 lo:Nat):Int) == 0 && (1:Int) == 1 && (eJ i.size i.size hi-eJ i.size 0 lo) == i.size)=true):=by intro q;rw[ar,ar]at q;have f:((eJ i.size 0 lo:Nat):Int)=0:=eq_of_beq q.1.1;have b:eJ i.size i.size hi-eJ i.size 0 lo=i.size:=eq_of_beq q.2;exact hw ⟨by lia,by lia⟩
 show wpAny _ _ (if (((eJ i.size 0 lo:Nat):Int) == 0 && (1:Int) == 1 && (eJ i.size i.size hi-eJ i.size 0 lo) == i.size)=true then _ else _) _ _ s;rw[af n,Eg];first
  |exact ab (m:=yy _) (pS (al ⟨_,rfl,al h⟩) a)
  |exact ab (m:=yy _) (pS (ab (al (al ⟨_,rfl,al h⟩))) a)
  |exact ab (ab (m:=yy _) (pS (al (al ⟨_,rfl,al h⟩)) a))
  |exact ab (ab (m:=yy _) (pS (al ⟨_,rfl,al h⟩) a))
end
end HT
set_option tactic.hygienic false
namespace L2
open PySem PySem.Spec PyProof.Rows
noncomputable abbrev TO:=St->Hp->(Option Int->Hp->Prop)->Prop
def PO(X:Cx)(e:Option Expr)(t:TO):Prop:=
 ∀(pins:PN)(s:Shared)(J:St)(H:Hp)(Q:Option Int->Hp->Prop),Inv X pins J H s->t J H Q ->
  wx X (evalPart e X.e) (λu s'=>∃o H',Inv X pins J H' s'/\IsPart u o/\Q o H') X.xe s
noncomputable def Hj:TO:=λ_ H Q=>Q none H
noncomputable def M8(t:TE):TO:=λJ H Q=>t J H λx G=>∃i,x=.int i/\Q (some i) G
section
variable{X:Cx}{e:Expr}{te:TE}{lo hi:Option Expr}{tl th:TO}{B p2:Pos}
theorem HH:PO X none Hj:=by intro pins s J H Q I h;rw[Am];exact al ⟨none,H,I,.none,h⟩
theorem HF(h:Y X e te):PO X (some e) (M8 te):=by
 intro pins s J H Q I hw;rw[evalPart_some];refine cF (h pins s J H _ I hw) λu k z=>?_
 obtain⟨x,G,a,r,n⟩:=z;obtain⟨i,rfl,q⟩:=n;obtain⟨t,rfl⟩:=r;exact⟨some i,G,a,.int i t,q⟩
def Ju(X:Cx)(r:V->Option Int->Option Int->Hp->VK->Prop):Prop:=
 ∀(pins:PN)(s:Shared)(J:St)(H:Hp)(x:V)(v h u:Value)(lo hi:Option Int)(l:Addr)(Q:VK),Inv X pins J H s->RelV x v->s.heap.IsSliceOf l h u .none->IsPart h lo->IsPart u hi->r x lo hi H Q ->
  ∃T id,typeLookup (.type T) "__getitem__"=pure (some (.builtin id))/\s.TypeIs v T/\wx X (getItem v (.ref l)) (EP X pins J Q) X.xe s
theorem Ju.or(h:Ju X r)(h':Ju X z):Ju X (λx lo hi H Q=>r x lo hi H Q\/z x lo hi H Q):=by
 intro pins s J H x v n k lo hi l Q I e a p u q;rcases q with q|q
 .exact h pins s J H x v n k lo hi l Q I e a p u q
 .exact h' pins s J H x v n k lo hi l Q I e a p u q
noncomputable def R1(r:V->Option Int->Option Int->Hp->VK->Prop)(te:TE)(tl th:TO):TE:=λJ H Q=>te J H λx G=>tl J G λl H2=>th J H2 λu h=>r x l u h Q
theorem Ej(j:Ju X r)(w:Y X e te)(i:PO X lo tl)(o:PO X hi th):Y X (.Subscript e (.Slice lo hi none p2) B) (R1 r te tl th):=by
 intro pins s J H Q I h;refine Subscript_ (cF (w pins s J H _ I h) λv D z=>?_);obtain⟨x,G,c,C,K⟩:=z;refine wpAny_Slice (cF (i pins D J G _ c K) λn E ⟨l,H2,m,S,P⟩=>cF (o pins E J H2 _ m P) λk a z=>?_);obtain⟨u,f,t,F,A⟩:=z;rw[Am];refine al ?_;have p:Inv X pins J f { a with heap:=a.heap.push { cls:=.type "slice",data:=.fields #[n,k,.none] } }:=t.kept (t':=a.toks) λb L q=>aO _ q
 obtain⟨T,id,d,y,g⟩:=j pins { a with heap:=a.heap.push { cls:=.type "slice",data:=.fields #[n,k,.none] } } J f x v n k l u a.heap.objs.size Q p C (Heap.IsSliceOf.new ..) S F A;show wx X (subscriptTail e (.Slice lo hi none p2) v (.ref a.heap.objs.size)) (EP X pins J Q) X.xe { a with heap:=a.heap.push { cls:=.type "slice",data:=.fields #[n,k,.none] } };exact o7 (ops:=[.ref a.heap.objs.size,v]) y d g (by with_unfolding_all rfl)
def wH(xs:List V)(lo hi:Option Int):List V:=(xs.drop (HT.eJ xs.length 0 lo)).take (HT.eJ xs.length xs.length hi-HT.eJ xs.length 0 lo)
theorem oB(xs:List V)(lo hi:Option Int):(wH xs lo hi).length≤xs.length:=by unfold wH;rw[g0,t6];lia
def Qn(K:FG):V->Option Int->Option Int->Hp->VK->Prop:=λx lo hi H Q=>∃a xs,x=.ref a/\nr K H a xs /\
 ¬(HT.eJ xs.length 0 lo=0/\HT.eJ xs.length xs.length hi=xs.length)/\∀p,H p=none->Q (.ref p) (bO H p (.tup (wH xs lo hi)))
theorem Ki:Ju X (Qn X.K):=by
 intro pins s J H x v m d lo hi c Q I k e p u h;obtain⟨a,xs,rfl,n,hw,q⟩:=h;cases k;obtain⟨i,r,t,z⟩:=I.tuple n;have l:i.toArray.size=xs.length:=by rw[bc];exact r.length.symm
 refine⟨"tuple",_,jy.lookup,t.typeIs,?_⟩;refine HT.mO t e p u (by rw[l];exact hw) ?_ (by rw[l];exact z);rw[l];refine⟨.ref s.heap.objs.size,_,I.laid (t':=s.toks) (o:=.tup (wH xs lo hi)) (λb f q=>aO _ q) (ag _) ?_,rfl,q _ (I.h.fresh (ag _))⟩;exact⟨au (oB xs lo hi) z,_,(r.drop (HT.eJ xs.length 0 lo)).take (HT.eJ xs.length xs.length hi-HT.eJ xs.length 0 lo),nX.new _ _⟩
def Nq(K:FG):R2:=λx y H Q=>∃a b xs ys,x=.ref a/\y=.ref b/\nr K H a xs/\nr K H b ys/\xs≠[]/\xs.length+ys.length≤sizeLine /\
 (ys=[]->Q (.ref a) H)/\(ys≠[]->∀p,H p=none->Q (.ref p) (bO H p (.tup (xs++ys))))
theorem ba.nil_iff(r:ba xs j):j=[]↔xs=[]:=by
 cases r with
 |nil=>simp
 |cons _ _=>simp
theorem HS:i4 X (binaryOp .Add) (Nq X.K):=by intro pins s J H x y v u Q I g j h;obtain⟨a,b,xs,ys,rfl,rfl,k,f,c,n,m,d⟩:=h;cases g;cases j;obtain⟨t,e,p,_⟩:=I.tuple k;obtain⟨i,r,p2,_⟩:=I.tuple f;refine HT.IJ p p2 (λz=>c (e.nil_iff.mp z)) (λz=>⟨.ref a,H,I,rfl,m (r.nil_iff.mp z)⟩) (λz=>?_) (by rw[<- e.length,<- r.length];exact n);refine⟨.ref s.heap.objs.size,_,I.laid (t':=s.toks) (o:=.tup (xs++ys)) (λb l q=>aO _ q) (ag _) ?_,rfl,d (λw=>z (r.nil_iff.mpr w)) _ (I.h.fresh (ag _))⟩;exact⟨by rw[aX];exact n,_,e.append r,nX.new _ _⟩
end
noncomputable def CY(n:Nat)(i:Int):Option Nat:=if 0≤i then (if i < n then some i.toNat else none) else if -(n:Int)≤i then some (i+n).toNat else none
variable{α:Type}
def atI(xs:List α)(i:Int):Option α:=(CY xs.length i).bind λj=>xs[j]?
variable{n:Nat}
theorem Bp{i:Int}(h:CY n i=some q):seqIndex? i n=some q/\q < n/\-(n:Int)≤i/\i < n:=by
 unfold CY at h;by_cases x:0≤i
 .rw [ac x]at h;by_cases h1:i < n
  .rw [ac h1]at h;have e:i.toNat=q:=cc h;exact⟨by rw[um x h1,e],by lia,by lia,h1⟩
  .rw [af h1]at h;cases h
 .rw [af x]at h;by_cases h1:-(n:Int)≤i
  .rw [ac h1]at h;have e:(i+n).toNat=q:=cc h;exact⟨by rw[w1 (by lia) h1,e],by lia,h1,by lia⟩
  .rw [af h1]at h;cases h
theorem vm{i:Int}(h:atI xs i=some v):∃j,seqIndex? i xs.length=some j/\xs[j]? = some v/\j < xs.length/\-(xs.length:Int)≤i/\i < xs.length:=by
 unfold atI at h;cases e:CY xs.length i with
 |none=>rw[e]at h;cases h
 |some j=>rw[e]at h;obtain⟨h1,h2,x,a⟩:=Bp e;exact⟨j,h1,h,h2,x,a⟩
def nl(b:Expr):Prop:=∀o i,subscripted b false o i=operate [o,i] (getItem o i)
def Gc(X:Cx)(r:R2):Prop:=
 ∀(value l:Expr)(pins:PN)(s:Shared)(J:St)(H:Hp)(x y:V)(v u:Value)(Q:VK),Inv X pins J H s->RelV x v->RelV y u->r x y H Q ->
  subscripted l false v u=operate [v,u] (getItem v u)->wx X (subscriptTail value l v u) (EP X pins J Q) X.xe s
def RH(X:Cx)(id:String)(r:V->List V->Hp->VK->Prop):Prop:=
 ∀(pins:PN)(s:Shared)(J:St)(H:Hp)(x:V)(xs:List V)(v:Value)(j:LV)(Q:VK),Inv X pins J H s->RelV x v->ba xs j->r x xs H Q ->
  wx X (call (.builtin id) (v::j)) (EP X pins J Q) X.xe s
section
variable{X:Cx}{a b:Expr}{ta tb:TE}{B:Pos}
theorem Gc.or(h:Gc X r)(h':Gc X z):Gc X (λx y H Q=>r x y H Q\/z x y H Q):=by
 intro value l pins s J H x y v u Q I e n q a;rcases q with q|q
 .exact h value l pins s J H x y v u Q I e n q a
 .exact h' value l pins s J H x y v u Q I e n q a
theorem Em(f:Gc X r)(n:Y X a ta)(k:Y X b tb)(c:nl b):Y X (.Subscript a b B) (Kb r ta tb):=by intro pins s J H Q I h;exact Subscript_ (L5 n k I h λv u p x y H2 e m t q=>f a b pins p J H2 x y v u Q e m t q (c _ _))
def Qt(K:FG):R2:=λx y H Q=>∃p xs i v,x=.ref p/\y=.int i/\iy K H p xs/\atI xs i=some v/\Q v H
def Qr(K:FG):R2:=λx y H Q=>∃p xs i v,x=.ref p/\y=.int i/\nr K H p xs/\atI xs i=some v/\Q v H
def Qs:R2:=λx y H Q=>∃z i c,x=.str z/\y=.int i/\z.length≤sizeLine/\atI z.cps.toList i=some c/\Q (.str ⟨#[c]⟩) H
theorem uS:Gc X (Qt X.K):=by
 intro value c pins s J H x y v u Q I K P h m;obtain⟨p,xs,i,z,rfl,rfl,F,o,q⟩:=h;cases K;obtain⟨t,rfl⟩:=P;obtain⟨e,r,l,C⟩:=I.list F;obtain⟨j,h1,h2,A,d,g⟩:=vm o;obtain⟨w,k,n⟩:=r.get h2;have S:=r.length;have B:=ko;have f:EP X pins J Q w s:=⟨z,H,I,n,q⟩;by_cases b:0≤i
 .have a:i.toNat=j:=by
   rw[um b g]at h1;exact cc h1
  exact item_listR l.isList b (by lia) (by rw[a];simpa using k) f m
 .have a:(i+(e.toArray.size:Int)).toNat=j:=by
   rw[w1 (by lia) d]at h1;rw[bc,<- S];exact cc h1
  exact zm (x:=w) l.isList.typeIs AF.lookup
   (wpAny_getItem_list_neg (Q:=λr s'=>r=w/\EP X pins J Q r s') l.isList (by lia) (by rw[bc]<;>lia) (by lia) (by rw[a];simpa using k) ⟨rfl,f⟩) m
theorem E8:Gc X (Qr X.K):=by
 intro value l pins s J H x y v u Q I g o h m;obtain⟨p,xs,i,z,rfl,rfl,c,k,q⟩:=h;cases g;obtain⟨t,rfl⟩:=o;obtain⟨d,r,e,A⟩:=I.tuple c;obtain⟨j,h1,h2,S,F,K⟩:=vm k;obtain⟨w,n,a⟩:=r.get h2;have b:=r.length;have P:=ko;have f:EP X pins J Q w s:=⟨z,H,I,a,q⟩;exact zm (x:=w) e.typeIs jy.lookup
  (getItem_tuple (j:=j) (Q:=λr s'=>r=w/\EP X pins J Q r s') e (by lia) (by lia) (by rw[bc,<- b];exact h1) (by simpa using n) ⟨rfl,f⟩) m
theorem Lq:Gc X Qs:=by
 intro value l pins s J H x y v u Q I r p h m;obtain⟨z,i,c,rfl,rfl,g,f,q⟩:=h;obtain⟨t,rfl⟩:=r;obtain⟨o,rfl⟩:=p;obtain⟨j,h1,h2,d,n,k⟩:=vm f;have b:z.cps.toList.length=z.length:=by simp[lT]
 rw[b]at h1 n k;have w:=ko;exact o7 (typeIs_str s z t) slot_str_getitem.lookup (getItem_str (c:=c) (by have e:decide (i < -(2 ^ 63:Int))=false:=bo (by lia);have a:decide (i ≥ 2 ^ 63)=false:=bo (by lia);rw[e,a,Bool.or_false]) (by rw[h1];simpa using h2) ⟨.str ⟨#[c]⟩,H,I.tok _,⟨_,rfl⟩,q⟩) m
theorem xV(i:LV)(n j:Nat)(u:Value):jw (·.setIfInBounds j u) { cls:=.type "list",data:=.seq i.toArray n }={ cls:=.type "list",data:=.seq (i.set j u).toArray n }:=by simp[jw]
theorem Inv.lst(I:Inv X pins J H s)(h:H p=some (.lst xs)) :
  ∃(i:LV)(n:Nat),ba xs i/\s.heap.get? p=some { cls:=.type "list",data:=.seq i.toArray n }/\xs.length≤sizeLine:=by
 obtain⟨z,i,n,r,e⟩:=I.h p _ h;exact⟨i,n,r,e,z⟩
theorem Inv.lstUpd{i:LV}(I:Inv X pins J H s)(h:H p=some (.lst xs))
  (o:s.heap.get? p=some { cls:=.type "list",data:=.seq i.toArray n }) (a:f { cls:=.type "list",data:=.seq i.toArray n }={ cls:=.type "list",data:=.seq z.toArray N }) (r:ba ys z) (c:ys.length≤sizeLine) (t:Nat) :
  Inv X pins J (bO H p (.lst ys)) { s with heap:=s.heap.update p f,toks:=t }:=by
 have e:(s.heap.update p f).get? p=some { cls:=.type "list",data:=.seq z.toArray N }:=by rw[tS f o (by rw[a]<;>rfl),a]
 refine I.write (x:=p) (e:=p) (by rw[h];trivial) (.inl rfl) (λb u k q=>(zF _ _ (aI k)).trans q) ⟨_,e⟩ ?_;exact⟨c,z,N,r,e⟩
def Np:V->V->V->Hp->(Hp->Prop)->Prop:=λo i v H Q=>∃p xs k j,o=.ref p/\i=.int k/\H p=some (.lst xs)/\CY xs.length k=some j/\Q (bO H p (.lst (xs.set j v)))
theorem DX:OH X Np:=by
 intro pins s J H o i v F iv u Q I g w y h;obtain⟨p,xs,k,j,rfl,rfl,m,d,q⟩:=h;cases g;obtain⟨t,rfl⟩:=w;obtain⟨x,n,r,a,z⟩:=I.lst m;obtain⟨h1,h2,b,c⟩:=Bp d;have l:=r.length;have S:=ko;have e:Inv X pins J (bO H p (.lst (xs.set j v))) { s with heap:=s.heap.update p (jw (·.setIfInBounds j u)) }:=
  I.lstUpd m a (xV x n j u) (r.set y j) (by rw[c_];exact z) s.toks
 by_cases f:0≤k
 .have hk:k.toNat=j:=by
   rw[um f c]at h1;exact cc h1
  exact PySem.W.ki_setAt a f (by lia) (by rw[bc,<- l];exact c) (by rw[hk];exact⟨_,e,q⟩)
 .have hk:(k+(x.toArray.size:Int)).toNat=j:=by
   rw[w1 (by lia) b]at h1;rw[bc,<- l];exact cc h1
  exact PySem.W.ki_setBack a (by lia) (by rw[bc,<- l];exact b) (by lia) (by rw[hk];exact⟨_,e,q⟩)
theorem uE(lo hi:Option Int)(n:Nat):(sliceBounds lo hi none n).1=((HT.eJ n 0 lo:Nat):Int)/\(sliceBounds lo hi none n).2.1=((HT.eJ n n hi:Nat):Int)/\(sliceBounds lo hi none n).2.2=1:=by
 refine⟨?_,?_,rfl⟩
 .cases lo with
  |none=>simp[sliceBounds,HT.eJ]
  |some i=>
   simp only[sliceBounds,HT.eJ,y',show(1:Int) > 0 by decide,jC];by_cases h:i < 0
   .simp only[h,jC]<;>lia
   .simp only[h,jD]<;>lia
 .cases hi with
  |none=>simp[sliceBounds,HT.eJ]
  |some i=>
   simp only[sliceBounds,HT.eJ,y',show(1:Int) > 0 by decide,jC];by_cases h:i < 0
   .simp only[h,jC]<;>lia
   .simp only[h,jD]<;>lia
theorem rj(i:LV)(lo hi:Option Int):slicePick i.toArray lo hi none=((i.drop (HT.eJ i.length 0 lo)).take (HT.eJ i.length i.length hi-HT.eJ i.length 0 lo)).toArray:=by obtain⟨h1,h2,h⟩:=uE lo hi i.toArray.size;unfold slicePick;rw[h1,h2,h];simp only[sliceRange_one,pick_run,bc]<;>rfl
def Qo(K:FG):V->Option Int->Option Int->Hp->VK->Prop:=λx lo hi H Q=>∃a xs,x=.ref a/\iy K H a xs/\∀p,H p=none->Q (.ref p) (bO H p (.lst (wH xs lo hi)))
theorem Hn:Ju X (Qo X.K):=by intro pins s J H x v m d lo hi c Q I k e p u h;obtain⟨a,xs,rfl,n,q⟩:=h;cases k;obtain⟨i,r,t,z⟩:=I.list n;have l:=r.length;refine⟨"list",_,AF.lookup,t.isList.typeIs,?_⟩;refine wpAny_getItem_list_slice t.isList e p u .none (by simp) ?_ (by rw[bc]<;>lia);rw[rj,<- l];refine⟨.ref s.heap.objs.size,_,I.laid (t':=s.toks) (o:=.lst (wH xs lo hi)) (λb f q=>aO _ q) (ag _) ?_,rfl,q _ (I.h.fresh (ag _))⟩;exact⟨au (oB xs lo hi) z,_,0,(r.drop (HT.eJ xs.length 0 lo)).take (HT.eJ xs.length xs.length hi-HT.eJ xs.length 0 lo),br _ rfl⟩
theorem vk:eE X (.builtin "len") (λxs H Q=>∃p ys,xs=[.ref p]/\(iy X.K H p ys\/nr X.K H p ys)/\Q (.int ys.length) H):=by
 intro pins s J H xs j Q I r h;obtain⟨p,ys,rfl,x,q⟩:=h;obtain⟨u,rfl,n⟩:=vals1 r;cases n;have k:=ko;rcases x with x|x
 .obtain⟨i,e,a,z⟩:=I.list x;have l:=e.length;exact Calls.call_len_list a.isList (by simp only[bc]<;>lia) ⟨.int ys.length,H,I.tok _,⟨s.toks+1,by rw[bc,l]⟩,q⟩
 .obtain⟨i,e,a,z⟩:=I.tuple x;have l:=e.length;exact len_tuple a (by simp only[bc]<;>lia) ⟨.int ys.length,H,I.tok _,⟨s.toks+1,by rw[bc,l]⟩,q⟩
theorem vj:eE X (.builtin "len") (λxs H Q=>∃z,xs=[.str z]/\z.length≤sizeLine/\Q (.int z.length) H):=by intro pins s J H xs j Q I r h;obtain⟨z,rfl,x,q⟩:=h;obtain⟨u,rfl,t,rfl⟩:=vals1 r;have n:=ko;exact len_str (by lia) ⟨.int z.length,H,I.tok _,⟨_,rfl⟩,q⟩
theorem eE.or(h:eE X f r)(h':eE X f z):eE X f (λxs H Q=>r xs H Q\/z xs H Q):=by
 intro pins s J H xs j Q I x q;rcases q with q|q
 .exact h pins s J H xs j Q I x q
 .exact h' pins s J H xs j Q I x q
theorem m5:eE X (.type "list") (λxs H Q=>∃p ys,xs=[.ref p]/\(iy X.K H p ys\/nr X.K H p ys)/\∀l,H l=none->Q (.ref l) (bO H l (.lst ys))):=by
 intro pins s J H xs j Q I r h;obtain⟨p,ys,rfl,k,q⟩:=h;obtain⟨u,rfl,w⟩:=vals1 r;cases w;have f:∀(i:LV),ba ys i->ys.length≤sizeLine->∀(h':Heap)(c:Nat),(∀b o',s.heap.get? b=some o'->h'.get? b=some o') ->
   h'.get? s.heap.objs.size=some { cls:=.type "list",dict:=none,data:=.seq i.toArray c,slots:=#[] }->EP X pins J Q (.ref s.heap.objs.size) { s with heap:=h' }:=λi x z h' c m e=>
  ⟨.ref s.heap.objs.size,_,I.laid (t':=s.toks) m (ag _) (show cU X.p X.w _ h' _ (.lst ys) from ⟨z,i,c,x,e⟩),rfl,q _ (I.h.fresh (ag _))⟩
 rcases k with k|k
 .obtain⟨i,x,d,z⟩:=I.list k;have a:=x.length;obtain⟨o,v,t,n,hd⟩:=d.isList;exact Al p (.inl rfl) v t hd (λh' c m e=>f i x z h' c m e) (by simp only[bc]<;>lia)
 .obtain⟨i,x,d,z⟩:=I.tuple k;have a:=x.length;obtain⟨o,v,t,n,hd⟩:=d;exact Al p (.inr rfl) v t hd (λh' c m e=>f i x z h' c m e) (by simp only[bc]<;>lia)
theorem lr:eE X (.type "tuple") (λxs H Q=>∃p ys,xs=[.ref p]/\((iy X.K H p ys/\∀l,H l=none->Q (.ref l) (bO H l (.tup ys)))\/(nr X.K H p ys/\Q (.ref p) H))):=by
 intro pins s J H xs j Q I r h;obtain⟨p,ys,rfl,h⟩:=h;obtain⟨u,rfl,t⟩:=vals1 r;cases t;rcases h with ⟨x,q⟩|⟨x,q⟩
 .obtain⟨i,n,a,z⟩:=I.list x;have f:=n.length;refine call_tuple_list a.isList (λh' m=>?_) (by simp only[bc]<;>lia);have k:Inv X pins J H { s with heap:=h' }:=I.kept (t':=s.toks) m;have c:Inv X pins J (bO H h'.objs.size (.tup ys)) { s with heap:=h'.push { cls:=.type "tuple",data:=.seq i.toArray } }:=
   k.laid (t':=s.toks) (λb o e=>aO _ e) (ag _) (show cU X.p X.w _ _ _ (.tup ys) from ⟨z,i,n,nX.new _ _⟩)
  exact⟨.ref h'.objs.size,_,c,rfl,q _ (k.h.fresh (ag _))⟩
 .obtain⟨i,n,a,z⟩:=I.tuple x;exact call_tuple_same a ⟨.ref p,H,I,rfl,q⟩
def tyV(K:FG)(T:String)(x:V)(H:Hp):Prop:=match x with
 | .str _=>T="str"
 | .int _=>T="int"
 | .ref p=>(T="list"/\∃xs,iy K H p xs)\/(T="tuple"/\∃o,K.lookup p=some o/\o.cls=.type "tuple"/\o.dict=none) \/
   (T="dict"/\((∃kvs,H p=some (.dK kvs))\/∃kvs,H p=some (.dT kvs)))\/(T="set"/\∃S n,H p=some (.set S n))
 |_=>False
theorem DJ(I:Inv X pins J H s)(r:RelV x v)(ty:tyV X.K T x H) :
  s.TypeIs v T/\∀a,v=.ref a->∃b,s.heap.get? a=some b/\b.dict=none:=by
 cases x with
 |str z=>obtain⟨t,rfl⟩:=r;cases (show T="str" from ty);exact⟨typeIs_str s z t,λ_ e=>nomatch e⟩
 |int i=>obtain⟨t,rfl⟩:=r;cases (show T="int" from ty);exact⟨pN s i t,λ_ e=>nomatch e⟩
 |ref p=>
  cases r;rcases ty with ⟨rfl,xs,q⟩|⟨rfl,o,hk,k,hd⟩|⟨rfl,hk⟩|⟨rfl,S,n,hk⟩
  .obtain⟨f,_,l,_⟩:=I.list q;refine⟨l.isList.typeIs,λa e=>?_⟩;cases e;obtain⟨o,n,e,c,hd,_⟩:=l;exact⟨o,e,hd⟩
  .refine⟨⟨o,I.kIn p o hk,k⟩,λa e=>?_⟩;cases e;exact⟨o,I.kIn _ o hk,hd⟩
  .have z:∃o,s.heap.get? p=some o/\o.ExactDict:=by
    rcases hk with ⟨kvs,hk⟩|⟨kvs,hk⟩
    .obtain⟨_,_,_,_,o,_,_,e,ex,_⟩:=I.h p _ hk;exact⟨o,e,ex⟩
    .obtain⟨_,_,_,_,o,_,_,e,ex,_⟩:=I.h p _ hk;exact⟨o,e,ex⟩
   obtain⟨o,e,ex⟩:=z;refine⟨⟨o,e,ex.1⟩,λa h=>?_⟩;cases h;exact⟨o,e,ex.2.1⟩
  .obtain⟨o,_,_,_,e,ex,_⟩:=I.h p _ hk;refine⟨⟨o,e,ex.1⟩,λa h=>?_⟩;cases h;exact⟨o,e,ex.2.1⟩
 |_=>exact False.elim ty
noncomputable def Qg(K:FG)(T:String)(r:V->List V->Hp->VK->Prop)(to:TE):TE:=λJ H Q=>to J H λx G=>tyV K T x G/\r x [] G Q
noncomputable def R5(K:FG)(T:String)(r:V->List V->Hp->VK->Prop)(to:TE)(t:TA):TE:=λJ H Q=>to J H λx G=>tyV K T x G/\t J G λxs H2=>r x xs H2 Q
variable{o e:Expr}{es:Ab}{to:TE}{t:TA}{name:Str}{apos cpos:Pos}{T id:String}{r:V->List V->Hp->VK->Prop}
theorem KS(p:PlainAttrs T)(slot:Slot T name id)(t:typeOf (.builtin id)=pure (.type "method_descriptor"))(m:RH X id r)(n:Y X o to)
  (b:attributeBase o name X.e (eval o X.e)=eval o X.e:=by rfl) (l:(apos.endLine == cpos.line)=true:=by rfl):Y X (.Call (.Attribute o name apos) [] [] cpos) (Qg X.K T r to):=by
 intro pins s J H Q I h;refine wpAny_Call_method0_late b l (cF (n pins s J H _ I h) λv k z=>?_);obtain⟨x,G,a,e,ty,q⟩:=z;obtain⟨h1,h2⟩:=DJ a e ty;exact⟨T,id,p,slot,t,h1,h2,kK rfl (PySem.evalArgs_none (m pins k J G x [] v [] Q a e .nil q))⟩
theorem Je(w:PlainAttrs T)(slot:Slot T name id)(y:typeOf (.builtin id)=pure (.type "method_descriptor"))(m:RH X id r)(q:Y X o to)(c:PA X (e::es) t)
  (b:attributeBase o name X.e (eval o X.e)=eval o X.e:=by rfl)
  (f:((backTo cpos (starEach (e::es) X.e)).all (fun x=>!x.1) && (backToKw cpos (keywordEach [] X.e)).all (fun x=>x.1.isSome)
   && decide ((e::es).length+([]:List Keyword).length+(if ([]:List Keyword).isEmpty then 0 else 1) < 30))=true:=by rfl)
  (l:(apos.endLine == cpos.line)=true:=by rfl) (d:starEach (e::es) X.e=(false,eval e X.e)::starEach es X.e:=by rfl) (p:(backTo cpos (starEach es X.e)).any (·.1)=false:=by rfl) :
  Y X (.Call (.Attribute o name apos) (e::es) [] cpos) (R5 X.K T r to t):=by
 intro pins s J H Q I h;refine C9 b f l rfl (cF (q pins s J H _ I h) λv S z=>?_);obtain⟨x,G,a,n,ty,u⟩:=z;obtain⟨h1,h2⟩:=DJ a n ty;refine⟨T,id,w,slot,y,h1,h2,?_⟩;have A:=c cpos pins S J G _ a u;rw[d]at A ⊢;refine kK (by show(false ||(backTo cpos (starEach es X.e)).any (·.1))=false;rw[p]<;>rfl) (lU ?_);exact cF A λj F z=>by obtain⟨K,H2,k,i,g⟩:=z;exact m pins F J H2 x K v j Q k n i g
end
def Rb(X:Cx)(id:String)(r:V->List V->Hp->VK->Prop):Prop:=
 ∀(pins:PN)(s:Shared)(J:St)(H:Hp)(x:V)(xs:List V)(v:Value)(j:LV)(Q:VK),Inv X pins J H s->RelV x v->ba xs j->r x xs H Q ->
  wx X (call (.builtin id) (v::j)) (EP X pins J Q) X.xe s
theorem ba.one:∀{x:V}{j:LV},ba [x] j->∃u,j=[u]/\RelV x u
 |_,_,.cons r .nil=>⟨_,rfl,r⟩
theorem ba.zero:∀{j:LV},ba [] j->j=[]
 |_,.nil=>rfl
theorem ba.rep(h:ba xs j):∀k:Nat,ba (List.replicate k xs).flatten (List.replicate k j).flatten
 |0=>.nil
 |k+1=>by rw[cD,cD,gn,gn];exact ba.append h (ba.rep h k)
theorem foldl_rep(i:LV):∀(k:Nat)(a:LV),
  pc (λx s=>x++s) a.toArray (List.replicate k i.toArray)=(a++(List.replicate k i).flatten).toArray
 |0,a=>by simp
 |k+1,a=>by
  have e:a.toArray++i.toArray=(a++i).toArray:=by simp
  have h:(a++i)++(List.replicate k i).flatten=a++(List.replicate (k+1) i).flatten:=by rw[cD,gn,eS]
  rw[<- h,<- foldl_rep i k (a++i),<- e,cD,fH]
section
variable{X:Cx}{pins:PN}{J:St}{H:Hp}{s:Shared}{l b:Addr}{xs ys zs:List V}
theorem Inv.lset{i:LV}{t:Nat}(I:Inv X pins J H s)(h:H l=some (.lst xs))
  (e:s.heap.get? l=some { cls:=.type "list",data:=.seq i.toArray n }) (a:f i.toArray=z.toArray) (v:ba ys z) (c:ys.length≤sizeLine) :
  Inv X pins J (bO H l (.lst ys)) { s with heap:=s.heap.update l (jw f),toks:=t }:=by
 have q:=PySem.IsL.update e f;rw[a]at q;refine I.write (x:=l) (e:=l) (by rw[h];exact trivial) (.inl rfl) (λm u b k=>(zF s.heap (jw f) (aI b)).trans k) ⟨_,q⟩ ?_;exact⟨c,z,_,v,q⟩
theorem Inv.lnew{t:Nat}(I:Inv X pins J H s)(h:ba ys z)(x:ys.length≤sizeLine) :
  Inv X pins J (bO H s.heap.objs.size (.lst ys)) { s with heap:=s.heap.push { cls:=.type "list",data:=.seq z.toArray },toks:=t }:=
 I.laid (λ_ _ q=>aO _ q) (ag _) ⟨x,z,0,h,br _ rfl⟩
theorem Inv.fresh(I:Inv X pins J H s):H s.heap.objs.size=none:=I.h.fresh (ag _)
theorem Inv.lstM(I:Inv X pins J H s)(h:H l=some (.lst xs)):xs.length≤sizeLine/\∃(i:LV)(n:Nat),ba xs i/\xs.length=i.length/\s.heap.get? l=some { cls:=.type "list",data:=.seq i.toArray n }:=by obtain⟨z,i,n,r,e⟩:=I.h l _ h;exact⟨z,i,n,r,r.length,e⟩
theorem vY(h:n≤sizeLine):oW n=false:=by unfold oW;exact bo (by lia)
end
section
variable{X:Cx}
def Hx:V->List V->Hp->VK->Prop:=λx v H Q=>∃l xs y,x=.ref l/\v=[y]/\H l=some (.lst xs)/\xs.length < sizeLine/\Q .non (bO H l (.lst (xs++[y])))
theorem sr:Rb X "list.append" Hx:=by intro pins s J H x t v j Q I b f h;obtain⟨l,xs,y,rfl,rfl,a,m,q⟩:=h;cases b;obtain⟨u,rfl,k⟩:=f.one;obtain⟨z,i,n,r,c,e⟩:=I.lstM a;refine gG yW ⟨_,e,rfl⟩ F.entry_list_append (F.args_list_append_2 _ _) (PySem.list_append l i.toArray n u (by rw[bc];lia)) ⟨e,?_⟩;refine⟨.non,_,I.lset (z:=i++[u]) a e (by simp) (r.append (.cons k .nil)) ?_,rfl,q⟩;rw[aX,pB];lia
def Hw:V->List V->Hp->VK->Prop:=λx v H Q=>∃l b xs zs,x=.ref l/\v=[.ref b]/\H l=some (.lst xs)/\H b=some (.lst zs)/\xs.length+zs.length≤sizeLine/\Q .non (bO H l (.lst (xs++zs)))
theorem Cm:Rb X "list.extend" Hw:=by
 intro pins s J H x K v j Q I g w h;obtain⟨l,b,xs,zs,rfl,rfl,k,B,S,q⟩:=h;cases g;obtain⟨u,rfl,d⟩:=w.one;cases d;obtain⟨z,t,n,r,y,e⟩:=I.lstM k;obtain⟨P,i,m,p,c,f⟩:=I.lstM B;have a:t.toArray.size+i.toArray.size≤sizeLine:=by rw[bc,bc];lia
 have o:¬(!t.toArray.isEmpty && oW (t.toArray.size+i.toArray.size))=true:=by rw[vY a,Bool.and_false];exact bx
 refine gG yX ⟨_,e,rfl⟩ F.entry_list_extend (F.args_list_extend_2 _ _)
  (AutoSeq1.list_extend_list_list_0 l t.toArray n b i.toArray m o (by rw[bc];lia) (by lia)) ⟨e,f,?_⟩
 refine⟨.non,_,I.lset (z:=t++i) k e (by simp) (r.append p) ?_,rfl,q⟩;rw[aX];lia
def Kq:V->List V->Hp->VK->Prop:=λx v H Q=>∃l xs,x=.ref l/\v=[]/\H l=some (.lst xs)/\Q .non (bO H l (.lst []))
theorem EJ:Rb X "list.clear" Kq:=by intro pins s J H x c v j Q I f k h;obtain⟨l,xs,rfl,rfl,a,q⟩:=h;cases f;have u:=k.zero;subst u;obtain⟨z,i,n,r,b,e⟩:=I.lstM a;refine gG yV ⟨_,e,rfl⟩ F.entry_list_clear (F.args_list_clear_1 _) (AutoSeq1.list_clear_list_0 l i.toArray n (by rw[bc];lia)) ⟨e,?_⟩;exact⟨.non,_,I.lset (z:=[]) (ys:=[]) a e rfl .nil (bX _),rfl,q⟩
def Qu:R2:=λx y H Q=>∃l b xs zs,x=.ref l/\y=.ref b/\H l=some (.lst xs)/\H b=some (.lst zs)/\xs.length+zs.length≤sizeLine/\∀p,H p=none->Q (.ref p) (bO H p (.lst (xs++zs)))
theorem K2:i4 X (binaryOp .Add) Qu:=by
 intro pins s J H x y v u Q I p d h;obtain⟨l,b,xs,zs,rfl,rfl,f,B,g,q⟩:=h;cases p;cases d;obtain⟨z,t,n,r,w,e⟩:=I.lstM f;obtain⟨o,i,j,m,c,a⟩:=I.lstM B;refine PySem.P.add_list e a ?_ (by rw[bc,bc];lia);have k:t.toArray++i.toArray=(t++i).toArray:=by simp
 rw[k];exact⟨.ref _,_,I.lnew (t:=s.toks) (r.append m) (by rw[aX];lia),rfl,q _ I.fresh⟩
def Qp:R2:=λx y H Q=>∃l k xs,x=.ref l/\y=.int k/\H l=some (.lst xs)/\-(2 ^ 63)≤k/\k < 2 ^ 63/\xs.length * k.toNat≤sizeLine /\
 ∀p,H p=none->Q (.ref p) (bO H p (.lst (List.replicate k.toNat xs).flatten))
theorem Ic(xs:List α)(k:Nat):(List.replicate k xs).flatten.length=k * xs.length:=by
 induction k with
 |zero=>simp
 |succ k i=>rw[cD,gn,aX,i,lV,zq]
theorem KY:i4 X (binaryOp .Mult) Qp:=by
 intro pins s J H x y v u Q I P A h;obtain⟨l,k,xs,rfl,rfl,S,h1,h2,g,q⟩:=h;cases P;obtain⟨t,rfl⟩:=A;obtain⟨z,i,n,r,K,e⟩:=I.lstM S;have b:i.toArray.size * k.toNat≤sizeLine:=by rw[bc,<- K];exact g
 have c:¬i.toArray.size * k.toNat > (2 ^ 63-1) / 8:=by
  have:(sizeLine:Nat)≤(2 ^ 63-1) / 8:=by decide
  lia
 have f:¬(!Builtin.List.listFitsIndex k)=true:=by rw[fitsIndex_both h1 h2];exact bx
 have o:¬oW (i.toArray.size * k.toNat)=true:=by rw[vY b];exact bx
 have w:pc (λp d=>p++d) #[] (List.replicate (if i.toArray.isEmpty=true then 0 else k.toNat) i.toArray)=(List.replicate k.toNat i).flatten.toArray:=by
  have j:∀m:Nat,pc (λp d=>p++d) #[] (List.replicate m i.toArray)=(List.replicate m i).flatten.toArray:=λm=>by have:=foldl_rep i m [];rw[eR]at this;exact this
  rw[j];cases i with
  |nil=>simp
  |cons a B=>rw[af (by simp)]
 refine Db (T:="list") (U:="int") (by decide) ⟨_,e,rfl⟩ (λs'=>pN s' k t) noFill_list_mul yQ oZ repeat_list yS.lookup
  (gG oZ (pN s k t) yR (yU _ _) (int___rmul___int_list k t l i.toArray n)
   ⟨e,rfl,⟨_,e,rfl⟩,gG F.slot_list_mul ⟨_,e,rfl⟩ F.entry_list_mul (F.args_list_mul_2 _ _) (AutoListH.list___mul___list_int_3 l i.toArray n k t f c o) ⟨e,?_⟩⟩)
 rw[w];exact⟨.ref _,_,I.lnew (t:=s.toks) (r.rep k.toNat) (by rw[Ic,kM];exact g),rfl,q _ I.fresh⟩
end
section
variable{κ:Type}[DecidableEq κ]
noncomputable def gB(kvs:List (κ×V))(k:κ):Option V:=(kvs.find? λv=>decide (v.1=k)).map (·.2)
noncomputable def putK(kvs:List (κ×V))(k:κ)(v:V):List (κ×V):=
 if (kvs.any λh=>decide (h.1=k))=true then kvs.map (λh=>if h.1=k then (h.1,v) else h) else kvs++[(k,v)]
theorem ib{p:κ×V}{r:List (κ×V)}{k:κ}(e:p.1=k):gB (p::r) k=some p.2:=by simp[gB,iC,e]
theorem gA{p:κ×V}{r:List (κ×V)}{k:κ}(e:¬p.1=k):gB (p::r) k=gB r k:=by simp[gB,iC,e]
theorem vI(k:κ):∀kvs:List (κ×V),(kvs.any λv=>decide (v.1=k))=(gB kvs k).isSome
 | []=>rfl
 |p::r=>by
  rw[du];by_cases e:p.1=k
  .simp only[ib e,gX e,Bool.true_or,Option.isSome_some]
  .rw [gA e,bo e,kT];exact vI k r
theorem kq(kvs:List (κ×V))(k:κ)(v:V):(putK kvs k v).length≤kvs.length+1:=by
 unfold putK;split
 .rw [aQ];lia
 .rw [aX,aV,pf];lia
theorem kf.isSome_eq(r:kf o u):o.isSome=u.isSome:=by
 cases o with
 |none=>cases u with
  |none=>rfl
  |some _=>exact(show False from r).elim
 |some _=>cases u with
  |none=>exact(show False from r).elim
  |some _=>rfl
theorem kf.getD(r:kf o u)(h:RelV d q):RelV (o.getD d) (u.getD q):=by
 cases o with
 |none=>cases u with
  |none=>exact h
  |some _=>exact(show False from r).elim
 |some _=>cases u with
  |none=>exact(show False from r).elim
  |some _=>exact r
theorem KV.val{kvs:List (κ×V)}{v:List (κ×Value)}(r:KV kvs v)(k:κ):kf (gB kvs k) (valueAt v k):=by
 unfold KV at r;induction r with
 |nil=>exact True.intro
 | @cons p q ps qs h t i=>
  obtain⟨h1,h2⟩:=h;by_cases e:p.1=k
  .have x:q.1=k:=h1.symm.trans e;have b:valueAt (q::qs) k=some q.2:=by simp[valueAt,iC,x]
   rw[ib e,b];exact h2
  .have x:¬q.1=k:=λz=>e (h1.trans z);have b:valueAt (q::qs) k=valueAt qs k:=by simp[valueAt,iC,x]
   rw[gA e,b];exact i
theorem KV.any(r:KV kvs q)(k:κ):(kvs.any λv=>decide (v.1=k))=q.any λv=>decide (v.1=k):=by
 unfold KV at r;induction r with
 |nil=>rfl
 |cons h t i=>rw[du,du,i,h.1]
theorem KV.repl(r:KV kvs I)(k:κ)(x:RelV y u) :
  KV (kvs.map λv=>if v.1=k then (v.1,y) else v) (I.map λv=>if v.1=k then (v.1,u) else v):=by
 unfold KV at r ⊢;induction r with
 |nil=>exact .nil
 | @cons p q ps qs h t i=>
  rw[aA,aA];refine .cons ?_ i;obtain⟨h1,h2⟩:=h;by_cases e:p.1=k
  .rw [ac e,ac (h1.symm.trans e)];exact⟨h1,x⟩
  .rw [af e,af (λz=>e (h1.trans z))];exact⟨h1,h2⟩
theorem KV.put(r:KV kvs q)(k:κ)(h:RelV y u):KV (putK kvs k y) (stored q k u):=by
 unfold putK stored;rw[r.any k];by_cases e:(q.any λv=>decide (v.1=k))=true
 .rw [ac e,ac e];exact r.repl k h
 .rw [af e,af e];exact Paired.snoc r ⟨rfl,h⟩
theorem KV.length(r:KV kvs q):kvs.length=q.length:=Paired.length r
end
variable{w:World}{u:Value}
theorem oh(r:RelV (kV k) u):(ce P w).is k u=true:=by
 cases k with
 |inl i=>obtain⟨t,e⟩:=(show ∃t,u=Value.int i t from r);subst e;exact wb P w i t
 |inr x=>obtain⟨t,e⟩:=(show ∃t,u=Value.str x t from r);subst e;exact wa P w x t
theorem sC:∀{ks:List b0}{j:LV},ba (ks.map kV) j->ItemsAre (ce P w) ks j
 | [],_,r=>by rw[dX]at r;cases r;exact .nil
 |k::ks,_,r=>by
  rw[aA]at r;cases r with
  |cons h t=>exact .cons (oh h) (sC t)
abbrev KT(H:Hp):List (List b0×V)->List (List b0×Addr×Value)->Prop:=Paired λp q=>p.1=q.1/\H q.2.1=some (.tup (p.1.map kV))/\RelV p.2 q.2.2
theorem KT.val{H:Hp}{kvs:List (List b0×V)}{xs:List (List b0×Addr×Value)}(r:KT H kvs xs)(k:List b0):kf (gB kvs k) ((atKey xs k).map (·.2)):=by
 induction r with
 |nil=>exact True.intro
 | @cons p q ps qs h t i=>
  obtain⟨h1,_,h2⟩:=h;by_cases e:p.1=k
  .have x:q.1=k:=h1.symm.trans e;have b:atKey (q::qs) k=some q.2:=by simp[atKey,iC,x]
   rw[ib e,b];exact h2
  .have x:¬q.1=k:=λz=>e (h1.trans z);have b:atKey (q::qs) k=atKey qs k:=by simp[atKey,iC,x]
   rw[gA e,b];exact i
variable{H:Hp}{kvs:List (List b0×V)}{xs:List (List b0×Addr×Value)}{y:V}
theorem KT.repl(r:KT H kvs xs)(k:List b0)(a:RelV y u) :
  KT H (kvs.map λv=>if v.1=k then (v.1,y) else v) (xs.map (putAt k u)):=by
 induction r with
 |nil=>exact .nil
 | @cons p q ps qs h t i=>
  rw[aA,aA];refine .cons ?_ i;obtain⟨h1,h2,x⟩:=h;unfold putAt;by_cases e:p.1=k
  .rw [ac e,ac (h1.symm.trans e)];exact⟨h1,h2,a⟩
  .rw [af e,af (λz=>e (h1.trans z))];exact⟨h1,h2,x⟩
theorem KT.put(r:KT H kvs xs)(k:List b0)(x:H b=some (.tup (k.map kV)))(h:RelV y u) :
  KT H (putK kvs k y) (storedH xs k b u):=by
 have e:(kvs.any λv=>decide (v.1=k))=(atKey xs k).isSome:=by rw[vI,(r.val k).isSome_eq,zb]
 unfold putK storedH;rw[e];by_cases q:(atKey xs k).isSome=true
 .rw [ac q,ac q];exact r.repl k h
 .rw [af q,af q];exact Paired.snoc r ⟨rfl,x,h⟩
theorem KT.keeps(r:KT H kvs xs)(h:∀b ys,H b=some (.tup ys)->H' b=some (.tup ys)):KT H' kvs xs:=
 Paired.mapP r λ_ _ z=>⟨z.1,h _ _ z.2.1,z.2.2⟩
section
variable{P:Program}{w:World}{H:Hp}{h:Heap}{a:Addr}
theorem rd_of{u:HO}(ok:i5 P w H h)(e:Rd H a u):cU P w H h a u:=e.ok ok
theorem sH{kvs:List (b0×V)}(ok:i5 P w H h)(e:Rd H a (.dK kvs)):kvs.length≤sizeLine/\(a == sysModules)=false/\∃vs,KV kvs vs/\h.DictOf (ce P w) a vs:=
 show cU P w H h a (.dK kvs) from rd_of ok e
theorem Jr{kvs:List (b0×V)}(ok:i5 P w H h)(e:H a=some (.dK kvs)):kvs.length≤sizeLine/\(a == sysModules)=false/\∃v,KV kvs v/\h.DictOf (ce P w) a v:=sH ok (.inl e)
theorem nQ(ok:i5 P w H h)(e:H a=some (.tup (ks.map kV))):(tupleKind (ce P w)).is h ks a:=by obtain⟨_,i,r,o,h1,⟨h2,n,x⟩,_⟩:=(show cU P w H h a (.tup (ks.map kV)) from ok a _ e);exact⟨o,i.toArray,n,h1,h2,x,by simpa using sC r⟩
theorem sG(ok:i5 P w H h)(e:Rd H a (.dT kvs)):kvs.length≤sizeLine/\(a == sysModules)=false /\
  ∃xs,KT H kvs xs/\h.DictOfH (tupleKind (ce P w)) a xs:=by
 obtain⟨z,y,xs,r,o,es,k,h1,h2,f,b,c⟩:=(show cU P w H h a (.dT kvs) from rd_of ok e);refine⟨z,y,xs,r,o,es,k,h1,h2,f,b,λx s=>?_,c⟩;have all:∀{l:List (List b0×V)}{m:List (List b0×Addr×Value)},KT H l m->∀x ∈ m,(tupleKind (ce P w)).is h x.1 x.2.1:=by
  intro l m q;induction q with
  |nil=>intro x s;exact nomatch s
  | @cons p q ps qs n t i=>
   intro x s;rcases aN.mp s with e|s
   .subst e;exact nQ ok (by rw[<- n.1];exact n.2.1)
   .exact i x s
 exact all r x s
theorem Og(ok:i5 P w H h)(e:H a=some (.dT kvs)):kvs.length≤sizeLine/\(a == sysModules)=false /\
  ∃xs,KT H kvs xs/\h.DictOfH (tupleKind (ce P w)) a xs:=sG ok (.inl e)
end
def j1(H:Hp)(a:Addr)(y:V)(r:Option V):Prop:=
 (∃kvs k,Rd H a (.dK kvs)/\y=kV k/\r=gB kvs k)\/∃kvs k b,Rd H a (.dT kvs)/\y=.ref b/\H b=some (.tup (k.map kV))/\r=gB kvs k
def wX(H:Hp)(a:Addr)(y v:V)(H':Hp):Prop:=
 (∃kvs k,H a=some (.dK kvs)/\y=kV k/\kvs.length < sizeLine/\H'=bO H a (.dK (putK kvs k v))) \/
 ∃kvs k b,H a=some (.dT kvs)/\y=.ref b/\H b=some (.tup (k.map kV))/\kvs.length < sizeLine/\H'=bO H a (.dT (putK kvs k v))
theorem j1.k{H:Hp}{a:Addr}{kvs:List (b0×V)}{k:b0}(e:H a=some (.dK kvs)):j1 H a (kV k) (gB kvs k):=.inl ⟨kvs,k,.inl e,rfl,rfl⟩
theorem j1.t{H:Hp}{a b:Addr}{kvs:List (List b0×V)}{k:List b0}(e:H a=some (.dT kvs))(h:H b=some (.tup (k.map kV))):j1 H a (.ref b) (gB kvs k):=.inr ⟨kvs,k,b,.inl e,rfl,h,rfl⟩
theorem wX.k{H:Hp}{a:Addr}{kvs:List (b0×V)}{k:b0}{v:V}(e:H a=some (.dK kvs))(h:kvs.length < sizeLine):wX H a (kV k) v (bO H a (.dK (putK kvs k v))):=.inl ⟨kvs,k,e,rfl,h,rfl⟩
theorem wX.t{H:Hp}{a b:Addr}{kvs:List (List b0×V)}{k:List b0}{v:V}(e:H a=some (.dT kvs))(h:H b=some (.tup (k.map kV)))(l:kvs.length < sizeLine) :
  wX H a (.ref b) v (bO H a (.dT (putK kvs k v))):=.inr ⟨kvs,k,b,e,rfl,h,l,rfl⟩
section
variable{X:Cx}{pins:PN}{J:St}{H:Hp}{s:Shared}{a:Addr}{y v:V}{u r:Value}{o:Option V}{A:Around}{E:VP}
theorem Inv.big(I:Inv X pins J H s):sysModules < s.heap.objs.size:=by have h:mainGlobals < s.heap.objs.size:=(I.mod.glob.keeps I.bk).lt;exact kL (by decide) h
theorem sI(q:A.units+1 < cLine)(I:Inv X pins J H s)(g:j1 H a y (some v))(c:RelV y u)(h:∀x s',Inv X pins J H s'->RelV v x->Q x s') :
  wpAny (model X.p X.w) A (getItem (.ref a) u) Q E s:=by
 rcases g with ⟨kvs,k,e,n,l⟩|⟨kvs,k,b,e,n,m,l⟩
 .subst n;obtain⟨z,hd,i,r,d⟩:=sH I.h e;obtain⟨x,hw,w⟩:=kf.some_of (v:=v) (o:=valueAt i k) (by rw[l];exact r.val k);exact wpAny_getItem_of (oh c) d.mapOf hw (h x _ (I.tok _) w)
 .subst n;cases (show u=Value.ref b from c);obtain⟨z,hd,xs,r,d⟩:=sG I.h e;obtain⟨x,hw,w⟩:=kf.some_of (v:=v) (o:=(atKey xs k).map (·.2)) (by rw[l];exact r.val k);obtain⟨p,t,f⟩:=gU.mp hw;refine wpAny_getItem_heap (pT q) (nQ I.h m) d t ?_;rw[f];exact h x _ (I.tok _) w
theorem QZ(c:A.units+1 < cLine)(I:Inv X pins J H s)(g:j1 H a y o)(n:RelV y u)(h:∀s',Inv X pins J H s'->Q (.bool o.isSome) s') :
  wpAny (model X.p X.w) A (compareOp .In u (.ref a)) Q E s:=by
 rcases g with ⟨kvs,k,e,x,l⟩|⟨kvs,k,b,e,x,f,l⟩
 .subst x;obtain⟨z,hd,v,r,d⟩:=sH I.h e;refine wpAny_in_of (oh n) hd d.mapOf ?_;rw[<- (r.val k).isSome_eq,<- l];exact h _ (I.tok _)
 .subst x;cases (show u=Value.ref b from n);obtain⟨z,hd,xs,r,d⟩:=sG I.h e;refine wpAny_in_heap (pT c) (nQ I.h f) hd d ?_;have q:=(r.val k).isSome_eq;rw[zb]at q;rw[<- q,<- l];exact h _ (I.tok _)
theorem mW{t:Nat}(I:Inv X pins J H s)(m:OK (H a))(f:dW a s.heap h')(k:∃q,h'.get? a=some q)(n:cU X.p X.w (bO H a N) h' a N) :
  Inv X pins J (bO H a N) { s with heap:=h',toks:=t }:=
 I.write (x:=a) (e:=a) m (.inl rfl) (λb q h z=>(f.2 b h).trans z) k n
theorem FE{P:Program}{w:World}{H':Hp}{h':Heap}{kvs:List (b0×V)}{v:List (b0×Value)}(z:kvs.length≤sizeLine)(hd:(a == sysModules)=false)(r:KV kvs v)(d:h'.DictOf (ce P w) a v) :
  cU P w H' h' a (.dK kvs):=⟨z,hd,v,r,d⟩
theorem CF{H':Hp}{Q:Unit->Shared->Prop}(hu:A.units+1 < cLine)(I:Inv X pins J H s)(g:wX H a y v H')(ry:RelV y u)(rv:RelV v r)(h:∀s',Inv X pins J H' s'->Q () s') :
  wpAny (model X.p X.w) A (setItem (.ref a) u r) Q E s:=by
 rcases g with ⟨kvs,k,e,ey,l,eH⟩|⟨kvs,k,b,e,ey,eb,l,eH⟩
 .subst ey eH;obtain⟨z,hd,vs,rel,dd⟩:=Jr I.h e;have hz:vs.length≤sizeLine:=by rw[<- rel.length];exact z
  have hl:(putK kvs k v).length≤sizeLine:=by have:=kq kvs k v;lia
  refine wpAny_setItem_pairs (hsz:=hz) (oh ry) dd λh' dd' hs=>h _ ?_;have he:∃q,h'.get? a=some q:=let ⟨q,_,_,hq,_⟩:=dd';⟨q,hq⟩
  exact mW I (by rw[e];exact True.intro) hs he (FE hl hd (rel.put k rv) dd')
 .subst ey eH;cases (show u=Value.ref b from ry);obtain⟨z,hd,xs,rel,dd⟩:=Og I.h e;have hz:xs.length≤sizeLine:=by rw[<- Paired.length rel];exact z
  have hl:(putK kvs k v).length≤sizeLine:=by have:=kq kvs k v;lia
  refine AJ (hsz:=hz) (pT hu) (nQ I.h eb) dd λh' dd' hs=>h _ ?_;obtain⟨q,es,ep,hq,h2,h3,h4,_,h5⟩:=dd';refine mW I (by rw[e];exact True.intro) hs ⟨q,hq⟩ ⟨hl,hd,_,(rel.put k eb rv).keeps λc ys ec=>?_,q,es,ep,hq,h2,h3,h4,h5⟩;rw[aj (NR ec e (λz=>nomatch z))];exact ec
end
noncomputable def No(td ty tv:TE):TS:=λD J H=>tv J H λv G=>td J G λx H2=>ty J H2 λy e=>∃a h,x=.ref a/\wX e a y v h/\D.nx J h
section
variable{X:Cx}{o i e value:Expr}{B pos' tpos:Pos}{td ty tv:TE}
theorem A8(t:X.A.units+1 < cLine)(c:Y X o td)(hi:Y X i ty)(p:Y X value tv)(m:swapsWith value (some (.Subscript o i pos')) B.line X.e=pure false) :
  PS X (.Assign [.Subscript o i pos'] value B) (No td ty tv):=by
 intro pins s J H D I h;refine C8 (cF (p pins s J H _ I h) λr F ⟨v,G,n,j,q⟩=>cF (c pins F J G _ n q) λu K ⟨x,H2,k,l,d⟩=>cF (hi pins K J H2 _ k d) λiv A z=>?_) m;obtain⟨y,P,f,S,a,e,ex,g,w⟩:=z;subst ex;obtain rfl:u=Value.ref a:=l;exact CF t f g S j λC b=>⟨J,e,b,w⟩
end
theorem FF(h:Heap)(b:sysModules < h.objs.size):cU P w H (h.push { cls:=.type "dict",data:=.dict #[] }) h.objs.size (.dK []):=
 ⟨bX _,gY.mpr (aI (bb b)),[],.nil,Heap.DictOf.new h⟩
theorem FA(h:Heap)(b:sysModules < h.objs.size):cU P w H (h.push { cls:=.type "dict",data:=.dict #[] }) h.objs.size (.dT []):=
 ⟨bX _,gY.mpr (aI (bb b)),[],.nil,_,#[],0,br _ rfl,⟨rfl,rfl,rfl⟩,rfl,rfl,l8⟩
def Ke:TE:=λ_ H Q=>∀p,H p=none->Q (.ref p) (bO H p (.dK []))
def Kc:TE:=λ_ H Q=>∀p,H p=none->Q (.ref p) (bO H p (.dT []))
section
variable{X:Cx}{B:Pos}
theorem Ep:Y X (.Dict [] [] B) Ke:=λpins s J H Q I h=>
 Aw ⟨.ref s.heap.objs.size,_,I.laid (a:=s.heap.objs.size) (o:=.dK []) (t':=s.toks) (λ_ _ q=>aO _ q) (ag _) (FF s.heap I.big),rfl,h _ (I.h.fresh (ag _))⟩
theorem Eo:Y X (.Dict [] [] B) Kc:=λpins s J H Q I h=>
 Aw ⟨.ref s.heap.objs.size,_,I.laid (a:=s.heap.objs.size) (o:=.dT []) (t':=s.toks) (λ_ _ q=>aO _ q) (ag _) (FA s.heap I.big),rfl,h _ (I.h.fresh (ag _))⟩
end
structure M1(X:Cx)(o:Expr)(m:Str)(apos:Pos)(e:Expr)(cpos:Pos):Prop where
 base:attributeBase o m X.e (eval o X.e)=eval o X.e
 few:((backTo cpos (starEach [e] X.e)).all (fun x=>!x.1) && (backToKw cpos (keywordEach [] X.e)).all (fun x=>x.1.isSome)
  && decide (([e]:Ab).length+([]:List Keyword).length+(if ([]:List Keyword).isEmpty then 0 else 1) < 30))=true
 line:(apos.endLine == cpos.line)=true
 trees:backTo cpos (starEach [e] X.e)=[(false,eval e X.e)]
structure M2(X:Cx)(o:Expr)(m:Str)(apos:Pos)(e f:Expr)(cpos:Pos):Prop where
 base:attributeBase o m X.e (eval o X.e)=eval o X.e
 few:((backTo cpos (starEach [e,f] X.e)).all (fun x=>!x.1) && (backToKw cpos (keywordEach [] X.e)).all (fun x=>x.1.isSome)
  && decide (([e,f]:Ab).length+([]:List Keyword).length+(if ([]:List Keyword).isEmpty then 0 else 1) < 30))=true
 line:(apos.endLine == cpos.line)=true
 trees:backTo cpos (starEach [e,f] X.e)=[(false,eval e X.e),(false,eval f X.e)]
def Rg(H:Hp)(a:Addr):Prop:=(∃kvs,Rd H a (.dK kvs))\/∃kvs,Rd H a (.dT kvs)
variable{pins:PN}{J:St}{s:Shared}
theorem x'(I:Inv X pins J H s)(d:Rg H a) :
  s.TypeIs (.ref a) "dict"/\(∀b,Value.ref a=.ref b->∃o,s.heap.get? b=some o/\o.dict=none)/\(a == sysModules)=false:=by
 rcases d with ⟨kvs,e⟩|⟨kvs,e⟩
 .obtain⟨_,hd,v,_,h⟩:=sH I.h e;refine⟨h.typeIs,λb q=>?_,hd⟩;cases q;obtain⟨o,_,_,h1,h2,_⟩:=h;exact⟨o,h1,h2.2.1⟩
 .obtain⟨_,hd,xs,_,h⟩:=sG I.h e;refine⟨h.typeIs,λb q=>?_,hd⟩;cases q;obtain⟨o,_,_,h1,h2,_⟩:=h;exact⟨o,h1,h2.2.1⟩
section
variable{X:Cx}{pins:PN}{J:St}{H:Hp}{s:Shared}{a:Addr}{y d:V}{u r:Value}{o:Option V}{A:Around}{E:VP}
theorem LM(c:A.units+1 < cLine)(I:Inv X pins J H s)(g:j1 H a y o)(n:RelV y u)(h:∀w s',Inv X pins J H s'->RelV (o.getD .non) w->Q w s') :
  wpAny (model X.p X.w) A (call (.builtin "dict.get") [.ref a,u]) Q E s:=by
 rcases g with ⟨kvs,k,e,x,l⟩|⟨kvs,k,b,e,x,f,l⟩
 .subst x;obtain⟨z,hd,v,r,d⟩:=sH I.h e;refine pR kJ d.typeIs o0 (y2 _ _) (meets_dict_get (ce X.p X.w) a (oh n) hd) ⟨_,d.mapOf,h _ _ (I.tok _) ?_⟩;rw[l];exact(r.val k).getD rfl
 .subst x;cases (show u=Value.ref b from n);obtain⟨z,hd,xs,r,d⟩:=sG I.h e;refine pR kJ d.typeIs o0 (y2 _ _) (meetsH_dict_get (tupleKind (ce X.p X.w)) a b hd) ⟨pT c,k,xs,nQ I.h f,d,h _ _ (I.tok _) ?_⟩;rw[l];exact(r.val k).getD rfl
theorem LK(p:A.units+1 < cLine)(I:Inv X pins J H s)(g:j1 H a y o)(m:RelV y u)(c:RelV d r)(h:∀w s',Inv X pins J H s'->RelV (o.getD d) w->Q w s') :
  wpAny (model X.p X.w) A (call (.builtin "dict.get") [.ref a,u,r]) Q E s:=by
 rcases g with ⟨kvs,k,e,f,l⟩|⟨kvs,k,b,e,f,t,l⟩
 .subst f;obtain⟨z,hd,v,x,n⟩:=sH I.h e;refine pR kJ n.typeIs o0 (y3 _ _ _) (meets_dict_get_default (ce X.p X.w) a (oh m) hd r) ⟨_,n.mapOf,h _ _ (I.tok _) ?_⟩;rw[l];exact(x.val k).getD c
 .subst f;cases (show u=Value.ref b from m);obtain⟨z,hd,xs,x,n⟩:=sG I.h e;refine pR kJ n.typeIs o0 (y3 _ _ _) (meetsH_dict_get_default (tupleKind (ce X.p X.w)) a b hd r) ⟨pT p,k,xs,nQ I.h t,n,h _ _ (I.tok _) ?_⟩;rw[l];exact(x.val k).getD c
end
noncomputable def Kg(td ty:TE):TE:=λJ H Q=>td J H λx G=>∃a,x=.ref a/\Rg G a/\ty J G λy H2=>∃o,j1 H2 a y o/\Q (o.getD .non) H2
noncomputable def Kf(td ty tx:TE):TE:=λJ H Q=>td J H λx G=>∃a,x=.ref a/\Rg G a/\ty J G λy H2=>tx J H2 λz h=>∃o,j1 h a y o/\Q (o.getD z) h
section
variable{X:Cx}{o e f:Expr}{apos cpos:Pos}{td ty tx:TE}
theorem Es(t:X.A.units+1 < cLine)(c:Y X o td)(b:Y X e ty)(m:M1 X o "get" apos e cpos):Y X (.Call (.Attribute o "get" apos) [e] [] cpos) (Kg td ty):=by intro pins s J H Q I h;refine xb m.base m.few m.line tw kJ yZ (cF (c pins s J H _ I h) λu i z=>?_);obtain⟨x,G,n,v,a,ex,d,q⟩:=z;subst ex;obtain rfl:u=Value.ref a:=v;obtain⟨j,l,_⟩:=x' n d;refine⟨j,l,?_⟩;rw[m.trees];refine kK rfl (lU (dq (cF (b pins i J G _ n q) λiv F ⟨y,H2,k,w,S,g,p⟩=>gm ?_)));exact LM t k g w λP K f r=>⟨_,H2,f,r,p⟩
theorem Er(w:X.A.units+1 < cLine)(v:Y X o td)(p:Y X e ty)(q:Y X f tx)(m:M2 X o "get" apos e f cpos):Y X (.Call (.Attribute o "get" apos) [e,f] [] cpos) (Kf td ty tx):=by
 intro pins s J H Q I h;refine xb m.base m.few m.line tw kJ yZ (cF (v pins s J H _ I h) fun u A i=>?_);obtain⟨x,G,n,F,a,ex,d,j⟩:=i;subst ex;obtain rfl:u=Value.ref a:=F;obtain⟨C,D,_⟩:=x' n d;refine⟨C,D,?_⟩;rw [m.trees];refine kK rfl (lU (dq (cF (p pins A J G _ n j) fun iv B ⟨y,H2,b,K,l⟩=>
  dq (cF (q pins B J H2 _ b l) λE M ⟨z,k,c,P,L,g,S⟩=>gm ?_))))
 exact LK w c g K P λR N t r=>⟨_,k,t,r,S⟩
end
end L2
set_option tactic.hygienic true
namespace Att
open PySem PySem.W PySem.Calls PyProof.Rows
theorem oM:∀(s:List Int)(v:LV),WellAll P h v (s.map WData.int)->IntsAre v s:=by
 intro s;induction s with
 |nil=>intro v w;rw[dX]at w;cases w;exact .nil
 |cons n s i=>
  intro v w;rw[aA]at w;cases w with
  |cons a b=>cases a;exact .cons _ _ (i _ b)
theorem B9{l:OpenLaw}(t:l.most=some n)
  (p:l.row.toRowW.claim.pre z=true) (w:WellAll P h I z) :
  ∃a v s,I=[Value.ref a]/\z=[WData.list (s.map WData.int)]/\h.get? a=some { cls:=.type "list",data:=.seq v.toArray }/\IntsAre v s/\s.length≤n:=by
 have b:WShape.hasAll [] z [.list .int]=true:=(pre_splitW p).1;have c:l.pre.holds [] { args:=z }=true:=(pre_splitW p).2;obtain⟨d,r,rfl,h1,h2⟩:=hasAllW_cons b;obtain rfl:=hasAllW_nil h2;obtain⟨xs,rfl,m⟩:=hasW_list h1;obtain⟨s,rfl⟩:=items_int m;have e:s.length≤n:=by
  unfold OpenLaw.pre at c;have k:(WTm.not (.lt (.lit (.int (n:Int))) (.len (.arg 0)))).holds [] { args:=[.list (s.map .int)] }=true:=by have k:=(holds_andW c).1;rw[t]at k;exact k
  have f:=condW_of k (w_not (w_lt w_lit (w_len_list (w_arg rfl))));rw[aQ]at f;refine Nat.le_of_not_lt λq=>?_;have u:(n:Int) < ((s.length:Nat):Int):=by lia
  first
   |(rw[gX u]at f;exact absurd f (by decide))
   |(simp at f;lia)
 cases w with
 |cons g i=>
  cases i;cases g with
  |list o x=>exact⟨_,_,s,rfl,rfl,o,oM s _ x,e⟩
theorem Cc(l:OpenLaw)(a:List WData):l.row.toRowW.claim.post a (.bool true) a=true:=
 postW_of (r:=l.row.toRowW) (X:=(true == true))
  (show WShape.has [] (.bool true) .bool=true by first|rfl|decide|simp[WShape.has,WShape.arms,WShape.armsAll])
  (show(WTm.eq .res (.lit (.bool true))).value [] { args:=a,res:=some (.bool true),after:=a }=some (.bool (true == true)) from w_eq_bool (w_res rfl) w_lit) rfl
theorem attach_call{l:OpenLaw}
  (M:l.most=some n) (u:d.params.defaults=[])
  (call:∀(w:World) (h s:Shared) (mg y:SV) (x:Addr) (o:Obj) (H k c:Value) (a:Addr) (v:LV) (m:List Int),
   Ground q z [] I w h mg y s.heap->N w s.heap ->
   s.heap.get? x=some o->o.data=.func (docDef d.name d.params d.body d.scope H k c)->s.heap.CodeRec k d.name->mg d.name=some (.ref x) ->
   s.heap.get? a=some { cls:=.type "list",data:=.seq v.toArray }->IntsAre v m->m.length≤n->s.gens=#[] ->
   codeAny (model l.prog w) callerA (.call (.ref x) ⟨[.ref a],[]⟩) (λr s'=>r=.ok (.ret (.bool true))/\OldK s.heap s'.heap/\s'.os=s.os/\AllBare s'.gens) s) :
  WalkO q z I N l.row.toRowW d [] (λf v=>PySem.call f v):=by
 intro w h s mg y G P x o H k c V kV Q hd t D g C S K W p F T j E;obtain rfl:V=.none:=Dflts.none D u;obtain rfl:kV=.none:=Dflts.noKw D;obtain⟨a,v,m,rfl,rfl,b,i,e⟩:=B9 M p j;refine enter_call (nv (call w h s mg y x o H k c a v m G P Q (fd_plain hd) t g b i e C) λr s' R=>?_);obtain⟨rfl,h2,A,B⟩:=R;exact⟨.inl ⟨.bool true,.bool true,[],rfl,λ_=>rfl,.bool true,Cc l _,λ_=>⟨List.Pairwise.nil,λ_ L=>(nomatch L)⟩⟩,h2,A,B⟩
end Att
set_option tactic.hygienic false
namespace L2
open PySem PySem.Spec PyProof.Rows
theorem rZ:∀{v:LV}{s:List Int},IntsAre v s->ba (s.map V.int) v
 |_,_,.nil=>.nil
 |_,_,.cons n t h=>.cons ⟨t,rfl⟩ (rZ h)
def CV(H:Hp):Prop:=∀b,H b=none\/H b=some .tbl\/∃o xs,H b=some (.frz o (.lst xs))
set_option tactic.hygienic true in
theorem EZ{P:Program}{w:World}{K:FG}{mg mb:SV}{CX:C1}{k:Nat}{fa a:Addr}{fd:FuncData}{x:Str}{sp:Sp}{f:Shared}{C:LV}{Z:List Int}
  (KX:K.In f.heap) (hNT:xk K=true) (T:∀P ∈ cf K,f.heap.get? P=some (p0 #[])/\∃c,pY f.heap c P) (R:f.heap.Ns mainGlobals mg) (t:f.heap.Ns builtinsNs mb) (hbb:∀x:Str,x≠"__name__"->mb x=bootBuiltins x) (Q:f.heap.NoLimit) (hbm:∃G A,mg "__builtins__"=some (.ref G)/\G≠builtinsNs/\f.heap.get? G=some A/\A.cls=.type "module"/\A.dict=some builtinsNs/\A.data=.plain) (hg:f.gens=#[])
  (D:f.heap.get? a=some { cls:=.type "list",data:=.seq C.toArray }) (hi:IntsAre C Z) (hl:Z.length≤sizeLine) (hr:Room k callerA)
  (F:∀base:Heap,K.In base->base.Ns mainGlobals mg->FnOk P w K mg base CX k fa fd [x] sp) (B:∀(s:Shared)(u:Value),BindsTo s fd ⟨[u],[]⟩ [(x,u)])
  (hsp:∀H:Hp,CV H->iy K H a (Z.map V.int)->sp [.ref a] H (λv _=>v=.bl true) λ_ _ _=>False)
  (hCX:∀H e s',CX [] H f (λ_ _ _=>False) e s'->False) :
  codeAny (model P w) callerA (.call (.ref fa) ⟨[.ref a],[]⟩) (λr s'=>r=.ok (.ret (.bool true))/\OldK f.heap s'.heap/\s'.os=f.os/\AllBare s'.gens) f:=by
 have rv:=rZ hi;have X:=hi.length;have y:∀H:Hp,CV H->iy K H a (Z.map V.int)->i5 P w H f.heap->(∀b,H b≠none->b=a\/b ∈ cf K)->(∀b,H b=some .tbl->b ∈ cf K)->(∀b ∈ cf K,H b=some .tbl)->(H a≠none->K.lookup a=none) ->
   codeAny (model P w) callerA (.call (.ref fa) ⟨[.ref a],[]⟩) (λr s'=>r=.ok (.ret (.bool true))/\OldK f.heap s'.heap/\s'.os=f.os/\AllBare s'.gens) f:=by
  intro H hO hS W hA hB hC hK;have hKT:∀b ∈ cf K,K.lookup b=none:=λb t=>by
   cases q:K.lookup b with
   |none=>rfl
   |some o=>have e:=KX b o q;rw[(T b t).1]at e;cases e;have h2:=a_.mp hNT (b,_) (Dq q);exact absurd (show false=true from h2) bx
  have p:∀{b:Addr}{o:Obj},f.heap.get? b=some o->H b=none->(uX f.heap H).get? b=some o:=λe n=>Fq e n;have noA:∀{b:Addr}{o:Obj}{es:Array DictEntry}{L:Nat},f.heap.get? b=some o->o.data=.dict es L->H b=none:=λ{b o es L} e d=>by
   cases q:H b with
   |none=>rfl
   |some u=>
    rcases hA b (by rw[q];simp) with j|j
    .subst j;rw[D]at e;cases e;have d':Data.seq C.toArray _=Data.dict es L:=d;cases d'
    .rw [(T b j).1]at e;cases e;cases d
  have noM:∀{b:Addr}{o:Obj},f.heap.get? b=some o->o.cls=.type "module"->H b=none:=λ{b o} e d=>by
   cases q:H b with
   |none=>rfl
   |some u=>
    rcases hA b (by rw[q];simp) with j|j
    .subst j;rw[D]at e;cases e;exact absurd (show Value.type "list"=Value.type "module" from d) (by decide)
    .rw [(T b j).1]at e;cases e;cases d
  have l:∀{b:Addr}{m:SV},f.heap.Ns b m->(uX f.heap H).Ns b m:=fun {b m} ⟨o,es,L,e,d,r⟩=>⟨o,es,L,p e (noA e d),d,r⟩;have M:K.In (uX f.heap H):=fun b o e=>p (KX b o e) (by
   cases q:H b with
   |none=>rfl
   |some u=>
    rcases hA b (by rw[q];simp) with j|j
    .subst j;rw[hK (by rw[q];simp)]at e;cases e
    .rw [hKT b j]at e;cases e)
  have hM:Mod K mg (uX f.heap H):=⟨M,l R,⟨mb,l t,hbb⟩,let ⟨mc,h1,h2⟩:=Q;⟨mc,l h1,h2⟩,let ⟨G,A,c1,c2,c3,c4,c5⟩:=hbm;⟨G,A,c1,c2,p c3 (noM c3 c4),c4,c5⟩⟩;have e0:Env0 P w K mg (uX f.heap H) callerA [] f H:=⟨rfl,hM,λb o e=>HX e,tK (Cu _ _),trivial,λb t=>absurd (show b ∈ ([]:List Addr) from t) (by simp),hC,W,.of_eq hg⟩;refine nv ((F _ M (l R)).run callerA [] f H ⟨[.ref a],[]⟩ [.ref a] [.ref a] _ _ hr e0 (B f (.ref a)) (.cons rfl .nil) (hsp H hO hS)) λr s' h=>?_;cases r with
  |error e=>exact(hCX H e s' h).elim
  |ok fl=>
   cases fl with
   |next=>exact False.elim h
   |brk=>exact False.elim h
   |cont=>exact False.elim h
   |ret u=>
    obtain⟨v,H',os,E,un,S,r',q⟩:=h;have q':v=.bl true:=q;subst q';obtain rfl:u=Value.bool true:=r';have aw:∀b o,f.heap.get? b=some o->asItWas f.heap s'.heap b o:=λb o e=>by
     rcases hO b with q|z|⟨A,xs,z⟩
     .exact .inl (un.keep b o e q (by intro z;exact absurd (show b ∈ ([]:List Addr) from z) (by simp)) (by simp))
     .obtain⟨I,c,e2⟩:=T b (hB b z);obtain⟨ps,e3,_⟩:=(show qZ H' s'.heap b from S b _ (un.tbls b z));rw[I]at e;cases e;exact .inr (.inl ⟨(e2.tab I).isCodeTable,rfl,#[],ps,rfl,by rw[Array.empty_append];exact e3⟩)
     .have z2:=un.frzs b A _ z;obtain⟨I,_⟩:=W b _ z;obtain⟨e2,_⟩:=S b _ z2;rw[e]at I;cases I;exact .inl e2
    refine⟨rfl,⟨aw,λb o e=>?_⟩,os,E⟩;rcases aw b o e with x|⟨_,_,_,_,_,x⟩|⟨_,_,⟨_,_,_,x,_⟩,_⟩<;>exact⟨_,x⟩
 have N:a ∉ cf K:=λz=>by have e:=(T a z).1;rw[D]at e;cases e
 have tk:∀b,b ∈ cf K->∀H:Hp,qZ H f.heap b:=λb t H=>⟨#[],(T b t).1,.inl rfl⟩;cases hk:K.lookup a with
 |some o=>
  have e:=KX a o hk;rw[D]at e;cases e;refine y (λb=>if b ∈ cf K then some .tbl else none) (λb=>?_) (.inr ⟨_,C.toArray,_,hk,rfl,rfl,rfl,by rw[bc,X];exact hl,by simpa using rv⟩) (λb u z=>?_) (λb z=>?_) (λb z=>?_) (λb z=>ac z) λz=>absurd (af N) z
  .by_cases t:b ∈ cf K
   .exact .inr (.inl (ac t))
   .exact .inl (af t)
  .by_cases t:b ∈ cf K
   .have g:=(ac t).symm.trans z;cases g;exact tk b t _
   .have g:=(af t).symm.trans z;cases g
  .by_cases t:b ∈ cf K
   .exact .inr t
   .exact absurd (af t) z
  .by_cases t:b ∈ cf K
   .exact t
   .have g:=(af t).symm.trans z;cases g
 |none=>
  refine y (λb=>if b=a then some (.frz { cls:=.type "list",data:=.seq C.toArray } (.lst (Z.map V.int))) else if b ∈ cf K then some .tbl else none) (λb=>?_) (.inl (.inr ⟨{ cls:=.type "list",data:=.seq C.toArray },ac rfl⟩)) (λb u z=>?_) (λb z=>?_) (λb z=>?_) (λb z=>?_) λ_=>hk
  .by_cases t:b=a
   .exact .inr (.inr ⟨_,_,ac t⟩)
   .by_cases i:b ∈ cf K
    .exact .inr (.inl ((af t).trans (ac i)))
    .exact .inl ((af t).trans (af i))
  .by_cases t:b=a
   .have g:=(ac t).symm.trans z;cases g;subst t;exact⟨D,by rw[aQ];exact hl,C,_,rv,D⟩
   .have z1:=(af t).symm.trans z;by_cases i:b ∈ cf K
    .have g:=(ac i).symm.trans z1;cases g;exact tk b i _
    .have g:=(af i).symm.trans z1;cases g
  .by_cases t:b=a
   .exact .inl t
   .by_cases i:b ∈ cf K
    .exact .inr i
    .exact absurd ((af t).trans (af i)) z
  .by_cases t:b=a
   .have g:=(ac t).symm.trans z;cases g
   .by_cases i:b ∈ cf K
    .exact i
    .have g:=(af i).symm.trans ((af t).symm.trans z);cases g
  .have t:b≠a:=λq=>N (q ▸ z);exact(af t).trans (ac z)
noncomputable abbrev RJ{K:FG}(_:K.In h):FG:=K
theorem G9{l:Di}{n k:Nat}{q:Program}{m:LS}{I:(SV)->Heap->Prop}{g:World->Heap->Prop}{d:DefRec}{K:Params->FG}{CX:World->C1}{sp:World->Sp}{x:Str}
  (hn:l.most=some n) (S:n≤sizeLine) (y:d.params.defaults=[]) (hr:Room k callerA)
  (W:∀(w:World)(h:Heap),g w h->(K w.params).In h) (N:∀w:World,xk (K w.params)=true) (T:∀(w:World)(h:Heap),g w h->∀P ∈ cf (K w.params),h.get? P=some (p0 #[])/\∃c,pY h c P)
  (F:∀(w:World) (mg:SV) (t:Addr) (h:Heap),(K w.params).In h->h.Ns mainGlobals mg->mg d.name=some (.ref t) ->
   ∃fd:FuncData,(∀(s:Shared)(u:Value),BindsTo s fd ⟨[u],[]⟩ [(x,u)]) /\
    ∀base:Heap,(K w.params).In base->base.Ns mainGlobals mg->FnOk l.prog w (K w.params) mg base (CX w) k t fd [x] (sp w))
  (A:∀(w:World)(H:Hp)(a:Addr)(p:List Int),p.length≤n->CV H->iy (K w.params) H a (p.map V.int)->sp w [.ref a] H (λv _=>v=.bl true) λ_ _ _=>False)
  (C:∀(w:World)(H:Hp)(s:Shared)(e:Value)(s':Shared),CX w [] H s (λ_ _ _=>False) e s'->False) :
  Dg q m I g l.row.toRowW d [] (λf E=>PySem.call f E):=by
 refine Att.attach_call hn y λw D r mg mb t o pm cd L a E p G B ho hd hcd z j i b hg=>?_;have X:=W w _ B;obtain⟨fd,Z,M⟩:=F w mg t _ X G.T.g z;exact EZ X (N w) (T w _ B) G.T.g G.T.b G.T.builtins G.T.nolimit G.T.bmain hg j i (au b S) hr M Z (λH Q R=>A w H a p b Q R) λH e s'=>C w H r e s'
theorem DE{l:Di}{n k:Nat}{q:Program}{o:LS}{X:(SV)->Heap->Prop}{m:World->Heap->Prop}{d:DefRec}{K:Params->FG}{CX:C1}{sp:FG->Sp}{x:Str}
  (y:l.most=some n) (t:n≤sizeLine) (r:d.params.defaults=[]) (z:Room k callerA)
  (j:∀(w:World)(h:Heap),m w h->(K w.params).In h) (N:∀w:World,xk (K w.params)=true) (T:∀(w:World)(h:Heap),m w h->∀P ∈ cf (K w.params),h.get? P=some (p0 #[])/\∃c,pY h c P)
  (F:∀(w:World) (mg:SV) (g:Addr) (h:Heap),(K w.params).In h->h.Ns mainGlobals mg->mg d.name=some (.ref g) ->
   ∃fd:FuncData,(∀(s:Shared)(u:Value),BindsTo s fd ⟨[u],[]⟩ [(x,u)]) /\
    ∀base:Heap,(K w.params).In base->base.Ns mainGlobals mg->FnOk l.prog w (K w.params) mg base CX k g fd [x] (sp (K w.params)))
  (p:∀(K:FG)(H:Hp)(a:Addr)(b:List Int),b.length≤n->CV H->iy K H a (b.map V.int)->sp K [.ref a] H (λv _=>v=.bl true) λ_ _ _=>False)
  (C:∀(H:Hp)(s:Shared)(e:Value)(s':Shared),CX [] H s (λ_ _ _=>False) e s'->False) :
  Dg q o X m l.row.toRowW d [] (λf S=>PySem.call f S):=
 G9 (K:=K) (CX:=λ_=>CX) (sp:=λw=>sp (K w.params)) y t r z j N T F (λw H a b h1 h2 i=>p (K w.params) H a b h1 h2 i) λ_ H s e s'=>C H s e s'
noncomputable def k4(s:Stmt)(j:Nat):Stmt:=match s with
 | .ClassDef _ _ _ b _ _ _ _ _ _ _=>b.getD j (.Pass ⟨0,0,0,0⟩)
 |_=>.Pass ⟨0,0,0,0⟩
noncomputable def hZ(s:Stmt):Arguments:=match s with
 | .FunctionDef _ a _ _ _ _ _ _ _ _=>a
 |_=>{ posonlyargs:=[],args:=[],vararg:=none,kwonlyargs:=[],kw_defaults:=[],kwarg:=none,defaults:=[] }
noncomputable def eX(s:Stmt):List Stmt:=match s with
 | .FunctionDef _ _ b _ _ _ _ _ _ _=>b
 |_=>[]
noncomputable def bj(s:Stmt):Scope:=match s with
 | .FunctionDef _ _ _ _ _ _ sc _ _ _=>sc
 |_=>{ kind:=.function,names:=[],isGenerator:=false,isCoroutine:=false }
noncomputable abbrev oF:C1:=λ_ _ _ _ _ _=>False
noncomputable abbrev E0:XK:=λ_ _ _=>False
theorem si:lQ oF X E0:=λ_ _ _ _ _ _ _ h=>h.elim
structure Fun(K:FG)(x qual:Str)(st:Stmt)(f:Addr)(fd:FuncData):Prop where
 ex:∃(oc:Value)(od:Option Addr)(dV kV doc pm:Value)(an:Option Addr)(cdv ct:Value)(osl:Array (OV)),
  fd=iT x qual (hZ st) (eX st) (bj st) dV kV doc pm an cdv ct/\K.lookup f=some ⟨oc,od,.func fd,osl⟩/\iU K cdv qual=true
 kp:dH K (.ref f)=true
section
variable{P:Program}{w:World}{K:FG}{mg:SV}{base:Heap}
theorem Fv{x q:Str}{st:Stmt}{f:Addr}{h:Value}{e a:Option Addr}{s:Array (OV)}{V kV o p d t:Value}(l:K.lookup f=some ⟨h,e,.func (iT x q (hZ st) (eX st) (bj st) V kV o p a d t),s⟩)
  (c:iU K d q=true) (k:dH K (.ref f)=true):Fun K x q st f (iT x q (hZ st) (eX st) (bj st) V kV o p a d t):=⟨⟨h,e,V,kV,o,p,a,d,t,s,rfl,l,c⟩,k⟩
end
section
variable{X:Cx}
end
abbrev KN:List (PyData×V×V)->List (PyData×Addr×Value)->Prop:=Paired λp q=>p.1=q.1/\p.2.1=V.ref q.2.1/\RelV p.2.2 q.2.2
def vo(h:Heap)(d:PyData)(v:V):Prop:=∃b,v=.ref b/\Nk.kd d=true/\d.depth≤8/\∃as,Reads h (.ref b) d as
noncomputable def yc(kvs:List (PyData×V×V))(d:PyData):Bool:=kvs.any λp=>decide (p.1=d)
section
variable{P:Program}{w:World}{H:Hp}{h:Heap}{a:Addr}
theorem KN.has(r:KN kvs xs)(d:PyData):(atKey xs d).isSome=yc kvs d:=by
 induction r with
 |nil=>rfl
 | @cons p q ps qs h t i=>
  unfold yc at i ⊢;rw[du];by_cases e:p.1=d
  .have x:q.1=d:=h.1.symm.trans e;simp[atKey,iC,e,x]
  .have x:¬q.1=d:=λz=>e (h.1.trans z);rw[bo e,kT,<- i];simp[atKey,iC,x]
theorem FC(ok:i5 P w H h)(e:H a=some (.dN kvs))(ks:∀p ∈ kvs,vo h p.1 p.2.1):kvs.length≤sizeLine/\(a == sysModules)=false/\∃xs,KN kvs xs/\h.DictOfH (Nk.nest P w) a xs:=by
 obtain⟨z,y,xs,r,o,es,ep,h1,h2,h3,h4,h5⟩:=(show cU P w H h a (.dN kvs) from ok a _ e);refine⟨z,y,xs,r,o,es,ep,h1,h2,h3,h4,?_,h5⟩;clear h4 h5 e z;induction r with
 |nil=>exact λx hx=>nomatch hx
 | @cons p q ps qs hq t ih=>
  intro x hx;rcases aN.mp hx with rfl|hx
  .obtain⟨b,e1,k,l,as,rd⟩:=ks p aH;have e2:=hq.2.1;rw[e1]at e2;cases e2;rw[<- hq.1];exact⟨k,l,as,rd⟩
  .exact ih (λp hp=>ks p (aG _ hp)) x hx
end
section
variable{X:Cx}{pins:PN}{J:St}{H:Hp}{s:Shared}{a:Addr}{d:PyData}{y v:V}{u r:Value}{A:Around}{E:VP}{kvs:List (PyData×V×V)}
theorem HY(hu:A.units+9 < cLine)(I:Inv X pins J H s)(e:H a=some (.dN kvs))(ks:∀p ∈ kvs,vo s.heap p.1 p.2.1)(ky:vo s.heap d y)(ry:RelV y u)(h:∀s',Inv X pins J H s'->Q (.bool (!yc kvs d)) s') :
  wpAny (model X.p X.w) A (compareOp .NotIn u (.ref a)) Q E s:=by
 obtain⟨b,rfl,k⟩:=ky;cases (show u=Value.ref b from ry);obtain⟨z,hd,xs,rel,dd⟩:=FC I.h e ks;refine wpAny_notIn_heap (knd:=Nk.nest X.p X.w) (show(A.in1).units+8 < cLine by rw[mq];lia) k hd dd ?_;rw[rel.has];exact h _ (I.tok _)
theorem NS(hu:A.units+9 < cLine)(I:Inv X pins J H s)(e:H a=some (.dN kvs))(ks:∀p ∈ kvs,vo s.heap p.1 p.2.1)(ky:vo s.heap d y)(ry:RelV y u)(rv:RelV v r)(new:yc kvs d=false)(hl:kvs.length < sizeLine)
  (h:∀s',Inv X pins J (bO H a (.dN (kvs++[(d,y,v)]))) s'->Q () s'):wpAny (model X.p X.w) A (setItem (.ref a) u r) Q E s:=by
 obtain⟨b,rfl,k⟩:=ky;cases (show u=Value.ref b from ry);obtain⟨z,hd,xs,rel,dd⟩:=FC I.h e ks;have hz:xs.length≤sizeLine:=by rw[<- Paired.length rel];exact z
 refine AJ (knd:=Nk.nest X.p X.w) (hsz:=hz) (show(A.in1).units+8 < cLine by rw[mq];lia) k dd λh' dd' hs=>h _ ?_;have nn:atKey xs d=none:=by have:=rel.has d;rw[new]at this;simpa using this
 rw[storedH_new nn]at dd';obtain⟨q,es,ep,hq,h2,h3,h4,_,h5⟩:=dd';exact mW I (by rw[e];exact True.intro) hs ⟨q,hq⟩ ⟨by simp;lia,hd,_,Paired.snoc rel ⟨rfl,rfl,rv⟩,q,es,ep,hq,h2,h3,h4,h5⟩
end
theorem FD(h:Heap)(b:sysModules < h.objs.size):cU P w H (h.push { cls:=.type "dict",data:=.dict #[] }) h.objs.size (.dN []):=
 ⟨bX _,gY.mpr (aI (bb b)),[],.nil,_,#[],0,br _ rfl,⟨rfl,rfl,rfl⟩,rfl,rfl,l8⟩
end L2
set_option tactic.hygienic true
namespace PySem
open PySem PyProof.Rows
namespace F
theorem entry_dict_update_loop:entryFor table "dict.update.loop"=some Builtin.«dict.update.loop»:=entryFor_of_tree (by kernel_rfl)
theorem plain_dict_update_loop:plainId "dict.update.loop"=true:=by decide +kernel
theorem list_no_keys:typeLookup (.type "list") "keys"=pure none:=by rw[w_,xh];kernel_rfl
end F
section
variable{prog:Program}{w:World}{A:Around}{E:VP}{s:Shared}
theorem xY 
  (hx:s.heap.get? a=some o) (hc:o.cls=.type "list") (hdat:o.data=.seq xs k0) (hd:o.dict=none) (hmiss:typeLookup (.type "list") name=pure none) (hname:(["__module__","__name__","__qualname__","__doc__","__annotations__"]:LS).contains name=false) (hA:A.handled=none)
  (h:∀h' tk,(∀b o,s.heap.get? b=some o->h'.get? b=some o)->Q none { s with heap:=h',toks:=tk }) (hsz:name.length+100≤sizeLine:=by size_fits) :
  wpAny (model prog w) A (getAttr? (.ref a) name) Q E s:=by
 obtain⟨c,dct,dat,sl⟩:=o;simp only at hc hdat hd;subst hc hdat hd;obtain⟨hp,g,d,tk,os⟩:=s;have hT:∀tk',(⟨hp,g,d,tk',os⟩:Shared).TypeIs (.ref a) "list":=λ_=>⟨_,hx,rfl⟩;have f1:=AH;have f3:=tq.lookup;have f4:=tq.bind (.ref a);have f5:=am_list_getattr_none;have step:∀(tk1:Nat)(u:Tok)(Q1:VP)(E1:VP),(∀h' tk2 e,zD hp h' e (.ref a) name->E1 (.ref e) ⟨h',g,d,tk2,os⟩) ->
   wpAny (model prog w) A (call (Value.builtin "list.__getattribute__") ([Value.ref a]++[Value.str name u]) []) Q1 E1 ⟨hp,g,d,tk1,os⟩:=λtk1 u Q1 E1 k=>
  gG tq (hT _) am_entry_list_getattribute (F.args_list_getattribute_2 _ _) (meets_getattribute_miss_list a xs k0 sl name u hmiss hname hsz) ⟨hx,hA,k⟩
 unfold getAttr?;unfold getAttrBy?;unfold getAttrBy;repeat any_goals first|assumption|exact hT _|(with_reducible refine step _ _ _ _ λh' tk' e hx'=>?_)|wp_step
 have he:=hx'.there;obtain⟨t',u',he⟩:=he;repeat any_goals first|assumption|wp_step
 exact h _ _ hx'.keeps
inductive PairsAt{K:Type}[DecidableEq K](knd:KeyKind prog w K)(h:Heap):LV->List (K×Value)->Prop
 |nil:PairsAt knd h [] []
 |cons {t:Addr}{key v:Value}{k:K}{us:LV}{kvs:List (K×Value)}:IsTup h t #[key,v]->knd.is k key=true->PairsAt knd h us kvs->PairsAt knd h (.ref t::us) ((k,v)::kvs)
end
end PySem
namespace Ev
open PySem L2
noncomputable abbrev wj(p:Pos):Arguments:={ posonlyargs:=[],args:=[{ arg:="standing",annotation:=none,pos:=p }],vararg:=none,kwonlyargs:=[],kw_defaults:=[],kwarg:=none,defaults:=[] }
noncomputable abbrev uQ(p q r t:Pos):Expr:=.Call (.Name "ends_on" p) [.Name "board" q,.Name "standing" r] [] t
noncomputable abbrev oK:Scope:={ kind:=.function,names:=[(Str.ofString "standing",.local),(Str.ofString "board",.free),(Str.ofString "ends_on",.globalImplicit)],isGenerator:=false,isCoroutine:=false,more:=[] }
abbrev wg(p x a e s:Pos)(c:Addr)(m:Value)(h:Addr)(t:Value):Obj:=PySem.W.kla_obj "<lambda>" xZ (wj p) (uQ x a e s) oK [(Str.ofString "board",c)] m h t
inductive P where
 |non|bl (b:Bool)|int (i:Int)|str (x:Str)|tup (xs:List P)|lst (xs:List P)|ro (xs:List P)|dct (ks:List b0) (vs:List P)
inductive D where
 |p (v:P)|ref (i:Nat)
inductive SO where
 |lst (xs:List D)|dct (ks:List b0) (vs:List D)|fz (v:P)|ins (c:Str) (ks:LS) (vs:List D)|dtn (ks:List P) (vs:List D)|fn (d:Option D)|dtt (ks:List (List b0)) (vs:List D)
noncomputable abbrev U:=List SO
noncomputable abbrev Lc:=List (Option D)
mutual
noncomputable def pd:P->PyData
 | .non=>.none
 | .bl b=>.bool b
 | .int i=>.int i
 | .str x=>.str x
 | .tup xs=>.tuple (i_ xs)
 | .lst xs=>.list (i_ xs)
 | .ro xs=>.list (i_ xs)
 | .dct _ _=>.none
noncomputable def i_:List P->List PyData
 | []=>[]
 |x::r=>pd x::i_ r
end
def Rc(K:FG)(a:Addr)(xs:List V):Prop:=nr K (λ_=>none) a xs
def Rf(K:FG)(a:Addr)(xs:List V):Prop:=iy K (λ_=>none) a xs
def TupAt(K:FG)(H:Hp)(a:Addr)(xs:List V):Prop:=H a=some (.tup xs)\/Rc K a xs
def LstAt(F:Aa)(H:Hp)(a:Addr)(xs:List V):Prop:=F a/\H a=some (.lst xs)
def CU(K:FG)(F:Aa)(H:Hp)(a:Addr)(xs:List V):Prop:=(F a/\∃o,H a=some (.frz o (.lst xs)))\/Rf K a xs
variable{K:FG}{H:Hp}{a:Addr}{xs:List V}
theorem TupAt.sq(h:TupAt K H a xs):nr K H a xs:=by
 rcases h with h|(h|h)
 .exact .inl (.inl h)
 .rcases h with h|⟨o,h⟩<;>cases h
 .exact .inr h
variable{F:Aa}
theorem LstAt.sq(h:LstAt F H a xs):iy K H a xs:=.inl (.inl h.2)
theorem CU.sq(h:CU K F H a xs):iy K H a xs:=by
 rcases h with ⟨_,o,h⟩|(h|h)
 .exact .inl (.inr ⟨o,h⟩)
 .rcases h with h|⟨o,h⟩<;>cases h
 .exact .inr h
section
variable(K:FG)(F:Aa)(H:Hp)
mutual
noncomputable def RP:P->V->Prop
 | .non,v=>v=.non
 | .bl b,v=>v=.bl b
 | .int i,v=>v=.int i
 | .str x,v=>v=.str x
 | .tup ds,v=>∃a xs,v=.ref a/\TupAt K H a xs/\b7 ds xs
 | .lst ds,v=>∃a xs,v=.ref a/\LstAt F H a xs/\b7 ds xs
 | .ro ds,v=>∃a xs,v=.ref a/\CU K F H a xs/\b7 ds xs
 | .dct ks ds,v=>∃a kvs,v=.ref a/\F a/\H a=some (.dK kvs)/\kvs.map (·.1)=ks/\b7 ds (kvs.map (·.2))
noncomputable def b7:List P->List V->Prop
 | [],xs=>xs=[]
 |d::ds,xs=>∃x r,xs=x::r/\RP d x/\b7 ds r
end
def RD(m:List Addr):D->V->Prop
 | .p d,v=>RP K F H d v
 | .ref i,v=>∃a,v=.ref a/\m[i]? = some a
def cV(m:List Addr):List D->List V->Prop
 | [],xs=>xs=[]
 |d::s,xs=>∃x r,xs=x::r/\RD K F H m d x/\cV m s r
inductive FnI(H:Hp)(a:Addr)(v:V):Prop
 |mk (p1 p2 p3 p4 p5:Pos) (cr c' P:Addr) (o oc:Obj) (pm ctv ub:Value) (f:H a=some (.frz (wg p1 p2 p3 p4 p5 cr pm c' ctv) (.own a))) (c:H cr=some (.frz o (.own cr))) (d:o.data=.cell (some ub)) (r:RelV v ub) (e:H c'=some (.frz oc (.own P))) (l:x8 oc):FnI H a v
def RO(m:List Addr)(a:Addr):SO->Prop
 | .lst s=>∃xs,H a=some (.lst xs)/\cV K F H m s xs
 | .dct h s=>∃k,H a=some (.dK k)/\k.map (·.1)=h/\cV K F H m s (k.map (·.2))
 | .fz v=>RP K F H v (.ref a)
 | .ins c h s=>∃C x k,pX K mainGlobals c=some (some (.ref C))/\H a=some (.ins C x k)/\k.map (·.1)=h/\cV K F H m s (k.map (·.2))
 | .dtn h s=>∃k,H a=some (.dN k)/\k.map (·.1)=i_ h/\b7 K F H h (k.map (·.2.1))/\cV K F H m s (k.map (·.2.2))
 | .fn o=>∀d,o=some d->∃v,FnI H a v/\RD K F H m d v
 | .dtt h s=>∃k,H a=some (.dT k)/\k.map (·.1)=h/\cV K F H m s (k.map (·.2))
def SO.own:SO->Prop
 | .fz _=>False
 | .fn _=>False
 |_=>True
structure Rel(m:List Addr)(S:U):Prop where
 len:m.length=S.length
 nd:m.Nodup
 obj:∀(i:Nat) a o,m[i]? = some a->S[i]? = some o->RO K F H m a o
 sep:∀(i:Nat) a o,m[i]? = some a->S[i]? = some o->o.own->¬F a
 trk:∀a ∈ m,H a≠none
 ft:∀a,F a->H a≠none
end
structure Kp(F:Aa)(m:List Addr)(H:Hp)(F':Aa)(m':List Addr)(H':Hp):Prop where
 pre:∃n,m'=m++n
 frz:∀b,F b->F' b
 frk:∀b o,F b->H b=some o->H' b=some o
 tup:∀b xs,H b=some (.tup xs)->H' b=some (.tup xs)
 cod:∀b o u,H b=some (.frz o (.own u))->H' b=some (.frz o (.own u))
structure Stp(F:Aa)(m:List Addr)(H:Hp)(F':Aa)(m':List Addr)(H':Hp):Prop where
 pre:∃n,m'=m++n
 oth:∀b o,H b=some o->b ∉ m->H' b=some o
 frz:∀b,F b->F' b
 frk:∀b o,F b->H b=some o->H' b=some o
 tup:∀b xs,H b=some (.tup xs)->H' b=some (.tup xs)
 trk:∀b,H b≠none->H' b≠none
 nf:∀b,F' b->F b\/H b=none\/b ∈ m
 nm:∀b,b ∈ m'->b ∈ m\/H b=none
 cod:∀b o u,H b=some (.frz o (.own u))->H' b=some (.frz o (.own u))
variable{F':Aa}{m:List Addr}{m':List Addr}{H':Hp}
theorem Stp.kp(s:Stp F m H F' m' H'):Kp F m H F' m' H':=⟨s.pre,s.frz,s.frk,s.tup,s.cod⟩
theorem Stp.refl:Stp F m H F m H:=
 ⟨⟨[],by simp⟩,λ_ _ h _=>h,λ_ h=>h,λ_ _ _ h=>h,λ_ _ h=>h,λ_ h=>h,λ_ h=>.inl h,λ_ h=>.inl h,λ_ _ _ h=>h⟩
theorem Stp.trans(a:Stp F m H C r z)(b:Stp C r z B t I):Stp F m H B t I where
 pre:=by obtain⟨f,n⟩:=a.pre;obtain⟨p,k⟩:=b.pre;exact⟨f++p,by rw[k,n,eS]⟩
 oth:=λc o h s=>b.oth c o (a.oth c o h s) λx=>by
  rcases a.nm c x with x|x
  .exact s x
  .rw [h]at x;cases x
 frz:=λc h=>b.frz c (a.frz c h)
 frk:=λc o h e=>b.frk c o (a.frz c h) (a.frk c o h e)
 tup:=λc xs h=>b.tup c xs (a.tup c xs h)
 cod:=λc o u h=>b.cod c o u (a.cod c o u h)
 trk:=λc h=>b.trk c (a.trk c h)
 nf:=λc h=>by
  rcases b.nf c h with h|h|h
  .exact a.nf c h
  .by_cases e:H c=none
   .exact .inr (.inl e)
   .exact absurd h (a.trk c e)
  .rcases a.nm c h with h|h
   .exact .inr (.inr h)
   .exact .inr (.inl h)
 nm:=λc h=>by
  rcases b.nm c h with h|h
  .exact a.nm c h
  .by_cases e:H c=none
   .exact .inr e
   .exact absurd h (a.trk c e)
section
variable{K:FG}{F F':Aa}{H H':Hp}{m m':List Addr}{S N:U}
theorem TupAt.kp(s:Kp F m H F' m' H')(h:TupAt K H a xs):TupAt K H' a xs:=by
 rcases h with h|h
 .exact .inl (s.tup _ _ h)
 .exact .inr h
theorem LstAt.kp(s:Kp F m H F' m' H')(h:LstAt F H a xs):LstAt F' H' a xs:=⟨s.frz _ h.1,s.frk _ _ h.1 h.2⟩
theorem CU.kp(s:Kp F m H F' m' H')(h:CU K F H a xs):CU K F' H' a xs:=by
 rcases h with ⟨f,o,h⟩|h
 .exact .inl ⟨s.frz _ f,o,s.frk _ _ f h⟩
 .exact .inr h
mutual
theorem RP.kp(s:Kp F m H F' m' H'):∀{d:P}{v:V},RP K F H d v->RP K F' H' d v
 | .non,_,h=>h
 | .bl _,_,h=>h
 | .int _,_,h=>h
 | .str _,_,h=>h
 | .tup _,_,h=>by obtain⟨a,xs,e,t,r⟩:=h;exact⟨a,xs,e,t.kp s,b7.kp s r⟩
 | .lst _,_,h=>by obtain⟨a,xs,e,t,r⟩:=h;exact⟨a,xs,e,t.kp s,b7.kp s r⟩
 | .ro _,_,h=>by obtain⟨a,xs,e,t,r⟩:=h;exact⟨a,xs,e,t.kp s,b7.kp s r⟩
 | .dct _ _,_,h=>by obtain⟨a,kvs,e,f,t,k,r⟩:=h;exact⟨a,kvs,e,s.frz _ f,s.frk _ _ f t,k,b7.kp s r⟩
theorem b7.kp(s:Kp F m H F' m' H'):∀{ds:List P}{xs:List V},b7 K F H ds xs->b7 K F' H' ds xs
 | [],_,h=>h
 |_::_,_,h=>by obtain⟨x,r,e,h1,h2⟩:=h;exact⟨x,r,e,RP.kp s h1,b7.kp s h2⟩
end
theorem RD.kp(s:Kp F m H F' m' H'):∀{d:D}{v:V},RD K F H m d v->RD K F' H' m' d v
 | .p _,_,h=>RP.kp s h
 | .ref i,_,h=>by obtain⟨a,e,h⟩:=h;obtain⟨n,x⟩:=s.pre;refine⟨a,e,?_⟩;rw[x];have k:i < m.length:=(bw.mp h).1;rw[bL k];exact h
theorem cV.kp(s:Kp F m H F' m' H'):∀{d:List D}{xs:List V},cV K F H m d xs->cV K F' H' m' d xs
 | [],_,h=>h
 |_::_,_,h=>by obtain⟨x,r,e,a,n⟩:=h;exact⟨x,r,e,RD.kp s a,cV.kp s n⟩
variable{d:P}{v:V}
theorem RP.mono(s:Stp F m H F' m' H')(h:RP K F H d v):RP K F' H' d v:=RP.kp s.kp h
theorem b7.mono(s:Stp F m H F' m' H'){d:List P}{v:List V}(h:b7 K F H d v):b7 K F' H' d v:=b7.kp s.kp h
theorem RD.mono(s:Stp F m H F' m' H'){d:D}{v:V}(h:RD K F H m d v):RD K F' H' m' d v:=RD.kp s.kp h
theorem cV.mono(s:Stp F m H F' m' H'){d:List D}{v:List V}(h:cV K F H m d v):cV K F' H' m' d v:=cV.kp s.kp h
theorem b7.length:∀{d:List P}{xs:List V},b7 K F H d xs->d.length=xs.length
 | [],_,h=>by rw[show _=([]:List V) from h]<;>rfl
 |_::_,_,h=>by obtain⟨x,r,e,_,a⟩:=h;rw[e,aV,aV,b7.length a]
theorem cV.length:∀{d:List D}{xs:List V},cV K F H m d xs->d.length=xs.length
 | [],_,h=>by rw[show _=([]:List V) from h]<;>rfl
 |_::_,_,h=>by obtain⟨x,r,e,_,a⟩:=h;rw[e,aV,aV,cV.length a]
theorem b7.get:∀{s:List P}{xs:List V}{i:Nat}{d:P},b7 K F H s xs->s[i]? = some d->∃x,xs[i]? = some x/\RP K F H d x
 | [],_,_,_,_,e=>by simp at e
 |_::_,_,0,_,h,e=>by obtain⟨x,r,rfl,n,_⟩:=h;simp at e;subst e;exact⟨x,rfl,n⟩
 |_::_,_,i+1,d,h,e=>by obtain⟨x,r,rfl,_,k⟩:=h;obtain⟨y,a,f⟩:=b7.get (i:=i) k (by simpa using e);exact⟨y,by simpa using a,f⟩
theorem b7.append:∀{d l:List P}{xs y:List V},b7 K F H d xs->b7 K F H l y->b7 K F H (d++l) (xs++y)
 | [],_,_,_,h,g=>by rw[show _=([]:List V) from h];exact g
 |_::_,_,_,_,h,g=>by obtain⟨x,r,rfl,a,e⟩:=h;exact⟨x,r++_,rfl,a,b7.append e g⟩
theorem cV.append:∀{d l:List D}{xs y:List V},cV K F H m d xs->cV K F H m l y->cV K F H m (d++l) (xs++y)
 | [],_,_,_,h,g=>by rw[show _=([]:List V) from h];exact g
 |_::_,_,_,_,h,g=>by obtain⟨x,r,rfl,a,e⟩:=h;exact⟨x,r++_,rfl,a,cV.append e g⟩
theorem b7.take:∀(n:Nat){d:List P}{xs:List V},b7 K F H d xs->b7 K F H (d.take n) (xs.take n)
 |0,_,_,_=>rfl
 |_+1,[],_,h=>by rw[show _=([]:List V) from h];rfl
 |n+1,_::_,_,h=>by obtain⟨x,r,rfl,a,e⟩:=h;exact⟨x,r.take n,rfl,a,b7.take n e⟩
theorem b7.drop:∀(n:Nat){d:List P}{xs:List V},b7 K F H d xs->b7 K F H (d.drop n) (xs.drop n)
 |0,_,_,h=>h
 |_+1,[],_,h=>by rw[show _=([]:List V) from h];rfl
 |n+1,_::_,_,h=>by obtain⟨x,r,rfl,_,a⟩:=h;exact b7.drop n a
theorem cV.take:∀(n:Nat){d:List D}{xs:List V},cV K F H m d xs->cV K F H m (d.take n) (xs.take n)
 |0,_,_,_=>rfl
 |_+1,[],_,h=>by rw[show _=([]:List V) from h];rfl
 |n+1,_::_,_,h=>by obtain⟨x,r,rfl,a,e⟩:=h;exact⟨x,r.take n,rfl,a,cV.take n e⟩
theorem cV.get:∀{s:List D}{xs:List V}{i:Nat}{d:D},cV K F H m s xs->s[i]? = some d->∃x,xs[i]? = some x/\RD K F H m d x
 | [],_,_,_,_,e=>by simp at e
 |_::_,_,0,_,h,e=>by obtain⟨x,r,rfl,n,_⟩:=h;simp at e;subst e;exact⟨x,rfl,n⟩
 |_::_,_,i+1,d,h,e=>by obtain⟨x,r,rfl,_,k⟩:=h;obtain⟨y,a,f⟩:=cV.get (i:=i) k (by simpa using e);exact⟨y,by simpa using a,f⟩
theorem cV.ofP:∀{d:List P}{xs:List V},b7 K F H d xs->cV K F H m (d.map .p) xs
 | [],_,h=>h
 |_::_,_,h=>by obtain⟨x,r,e,a,s⟩:=h;exact⟨x,r,e,a,cV.ofP s⟩
variable{p:Addr}
theorem Rel.fresh_m(r:Rel K F H m S)(h:H p=none):p ∉ m:=λz=>r.trk p z h
theorem Rel.fresh_F(r:Rel K F H m S)(h:H p=none):¬F p:=λz=>r.ft p z h
variable{o:HO}
theorem dY(x:H p=none):Stp F m H F m (bO H p o) where
 pre:=⟨[],by simp⟩
 oth:=λb u h _=>by rw[aj (by rintro rfl;rw[x]at h;cases h)];exact h
 frz:=λ_ h=>h
 frk:=λb u _ h=>by rw[aj (by rintro rfl;rw[x]at h;cases h)];exact h
 tup:=λb u h=>by rw[aj (by rintro rfl;rw[x]at h;cases h)];exact h
 cod:=λb u w h=>by rw[aj (by rintro rfl;rw[x]at h;cases h)];exact h
 trk:=λb h=>by
  by_cases e:b=p
  .subst e;rw[aD];exact λz=>nomatch z
  .rw [aj e];exact h
 nf:=λ_ h=>.inl h
 nm:=λ_ h=>.inl h
theorem RO.kp(s:Kp F m H F' m' H'){a:Addr}{o:SO}(k:∀u,H a=some u->H' a=some u)(h:RO K F H m a o):RO K F' H' m' a o:=by
 cases o with
 |lst b=>obtain⟨xs,e,r⟩:=h;exact⟨xs,k _ e,cV.kp s r⟩
 |dct p b=>obtain⟨x,e,f,r⟩:=h;exact⟨x,k _ e,f,cV.kp s r⟩
 |fz v=>exact RP.kp s (show RP K F H v (.ref a) from h)
 |ins c p b=>obtain⟨C,g,x,n,e,f,r⟩:=h;exact⟨C,g,x,n,k _ e,f,cV.kp s r⟩
 |dtt p b=>obtain⟨x,e,f,r⟩:=h;exact⟨x,k _ e,f,cV.kp s r⟩
 |fn Q=>intro d hd;obtain⟨v,⟨B,D,E,G,I,w,q,P,o,A,L,t,N,i,j,l,y,z,S⟩,r⟩:=h d hd;exact⟨v,⟨B,D,E,G,I,w,q,P,o,A,L,t,N,s.cod _ _ _ i,s.cod _ _ _ j,l,y,s.cod _ _ _ z,S⟩,r.kp s⟩
 |dtn p b=>obtain⟨x,e,f,M,r⟩:=h;exact⟨x,k _ e,f,b7.kp s M,cV.kp s r⟩
theorem RO.mono(s:Stp F m H F' m' H'){a:Addr}{o:SO}(k:∀u,H a=some u->H' a=some u)(h:RO K F H m a o):RO K F' H' m' a o:=RO.kp s.kp k h
theorem Rel.stayK(r:Rel K F H m S)(s:Kp F m H F' m H')(k:∀a u,a ∈ m->H a=some u->H' a=some u)(n:∀a,F' a->F a\/H a=none)(t:∀a,F' a->H' a≠none):Rel K F' H' m S where
 len:=r.len
 nd:=r.nd
 obj:=λi a o e x=>(r.obj i a o e x).kp s λu h=>k a u (aZ e) h
 sep:=λi a o e x w f=>by
  rcases n a f with f|f
  .exact r.sep i a o e x w f
  .exact r.trk a (aZ e) f
 trk:=λa h=>by
  cases q:H a with
  |none=>exact absurd q (r.trk a h)
  |some u=>rw[k a u h q];exact λz=>nomatch z
 ft:=t
theorem Rel.stay(r:Rel K F H m S)(s:Stp F m H F' m H')(k:∀a u,a ∈ m->H a=some u->H' a=some u)(n:∀a,F' a->F a\/H a=none)(t:∀a,F' a->H' a≠none):Rel K F' H' m S where
 len:=r.len
 nd:=r.nd
 obj:=λi a o e x=>(r.obj i a o e x).mono s λu h=>k a u (aZ e) h
 sep:=λi a o e x w f=>by
  rcases n a f with f|f
  .exact r.sep i a o e x w f
  .exact r.trk a (aZ e) f
 trk:=λa h=>s.trk a (r.trk a h)
 ft:=t
theorem Rel.new(r:Rel K F H m S)(x:H p=none):Rel K F (bO H p o) m S:=
 r.stay (dY x) (λa u e h=>by rw[aj (by rintro rfl;exact r.fresh_m x e)];exact h) (λ_ f=>.inl f) λa f=>(dY (F:=F) (m:=m) x).trk a (r.ft a f)
theorem dD{p:Addr}{o:HO}(x:H p=none):Stp F m H F (m++[p]) (bO H p o) where
 pre:=⟨[p],rfl⟩
 oth:=(dY (F:=F) (m:=m) (o:=o) x).oth
 frz:=λ_ h=>h
 frk:=(dY (F:=F) (m:=m) (o:=o) x).frk
 tup:=(dY (F:=F) (m:=m) (o:=o) x).tup
 cod:=(dY (F:=F) (m:=m) (o:=o) x).cod
 trk:=(dY (F:=F) (m:=m) (o:=o) x).trk
 nf:=λ_ h=>.inl h
 nm:=λb h=>by
  rcases bE.mp h with h|h
  .exact .inl h
  .have:b=p:=by simpa using h
   subst this;exact .inr x
theorem Rel.own(r:Rel K F H m S){p:Addr}{o:HO}{c:SO}(n:H p=none)(v:RO K F (bO H p o) (m++[p]) p c):Rel K F (bO H p o) (m++[p]) (S++[c]) where
 len:=by rw[aX,aX,r.len];rfl
 nd:=by
  rw[jF];refine⟨r.nd,by simp,λa t b q e=>?_⟩;have:b=p:=by simpa using q
  subst this;subst e;exact r.fresh_m n t
 obj:=λi a u x s=>by
  by_cases k:i < m.length
  .rw [bL k]at x;rw[bL (by rw[<- r.len];exact k)]at s;exact(r.obj i a u x s).mono (dD n) λw h=>by rw[aj (by rintro rfl;rw[n]at h;cases h)];exact h
  .have l:i=m.length:=by
    have:=(bw.mp x).1;rw[aX]at this;simp at this;lia
   subst l;rw[bH (ag _)]at x;rw[r.len,bH (ag _)]at s;simp at x s;subst x;subst s;exact v
 sep:=λi a u x s w f=>by
  by_cases k:i < m.length
  .rw [bL k]at x;rw[bL (by rw[<- r.len];exact k)]at s;exact r.sep i a u x s w f
  .have l:i=m.length:=by
    have:=(bw.mp x).1;rw[aX]at this;simp at this;lia
   subst l;rw[bH (ag _)]at x;simp at x;subst x;exact r.fresh_F n f
 trk:=λa h=>by
  rcases bE.mp h with h|h
  .exact (dD (F:=F) (m:=m) n).trk a (r.trk a h)
  .have:a=p:=by simpa using h
   subst this;rw[aD];exact λz=>nomatch z
 ft:=λa f=>(dD (F:=F) (m:=m) n).trk a (r.ft a f)
variable{i:Nat}
theorem eU(r:Rel K F H m S)(s:m[i]? = some p)(n:S[i]? = some k)(hw:k.own)(t:∀xs,H p≠some (.tup xs)):Stp F m H F m (bO H p o) where
 pre:=⟨[],by simp⟩
 oth:=λb u h c=>by rw[aj (by rintro rfl;exact c (aZ s))];exact h
 frz:=λ_ h=>h
 frk:=λb u f h=>by rw[aj (by rintro rfl;exact r.sep i _ k s n hw f)];exact h
 tup:=λb xs h=>by rw[aj (by rintro rfl;exact t xs h)];exact h
 cod:=λb x u h=>by
  rw[aj ?_];exact h;rintro rfl;have a:=r.obj i b k s n;cases k with
  |fz _=>exact hw
  |fn _=>exact hw
  |lst _=>obtain⟨_,e,_⟩:=a;rw[h]at e;cases e
  |dct _ _=>obtain⟨_,e,_⟩:=a;rw[h]at e;cases e
  |ins _ _ _=>obtain⟨_,_,_,_,e,_⟩:=a;rw[h]at e;cases e
  |dtn _ _=>obtain⟨_,e,_⟩:=a;rw[h]at e;cases e
  |dtt _ _=>obtain⟨_,e,_⟩:=a;rw[h]at e;cases e
 trk:=λb h=>by
  by_cases e:b=p
  .subst e;rw[aD];exact λz=>nomatch z
  .rw [aj e];exact h
 nf:=λ_ h=>.inl h
 nm:=λ_ h=>.inl h
theorem v0(h:m.Nodup)(e:m[i]? = some a)(x:m[k]? = some a):i=k:=by exact(List.getElem?_inj (bw.mp e).1 h).mp (e.trans x.symm)
theorem Rel.set(r:Rel K F H m S){i:Nat}{p:Addr}{c b:SO}{o:HO}(s:m[i]? = some p)(k:S[i]? = some c)(hw:c.own)(t:∀xs,H p≠some (.tup xs))(q:RO K F (bO H p o) m p b) :
  Rel K F (bO H p o) m (S.set i b) where
 len:=by rw[c_];exact r.len
 nd:=r.nd
 obj:=λj a u e x=>by
  by_cases n:i=j
  .subst n;rw[s]at e;cases e;rw[bv (by exact(bw.mp k).1)]at x;cases x;exact q
  .rw [aP n]at x;exact(r.obj j a u e x).mono (eU r s k hw t) λw h=>by rw[aj (by rintro rfl;exact n (v0 r.nd s e))];exact h
 sep:=λj a u e x w f=>by
  by_cases n:i=j
  .subst n;rw[s]at e;cases e;exact r.sep i p c s k hw f
  .rw [aP n]at x;exact r.sep j a u e x w f
 trk:=λa h=>(eU (o:=o) r s k hw t).trk a (r.trk a h)
 ft:=λa f=>(eU (o:=o) r s k hw t).trk a (r.ft a f)
theorem uC(x:p ∈ m):Stp F m H (λb=>F b\/b=p) m H:=
 ⟨⟨[],by simp⟩,fun _ _ h _=>h,fun _ h=>.inl h,fun _ _ _ h=>h,fun _ _ h=>h,fun _ h=>h,fun b h=>by
  rcases h with h|h
  .exact .inl h
  .subst h;exact .inr (.inr x),λ_ h=>.inl h,λ_ _ _ h=>h⟩
theorem Rel.frz(r:Rel K F H m S){i:Nat}{p:Addr}{c:SO}{v:P}(n:m[i]? = some p)(k:S[i]? = some c)(o:RP K (λb=>F b\/b=p) H v (.ref p)):Rel K (λb=>F b\/b=p) H m (S.set i (.fz v)) where
 len:=by rw[c_];exact r.len
 nd:=r.nd
 obj:=λj a u x e=>by
  by_cases s:i=j
  .subst s;rw[n]at x;cases x;rw[bv (by exact(bw.mp k).1)]at e;cases e;exact o
  .rw [aP s]at e;exact(r.obj j a u x e).mono (uC (aZ n)) λw h=>h
 sep:=λj a u x e w f=>by
  by_cases s:i=j
  .subst s;rw[bv (by exact(bw.mp k).1)]at e;cases e;exact w
  .rw [aP s]at e;rcases f with f|f
   .exact r.sep j a u x e w f
   .subst f;exact s (v0 r.nd n x)
 trk:=r.trk
 ft:=λa f=>by
  rcases f with f|f
  .exact r.ft a f
  .subst f;exact r.trk _ (aZ n)
end
noncomputable abbrev EE:=Lc->U->Option (D×U)
noncomputable abbrev wY:=Option (D×U)
noncomputable abbrev EV:=Lc->U->Option (P×U)
noncomputable abbrev tyV:=Option (P×U)
noncomputable abbrev EB:=Lc->U->Option (Bool×U)
noncomputable abbrev Mg:=Option (Bool×U)
noncomputable abbrev j_:=Lc->U->Option (List P×U)
noncomputable abbrev DI:=Option (List P×U)
inductive Fl where
 |nx|rt (d:D)|bk|ct
noncomputable abbrev ES:=Lc->U->Option (Fl×Lc×U)
noncomputable abbrev AW:=Option (Fl×Lc×U)
variable{α:Type}{β:Type}
noncomputable def bI(x:Option (α×U))(f:α->U->Option β):Option β:=match x with
 |some (a,S)=>f a S
 |none=>none
@[simp] theorem am(a:α)(S:U)(f:α->U->Option β):bI (some (a,S)) f=f a S:=rfl
@[simp] theorem OC(f:α->U->Option β):bI none f=none:=rfl
theorem ah{α β:Type}{x:Option (α×U)}{f:α->U->Option β}{r:β}(h:bI x f=some r):∃a S,x=some (a,S)/\f a S=some r:=by
 cases x with
 |none=>cases h
 |some p=>exact⟨p.1,p.2,rfl,h⟩
def uN(f:D->U->Option (P×U)):List D->U->Option (List P×U)
 | [],S=>some ([],S)
 |d::r,S=>bI (f d S) λv h=>bI (uN f r h) λT x=>some (v::T,x)
def toP:Nat->D->U->Option (P×U)
 |_,.p v,S=>some (v,S)
 |0,.ref _,_=>none
 |n+1,.ref i,S=>match S[i]? with
  |some (.lst d)=>bI (uN (toP n) d S) λT h=>some (.lst T,h.set i (.fz (.lst T)))
  |some (.dct k d)=>bI (uN (toP n) d S) λT h=>some (.dct k T,h.set i (.fz (.dct k T)))
  |some (.fz v)=>some (v,S)
  |some (.ins _ _ _)=>none
  |some (.dtn _ _)=>none
  |some (.dtt _ _)=>none
  |some (.fn _)=>none
  |none=>none
@[simp] theorem M6(n:Nat)(v:P)(S:U):toP n (.p v) S=some (v,S):=by cases n<;>rfl
theorem mK(n:Nat):∀(T:List P)(S:U),uN (toP n) (T.map .p) S=some (T,S)
 | [],_=>rfl
 |v::r,S=>by simp[uN,mK n r S]
variable{n:Nat}{S:U}{T:List P}
theorem fK(h:S[i]? = some (.lst (T.map .p))):toP (n+1) (.ref i) S=some (.lst T,S.set i (.fz (.lst T))):=by simp[toP,h,mK]
section
variable{K:FG}{F:Aa}{H:Hp}{m:List Addr}{S N:U}
theorem uM 
  (n:∀{d:D}{x:V}{v:P}{F:Aa}{S N:U},f d S=some (v,N)->Rel K F H m S->RD K F H m d x->∃F',Stp F m H F' m H/\Rel K F' H m N/\N.length=S.length/\RP K F' H v x) :
  ∀{s:List D}{xs:List V}{T:List P}{F:Aa}{S N:U},uN f s S=some (T,N)->Rel K F H m S->cV K F H m s xs->∃F',Stp F m H F' m H/\Rel K F' H m N/\N.length=S.length/\b7 K F' H T xs
 | [],xs,T,F,S,N,h,r,a=>by cases h;exact⟨F,.refl,r,rfl,a⟩
 |d::s,xs,T,F,S,N,h,r,a=>by obtain⟨x,y,e,p,q⟩:=a;obtain⟨v,z,c,h⟩:=ah h;obtain⟨A,o,t,h⟩:=ah h;cases h;obtain⟨C,k,i,l,u⟩:=n c r p;obtain⟨B,b,j,w,g⟩:=uM n t i (cV.mono k q);exact⟨B,k.trans b,j,w.trans l,x,y,e,RP.mono b u,g⟩
theorem nD:∀(n:Nat){d:D}{x:V}{v:P}{F:Aa}{S N:U},toP n d S=some (v,N)->Rel K F H m S->RD K F H m d x->∃F',Stp F m H F' m H/\Rel K F' H m N/\N.length=S.length/\RP K F' H v x
 |n,.p w,x,v,F,S,N,h,r,u=>by rw[M6]at h;cases h;exact⟨F,.refl,r,rfl,u⟩
 |0,.ref i,x,v,F,S,N,h,r,u=>by cases h
 |n+1,.ref i,x,v,F,S,N,h,r,u=>by
  obtain⟨a,e,f⟩:=u;subst e;have p:i < S.length:=by rw[<- r.len];exact(bw.mp f).1
  obtain⟨o,L⟩:∃o,S[i]? = some o:=⟨S[i],by simp[p]⟩;have z:=r.obj i a o f L;simp only[toP,L]at h;cases o with
  |fz w=>cases h;exact⟨F,.refl,r,rfl,z⟩
  |ins c M I=>cases h
  |dtn _ _=>cases h
  |dtt _ _=>cases h
  |fn _=>cases h
  |lst I=>obtain⟨T,t,g,h⟩:=ah h;cases h;obtain⟨xs,j,E⟩:=z;obtain⟨C,G,B,l,A⟩:=uM (λh=>nD n h) g r E;obtain⟨Q,k⟩:∃o,t[i]? = some o:=⟨t[i]'(by rw[l];exact p),by simp[l,p]⟩;have q:Stp C m H (λb=>C b\/b=a) m H:=uC (aZ f);have s:RP K (λb=>C b\/b=a) H (.lst T) (.ref a):=⟨a,xs,rfl,⟨.inr rfl,j⟩,b7.mono q A⟩;exact⟨_,G.trans q,B.frz f k s,by rw[c_];exact l,s⟩
  |dct M I=>obtain⟨T,t,g,h⟩:=ah h;cases h;obtain⟨y,j,hk,E⟩:=z;obtain⟨C,G,B,l,A⟩:=uM (λh=>nD n h) g r E;obtain⟨Q,k⟩:∃o,t[i]? = some o:=⟨t[i]'(by rw[l];exact p),by simp[l,p]⟩;have q:Stp C m H (λb=>C b\/b=a) m H:=uC (aZ f);have s:RP K (λb=>C b\/b=a) H (.dct M T) (.ref a):=⟨a,y,rfl,.inr rfl,j,hk,b7.mono q A⟩;exact⟨_,G.trans q,B.frz f k s,by rw[c_];exact l,s⟩
end
structure Grow(F:Aa)(H:Hp)(F':Aa)(H':Hp):Prop where
 keep:∀b o,H b=some o->H' b=some o
 frz:∀b,F b->F' b
 nf:∀b,F' b->F b\/(H b=none/\H' b≠none)
section
variable{K:FG}{F F' C B:Aa}{H H' z I:Hp}{m:List Addr}{S N:U}
theorem Grow.refl:Grow F H F H:=⟨λ_ _ h=>h,λ_ h=>h,λ_ h=>.inl h⟩
theorem Grow.stp(g:Grow F H F' H'):Stp F m H F' m H' where
 pre:=⟨[],by simp⟩
 oth:=λb o h _=>g.keep b o h
 frz:=g.frz
 frk:=λb o _ h=>g.keep b o h
 tup:=λb xs h=>g.keep b _ h
 cod:=λb o u h=>g.keep b _ h
 trk:=λb h=>by
  cases q:H b with
  |none=>exact absurd q h
  |some o=>rw[g.keep b o q];exact λz=>nomatch z
 nf:=λb h=>by
  rcases g.nf b h with h|⟨h,_⟩
  .exact .inl h
  .exact .inr (.inl h)
 nm:=λ_ h=>.inl h
theorem Rel.grow(r:Rel K F H m S)(g:Grow F H F' H'):Rel K F' H' m S:=
 r.stay g.stp (fun a u _ h=>g.keep a u h) (fun a f=>by
  rcases g.nf a f with f|⟨f,_⟩
  .exact .inl f
  .exact .inr f) λa f=>by
  rcases g.nf a f with f|⟨_,f⟩
  .exact (g.stp (m:=m)).trk a (r.ft a f)
  .exact f
theorem cg{p:Addr}{o:HO}(x:H p=none):Grow F H F (bO H p o):=
 ⟨λb u h=>by rw[aj (by rintro rfl;rw[x]at h;cases h)];exact h,λ_ h=>h,λ_ h=>.inl h⟩
theorem cK{p:Addr}{o:HO}(x:H p=none):Grow F H (λb=>F b\/b=p) (bO H p o):=
 ⟨fun b u h=>by rw [aj (by rintro rfl;rw [x] at h;cases h)];exact h,fun _ h=>.inl h,fun b h=>by
  rcases h with h|h
  .exact .inl h
  .subst h;exact .inr ⟨x,by rw[aD];exact λz=>nomatch z⟩⟩
theorem RP.grow(g:Grow F H F' H')(h:RP K F H d v):RP K F' H' d v:=RP.mono (m:=[]) g.stp h
theorem b7.grow(g:Grow F H F' H')(h:b7 K F H d v):b7 K F' H' d v:=b7.mono (m:=[]) g.stp h
theorem RP.newTup(x:H p=none)(r:b7 K F H h xs):RP K F (bO H p (.tup xs)) (.tup h) (.ref p):=⟨p,xs,rfl,.inl aD,r.grow (cg x)⟩
theorem RP.newLst(x:H p=none)(r:b7 K F H h xs):RP K (λb=>F b\/b=p) (bO H p (.lst xs)) (.lst h) (.ref p):=⟨p,xs,rfl,⟨.inr rfl,aD⟩,r.grow (cK x)⟩
end
@[simp] def vC(v:P)(_L:Lc)(S:U):tyV:=some (v,S)
def ak(i:Nat)(L:Lc)(S:U):wY:=match L[i]? with
 |some (some d)=>some (d,S)
 |_=>none
@[simp] def vE(f:EE)(L:Lc)(S:U):tyV:=bI (f L S) (toP 9)
@[simp] def O(f:EV)(L:Lc)(S:U):wY:=bI (f L S) λv h=>some (.p v,h)
@[simp] def kh(g:P->P->Option P)(a b:EV)(L:Lc)(S:U):tyV:=bI (a L S) λx h=>bI (b L h) λy e=>(g x y).map λv=>(v,e)
@[simp] def MY(g:P->Option P)(a:EV)(L:Lc)(S:U):tyV:=bI (a L S) λx h=>(g x).map λv=>(v,h)
@[simp] def bV(a:EV)(L:Lc)(S:U):Mg:=bI (a L S) λx h=>match x with
 | .bl b=>some (b,h)
 |_=>none
@[simp] def kG(a b:EB)(L:Lc)(S:U):Mg:=bI (a L S) λc h=>if c=true then b L h else some (false,h)
@[simp] def C0(a b:EB)(L:Lc)(S:U):Mg:=bI (a L S) λc h=>if c=true then some (true,h) else b L h
@[simp] def wT(a:EB)(L:Lc)(S:U):Mg:=bI (a L S) λc h=>some (!c,h)
@[simp] def vB(a:EB)(L:Lc)(S:U):tyV:=bI (a L S) λc h=>some (.bl c,h)
@[simp] def M0(c:EB)(a b:EV)(L:Lc)(S:U):tyV:=bI (c L S) λk h=>if k=true then a L h else b L h
@[simp] def aS(_L:Lc)(S:U):DI:=some ([],S)
@[simp] def aF(a:EV)(r:j_)(L:Lc)(S:U):DI:=bI (a L S) λx h=>bI (r L h) λxs e=>some (x::xs,e)
@[simp] def cL(g:List P->Option P)(a:j_)(L:Lc)(S:U):tyV:=bI (a L S) λxs h=>(g xs).map λv=>(v,h)
@[simp] def fY(L:Lc)(S:U):AW:=some (.nx,L,S)
@[simp] def ai(f g:ES)(L:Lc)(S:U):AW:=match f L S with
 |some (.nx,h,x)=>g h x
 |r=>r
@[simp] def aC(i:Nat)(f:EE)(L:Lc)(S:U):AW:=bI (f L S) λd h=>some (.nx,L.set i (some d),h)
@[simp] def be(f:EE)(L:Lc)(S:U):AW:=bI (f L S) λd h=>some (.rt d,L,h)
@[simp] def b9(f:EE)(L:Lc)(S:U):AW:=bI (f L S) λ_ h=>some (.nx,L,h)
@[simp] def dG(c:EB)(a b:ES)(L:Lc)(S:U):AW:=bI (c L S) λk h=>if k=true then a L h else b L h
noncomputable def uF:ES:=λ_ _=>none
noncomputable abbrev kc:=P->Lc->Option Lc
noncomputable def av(i:Nat):kc:=λv L=>some (L.set i (some (.p v)))
noncomputable def b_(g:kc)(b:ES):List P->Lc->U->Option (Fl×Lc×U)
 | [],L,S=>some (.nx,L,S)
 |v::r,L,S=>match g v L with
  |none=>none
  |some a=>match b a S with
   |some (.nx,L2,h)=>b_ g b r L2 h
   |some (.ct,L2,h)=>b_ g b r L2 h
   |some (.bk,L2,h)=>some (.nx,L2,h)
   |x=>x
@[simp] def cw(i:j_)(g:kc)(b:ES)(L:Lc)(S:U):AW:=bI (i L S) λxs h=>b_ g b xs L h
def hU(c:EB)(b:ES):Nat->Lc->U->Option (Fl×Lc×U)
 |0,_,_=>none
 |n+1,L,S=>bI (c L S) λk a=>if k=true then match b L a with
   |some (.nx,L2,h)=>hU c b n L2 h
   |some (.ct,L2,h)=>hU c b n L2 h
   |some (.bk,L2,h)=>some (.nx,L2,h)
   |x=>x
  else some (.nx,L,a)
def nH(n:Nat)(c:EB)(b:ES):ES:=hU c b n
open PySem PySem.Spec PyProof.Rows L2
section
variable(K:FG)
structure RL(F:Aa)(H:Hp)(m:List Addr)(J:L2.St)(L:Lc):Prop where
 len:J.length=L.length
 at':∀(i:Nat) d,L[i]? = some (some d)->∃v,J[i]? = some (some v)/\RD K F H m d v
inductive tEI(f:EE)(J:L2.St)(H:Hp)(Q:VK):Prop
 |mk (F:Aa) (m:List Addr) (L:Lc) (S:U) (d:D) (S':U) (h0_:Rel K F H m S) (h1_:RL K F H m J L) (h2_:f L S=some (d,S')) (h3_:∀v F' m' H',Stp F m H F' m' H'->Rel K F' H' m' S'->RD K F' H' m' d v->Q v H'):tEI f J H Q
noncomputable def tE(f:EE):TE:=λJ H Q=>tEI K f J H Q
inductive tVI(f:EV)(J:L2.St)(H:Hp)(Q:VK):Prop
 |mk (F:Aa) (m:List Addr) (L:Lc) (S:U) (d:P) (S':U) (h0_:Rel K F H m S) (h1_:RL K F H m J L) (h2_:f L S=some (d,S')) (h3_:∀v F' m' H',Stp F m H F' m' H'->Rel K F' H' m' S'->RP K F' H' d v->Q v H'):tVI f J H Q
noncomputable def tV(f:EV):TE:=λJ H Q=>tVI K f J H Q
inductive tQI(f:EB)(J:L2.St)(H:Hp)(Q:Bool->Hp->Prop):Prop
 |mk (F:Aa) (m:List Addr) (L:Lc) (S:U) (b:Bool) (S':U) (h0_:Rel K F H m S) (h1_:RL K F H m J L) (h2_:f L S=some (b,S')) (h3_:∀F' m' H',Stp F m H F' m' H'->Rel K F' H' m' S'->Q b H'):tQI f J H Q
noncomputable def tQ(f:EB):TT:=λJ H Q=>tQI K f J H Q
inductive tVsI(f:j_)(J:L2.St)(H:Hp)(Q:List V->Hp->Prop):Prop
 |mk (F:Aa) (m:List Addr) (L:Lc) (S:U) (ds:List P) (S':U) (h0_:Rel K F H m S) (h1_:RL K F H m J L) (h2_:f L S=some (ds,S')) (h3_:∀xs F' m' H',Stp F m H F' m' H'->Rel K F' H' m' S'->b7 K F' H' ds xs->Q xs H'):tVsI f J H Q
noncomputable def rh(f:j_):TA:=λJ H Q=>tVsI K f J H Q
def Qf(D:Ends)(F:Aa)(m:List Addr)(J:L2.St)(H:Hp):Fl->Prop
 | .nx=>D.nx J H
 | .bk=>D.bk J H
 | .ct=>D.ct J H
 | .rt d=>∀v,RD K F H m d v->D.rt v H
inductive tStI(f:ES)(D:Ends)(J:L2.St)(H:Hp):Prop
 |mk (F:Aa) (m:List Addr) (L:Lc) (S:U) (fl:Fl) (L':Lc) (S':U) (h0_:Rel K F H m S) (h1_:RL K F H m J L) (h2_:f L S=some (fl,L',S')) (h3_:∀J' F' m' H',Stp F m H F' m' H'->Rel K F' H' m' S'->RL K F' H' m' J' L'->Qf K D F' m' J' H' fl):tStI f D J H
noncomputable def kl(f:ES):TS:=λD J H=>tStI K f D J H
end
section
variable{K:FG}{F F':Aa}{H H':Hp}{m m':List Addr}{J:L2.St}{L:Lc}{S:U}
theorem RL.mono(s:Stp F m H F' m' H')(h:RL K F H m J L):RL K F' H' m' J L:=⟨h.len,λi d e=>by obtain⟨v,x,r⟩:=h.at' i d e;exact⟨v,x,RD.mono s r⟩⟩
theorem RL.set (h:RL K F H m J L) (r:RD K F H m d v) (i:Nat):RL K F H m (J.set i (some v)) (L.set i (some d)):=⟨by rw [c_,c_];exact h.len,fun j e q=>by
 by_cases x:i=j
 .subst x;by_cases a:i < L.length
  .rw [bv a]at q;cases q;exact⟨v,bv (by rw[h.len];exact a),r⟩
  .rw [pA (by rw[c_];lia)]at q;cases q
 .rw [aP x]at q;rw[aP x];exact h.at' j e q⟩
end
section
variable{X:Cx}{e:Expr}{l:Ab}{q:Stmt}{sts:List Stmt}
theorem _root_.L2.Y.imp'(h:Y X e t)(i:∀J H Q,k J H Q->t J H Q):Y X e k:=λp s J H Q I q=>h p s J H Q I (i J H Q q)
theorem _root_.L2.PT.imp'(h:PT X e t)(i:∀J H Q,k J H Q->t J H Q):PT X e k:=λp s J H Q I q=>h p s J H Q I (i J H Q q)
theorem _root_.L2.PW.imp'(h:PW X e t)(i:∀J H Q,k J H Q->t J H Q):PW X e k:=λw p s J H Q I q=>h w p s J H Q I (i J H Q q)
theorem _root_.L2.PA.imp'(h:PA X l t)(i:∀J H Q,k J H Q->t J H Q):PA X l k:=λM p s J H Q I q=>h M p s J H Q I (i J H Q q)
theorem _root_.L2.PS.imp'(h:PS X q t)(i:∀D J H,k D J H->t D J H):PS X q k:=λp s J H D I x=>h p s J H D I (i D J H x)
theorem _root_.L2.nZ.imp'(h:nZ X sts t)(i:∀D J H,k D J H->t D J H):nZ X sts k:=λp s J H D I q=>h p s J H D I (i D J H q)
end
section
variable{X:Cx}{a b c e:Expr}{l:Ab}{fa fb:EV}{fe:EE}{M:Pos}
theorem PD(h:Y X e (tE X.K fe)):Y X e (tV X.K (vE fe)):=h.imp' λJ H Q z=>by obtain⟨F,m,L,S,d,N,r,l,q,k⟩:=z;obtain⟨a,x,n,f⟩:=ah q;refine⟨F,m,L,S,a,x,r,l,n,λv F' m' H' s b t=>?_⟩;obtain⟨B,w,c,_,p⟩:=nD 9 f b t;exact k v B m' H' (s.trans w) c p
theorem Me(h:Y X e (tV X.K fa)):Y X e (tE X.K (O fa)):=h.imp' λJ H Q z=>by obtain⟨F,m,L,S,d,N,r,l,q,k⟩:=z;obtain⟨x,c,a,n⟩:=ah q;cases n;exact⟨F,m,L,S,x,N,r,l,a,λv F' m' H' s f b=>k v F' m' H' s f b⟩
theorem MN(i:Nat)(s:X.N[i]? = some x:=by rfl)(n:IU X.e.scope x:=by first|exact Or.inl rfl|exact Or.inr (Or.inl rfl)|exact Or.inr (Or.inr rfl))(hd:(x == ("__debug__":Str))=false:=by decide)
  (h:(x == ("__classdict__":Str))=false:=by decide):Y X (.Name x M) (tE X.K (ak i)):=(KH s n hd h).imp' λJ H Q z=>by
 obtain⟨F,m,L,S,d,N,r,l,q,k⟩:=z;unfold ak at q;split at q
 .rename_i b e;cases q;obtain⟨v,a,f⟩:=l.at' i _ e;exact⟨v,a,k v F m H .refl r f⟩
 .cases q
theorem xC(h:Y X e (tC v))(r:∀F H,RP X.K F H d v):Y X e (tV X.K (vC d)):=h.imp' λJ H Q z=>by obtain⟨F,m,L,S,a,N,x,l,q,k⟩:=z;cases q;exact k v F m H .refl x (r F H)
theorem PY {i h M}:Y X (.Constant (.int i) h M) (tV X.K (vC (.int i))):=xC KQ λ_ _=>rfl
theorem RW {i h M}:Y X (.Constant (.bool i) h M) (tV X.K (vC (.bl i))):=xC Nx λ_ _=>rfl
theorem PM {h M}:Y X (.Constant .none h M) (tV X.K (vC .non)):=xC KP λ_ _=>rfl
theorem PH {i h M}:Y X (.Constant (.str i) h M) (tV X.K (vC (.str i))):=xC KJ λ_ _=>rfl
inductive rPI(K:FG)(g:P->P->Option P)(x:V)(y:V)(H:Hp)(Q:VK):Prop
 |mk (F:Aa) (dx:P) (dy:P) (d:P) (h0_:(∀a,F a->H a≠none)) (h1_:RP K F H dx x) (h2_:RP K F H dy y) (h3_:g dx dy=some d) (h4_:∀v F' H',Grow F H F' H'->RP K F' H' d v->Q v H'):rPI K g x y H Q
noncomputable def rP(K:FG)(g:P->P->Option P):R2:=λx y H Q=>rPI K g x y H Q
def oS(X:Cx)(f:Value->Value->Sem Value)(g:P->P->Option P):Prop:=i4 X f (rP X.K g)
theorem uA(h:tV X.K (kh g fa fb) J H Q):Kb (rP X.K g) (tV X.K fa) (tV X.K fb) J H Q:=by
 obtain⟨F,m,L,S,d,N,r,l,q,k⟩:=h;obtain⟨x,s,j,q⟩:=ah q;obtain⟨y,i,o,q⟩:=ah q;refine⟨F,m,L,S,x,s,r,l,j,λv C K z b G A=>?_⟩;refine⟨C,K,L,s,y,i,G,l.mono b,o,λu B P I c f D=>?_⟩;cases e:g x y with
 |none=>rw[e]at q;cases q
 |some a=>rw[e]at q;cases q;refine⟨B,x,y,_,f.ft,RP.mono c A,D,e,λw t p n E=>?_⟩;exact k w t P p (b.trans (c.trans n.stp)) (f.grow n) E
theorem RT(o:oS X (binaryOp k) g)(x:Y X a (tV X.K fa))(e:Y X b (tV X.K fb)):Y X (.BinOp a k b M) (tV X.K (kh g fa fb)):=
 (Nw o x e).imp' λ_ _ _ h=>uA h
theorem P0(o:oS X (compareOp k) g)(x:Y X a (tV X.K fa))(e:Y X b (tV X.K fb))(m:behindInMarks k b=false):Y X (.Compare a [k] [b] M) (tV X.K (kh g fa fb)):=
 (Ba o x e m).imp' λ_ _ _ h=>uA h
theorem DQ(h:tQ X.K (bV (kh g fa fb)) J H Q):DR (Kb (rP X.K g) (tV X.K fa) (tV X.K fb)) J H Q:=by
 refine uA ?_;obtain⟨F,m,L,S,d,N,r,l,q,k⟩:=h;obtain⟨x,n,e,q⟩:=ah q;cases x with
 |bl b=>cases q;exact⟨F,m,L,S,_,_,r,l,e,λv F' m' H' s a p=>⟨_,p,k F' m' H' s a⟩⟩
 |_=>cases q
theorem PB(o:oS X (compareOp k) g)(x:Y X a (tV X.K fa))(e:Y X b (tV X.K fb))(m:behindInMarks k b=false):PT X (.Compare a [k] [b] M) (tQ X.K (bV (kh g fa fb))):=
 (A7 o x e m).imp' λ_ _ _ h=>DQ h
variable{qa qb:EB}{j:Ab}
theorem MJ(h:PT X a (tQ X.K qa)):PW X (.BoolOp .And [a] M) (tQ X.K qa):=Hy h
theorem Py(h:PT X a (tQ X.K qa)):PW X (.BoolOp .Or [a] M) (tQ X.K qa):=Kr h
theorem PC(n:PT X a (tQ X.K qa))(f:PW X (.BoolOp .And (b::j) M) (tQ X.K qb)):PW X (.BoolOp .And (a::b::j) M) (tQ X.K (kG qa qb)):=
 (Ks n f).imp' λJ H Q z=>by
  obtain⟨F,m,L,S,d,N,r,l,q,k⟩:=z;obtain⟨c,h,e,q⟩:=ah q;refine⟨F,m,L,S,c,h,r,l,e,λF' m' H' s x=>?_⟩;cases c with
  |true=>rw[ac rfl]at q ⊢;exact⟨F',m',L,h,d,N,x,l.mono s,q,λB t I v p=>k B t I (s.trans v) p⟩
  |false=>rw[af bx]at q ⊢;cases q;exact k F' m' H' s x
theorem RR(n:PT X a (tQ X.K qa))(f:PW X (.BoolOp .Or (b::j) M) (tQ X.K qb)):PW X (.BoolOp .Or (a::b::j) M) (tQ X.K (C0 qa qb)):=
 (Nr n f).imp' λJ H Q z=>by
  obtain⟨F,m,L,S,d,N,r,l,q,k⟩:=z;obtain⟨c,h,e,q⟩:=ah q;refine⟨F,m,L,S,c,h,r,l,e,λF' m' H' s x=>?_⟩;cases c with
  |false=>rw[af bx]at q ⊢;exact⟨F',m',L,h,d,N,x,l.mono s,q,λB t I v p=>k B t I (s.trans v) p⟩
  |true=>rw[ac rfl]at q ⊢;cases q;exact k F' m' H' s x
theorem Pz(h:PT X a (tQ X.K qa)):PT X (.UnaryOp .Not a M) (tQ X.K (wT qa)):=
 (Kt h).imp' λJ H Q z=>by obtain⟨F,m,L,S,d,N,r,l,q,k⟩:=z;obtain⟨c,n,e,q⟩:=ah q;cases q;exact⟨F,m,L,S,c,N,r,l,e,λF' m' H' s x=>k F' m' H' s x⟩
theorem MV {k} (h:Y X a (tV X.K (vB qa))):Y X (.BoolOp k [a] M) (tV X.K (vB qa)):=KL h
theorem vJ(h:tQ X.K qa J H k)(hk:∀b H',k b H'->Q (.bl b) H'):tV X.K (vB qa) J H Q:=by obtain⟨F,m,L,S,d,N,r,l,q,x⟩:=h;exact⟨F,m,L,S,.bl d,N,r,l,by unfold vB;rw[q];rfl,λv F' m' H' s a p=>by rw[show v=.bl d from p];exact hk _ _ (x F' m' H' s a)⟩
theorem Bg(h:tV X.K (vB qa) J H Q):tQ X.K qa J H λb H'=>Q (.bl b) H':=by obtain⟨F,m,L,S,d,N,r,l,q,k⟩:=h;obtain⟨c,a,e,q⟩:=ah q;cases q;exact⟨F,m,L,S,c,N,r,l,e,λF' m' H' s x=>k _ F' m' H' s x rfl⟩
theorem P1(f:Y X a (tV X.K (vB qa)))(t:Y X (.BoolOp .And (b::j) M) (tV X.K (vB qb))):Y X (.BoolOp .And (a::b::j) M) (tV X.K (vB (kG qa qb))):=
 (KU f t).imp' λJ H Q h=>by
  obtain⟨F,m,L,S,d,N,r,l,q,k⟩:=Bg h;obtain⟨c,x,n,q⟩:=ah q;refine vJ (k:=λc z=>if c=true then tV X.K (vB qb) J z Q else Q (.bl false) z) ⟨F,m,L,S,c,x,r,l,n,λF' m' H' s e=>?_⟩ λb H' q=>⟨b,rfl,q⟩;cases c with
  |true=>rw[ac rfl]at q ⊢;exact vJ (k:=λb I=>Q (.bl b) I) ⟨F',m',L,x,d,N,e,l.mono s,q,λB p I w v=>k B p I (s.trans w) v⟩ λ_ _ q=>q
  |false=>rw[af bx]at q ⊢;cases q;exact k F' m' H' s e
theorem RS(f:Y X a (tV X.K (vB qa)))(t:Y X (.BoolOp .Or (b::j) M) (tV X.K (vB qb))):Y X (.BoolOp .Or (a::b::j) M) (tV X.K (vB (C0 qa qb))):=
 (Nv f t).imp' λJ H Q h=>by
  obtain⟨F,m,L,S,d,N,r,l,q,k⟩:=Bg h;obtain⟨c,x,n,q⟩:=ah q;refine vJ (k:=λc z=>if c=true then Q (.bl true) z else tV X.K (vB qb) J z Q) ⟨F,m,L,S,c,x,r,l,n,λF' m' H' s e=>?_⟩ λb H' q=>⟨b,rfl,q⟩;cases c with
  |false=>rw[af bx]at q ⊢;exact vJ (k:=λb I=>Q (.bl b) I) ⟨F',m',L,x,d,N,e,l.mono s,q,λB p I w v=>k B p I (s.trans w) v⟩ λ_ _ q=>q
  |true=>rw[ac rfl]at q ⊢;cases q;exact k F' m' H' s e
theorem PK(x:Y X a (tV X.K (vB qa))):Y X (.UnaryOp .Not a M) (tV X.K (vB (wT qa))):=
 (KO x).imp' λJ H Q h=>by obtain⟨F,m,L,S,d,N,r,l,q,k⟩:=Bg h;obtain⟨c,f,e,q⟩:=ah q;cases q;exact vJ (k:=λb H'=>Q (.bl (!b)) H') ⟨F,m,L,S,c,N,r,l,e,λF' m' H' s n=>k F' m' H' s n⟩ λb H' q=>⟨b,rfl,q⟩
theorem AR(h:Y X e (tV X.K fa)):Y X e (tV X.K (vB (bV fa))):=h.imp' λJ H Q h=>by
 obtain⟨F,m,L,S,d,N,r,l,q,k⟩:=Bg h;obtain⟨x,f,a,q⟩:=ah q;cases x with
 |bl b=>cases q;exact⟨F,m,L,S,_,_,r,l,a,λv F' m' H' s n p=>by cases (show v=.bl d from p);exact k F' m' H' s n⟩
 |_=>cases q
theorem RV(u:PT X c (tQ X.K qa))(p:Y X a (tV X.K fa))(w:Y X b (tV X.K fb)):Y X (.IfExp c a b M) (tV X.K (M0 qa fa fb)):=
 (En u p w).imp' λJ H Q z=>by
  obtain⟨F,m,L,S,d,N,r,l,q,k⟩:=z;obtain⟨c,h,t,q⟩:=ah q;refine⟨F,m,L,S,c,h,r,l,t,λF' m' H' s f=>?_⟩;cases c with
  |true=>rw[ac rfl]at q ⊢;exact⟨F',m',L,h,d,N,f,l.mono s,q,λv B x I n e=>k v B x I (s.trans n) e⟩
  |false=>rw[af bx]at q ⊢;exact⟨F',m',L,h,d,N,f,l.mono s,q,λv B x I n e=>k v B x I (s.trans n) e⟩
variable{fs:j_}
theorem IS:PA X [] (rh X.K aS):=ij.imp' λJ H Q h=>by obtain⟨F,m,L,S,d,N,r,l,q,k⟩:=h;cases q;exact k [] F m H .refl r rfl
theorem Ga(c:Y X e (tV X.K fa))(t:PA X l (rh X.K fs))(p:starEach (e::l) X.e=(false,eval e X.e)::starEach l X.e:=by rfl):PA X (e::l) (rh X.K (aF fa fs)):=
 (eW c t p).imp' λJ H Q w=>by obtain⟨F,m,L,S,d,N,r,h,q,k⟩:=w;obtain⟨x,a,f,q⟩:=ah q;obtain⟨xs,K,b,q⟩:=ah q;cases q;refine⟨F,m,L,S,x,a,r,h,f,λv C u z s y i=>?_⟩;refine⟨C,u,L,a,xs,N,y,h.mono s,b,λT B g I n o j=>?_⟩;exact k (v::T) B g I (s.trans n) o ⟨v,T,rfl,RP.mono n i,j⟩
noncomputable def few(xs:List α):Bool:=decide (xs.length≤1000000)
theorem lI{α:Type}{xs:List α}(h:few xs=true):xs.length≤sizeLine:=au (aJ h) (by decide)
@[simp] def aL(a:j_)(L:Lc)(S:U):tyV:=bI (a L S) λxs h=>if few xs=true then some (.tup xs,h) else none
@[simp] def bu(a:j_)(L:Lc)(S:U):tyV:=bI (a L S) λxs h=>if few xs=true then some (.lst xs,h) else none
@[simp] def dE(a:j_)(L:Lc)(S:U):wY:=bI (a L S) λxs h=>if few xs=true then some (.ref h.length,h++[.lst (xs.map .p)]) else none
theorem PF {u} (h:PA X l (rh X.K fs)):Y X (.Tuple l u M) (tV X.K (aL fs)):=(uG h).imp' λJ H Q n=>by
 obtain⟨F,m,L,S,d,N,r,x,q,k⟩:=n;obtain⟨xs,v,s,q⟩:=ah q;split at q
 .rename_i f;cases q;refine⟨F,m,L,S,xs,N,r,x,s,λT C b z t c e=>⟨by rw[<- e.length];exact lI f,λp a=>?_⟩⟩;exact k (.ref p) C b _ (t.trans (cg a).stp) (c.grow (cg a)) (.newTup a e)
 .cases q
theorem PQ(h:PA X l (rh X.K fs)):Y X (.List l M) (tV X.K (bu fs)):=(El h).imp' λJ H Q n=>by
 obtain⟨F,m,L,S,d,N,r,x,q,k⟩:=n;obtain⟨xs,v,s,q⟩:=ah q;split at q
 .rename_i f;cases q;refine⟨F,m,L,S,xs,N,r,x,s,λT C b z t c e=>⟨by rw[<- e.length];exact lI f,λp a=>?_⟩⟩;exact k (.ref p) _ b _ (t.trans (cK a).stp) (c.grow (cK a)) (.newLst a e)
 .cases q
theorem IZ(h:PA X l (rh X.K fs)):Y X (.List l M) (tE X.K (dE fs)):=(El h).imp' λJ H Q v=>by
 obtain⟨F,m,L,S,d,N,r,x,q,k⟩:=v;obtain⟨xs,b,c,q⟩:=ah q;split at q
 .rename_i t;cases q;refine⟨F,m,L,S,xs,b,r,x,c,λT C a z w n s=>⟨by rw[<- s.length];exact lI t,λp e=>?_⟩⟩;have f:Stp C a z C (a++[p]) (bO z p (.lst T)):=dD e;refine k (.ref p) C (a++[p]) _ (w.trans f) (n.own e ⟨T,aD,cV.ofP (b7.mono f s)⟩) ⟨p,rfl,?_⟩;rw[<- n.len,bH (ag _)];simp
 .cases q
def rC(K:FG)(g:List P->Option P):List V->Hp->VK->Prop:=λxs H Q=>∃F s d,(∀a,F a->H a≠none)/\b7 K F H s xs/\g s=some d/\∀v F' H',Grow F H F' H'->RP K F' H' d v->Q v H'
theorem xE(h:tV X.K (cL g fs) J H Q):rh X.K fs J H λT z=>rC X.K g T z Q:=by
 obtain⟨F,m,L,S,d,N,r,l,q,k⟩:=h;obtain⟨xs,t,n,q⟩:=ah q;cases e:g xs with
 |none=>rw[e]at q;cases q
 |some x=>rw[e]at q;cases q;exact⟨F,m,L,S,xs,_,r,l,n,λT C f z c s b=>⟨C,xs,_,s.ft,b,e,λv B I a p=>k v B f I (c.trans a.stp) (s.grow a) p⟩⟩
theorem JV{x:Str}{p:Pos}{id:String}{g:List P->Option P}(c:eE X (.builtin id) (rC X.K g))(k:Gl X x)(m:X.g x=none)(v:bootBuiltins x=some (.builtin id))(s:PA X (e::l) (rh X.K fs))(f:x≠"__name__":=by decide)(d:(x == ("__debug__":Str))=false:=by decide)
  (n:starEach (e::l) X.e=(false,eval e X.e)::starEach l X.e:=by rfl) (a:(backTo M (starEach l X.e)).any (·.1)=false:=by rfl):Y X (.Call (.Name x p) (e::l) [] M) (tV X.K (cL g fs)):=
 (mG c k m v s f d n a).imp' λ_ _ _ h=>xE h
theorem xu(c:eE X (.type k) (rC X.K g))(f:Gl X x)(m:X.g x=none)(v:bootBuiltins x=some (.type k))(s:PA X (e::l) (rh X.K fs))(b:x≠"__name__":=by decide)(d:(x == ("__debug__":Str))=false:=by decide)
  (n:starEach (e::l) X.e=(false,eval e X.e)::starEach l X.e:=by rfl) (a:(backTo M (starEach l X.e)).any (·.1)=false:=by rfl):Y X (.Call (.Name x p) (e::l) [] M) (tV X.K (cL g fs)):=
 (nL c f m v s b d n a).imp' λ_ _ _ h=>xE h
noncomputable def OP(K:FG)(g:List P->Option P):Sp:=λT H Q _=>rC K g T H Q
theorem MU(G:FnOk X.p X.w X.K X.g X.b oF k f t ps (OP X.K g))(j:Room k X.A)(u:Gl X x)(i:X.g x=some (.ref f))(hk:dH X.K (.ref f)=true)(v:Binds X.K t ps [])
  (c:PA X (e::l) (rh X.K fs)) (d:(x == ("__debug__":Str))=false:=by decide) (w:starEach (e::l) X.e=(false,eval e X.e)::starEach l X.e:=by rfl) (n:(backTo M (starEach l X.e)).any (·.1)=false:=by rfl) :
  Y X (.Call (.Name x p) (e::l) [] M) (tV X.K (cL g fs)):=
 (uH G j u i hk v .nil si c d w n).imp' λJ H Q h=>by obtain⟨F,m,L,S,b,N,r,a,q,k⟩:=xE h;exact⟨F,m,L,S,b,N,r,a,q,λxs F' m' H' s y p=>by show OP X.K g (xs++[]) H' Q E0;rw[cZ];exact k xs F' m' H' s y p⟩
end
section
variable{X:Cx}{a b e:Expr}{q:Stmt}{j bs cs:List Stmt}{f g:ES}{fe:EE}{qa:EB}{M:Pos}
theorem Pu:nZ X [] (kl X.K fY):=HA.imp' λD J H h=>by obtain⟨F,m,L,S,f,x,N,r,l,q,k⟩:=h;cases q;exact k J F m H .refl r l
theorem MF(o:PS X q (kl X.K f))(K:nZ X j (kl X.K g)):nZ X (q::j) (kl X.K (ai f g)):=(Eb o K).imp' λD J H P=>by
 obtain⟨F,m,L,S,u,w,N,r,l,h,k⟩:=P;cases e:f L S with
 |none=>rw[show ai f g L S=none by unfold ai;rw[e]]at h;cases h
 |some x=>
  obtain⟨i,p,v⟩:=x;cases i with
  |nx=>
   have n:g p v=some (u,w,N):=by have:=h;unfold ai at this;rw[e]at this;exact this
   exact⟨F,m,L,S,.nx,p,v,r,l,e,λt C s z c b a=>⟨C,s,p,v,u,w,N,b,a,n,λy B E I M G A=>k y B E I (c.trans M) G A⟩⟩
  |rt d=>
   have n:some (Fl.rt d,p,v)=some (u,w,N):=by have:=h;unfold ai at this;rw[e]at this;exact this
   cases n;exact⟨F,m,L,S,_,_,_,r,l,e,λt C s z c b a=>k t C s z c b a⟩
  |bk=>
   have n:some (Fl.bk,p,v)=some (u,w,N):=by have:=h;unfold ai at this;rw[e]at this;exact this
   cases n;exact⟨F,m,L,S,_,_,_,r,l,e,λt C s z c b a=>k t C s z c b a⟩
  |ct=>
   have n:some (Fl.ct,p,v)=some (u,w,N):=by have:=h;unfold ai at this;rw[e]at this;exact this
   cases n;exact⟨F,m,L,S,_,_,_,r,l,e,λt C s z c b a=>k t C s z c b a⟩
theorem Pt(h:PS X q (kl X.K f)):nZ X [q] (kl X.K f):=Hz h
theorem JA(h:Y X e (tE X.K fe)):PS X (.Return (some e) M) (kl X.K (be fe)):=(Kv h).imp' λD J H z=>by obtain⟨F,m,L,S,b,n,N,r,l,q,k⟩:=z;obtain⟨d,f,x,q⟩:=ah q;cases q;exact⟨F,m,L,S,d,N,r,l,x,λv F' m' H' s a p=>k J F' m' H' s a (l.mono s) v p⟩
theorem ME(h:Y X e (tE X.K fe))(a:swapsWith e none M.line X.e=pure false:=by rfl):PS X (.Expr e M) (kl X.K (b9 fe)):=(HC h a).imp' λD J H z=>by obtain⟨F,m,L,S,c,f,N,r,l,q,k⟩:=z;obtain⟨d,b,x,q⟩:=ah q;cases q;exact⟨F,m,L,S,d,N,r,l,x,λv F' m' H' s n p=>k J F' m' H' s n (l.mono s)⟩
theorem xt(i:Nat)(n:X.N.Nodup)(h:Y X e (tE X.K fe))(b:X.N[i]? = some x:=by rfl)(w:Loc X.e.scope x:=by first|exact Or.inl rfl|exact Or.inr rfl)(c:swapsWith e (some (.Name x t)) M.line X.e=pure false:=by rfl)
  (f:X.fn x=true\/X.e.scope.names.lookup x=some .local:=by first|exact .inl rfl|exact .inr rfl|assumption):PS X (.Assign [.Name x t] e M) (kl X.K (aC i fe)):=
 (Ku n b w h c f).imp' λD J H z=>by obtain⟨F,m,L,S,y,g,N,r,l,q,k⟩:=z;obtain⟨d,j,a,q⟩:=ah q;cases q;exact⟨F,m,L,S,d,N,r,l,a,λv F' m' H' s u p=>k (J.set i (some v)) F' m' H' s u ((l.mono s).set p i)⟩
theorem RQ(i:PT X c (tQ X.K qa))(w:nZ X bs (kl X.K f))(u:nZ X cs (kl X.K g)):PS X (.If c bs cs M) (kl X.K (dG qa f g)):=(Nt i w u).imp' λD J H z=>by
 obtain⟨F,m,L,S,p,t,N,r,l,q,k⟩:=z;obtain⟨c,x,d,q⟩:=ah q;refine⟨F,m,L,S,c,x,r,l,d,λF' m' H' s v=>?_⟩;cases c with
 |true=>rw[ac rfl]at q ⊢;exact⟨F',m',L,x,p,t,N,v,l.mono s,q,λh B e I b n a=>k h B e I (s.trans b) n a⟩
 |false=>rw[af bx]at q ⊢;exact⟨F',m',L,x,p,t,N,v,l.mono s,q,λh B e I b n a=>k h B e I (s.trans b) n a⟩
theorem JB:PS X q (kl X.K uF):=Ed.imp' λD J H z=>by obtain⟨F,m,L,S,f,x,N,r,l,h,k⟩:=z;cases h
inductive gTI(K:FG)(g:kc)(x:V)(J:L2.St)(H:Hp)(Q:L2.St->Hp->Prop):Prop
 |mk (F:Aa) (m:List Addr) (L:Lc) (v:P) (L':Lc) (h0_:RL K F H m J L) (h1_:RP K F H v x) (h2_:g v L=some L') (h3_:∀J',RL K F H m J' L'->Q J' H):gTI K g x J H Q
noncomputable def gT(K:FG)(g:kc):TG:=λx J H Q=>gTI K g x J H Q
theorem _root_.L2.PG.imp'(h:PG X tg t)(i:∀v J H Q,k v J H Q->t v J H Q):PG X tg k:=λp s J H v u Q I r q=>h p s J H v u Q I r (i v J H Q q)
theorem LB(i:Nat)(h:X.N.Nodup)(a:X.N[i]? = some x:=by rfl)(e:Loc X.e.scope x:=by first|exact Or.inl rfl|exact Or.inr rfl)(f:X.fn x=true\/X.e.scope.names.lookup x=some .local:=by first|exact .inl rfl|exact .inr rfl|assumption) :
  PG X (.Name x M) (gT X.K (av i)):=(HK h a e f).imp' λv J H Q z=>by
 obtain⟨F,m,L,d,s,l,p,q,k⟩:=z;cases q;exact k _ (l.set (d:=.p d) p i)
def Mb(K:FG)(a:It)(T:List P)(F:Aa)(m:List Addr)(H:Hp):Prop:=∀B s I,Stp F m H B s I ->
 (∀(i:Nat) v,T[i]? = some v->a.go i I/\∀x h,a.yld i I x h->∃e,Grow B I e h/\RP K e h v x)/\a.stop T.length I
inductive tII(K:FG)(f:j_)(J:L2.St)(H:Hp)(R:It->Hp->Prop):Prop
 |mk (F:Aa) (m:List Addr) (L:Lc) (S:U) (vs:List P) (S':U) (h0_:Rel K F H m S) (h1_:RL K F H m J L) (h2_:f L S=some (vs,S')) (h3_:∀J9 F' m' H',Stp F m H F' m' H'->Rel K F' H' m' S'->Mb K J9 vs F' m' H'->R J9 H'):tII K f J H R
noncomputable def tI(K:FG)(f:j_):TI:=λJ H R=>tII K f J H R
theorem Pw{tg iter:Expr}{fi:j_}{g:kc}{b:List Stmt}{fb:ES}(hp:PassesOwn (model X.p X.w) X.A X.e X.xe)(hc:X.c=true)(hi:PI X tg iter (tI X.K fi))(hg:PG X tg (gT X.K g))(hb:nZ X b (kl X.K fb))
  (hs:∀x,foldedSetIterable iter X.e x=pure x:=by intro _;rfl):PS X (.For tg iter b [] M) (kl X.K (cw fi g fb)):=
 (Kw hp hc hi hg hb hs).imp' λD J H hz=>by
  obtain⟨F,m,L,S,fl,L',N,r,l,q,k⟩:=hz;obtain⟨T,S1,e1,q⟩:=ah q;refine⟨F,m,L,S,T,S1,r,l,e1,fun J9 C u z P r1 it=>?_⟩;refine⟨fun i n Q I=>n=T.length-i/\i≤T.length/\∃B s L2 f,Stp C u z B s I/\Rel X.K B I s f/\RL X.K B I s Q L2/\b_ g fb (T.drop i) L2 f=some (fl,L',N),
   ⟨T.length,rfl,bX _,C,u,L,S1,.refl,r1,l.mono P,by rw[l7];exact q⟩,?_⟩
  rintro i n Q I ⟨rfl,hi,B,s,L2,f,s2,r2,l2,a⟩;obtain⟨go,o⟩:=it B s I s2;by_cases t:i < T.length
  .right;have hv:T[i]? = some T[i]:=by simp[t]
   rw[z4 t]at a;obtain⟨hgo,hy⟩:=go i _ hv;refine⟨hgo,λJ3 c=>∃n',n' < T.length-i/\(n'=T.length-(i+1)/\i+1≤T.length/\∃B s L2 f,Stp C u z B s c/\Rel X.K B c s f/\RL X.K B c s J3 L2/\b_ g fb (T.drop (i+1)) L2 f=some (fl,L',N)),λ_ _ h=>h,λx c y=>?_⟩;obtain⟨G,gr,p3⟩:=hy x c y;unfold b_ at a;cases eg:g T[i] L2 with
   |none=>rw[eg]at a;cases a
   |some R=>
    rw[eg]at a;dsimp only at a;refine⟨G,s,L2,T[i],R,l2.mono gr.stp,p3,eg,λJ3 l3=>?_⟩;have A:Stp C u z G s c:=s2.trans gr.stp;have r3:=r2.grow gr;cases Z:fb R f with
    |none=>rw[Z]at a;cases a
    |some h=>
     obtain⟨p,V,W⟩:=h;rw[Z]at a;refine⟨G,s,R,f,p,V,W,r3,l3,Z,λJ4 v j H4 E K w=>?_⟩;cases p with
     |nx=>exact⟨T.length-(i+1),by lia,rfl,t,v,j,V,W,A.trans E,K,w,a⟩
     |ct=>exact⟨T.length-(i+1),by lia,rfl,t,v,j,V,W,A.trans E,K,w,a⟩
     |bk=>cases a;exact k J4 v j H4 (P.trans (A.trans E)) K w
     |rt d=>cases a;exact k J4 v j H4 (P.trans (A.trans E)) K w
  .left;have e:i=T.length:=by lia
   subst e;rw[pj]at a;cases a;exact⟨o,k Q B s I (P.trans s2) r2 l2⟩
theorem Jz(hp:PassesOwn (model X.p X.w) X.A X.e X.xe)(hc:PT X c (tQ X.K qa))(Z:nZ X t (kl X.K fb)):PS X (.While c t [] M) (kl X.K (nH n qa fb)):=
 (Ec hp hc Z).imp' λD J H hz=>by
  obtain⟨F,m,L,S,G,E,N,r,l,q,k⟩:=hz;refine⟨λn j I=>∃B x L2 a,Stp F m H B x I/\Rel X.K B I x a/\RL X.K B I x j L2/\hU qa fb n L2 a=some (G,E,N),⟨n,F,m,L,S,.refl,r,l,q⟩,?_⟩;rintro n j I ⟨B,x,L2,a,b,r2,A,R⟩;cases n with
  |zero=>cases R
  |succ n=>
   obtain⟨c,o,W,h⟩:=ah (show bI (qa L2 a) _=_ from R);refine⟨B,x,L2,a,c,o,r2,A,W,λC Q V s T=>?_⟩;cases c with
   |false=>rw[af bx]at h ⊢;cases h;exact k j C Q V (b.trans s) T (A.mono s)
   |true=>
    rw[ac rfl]at h ⊢;cases P:fb L2 o with
    |none=>rw[P]at h;cases h
    |some z=>
     obtain⟨f,y,K⟩:=z;rw[P]at h;refine⟨λv e=>∃m',m' < n+1/\∃B x L2 a,Stp F m H B x e/\Rel X.K B e x a/\RL X.K B e x v L2/\hU qa fb m' L2 a=some (G,E,N),λ_ _ z=>z,C,Q,L2,o,f,y,K,T,A.mono s,P,λv p u e i g w=>?_⟩;cases f with
     |nx=>exact⟨n,jA _,p,u,y,K,b.trans (s.trans i),g,w,h⟩
     |ct=>exact⟨n,jA _,p,u,y,K,b.trans (s.trans i),g,w,h⟩
     |bk=>cases h;exact k v p u e (b.trans (s.trans i)) g w
     |rt d=>cases h;exact k v p u e (b.trans (s.trans i)) g w
end
theorem Stp.toGrow(s:Stp F [] H F' m' H')(f:∀a,F' a->H' a≠none):Grow F H F' H':=
 ⟨fun b o h=>s.oth b o h (by simp),s.frz,fun b h=>by
  rcases s.nf b h with q|q|q
  .exact .inl q
  .exact .inr ⟨q,f b h⟩
  .simp at q⟩
theorem lj{α:Prop}{β:Type}{d:β}(h:(none:Option β)=some d):α:=nomatch h
noncomputable def iq(n:Nat):Bool:=decide (n≤1000000)
theorem iP(h:iq n=true):n≤sizeLine:=au (aJ h) (by decide)
section
variable{X:Cx}
def vg:P->P->Option P
 | .int i,.int j=>some (.int (i+j))
 | .str x,.str y=>if iq (x.length+y.length)=true then some (.str (x++y)) else none
 | .tup xs,.tup s=>if (!xs.isEmpty && iq (xs.length+s.length))=true then some (.tup (xs++s)) else none
 | .lst xs,.lst s=>if iq (xs.length+s.length)=true then some (.lst (xs++s)) else none
 |_,_=>none
theorem NN:oS X (binaryOp .Add) vg:=by
 intro n s J H x y v u Q I o S h;obtain⟨F,E,t,d,L,w,g,q,k⟩:=h;cases E with
 |int i=>
  cases t with
  |int j=>cases q;cases (show x=.int i from w);cases (show y=.int j from g);exact K3 n s J H _ _ v u Q I o S ⟨i,j,rfl,rfl,k _ F H .refl rfl⟩
  |_=>exact lj q
 |str i=>
  cases t with
  |str j=>
   simp only[vg]at q;split at q
   .rename_i c;cases q;cases (show x=.str i from w);cases (show y=.str j from g);exact xS n s J H _ _ v u Q I o S ⟨i,j,rfl,rfl,iP c,k _ F H .refl rfl⟩
   .cases q
  |_=>exact lj q
 |tup B=>
  cases t with
  |tup l=>
   simp only[vg]at q;split at q
   .rename_i c;rw[ar]at c;cases q;obtain⟨a,xs,rfl,K,r⟩:=w;obtain⟨b,A,rfl,P,m⟩:=g;have C:=r.length;have D:=m.length;have G:xs≠[]:=λz=>by
     subst z;have:B=[]:=g9 C;subst this;simp at c
    refine HS n s J H _ _ v u Q I o S ⟨a,b,xs,A,rfl,rfl,K.sq,P.sq,G,by rw[<- C,<- D];exact iP c.2,λz=>?_,λ_ p f=>?_⟩
    .subst z;have e:l=[]:=g9 D;subst e;refine k _ F H .refl ?_;rw[cZ];exact⟨a,xs,rfl,K,r⟩
    .exact k _ F _ (cg f) (.newTup f (r.append m))
   .cases q
  |_=>exact lj q
 |lst B=>
  cases t with
  |lst l=>
   simp only[vg]at q;split at q
   .rename_i c;cases q;obtain⟨a,xs,rfl,K,r⟩:=w;obtain⟨b,A,rfl,P,m⟩:=g;exact K2 n s J H _ _ v u Q I o S ⟨a,b,xs,A,rfl,rfl,K.2,P.2,by rw[<- r.length,<- m.length];exact iP c,λp f=>k _ _ _ (cK f) (.newLst f (r.append m))⟩
   .cases q
  |_=>exact lj q
 |_=>exact lj q
noncomputable def Gh(c:Int->Int->Bool)(g:Int->Int->P):P->P->Option P
 | .int i,.int j=>if c i j=true then some (g i j) else none
 |_,_=>none
@[simp] theorem IG(c:Int->Int->Bool)(g:Int->Int->P)(i j:Int):Gh c g (.int i) (.int j)=if c i j=true then some (g i j) else none:=rfl
theorem vV{f:Value->Value->Sem Value}{C:Int->Int->Prop}{a:Int->Int->V}{c:Int->Int->Bool}{g:Int->Int->P}(o:i4 X f (rI C a))(b:∀i j,c i j=true->C i j)(m:∀K F H i j,RP K F H (g i j) (a i j)):oS X f (Gh c g):=by
 intro p s J H x y v u Q I l z h;obtain⟨F,e,n,d,S,t,w,q,k⟩:=h;cases e with
 |int i=>
  cases n with
  |int j=>
   rw[IG]at q;split at q
   .rename_i r;cases q;cases (show x=.int i from t);cases (show y=.int j from w);exact o p s J H _ _ v u Q I l z ⟨i,j,rfl,rfl,b i j r,k _ F H .refl (m _ _ _ _ _)⟩
   .cases q
  |_=>exact lj q
 |_=>exact lj q
theorem qB(h:i4 X f (Hv k)):i4 X f (rI (λ_ _=>True) k):=λp s J H x y v u Q I r n ⟨i,j,e,a,_,q⟩=>h p s J H x y v u Q I r n ⟨i,j,e,a,q⟩
noncomputable abbrev Dy:Int->Int->Bool:=λ_ _=>true
abbrev LN:=Gh Dy λi j=>.int (i-j)
theorem NC:oS X (binaryOp .Sub) LN:=vV (qB KW) (λ_ _ _=>trivial) λ_ _ _ _ _=>rfl
noncomputable abbrev KC:Int->Int->Bool:=λ_ j=>decide (0 < j) && decide (j < 1152921504606846976)
theorem Ey:i4 X (binaryOp .FloorDiv) (rI (λ_ j=>0 < j/\j < 1152921504606846976) λi j=>.int (i / j)):=OT λi j _ _ _ _ _ h q=>by have a:(0:Int) < j:=h.1;have e:j < 1152921504606846976:=h.2;have x:j.natAbs.log2 < 9000:=bD ((zp (by lia)).mpr (show j.natAbs < 2 ^ 60 by lia)) (by decide);exact floordiv_int (by lia) (by rw[Int.fdiv_eq_ediv_of_nonneg i (by lia)];exact q) (.inl (PyProof.noPylong_of_log2 x))
abbrev yn:=Gh KC λi j=>.int (i / j)
theorem HU:oS X (binaryOp .FloorDiv) yn:=vV Ey (λi j h=>by rw[ar]at h;exact⟨aJ h.1,aJ h.2⟩) λ_ _ _ _ _=>rfl
abbrev LR:=Gh (λ_ j=>decide (0 < j)) λi j=>.int (i % j)
theorem NG:oS X (binaryOp .Mod) LR:=vV K0 (λi j h=>aJ h) λ_ _ _ _ _=>rfl
abbrev LP:=Gh (λi j=>decide (0≤j) && decide (j≤1000000) && decide (i.natAbs < 2 ^ 64)) λi j=>.int (i ^ j.toNat)
theorem ND:oS X (binaryOp .Pow) LP:=vV KZ (λi j h=>by simp only[ar]at h;exact⟨aJ h.1.1,aJ h.1.2,aJ h.2⟩) λ_ _ _ _ _=>rfl
abbrev IF:=Gh Dy λi j=>.bl (decide (i < j))
theorem Qy:oS X (compareOp .Lt) IF:=vV (qB Ny) (λ_ _ _=>trivial) λ_ _ _ _ _=>rfl
abbrev Oo:=Gh Dy λi j=>.bl (decide (i≤j))
theorem Qz:oS X (compareOp .LtE) Oo:=vV (qB Nz) (λ_ _ _=>trivial) λ_ _ _ _ _=>rfl
abbrev Q3:=Gh Dy λi j=>.bl (decide (j < i))
theorem QA:oS X (compareOp .Gt) Q3:=vV (qB NA) (λ_ _ _=>trivial) λ_ _ _ _ _=>rfl
abbrev Q4:=Gh Dy λi j=>.bl (decide (j≤i))
theorem QB:oS X (compareOp .GtE) Q4:=vV (qB NB) (λ_ _ _=>trivial) λ_ _ _ _ _=>rfl
noncomputable def f6(i j:Int):Bool:=decide (i.natAbs.log2+j.natAbs.log2 < 100000000)
theorem EI{i j:Int}(h:f6 i j=true):IntMulOk i j:=by
 have a:i.natAbs.log2+j.natAbs.log2 < 100000000:=aJ h;have b:∀x:Int,Builtin.Int.intBits x≤x.natAbs.log2+1:=λx=>by
  unfold Builtin.Int.intBits;split
  .exact bX _
  .exact ag _
 exact IntMulOk.of_le (b i) (b j) (by lia)
theorem HR:i4 X (binaryOp .Mult) (rI (λi j=>IntMulOk i j) λi j=>.int (i * j)):=OT λ_ _ _ _ _ _ _ h q=>mul_int q h
noncomputable def dI(x:Str)(n:Nat):Str:=⟨(List.replicate n x.cps).foldl (·++·) #[]⟩
theorem xG(x:Str):dI x 1=x:=by unfold dI;cases x;simp
theorem Cz(n:Nat):(List.replicate n (#[]:Array Nat)).foldl (·++·) #[]=#[]:=by
 induction n with
 |zero=>rfl
 |succ n i=>rw[cD,fH];simpa using i
theorem uB(x:Str)(n:Nat)(h:x.length=0):dI x n=x:=by have e:x.cps=#[]:=Array.eq_empty_of_size_eq_zero (by simpa[lT] using h);unfold dI;cases x;simp only at e;subst e;rw[Cz]
theorem yf(a:Array Nat)(n:Nat):∀b:Array Nat,((List.replicate n a).foldl (·++·) b).size=b.size+n * a.size:=by
 induction n with
 |zero=>intro b;simp
 |succ n i=>intro b;rw[cD,fH,i,Ah,lV];lia
theorem lh(x:Str)(n:Nat):(dI x n).length=n * x.length:=by unfold dI lT;simp only;rw[yf];simp
def vd:P->P->Option P
 | .int i,.int j=>if f6 i j=true then some (.int (i * j)) else none
 | .str x,.int n=>if (iq (n.toNat * x.length) && decide (n.natAbs < 1000000))=true then some (.str (dI x n.toNat)) else none
 | .lst xs,.int n=>if (iq (xs.length * n.toNat) && decide (n.natAbs < 1000000))=true then some (.lst (List.replicate n.toNat xs).flatten) else none
 |_,_=>none
theorem b7.rep(h:b7 K F H r xs):∀k:Nat,b7 K F H (List.replicate k r).flatten (List.replicate k xs).flatten
 |0=>rfl
 |k+1=>by rw[cD,cD,gn,gn];exact h.append (b7.rep h k)
theorem NF:oS X (binaryOp .Mult) vd:=by
 intro r s J H x y v u Q I o S h;obtain⟨F,B,w,d,M,g,l,q,k⟩:=h;cases B with
 |int i=>
  cases w with
  |int j=>
   simp only[vd]at q;split at q
   .rename_i c;cases q;cases (show x=.int i from g);cases (show y=.int j from l);exact HR r s J H _ _ v u Q I o S ⟨i,j,rfl,rfl,EI c,k _ F H .refl rfl⟩
   .cases q
  |_=>exact lj q
 |str i=>
  cases w with
  |int n=>
   simp only[vd]at q;split at q
   .rename_i c;rw[ar]at c;have E:=aJ c.2;have N:n.toNat * i.length≤1000000:=aJ c.1;have T:=ko;have V:(1000000:Nat)≤sizeLine:=by decide
    cases q;cases (show x=.str i from g);cases (show y=.int n from l);obtain⟨t,rfl⟩:=o;obtain⟨W,rfl⟩:=S;refine PySem.P.mul_str (by have C:decide (n < -(2 ^ 63:Int))=false:=bo (by lia);have D:decide (n ≥ 2 ^ 63)=false:=bo (by lia);rw[C,D];rfl) (λa b=>?_) (λa b=>?_) ?_
    .intro z;have R:((i.length:Nat):Int)≤(2 ^ 63-1) / n:=by
      refine(Int.le_ediv_iff_mul_le (by lia)).mpr ?_;have e:((i.length:Nat):Int) * n=((n.toNat * i.length:Nat):Int):=by rw[yJ,yK (by lia),Int.mul_comm]
      rw[e];lia
     lia
    .unfold Builtin.Str.tooLong;first
      |exact bo (by rw[kM];lia)
      |(rw[kM];exact bo (by lia))
    .have f:Q (.str (dI i n.toNat)) H:=k _ F H .refl rfl;by_cases K:n < 1
     .rw [ac K];have e:n.toNat=0:=by lia
      rw[e]at f;exact⟨by decide,⟨.str Str.empty,H,I.tok _,⟨_,rfl⟩,f⟩⟩
     .rw [af K];by_cases m:(n == 1 ||i.length == 0)=true
      .rw [ac m];rw[uj]at m;have e:dI i n.toNat=i:=by
        rcases m with m|m
        .have:n=1:=by simpa using m
         subst this;exact xG i
        .exact uB i _ (by simpa using m)
       rw[e]at f;exact⟨.str i,H,I,⟨_,rfl⟩,f⟩
      .rw [af m];refine⟨?_,⟨.str (dI i n.toNat),H,I.tok _,⟨_,rfl⟩,f⟩⟩;have:=lh i n.toNat
       unfold dI at this;rw[this];lia
   .cases q
  |_=>exact lj q
 |lst L=>
  cases w with
  |int n=>
   simp only[vd]at q;split at q
   .rename_i c;rw[ar]at c;have E:=aJ c.2;cases q;obtain⟨a,xs,rfl,G,A⟩:=g;cases (show y=.int n from l);exact KY r s J H _ _ v u Q I o S ⟨a,n,xs,rfl,rfl,G.2,by lia,by lia,by rw[<- A.length];exact iP c.1,λp P=>k _ _ _ (cK P) (.newLst P (A.rep _))⟩
   .cases q
  |_=>exact lj q
 |_=>exact lj q
noncomputable def RA:P->P->Option P
 | .int i,.int j=>some (.bl (decide (i=j)))
 | .str x,.str y=>some (.bl (decide (x=y)))
 | .bl a,.bl b=>some (.bl (decide (a=b)))
 |_,_=>none
noncomputable def LQ:P->P->Option P
 | .int i,.int j=>some (.bl (!decide (i=j)))
 | .str x,.str y=>some (.bl (!decide (x=y)))
 | .bl a,.bl b=>some (.bl (!decide (a=b)))
 |_,_=>none
theorem oA{i j:Int}:decide (V.int i=V.int j)=decide (i=j):=by
 by_cases h:i=j
 .subst h;simp
 .rw [bo h,bo λz=>h (V.int.inj z)]
theorem oz:decide (V.str i=V.str k)=decide (i=k):=by
 by_cases h:i=k
 .subst h;simp
 .rw [bo h,bo λz=>h (V.str.inj z)]
theorem qV:decide (V.bl i=V.bl k)=decide (i=k):=by
 by_cases h:i=k
 .subst h;simp
 .rw [bo h,bo λz=>h (V.bl.inj z)]
theorem QC:oS X (compareOp .Eq) RA:=by
 intro p s J H x y v u Q I r f h;obtain⟨F,b,a,d,t,e,n,q,k⟩:=h;cases b with
 |int i=>
  cases a with
  |int j=>cases q;cases (show x=.int i from e);cases (show y=.int j from n);exact Ez p s J H _ _ v u Q I r f ⟨rfl,by rw[oA];exact k _ F H .refl rfl⟩
  |_=>exact lj q
 |str i=>
  cases a with
  |str j=>cases q;cases (show x=.str i from e);cases (show y=.str j from n);exact Ez p s J H _ _ v u Q I r f ⟨rfl,by rw[oz];exact k _ F H .refl rfl⟩
  |_=>exact lj q
 |bl i=>
  cases a with
  |bl j=>cases q;cases (show x=.bl i from e);cases (show y=.bl j from n);exact Ez p s J H _ _ v u Q I r f ⟨rfl,by rw[qV];exact k _ F H .refl rfl⟩
  |_=>exact lj q
 |_=>exact lj q
theorem Qx:oS X (compareOp .NotEq) LQ:=by
 intro p s J H x y v u Q I r f h;obtain⟨F,b,a,d,t,e,n,q,k⟩:=h;cases b with
 |int i=>
  cases a with
  |int j=>cases q;cases (show x=.int i from e);cases (show y=.int j from n);exact Ex p s J H _ _ v u Q I r f ⟨rfl,by rw[oA];exact k _ F H .refl rfl⟩
  |_=>exact lj q
 |str i=>
  cases a with
  |str j=>cases q;cases (show x=.str i from e);cases (show y=.str j from n);exact Ex p s J H _ _ v u Q I r f ⟨rfl,by rw[oz];exact k _ F H .refl rfl⟩
  |_=>exact lj q
 |bl i=>
  cases a with
  |bl j=>cases q;cases (show x=.bl i from e);cases (show y=.bl j from n);exact Ex p s J H _ _ v u Q I r f ⟨rfl,by rw[qV];exact k _ F H .refl rfl⟩
  |_=>exact lj q
 |_=>exact lj q
theorem BM{α β:Type}{xs:List α}{s:List β}{i:Int}{d:α}(l:xs.length=s.length)(h:L2.atI xs i=some d):∃j:Nat,xs[j]? = some d/\∀y,s[j]? = some y->L2.atI s i=some y:=by
 unfold L2.atI at h ⊢;rw[l]at h;cases e:CY s.length i with
 |none=>rw[e]at h;cases h
 |some j=>rw[e]at h;exact⟨j,h,λy x=>x⟩
theorem b7.atI{K:FG}{F:Aa}{H:Hp}{s:List P}{xs:List V}{i:Int}{d:P}(r:b7 K F H s xs)(h:L2.atI s i=some d):∃x,L2.atI xs i=some x/\RP K F H d x:=by obtain⟨j,a,n⟩:=BM r.length h;obtain⟨x,e,p⟩:=r.get a;exact⟨x,n x e,p⟩
theorem cV.atI{K:FG}{F:Aa}{H:Hp}{m:List Addr}{s:List D}{xs:List V}{i:Int}{d:D}(r:cV K F H m s xs)(h:L2.atI s i=some d):∃x,L2.atI xs i=some x/\RD K F H m d x:=by obtain⟨j,a,n⟩:=BM r.length h;obtain⟨x,e,p⟩:=r.get a;exact⟨x,n x e,p⟩
noncomputable def bW(k:b0):List b0->List α->Option α
 |h::s,v::T=>if h=k then some v else bW k s T
 |_,_=>none
noncomputable def cP:P->Option b0
 | .int i=>some (.inl i)
 | .str x=>some (.inr x)
 |_=>none
def oP:P->P->Option P
 | .tup xs,.int i=>L2.atI xs i
 | .lst xs,.int i=>L2.atI xs i
 | .ro xs,.int i=>L2.atI xs i
 | .str x,.int i=>if iq x.length=true then (L2.atI x.cps.toList i).map λc=>.str ⟨#[c]⟩ else none
 | .dct s T,y=>match cP y with
  |some k=>bW k s T
  |none=>none
 |_,_=>none
theorem nB:∀{s:List (b0×V)}{a:List P}{d:P},b7 K F H a (s.map (·.2))->bW k (s.map (·.1)) a=some d->∃v,gB s k=some v/\RP K F H d v
 | [],a,d,r,h=>by cases a<;>exact lj h
 |(n,v)::s,[],d,r,h=>lj h
 |(n,v)::s,q::a,d,r,h=>by
  obtain⟨x,u,e,p,f⟩:=r;rw[aA]at e;injection e with b c;simp only[aA,bW]at h;by_cases hk:n=k
  .rw [ac hk]at h;cases h;exact⟨v,ib (p:=(n,v)) hk,by rw[show v=x from b];exact p⟩
  .rw [af hk]at h;rw[<- c]at f;obtain⟨w,m,t⟩:=nB f h;exact⟨w,by rw[gA (p:=(n,v)) hk];exact m,t⟩
theorem im(h:cP t=some k)(r:RP K F H t v):v=kV k:=by
 cases t with
 |int i=>cases h;exact r
 |str x=>cases h;exact r
 |_=>exact lj h
theorem E9(m:X.A.units+1 < cLine):Gc X (λx y H Q=>∃a v,x=.ref a/\j1 H a y (some v)/\(∃k,H a=some (.dK k))/\Q v H):=by
 intro f l p s J H x y v u Q I t d h c;obtain⟨a,w,rfl,g,⟨k,hk⟩,q⟩:=h;cases t;have n:∃o,s.heap.get? a=some o/\o.ExactDict:=by obtain⟨_,_,_,_,o,_,_,e,n,_⟩:=I.h a _ hk;exact⟨o,e,n⟩
 obtain⟨o,e,n⟩:=n;exact o7 ⟨o,e,n.1⟩ AE.lookup (sI m I g d λj i b r=>⟨w,H,b,r,q⟩) c
theorem Rv(L:X.A.units+1 < cLine):Gc X (rP X.K oP):=by
 intro n l f s J H x y v u Q I o S h t;obtain⟨F,C,m,d,N,g,j,q,k⟩:=h;cases C with
 |tup b=>
  cases m with
  |int i=>obtain⟨a,xs,rfl,K,r⟩:=g;cases (show y=.int i from j);obtain⟨z,e,p⟩:=r.atI (show L2.atI b i=some d from q);exact E8 n l f s J H _ _ v u Q I o S ⟨a,xs,i,z,rfl,rfl,K.sq,e,k z F H .refl p⟩ t
  |_=>exact lj q
 |lst b=>
  cases m with
  |int i=>obtain⟨a,xs,rfl,K,r⟩:=g;cases (show y=.int i from j);obtain⟨z,e,p⟩:=r.atI (show L2.atI b i=some d from q);exact uS n l f s J H _ _ v u Q I o S ⟨a,xs,i,z,rfl,rfl,K.sq,e,k z F H .refl p⟩ t
  |_=>exact lj q
 |ro b=>
  cases m with
  |int i=>obtain⟨a,xs,rfl,K,r⟩:=g;cases (show y=.int i from j);obtain⟨z,e,p⟩:=r.atI (show L2.atI b i=some d from q);exact uS n l f s J H _ _ v u Q I o S ⟨a,xs,i,z,rfl,rfl,K.sq,e,k z F H .refl p⟩ t
  |_=>exact lj q
 |str z=>
  cases m with
  |int i=>
   cases (show x=.str z from g);cases (show y=.int i from j);simp only[oP]at q;split at q
   .rename_i G;cases e:L2.atI z.cps.toList i with
    |none=>rw[e]at q;exact lj q
    |some c=>rw[e]at q;cases q;exact Lq n l f s J H _ _ v u Q I o S ⟨z,i,c,rfl,rfl,iP G,e,k _ F H .refl rfl⟩ t
   .cases q
  |_=>exact lj q
 |dct R b=>
  obtain⟨a,B,rfl,fa,hk,E,r⟩:=g;simp only[oP]at q;cases P:cP m with
  |none=>rw[P]at q;exact lj q
  |some M=>rw[P]at q;dsimp only at q;subst E;obtain⟨w,D,p⟩:=nB r q;have A:=im P j;subst A;exact E9 L n l f s J H _ _ v u Q I o S ⟨a,w,rfl,by rw[<- D];exact j1.k hk,⟨B,hk⟩,k w F H .refl p⟩ t
 |_=>exact lj q
theorem RU{a b:Expr}{fa fb:EV}{M:Pos}(u:X.A.units+1 < cLine)(x:Y X a (tV X.K fa))(e:Y X b (tV X.K fb))(s:nl b):Y X (.Subscript a b M) (tV X.K (kh oP fa fb)):=
 (Em (Rv u) x e s).imp' λ_ _ _ h=>uA h
end
section
variable{X:Cx}
theorem p':∀{s:List (b0×V)}{a:List D}{d:D},cV K F H m a (s.map (·.2))->bW k (s.map (·.1)) a=some d->∃v,gB s k=some v/\RD K F H m d v
 | [],a,d,r,h=>by cases a<;>exact lj h
 |(n,v)::s,[],d,r,h=>lj h
 |(n,v)::s,u::a,d,r,h=>by
  obtain⟨x,g,e,p,f⟩:=r;rw[aA]at e;injection e with b c;simp only[aA,bW]at h;by_cases hk:n=k
  .rw [ac hk]at h;cases h;exact⟨v,ib (p:=(n,v)) hk,by rw[show v=x from b];exact p⟩
  .rw [af hk]at h;rw[<- c]at f;obtain⟨w,t,q⟩:=p' f h;exact⟨w,by rw[gA (p:=(n,v)) hk];exact t,q⟩
@[simp] def mV(r:EE)(k:EV)(L:Lc)(S:U):wY:=bI (r L S) λd x=>bI (k L x) λy h=>match d with
 | .p v=>(oP v y).map λz=>(.p z,h)
 | .ref i=>match h[i]? with
  | some (.lst s)=>(match y with
   | .int j=>(L2.atI s j).map λz=>(z,h)
   |_=>none)
  |some (.fz v)=>(oP v y).map λz=>(.p z,h)
  | some (.dct a T)=>(match cP y with
   |some k=>(bW k a T).map λz=>(z,h)
   |none=>none)
  |_=>none
theorem PX{a b:Expr}{fa:EE}{fb:EV}{M:Pos}(hu:X.A.units+1 < cLine)(ha:Y X a (tE X.K fa))(hb:Y X b (tV X.K fb))(hs:nl b):Y X (.Subscript a b M) (tE X.K (mV fa fb)):=
 (Em ((((Rv hu).or uS).or (E9 hu)).or E8) ha hb hs).imp' λJ H Q hz=>by
  obtain⟨F,m,L,S,d,N,r,h,q,k⟩:=hz;obtain⟨x,S1,A,q⟩:=ah q;obtain⟨y,K,e2,q⟩:=ah q;refine⟨F,m,L,S,x,S1,r,h,A,λv C m1 z c r1 p1=>?_⟩;refine⟨C,m1,L,S1,y,K,r1,h.mono c,e2,λu B V I o f Z=>?_⟩;have px:=RD.mono o p1;have s:∀w:P,RP X.K B I w v->(oP w y).map (λe=>(D.p e,K))=some (d,N)->rP X.K oP v u I Q:=λw pw q=>by
   cases g:oP w y with
   |none=>rw[g]at q;cases q
   |some e=>rw[g]at q;cases q;exact⟨B,w,y,e,f.ft,pw,Z,g,λt F3 H3 gr p3=>k t F3 V H3 (c.trans (o.trans gr.stp)) (f.grow gr) p3⟩
  cases x with
  |p w=>exact .inl (.inl (.inl (s w px q)))
  |ref i=>
   obtain⟨a,rfl,hm⟩:=px;dsimp only at q;cases l:K[i]? with
   |none=>rw[l]at q;cases q
   |some so=>
    rw[l]at q;have W:=f.obj i a so hm l;cases so with
    |fz w=>exact .inl (.inl (.inl (s w W q)))
    |dct ks T=>
     dsimp only at q;obtain⟨n,hk,ek,ra⟩:=W;cases E:cP y with
     |none=>rw[E]at q;cases q
     |some R=>
      rw[E]at q;dsimp only at q;subst ek;cases g:bW R (n.map (·.1)) T with
      |none=>rw[g]at q;cases q
      |some e=>rw[g]at q;cases q;obtain⟨w,A,p⟩:=p' ra g;have G:=im E Z;subst G;exact .inl (.inr ⟨a,w,rfl,by rw[<- A];exact j1.k hk,⟨n,hk⟩,k w B V I (c.trans o) f p⟩)
    |ins _ _ _=>cases q
    |dtn _ _=>cases q
    |dtt _ _=>cases q
    |fn _=>cases q
    |lst ds=>
     dsimp only at q;cases y with
     |int j=>
      dsimp only at q;obtain⟨xs,hH,rs⟩:=W;cases g:L2.atI ds j with
      |none=>rw[g]at q;cases q
      |some e=>rw[g]at q;cases q;obtain⟨t,e3,p3⟩:=rs.atI g;cases (show u=.int j from Z);exact .inl (.inl (.inr ⟨a,xs,j,t,rfl,rfl,iy.of hH,e3,k t B V I (c.trans o) f p3⟩))
     |_=>cases q
def fO:P->Option Nat
 | .tup xs=>some xs.length
 | .lst xs=>some xs.length
 | .ro xs=>some xs.length
 | .str x=>if iq x.length=true then some x.length else none
 |_=>none
def dO:D->U->Option Nat
 | .p v,_=>fO v
 | .ref i,S=>match S[i]? with
  |some (.lst d)=>some d.length
  |some (.fz v)=>fO v
  |_=>none
def eG(r:EE):EV:=λL S=>bI (r L S) λd h=>(dO d h).map λn=>(.int n,h)
theorem Bn{F:Aa}{H:Hp}{w:P}{v:V}{n:Nat}{Q:VK}(p:RP X.K F H w v)(h:fO w=some n)(q:Q (.int n) H) :
  (∃p y,[v]=[V.ref p]/\(iy X.K H p y\/nr X.K H p y)/\Q (.int y.length) H)\/(∃z,[v]=[V.str z]/\z.length≤sizeLine/\Q (.int z.length) H):=by
 cases w with
 |tup d=>obtain⟨a,xs,rfl,t,r⟩:=p;cases h;exact .inl ⟨a,xs,rfl,.inr t.sq,by rw[<- r.length];exact q⟩
 |lst d=>obtain⟨a,xs,rfl,t,r⟩:=p;cases h;exact .inl ⟨a,xs,rfl,.inl t.sq,by rw[<- r.length];exact q⟩
 |ro d=>obtain⟨a,xs,rfl,t,r⟩:=p;cases h;exact .inl ⟨a,xs,rfl,.inl t.sq,by rw[<- r.length];exact q⟩
 |str x=>
  cases (show v=.str x from p);simp only[fO]at h;split at h
  .rename_i c;cases h;exact .inr ⟨x,rfl,iP c,q⟩
  .cases h
 |_=>exact lj h
theorem PU(A:Gl X "len")(f:X.g "len"=none)(P:Y X e (tE X.K fe))(c:starEach [e] X.e=[(false,eval e X.e)]:=by rfl):Y X (.Call (.Name "len" p) [e] [] M) (tV X.K (eG fe)):=
 (mG (vk.or vj) A f PySem.boot_len (eW P ij (by rw[c];rfl)) (by decide) (by decide) (by rw[c];rfl) rfl).imp' λJ H Q B=>by
  obtain⟨F,m,L,S,d,N,r,h,q,k⟩:=B;obtain⟨x,b,j,q⟩:=ah q;refine⟨F,m,L,S,x,b,r,h,j,λv C D z G u t=>?_⟩;cases s:dO x b with
  |none=>rw[s]at q;cases q
  |some n=>
   rw[s]at q;cases q;have y:Q (.int n) z:=k _ C D z G u rfl;cases x with
   |p w=>exact Bn t s y
   |ref i=>
    obtain⟨a,rfl,f⟩:=t;simp only[dO]at s;cases l:N[i]? with
    |none=>rw[l]at s;cases s
    |some g=>
     rw[l]at s;have o:=u.obj i a g f l;cases g with
     |fz w=>exact Bn o s y
     |dct R T=>cases s
     |ins _ _ _=>cases s
     |dtn _ _=>cases s
     |dtt _ _=>cases s
     |fn _=>cases s
     |lst I=>cases s;obtain⟨xs,K,E⟩:=o;exact .inl ⟨a,xs,rfl,.inl (iy.of K),by rw[<- E.length];exact y⟩
noncomputable def dZ(d:D)(S:U):Option (Nat×List D):=match d with
 | .ref i=>match S[i]? with
  |some (.lst s)=>some (i,s)
  |_=>none
 |_=>none
theorem kY(h:dZ d S=some (i,k)):d=.ref i/\S[i]? = some (.lst k):=by
 unfold dZ at h;split at h
 .split at h
  .rename_i e;cases h;exact⟨rfl,e⟩
  .cases h
 .cases h
@[simp] def bM(r:EE)(a:EE)(L:Lc)(S:U):wY:=bI (r L S) λd h=>match dZ d h with
 |none=>none
 |some _=>bI (a L h) λx e=>match dZ d e with
  |some (i,s)=>if few s=true then some (.p .non,e.set i (.lst (s++[x]))) else none
  |none=>none
theorem G8{o e:Expr}{W fe:EE}{p c:Pos}(ho:Y X o (tE X.K W))(he:Y X e (tE X.K fe))(M:starEach [e] X.e=[(false,eval e X.e)]:=by rfl)
  (t:attributeBase o "append" X.e (eval o X.e)=eval o X.e:=by rfl) (w:(p.endLine == c.line)=true:=by rfl):Y X (.Call (.Attribute o "append" p) [e] [] c) (tE X.K (bM W fe)):=
 (Je o5 yW PySem.F.type_list_append sr ho (eW he ij (by rw[M];rfl)) t (by rw[M];rfl) w (by rw[M];rfl) rfl).imp' λJ H Q hz=>by
  obtain⟨F,m,L,S,d,N,r,h,s,k⟩:=hz;obtain⟨x,A,e1,s⟩:=ah s;refine⟨F,m,L,S,x,A,r,h,e1,λv C m1 z s1 r1 p1=>?_⟩;cases E:dZ x A with
  |none=>rw[E]at s;cases s
  |some n=>
   obtain⟨i,ds⟩:=n;rw[E]at s;dsimp only at s;obtain⟨rfl,l⟩:=kY E;obtain⟨a,rfl,hm⟩:=id p1;obtain⟨xs,hH,rs⟩:=r1.obj i a _ hm l;refine⟨.inl ⟨rfl,xs,iy.of hH⟩,?_⟩;obtain⟨y,V,e2,s⟩:=ah s;refine⟨C,m1,L,A,y,V,r1,h.mono s1,e2,λu B R I s2 T p2=>?_⟩;cases f:dZ (.ref i) V with
   |none=>rw[f]at s;cases s
   |some n=>
    obtain⟨i2,D⟩:=n;rw[f]at s;dsimp only at s;obtain⟨e3,b⟩:=kY f;cases e3;split at s
    .rename_i Z;cases s;obtain⟨a2,e4,g⟩:=RD.mono s2 p1;cases e4;obtain⟨j,K,P⟩:=T.obj i a _ g b;have hl:=lI Z;have G:j.length < sizeLine:=by
      have:D.length≤1000000:=aJ Z;rw[<- P.length];exact jB this (by decide)
     have nt:∀zs,I a≠some (.tup zs):=λzs n=>by rw[K]at n;cases n
     have q:Stp B R I B R (bO I a (.lst (j++[u]))):=eU T g b trivial nt;refine⟨a,j,u,rfl,rfl,K,G,?_⟩;exact k .non B R _ (s1.trans (s2.trans q)) (T.set g b trivial nt ⟨_,aD,cV.mono q (P.append ⟨u,[],rfl,p2,rfl⟩)⟩) rfl
    .cases s
noncomputable abbrev EO:=Lc->U->Option (Option Int×U)
noncomputable def j4:EO:=λ_ S=>some (none,S)
def i'(a:EV):EO:=λL S=>bI (a L S) λv h=>match v with
 | .int i=>some (some i,h)
 |_=>none
inductive tOI(K:FG)(f:EO)(J:L2.St)(H:Hp)(Q:Option Int->Hp->Prop):Prop
 |mk (F:Aa) (m:List Addr) (L:Lc) (S:U) (b:Option Int) (S':U) (h0_:Rel K F H m S) (h1_:RL K F H m J L) (h2_:f L S=some (b,S')) (h3_:∀F' m' H',Stp F m H F' m' H'->Rel K F' H' m' S'->Q b H'):tOI K f J H Q
noncomputable def tO(K:FG)(f:EO):TO:=λJ H Q=>tOI K f J H Q
theorem _root_.L2.PO.imp'(h:PO X e t)(i:∀J H Q,k J H Q->t J H Q):PO X e k:=λp s J H Q I q=>h p s J H Q I (i J H Q q)
theorem La:PO X none (tO X.K j4):=HH.imp' λJ H Q h=>by obtain⟨F,m,L,S,d,N,r,l,q,k⟩:=h;cases q;exact k F m H .refl r
theorem K'(h:Y X e (tV X.K fa)):PO X (some e) (tO X.K (i' fa)):=(HF h).imp' λJ H Q s=>by
 obtain⟨F,m,L,S,d,N,r,l,q,k⟩:=s;obtain⟨x,c,a,q⟩:=ah q;cases x with
 |int i=>cases q;exact⟨F,m,L,S,_,_,r,l,a,λv C n z b f p=>⟨i,p,k C n z b f⟩⟩
 |_=>cases q
def cut(xs:List α)(lo h:Option Int):List α:=(xs.drop (HT.eJ xs.length 0 lo)).take (HT.eJ xs.length xs.length h-HT.eJ xs.length 0 lo)
theorem b7.cut(r:b7 K F H k xs)(lo h:Option Int):b7 K F H (Ev.cut k lo h) (wH xs lo h):=by unfold Ev.cut wH;rw[r.length];exact(r.drop _).take _
def Sz:P->Option Int->Option Int->Option P
 | .lst xs,lo,h=>some (.lst (cut xs lo h))
 | .ro xs,lo,h=>some (.lst (cut xs lo h))
 | .tup xs,lo,h=>if HT.eJ xs.length 0 lo=0/\HT.eJ xs.length xs.length h=xs.length then none else some (.tup (cut xs lo h))
 |_,_,_=>none
theorem _root_.L2.PI.imp'(h:PI X r iter t)(i:∀J H R,k J H R->t J H R):PI X r iter k:=λp s J H R I q=>h p s J H R I (i J H R q)
theorem E_(f:∀B h I,Stp F m H B h I->iy K I a xs)(r:b7 K F H T xs):Mb K (Pp K a) T F m H:=by
 intro B h I s;have q:=f B h I s;have k:=b7.mono s r;refine⟨λi v e=>?_,⟨xs,q,by rw[k.length];exact ag _⟩⟩;obtain⟨x,n,p⟩:=k.get e;refine⟨⟨xs,x,q,n⟩,λy b z=>?_⟩;obtain⟨rfl,z⟩:=z;have:=z xs q
 rw[n]at this;cases this;exact⟨B,.refl,p⟩
theorem Lr(k:TupAt K H a xs)(r:b7 K F H T xs):Mb K (RK K a) T F m H:=by
 intro B b I s;have q:=(k.kp s.kp).sq;have n:=b7.mono s r;refine⟨λi v e=>?_,⟨xs,q,by rw[n.length];exact ag _⟩⟩;obtain⟨x,h,p⟩:=n.get e;refine⟨⟨xs,x,q,h⟩,λy f z=>?_⟩;obtain⟨rfl,z⟩:=z;have:=z xs q
 rw[h]at this;cases this;exact⟨B,.refl,p⟩
noncomputable def intsFrom(lo:Int)(n:Nat):List P:=(List.range n).map λ(i:Nat)=>.int (lo+(i:Int))
def iY(a:EV):j_:=λL S=>bI (a L S) λv h=>match v with
 | .int j=>if decide (j.natAbs < 1000000)=true then some (intsFrom 0 j.toNat,h) else none
 |_=>none
theorem Ls{lo:Int}:Mb K (Po lo n) (intsFrom lo n) F m H:=by
 intro B k I s;have l:(intsFrom lo n).length=n:=by unfold intsFrom;simp
 refine⟨λi v e=>?_,by show n≤(intsFrom lo n).length;rw[l];exact ag _⟩;have h:i < n:=by rw[<- l];exact(bw.mp e).1
 refine⟨h,λx a z=>?_⟩;obtain⟨rfl,rfl⟩:=z;refine⟨B,.refl,?_⟩;unfold intsFrom at e;simp[h]at e;subst e;exact rfl
theorem Si{u a:Expr}{fa:EV}{p M:Pos}(g:Gl X "range")(n:X.g "range"=none)(s:Y X a (tV X.K fa))(h:starEach [a] X.e=[(false,eval a X.e)]:=by rfl):PI X u (.Call (.Name "range" p) [a] [] M) (tI X.K (iY fa)):=
 (Cf g n (eW s ij (by rw[h];rfl)) h).imp' λJ H R f=>by
  obtain⟨F,m,L,S,T,N,r,l,q,k⟩:=f;obtain⟨v,i,e,q⟩:=ah q;cases v with
  |int j=>
   dsimp only at q;split at q
   .rename_i c;have y:j.natAbs < 1000000:=aJ c;cases q;refine⟨F,m,L,S,_,_,r,l,e,λx C b z w d t=>?_⟩;cases (show x=.int j from t);exact⟨j,rfl,by lia,by lia,k _ C b z w d Ls⟩
   .cases q
  |_=>cases q
end
def bS(g:kc)(c:EB)(e:EV):List P->Lc->U->Option (List P×U)
 | [],_,S=>some ([],S)
 |v::r,L,S=>match g v L with
  |none=>none
  |some h=>bI (c h S) λk x=>if k=true then bI (e h x) λy a=>bI (bS g c e r h a) λn s=>some (y::n,s) else bS g c e r h x
open Classical in
def jS(ok:U->Prop)(g:kc)(c:EB)(e:EV):List P->Lc->U->Option (List P×U)
 | [],_,S=>if ok S then some ([],S) else none
 | v::r,L,S=>if ok S then (match g v L with
  |none=>none
  |some h=>bI (c h S) λk x=>if k=true then bI (e h x) λy a=>bI (jS ok g c e r h a) λn s=>some (y::n,s) else jS ok g c e r h x) else none
theorem qX:∀{T:List P}{L:Lc}{S:U},jS (λ_=>True) g c e T L S=bS g c e T L S
 | [],_,_=>ac trivial
 |v::r,L,S=>by
  unfold jS bS;rw[ac trivial];cases g v L with
  |none=>rfl
  |some h=>simp only[qX (T:=r)]
noncomputable def my(y:List Nat)(n:Nat)(L:List (Option α)):List (Option α):=(y.foldl (λL i=>L.set i none) L)++List.replicate n none
def b8(i:j_)(y:List Nat)(n:Nat)(g:kc)(c:EB)(e:EV):EV:=λL S=>bI (i L S) λxs h=>if few xs=true then bI (bS g c e xs (my y n L) h) λs x=>some (.lst s,x) else none
@[simp] def gP(_L:Lc)(S:U):Mg:=some (true,S)
theorem gq(y:List Nat):∀L:List (Option α),(y.foldl (λL i=>L.set i none) L).length=L.length:=by
 induction y with
 |nil=>intro L;rfl
 |cons t y h=>intro L;rw[fH,h,c_]
theorem rG(y:List Nat):∀(L:List (Option α))(i:Nat)(d:α),(y.foldl (λL i=>L.set i none) L)[i]? = some (some d)->L[i]? = some (some d)/\i ∉ y:=by
 induction y with
 |nil=>intro L i d h;exact⟨h,by simp⟩
 |cons t y s=>
  intro L i d h;rw[fH]at h;obtain⟨x,a⟩:=s _ _ _ h;by_cases e:t=i
  .subst e;by_cases l:t < L.length
   .rw [bv l]at x;cases x
   .rw [pA (by rw[c_];lia)]at x;cases x
  .rw [aP e]at x;exact⟨x,by simp[a];exact λz=>e z.symm⟩
theorem uu(y:List Nat)(n:Nat)(L:List (Option α)):(my y n L).length=L.length+n:=by unfold my;rw[aX,gq,uc]
theorem AV(h:(my y n L)[i]? = some (some d)):L[i]? = some (some d)/\i ∉ y/\i < L.length:=by
 unfold my at h;by_cases x:i < L.length
 .rw [bL (by rw[gq];exact x)]at h;obtain⟨a,e⟩:=rG y L i d h;exact⟨a,e,x⟩
 .rw [bH (by rw[gq];lia),uf]at h;split at h<;>cases h
variable{J:L2.St}
theorem RL.up(l:RL K F H m J L)(y:List Nat)(n:Nat):RL K F H m (my y n J) (my y n L):=by
 refine⟨by rw[uu,uu,l.len],λi d h=>?_⟩;obtain⟨a,s,f⟩:=AV h;obtain⟨v,e,r⟩:=l.at' i d a;refine⟨v,?_,r⟩;unfold my;rw[bL (by rw[gq,l.len];exact f)];have k:∀(y:List Nat)(J:L2.St),i ∉ y->J[i]? = some (some v)->(y.foldl (λL i=>L.set i none) J)[i]? = some (some v):=by
  intro y;induction y with
  |nil=>intro J _ e;exact e
  |cons t y b=>intro J x e;rw[fH];refine b _ (λz=>x (aG _ z)) ?_;rw[aP (λz=>x (by rw[z];exact aH))];exact e
 exact k y J s e
noncomputable def lL(G:Scope)(e:Env):List (Str×Addr):=((G.names.filter λx=>x.2 == .free).map λx=>(x.1,(e.cells.lookup x.1).getD 0)).reverse
def inn(X:Cx)(G:Scope)(N':LS)(s:Shared)(H:Hp)(C:Addr)(f:List Addr):Cx:=
 { X with N:=N',z:=s,y:=H,e:=compEnvC G (lL G X.e) C X.e,o:=X.k,ex:=f,fn:=λ_=>false,pn:=[],xe:=λ_ _=>False }
structure BlockOk(X:Cx)(scope:Scope)(N':LS)(ts:List Nat)(n:Nat):Prop where
 kind:scope.kind=.function
 cell:∀x ∈ scope.names,x.2≠.cell
 loc:∀x ∈ scope.names,x.2=.local->scope.names.lookup x.1=some .local
 fr:∀x ∈ scope.names,x.2=.free->scope.names.lookup x.1=some .free/\(X.e.kindOf x.1=some .cell\/X.e.kindOf x.1=some .free)
 names:X.N=N'.take X.N.length
 more:N'.length=X.N.length+n
 ts:∀x ∈ scope.names,x.2=.local->∀i:Nat,X.N[i]? = some x.1->i ∈ ts
theorem il:∀{l:List (Str×α)}{x:Str}{v:α},l.lookup x=some v->(x,v) ∈ l
 | [],_,_,h=>by simp at h
 |(y,w)::r,x,v,h=>by
  rw[pu]at h;cases e:x == y with
  |true=>rw[e]at h;cases h;rw[show x=y from by simpa using e];exact aH
  |false=>rw[e]at h;exact aG _ (il h)
theorem ll:∀{l:List (Str×α)}{x:Str}{v:α},(x,v) ∈ l->∃w,l.lookup x=some w
 | [],_,_,h=>by simp at h
 |(y,w)::r,x,v,h=>by
  rw[pu];cases e:x == y with
  |true=>exact⟨w,rfl⟩
  |false=>
   rcases aN.mp h with h|h
   .injection h with a _;subst a;simp at e
   .exact ll h
variable{x:Str}
theorem fL(h:(relabel G r).names.lookup x=some k):∃a,(x,a) ∈ G.names/\(k=a\/(k=.cell/\a=.free)):=by
 have m:=il h;unfold relabel at m;obtain⟨⟨n,a⟩,t,e⟩:=aY.mp m;by_cases c:(a == NameKind.free && r.scope.kind == .function && r.kindOf n == some .cell)=true
 .have s:(n,NameKind.cell)=(x,k):=by simpa[c] using e
  injection s with f b;subst f;rw[ar,ar]at c;exact⟨a,t,.inr ⟨b.symm,by simpa using c.1.1⟩⟩
 .have s:(n,a)=(x,k):=by simpa[c] using e
  injection s with f b;subst f;exact⟨a,t,.inl b.symm⟩
section
variable{X:Cx}{G:Scope}{N':LS}{y:List Nat}{n:Nat}
theorem BlockOk.cl(B:BlockOk X G N' y n)(I:Inv X u J H s)(h:(lL G X.e).lookup x=some c):X.e.cells.lookup x=some c/\(x,NameKind.free) ∈ G.names:=by
 have p:=il h;unfold lL at p;obtain⟨⟨a,k⟩,m,e⟩:=aY.mp (zN.mp p);obtain⟨m,hk⟩:=fI.mp m;have t:k=.free:=by simpa using hk
 subst t;injection e with v b;subst v;obtain⟨_,d⟩:=B.fr _ m rfl;obtain⟨q,f⟩:=I.o.has a d;dsimp only at b;rw[f]at b;have r:q=c:=b;subst r;exact⟨f,m⟩
theorem BlockOk.has(B:BlockOk X G N' y n)(h:(x,NameKind.free) ∈ G.names):∃c,(lL G X.e).lookup x=some c:=by unfold lL;exact ll (v:=(X.e.cells.lookup x).getD 0) (zN.mpr (aY.mpr ⟨(x,.free),fI.mpr ⟨h,by simp⟩,rfl⟩))
theorem Fi(B:BlockOk X G N' y n)(I:Inv X r J H s)(C:s.heap.objs.size≤k)(m:∀b ∈ u,vq X r H b)(w:∀b ∈ u,b < s.heap.objs.size) :
  (inn X G N' s H k u).Ok where
 mod:=I.o.mod
 kind:=B.kind
 glob:=I.o.glob
 blt:=I.o.blt
 above:=C
 inj:=λx a c q v=>I.o.inj x a c (B.cl I q).1 (B.cl I v).1
 has:=λx h=>by
  have p:(relabel G X.e).names.lookup x=some .cell\/(relabel G X.e).names.lookup x=some .free:=h;rcases p with h|h
  .obtain⟨g,t,e|⟨_,e⟩⟩:=fL h
   .subst e;exact absurd rfl (B.cell _ t)
   .subst e;exact B.has t
  .obtain⟨g,t,e|⟨e,_⟩⟩:=fL h
   .subst e;exact B.has t
   .cases e
 cab:=λx c h=>nomatch h
 hd:=I.o.hd
 frames:=I.o.frames
 stk:=.inl rfl
 exf:=λb f=>⟨bb (bD (w b f) C),λx c h=>(m b f).2.2.2.2.1 x c (B.cl I h).1⟩
 bs:=I.bs
 bsz:=au I.o.bsz I.sz
 noex:=λb o e f=>by
  rcases(m b f).2.2.2.1 with z|z
  .exact I.o.noex b o e z
  .exact absurd (bD (aB (I.o.bs b o e).1) z) (eQ _)
 exfs:=λb f z=>by
  rcases aN.mp (I.stkSub b z) with z|z
  .exact (m b f).2.1 z
  .exact (m b f).2.2.1 z
 funs:=I.stack
 frf:=I.stkFree
 tab:=λP d=>I.base.tbls P (I.o.tab P d)
theorem _root_.L2.Un.sameBut(u:Un fs r H H' h t)(s:dW k t Q)(C:∀b o,h.get? b=some o->b≠k):Un fs r H H' h Q where
 keep:=λb o e n a x=>s.extBut b o (C b o e) (u.keep b o e n a x)
 slot:=λb o e n a x=>by obtain⟨l,q⟩:=u.slot b o e n a x;exact⟨l,s.extBut b _ (C b o e) q⟩
 free:=u.free
 there:=λb o e x=>by obtain⟨f,q⟩:=u.there b o e x;exact⟨f,s.extBut b _ (C b o e) q⟩
 tups:=u.tups
 frzs:=u.frzs
 tbls:=u.tbls
theorem _root_.L2.i5.sameBut{P:Program}{w:World}{H:Hp}{h x:Heap}{C:Addr}(ok:i5 P w H h)(n:dW C h x)(a:H C=none):i5 P w H x:=λb u e=>
 (ok b u e).stay (fun c v s q=>n.extBut c v (by
  rintro rfl;rcases s with z|z
  .subst z;rw[a]at e;cases e
  .rw [a]at z;cases z) q) (λ_ q=>q) λ_ _ q=>q
inductive PIfs(X:Cx):Ab->EB->Prop where
 |none:PIfs X [] gP
 |one {c:Expr}{q:EB}:PT X c (tQ X.K q)->PIfs X [c] q
theorem Kp.bump(a:¬F p)(t:∀xs,H p≠some (.tup xs))(c:∀x u,H p≠some (.frz x (.own u))):Kp F m H F m (bO H p o):=
 ⟨⟨[],by simp⟩,λ_ h=>h,λb u f h=>by rw[aj (by rintro rfl;exact a f)];exact h,λb xs h=>by rw[aj (by rintro rfl;exact t xs h)];exact h,λb x u h=>by rw[aj (by rintro rfl;exact c x u h)];exact h⟩
theorem Stp.bump(s:Stp F m H F' m' H')(a:H p=none):Stp F m H F' m' (bO H' p o) where
 pre:=s.pre
 oth:=λb u h n=>by rw[aj (by rintro rfl;rw[a]at h;cases h)];exact s.oth b u h n
 frz:=s.frz
 frk:=λb u f h=>by rw[aj (by rintro rfl;rw[a]at h;cases h)];exact s.frk b u f h
 tup:=λb xs h=>by rw[aj (by rintro rfl;rw[a]at h;cases h)];exact s.tup b xs h
 cod:=λb x u h=>by rw[aj (by rintro rfl;rw[a]at h;cases h)];exact s.cod b x u h
 trk:=λb h=>by
  by_cases e:b=p
  .subst e;rw[aD];exact λz=>nomatch z
  .rw [aj e];exact s.trk b h
 nf:=s.nf
 nm:=s.nm
theorem Rel.bump(r:Rel K F H m S)(e:¬F p)(n:p ∉ m)(t:∀xs,H p≠some (.tup xs))(c:∀x u,H p≠some (.frz x (.own u))):Rel K F (bO H p o) m S:=
 r.stayK (Kp.bump e t c) (λa u s h=>by rw[aj (by rintro rfl;exact n s)];exact h) (λ_ f=>.inl f) λa f=>by rw[aj (by rintro rfl;exact e f)];exact r.ft a f
theorem Ru:Kp F m H (λb=>F b\/b=p) m H:=⟨⟨[],by simp⟩,λ_ h=>.inl h,λ_ _ _ h=>h,λ_ _ h=>h,λ_ _ _ h=>h⟩
theorem Stp.addF(s:Stp F m H F' m' H')(x:H p=none):Stp F m H (λb=>F' b\/b=p) m' H':=
 ⟨s.pre,s.oth,fun b h=>.inl (s.frz b h),s.frk,s.tup,s.trk,fun b h=>by
  rcases h with h|h
  .exact s.nf b h
  .subst h;exact .inr (.inl x),s.nm,s.cod⟩
theorem Rel.addF(r:Rel K F H m S)(s:p ∉ m)(n:H p≠none):Rel K (λb=>F b\/b=p) H m S where
 len:=r.len
 nd:=r.nd
 obj:=λi a o e x=>(r.obj i a o e x).kp Ru λu h=>h
 sep:=λi a o e x w f=>by
  rcases f with f|f
  .exact r.sep i a o e x w f
  .subst f;exact s (aZ e)
 trk:=r.trk
 ft:=λa f=>by
  rcases f with f|f
  .exact r.ft a f
  .subst f;exact n
theorem _root_.L2.Inv.letGo(I:Inv X k J H s)(f:dW h s.heap t)(C:H h=none)(v:X.z.heap.objs.size≤h)(d:h≠X.e.locals)
  (w:∀x c,X.e.cells.lookup x=some c->c≠h) (u:∀p ∈ X.pn++k,p.1≠h):Inv X k J H { s with heap:=t }:=by
 have r:∀b:Addr,b ∉ [h]->b≠h:=λb m z=>m (by simp[z]);refine I.call' (s':={ s with heap:=t }) (q:=[h]) rfl ⟨λb o e _ _ a=>f.extBut b o (r b a) e,λb o e _ _ a=>⟨o.slots,f.extBut b o (r b a) e⟩,λ_ _ _ n _=>n,λb o e a=>⟨o,f.extBut b o (r b a) e⟩,λ_ _ q=>q,λ_ _ _ q=>q,λ_ q=>q⟩ (I.h.sameBut f C) I.bare λb m=>?_;have e:b=h:=by simpa using m
 subst e;exact⟨.inr v,d,w,u⟩
theorem CN(I:Nat->Shared->Prop)
  (f:∀n s,I n s->wpAny (model t w) A (pyNext it) (fun r b=>match r with
   |none=>R (.ok .next) b
   | some v=>wpAny (model t w) A (letOwnedTupleGo tg it v) (fun _ g=>wpAny (model t w) A (assign tg k v) (fun _ i=>
     wpAny (model t w) A (forIn ifs true fun c r=>if r=true then do let ok <- isTrue c k (eval c k);pure (ForInStep.yield ok) else pure (ForInStep.yield r)) (fun ok p=>
      if ok=true then wpAny (model t w) A (eval Q k) (fun x j=>
       wpAny (model t w) A (call (.builtin "list.append") [u,x]) (λ_ l=>∃m,m < n/\I m l) (notedBy (model t w) A k λe a=>R (.error e) a) j) (notedBy (model t w) A k λe a=>R (.error e) a) p
      else ∃m,m < n/\I m p) (notedBy (model t w) A k λe a=>R (.error e) a) i) (notedBy (model t w) A k λe a=>R (.error e) a) g) (notedBy (model t w) A k λe a=>R (.error e) a) b) (notedBy (model t w) A k λe a=>R (.error e) a) s)
  (n:Nat) (h:I n s):codeAny (model t w) A (.compLoop (.ListComp Q [⟨tg,iter,ifs,0⟩] G M) 0 it u k) R s:=by
 refine codeAny_loop rfl I (λn s F=>?_) n h;show wpAny _ A ((compTurn (.ListComp Q [⟨tg,iter,ifs,0⟩] G M) 0 it u k).onRaise (λx=>do noteFrame x k;theTreesLotGoes x)) _ _ s;refine wpAny_noted ?_;rw[compTurn_list];refine ab (sW (ab (cA (f n s F) (λr b q=>?_) λ_ _ z=>z)));cases r with
 |none=>exact al q
 |some v=>
  refine ab (cA q (λ_ g y=>ab (cA y (λ_ i o=>ab (cA o (λok p d=>?_) λ_ _ z=>z)) λ_ _ z=>z)) λ_ _ z=>z);cases ok with
  |false=>exact al ⟨rfl,d⟩
  |true=>exact ab (ab (cA d (λx j H=>ab (cA H (λ_ l S=>al (al ⟨rfl,S⟩)) λ_ _ z=>z)) λ_ _ z=>z))
theorem II{j:Heap}{tk:Nat}(B:BlockOk X G N' y n)(s:Inv X Q J I k)(C:k.heap.objs.size≤h)(Z:∀b ∈ fp,vq X Q I b)(P:∀b ∈ fp,b < k.heap.objs.size)(l:∀b o,k.heap.get? b=some o->j.get? b=some o)
  (hD:I k.heap.objs.size=none) (D:k.heap.objs.size≠h) (K:I h=none) (d:j.Ns h mC) (f:j.get? k.heap.objs.size=some { cls:=.type "list",dict:=none,data:=.seq ([]:LV).toArray }) :
  Inv (inn X G N' k I h fp) [] (my y n J) (bO I k.heap.objs.size (.lst [])) { k with heap:=j,toks:=tk }:=by
 refine⟨Fi B s C Z P,rfl,s.bare,Un.laid l (ag _) hD,?_,λx c e=>?_,?_,λx c e=>?_,λp hp=>absurd (show p ∈ ([]:PN) from hp) (by simp),?_,?_⟩
 .obtain⟨m0,hn0,A⟩:=s.loc;refine⟨_,d,λi x v T V hv=>?_⟩;obtain⟨H,S,F⟩:=AV V;have q:J.length=X.N.length:=s.len;have M:X.N[i]? = some x:=by
   rw[B.names,g8 (by rw[<- q];exact F)];exact T
  have g:(relabel G X.e).names.lookup x=some .local\/(relabel G X.e).names.lookup x=some .cell\/(relabel G X.e).names.lookup x=some .free:=hv;have R:¬(relabel G X.e).names.lookup x=some .local:=λz=>by
   obtain⟨N,m,e|⟨e,_⟩⟩:=fL z
   .subst e;exact absurd (B.ts _ m rfl i M) S
   .cases e
  have L:(x,NameKind.free) ∈ G.names:=by
   rcases g with z|z|z
   .exact absurd z R
   .obtain⟨N,m,e|⟨_,e⟩⟩:=fL z
    .subst e;exact absurd rfl (B.cell _ m)
    .subst e;exact m
   .obtain⟨N,m,e|⟨e,_⟩⟩:=fL z
    .subst e;exact m
    .cases e
  obtain⟨_,t⟩:=B.fr _ L rfl;have E:IU X.e.scope x:=by
   rcases t with z|z
   .exact .inr (.inl z)
   .exact .inr (.inr z)
  obtain⟨u,ru,lk⟩:=A i x v M H E;refine⟨u,ru,.inr ⟨?_,?_⟩⟩
  .rcases g with z|z|z
   .exact absurd z R
   .exact .inl z
   .exact .inr z
  .rcases lk with ⟨z,_⟩|⟨_,c,W,ic⟩
   .rcases t with a|a
    .rw [z]at a;cases a
    .rw [z]at a;cases a
   .obtain⟨c',r⟩:=B.has L;have:=(B.cl s r).1
    rw[W]at this;cases this;obtain⟨o,w,hd⟩:=ic;exact⟨c,r,o,l c o w,hd⟩
 .obtain⟨v,o,w,hd⟩:=s.cell x c (B.cl s e).1;exact⟨v,o,l c o w,hd⟩
 .show bO I k.heap.objs.size (.lst []) h=none;rw[aj (aI D)];exact K
 .obtain⟨v,o,w,hd⟩:=s.cell x c (B.cl s e).1;rw[aj (bb (aB w))];exact s.freeC x c (B.cl s e).1
 .exact s.h.laid l (ag _) ⟨bX _,[],0,.nil,f⟩
 .show (my y n J).length=N'.length;rw[uu,s.len,B.more]
inductive cIv(K:FG)(Y9:Cx)(F1:Aa)(m1:List Addr)(H2:Hp)(A:Addr)(tn:Nat->Heap->Prop)(fp:List Addr)(R:Nat->Nat->Lc->U->List P->Prop)(ys:List P)(nn:Nat)(sx:Shared):Prop
 |mk (i:Nat) (J':L2.St) (F':Aa) (m':List Addr) (H':Hp) (L':Lc) (S':U) (acc rest:List P) (xs:List V) (h0_:Inv Y9 [] J' H' sx) (h1_:tn i sx.heap) (h2_:∀b ∈ fp,H' b=none) (h3_:Stp F1 m1 H2 F' m' H') (h4_:Rel K F' H' m' S') (h5_:RL K F' H' m' J' L') (h6_:H' A=some (.lst xs)) (h7_:b7 K F' H' acc xs) (h8_:acc.length≤i) (h9_:¬F' A) (ha_:A ∉ m') (hb_:R nn i L' S' rest) (hc_:acc++rest=ys):cIv K Y9 F1 m1 H2 A tn fp R ys nn sx
def RM(K:FG)(ok:U->Prop)(a:It)(T:List P)(F:Aa)(m:List Addr)(H:Hp):Prop:=∀B s I S,Stp F m H B s I->Rel K B I s S->ok S ->
 (∀(i:Nat) v,T[i]? = some v->a.go i I/\∀x h,a.yld i I x h->∃e,Grow B I e h/\RP K e h v x)/\a.stop T.length I
def re(X:Cx)(t iter:Expr)(f:EV)(y:List Nat)(n:Nat)(g:kc)(c:EB)(fe:EV):Prop:=∃w,PI X t iter w/\∀J H F m L S d a,Rel X.K F H m S->RL X.K F H m J L->f L S=some (d,a) ->
 ∃ok T x s,d=.lst s/\few T=true/\w J H (λe z=>∃C h,Stp F m H C h z/\Rel X.K C z h x/\RM X.K ok e T C h z)/\jS ok g c fe T (my y n L) x=some (s,a)
theorem Ow(i:PI X Q iter (tI X.K u)):re X Q iter (b8 u y n g t fe) y n g t fe:=by
 refine⟨_,i,λJ H F m L S d a r l h=>?_⟩;obtain⟨T,x,s,h⟩:=ah h;split at h;case isFalse=>cases h
 rename_i f;obtain⟨j,e,k,h⟩:=ah h;cases h;exact⟨λ_=>True,T,x,j,rfl,f,⟨F,m,L,S,T,x,r,l,s,λo C c z w v b=>⟨C,c,w,v,λB p I a q _ _=>b B p I q⟩⟩,by rw[qX];exact k⟩
theorem k7 
  (B:BlockOk X G N' y n) (hcalm:X.c=true)
  (hi:PI X tg iter wi) (hg:∀s H h D,PG (inn X G N' s H h D) tg (gT X.K g)) (hc:∀s H h D,PIfs (inn X G N' s H h D) ifs fc) (he:∀s H h D,Y (inn X G N' s H h D) elt (tV X.K fe))
  (hclos:closureFor G X.e=pure (lL G X.e)) (hs:∀x,foldedSetIterable iter X.e x=pure x)
  (a:Inv X pins J H s) (r:Rel X.K F H m S) (l:RL X.K F H m J L) (hw:wi J H λJ9 z=>∃C m1,Stp F m H C m1 z/\Rel X.K C z m1 S1/\RM X.K ok J9 T C m1 z) (hfew:few T=true) (e2:jS ok g fc fe T (my y n L) S1=some (ds,S2))
  (fin:∀p F' m' H' sx h xs,Inv X pins J H' sx->Stp F m H F' m' H'->Rel X.K F' H' m' S2->H p=none/\¬F' p/\p ∉ m'/\H' p=some (.lst xs)/\b7 X.K F' H' ds xs->H' h=none->X.z.heap.objs.size≤h->h≠X.e.locals->(∀x c,X.e.cells.lookup x=some c->c≠h)->(∀p ∈ X.pn++pins,p.1≠h) ->
   (∃mC,sx.heap.Ns h mC)->compPost (model X.p X.w) X.A X.xe use Q (.ref p) h (.ok .next) sx) :
  wx X (comprehension (.ListComp elt [⟨tg,iter,ifs,0⟩] G M) G X.e p2 (newList []) false (eval iter X.e) use) Q X.xe s:=by
 refine wpAny_comprehension_free (use:=use) rfl hs hclos B.kind B.loc (cF (hi pins s J H _ a hw) λxv sA hA=>cF hA λitv P h2=>?_);obtain⟨it,D,tn,J9,I,rfl,I2,k,st2,f2,C,m1,s1,r1,itp⟩:=h2;have hfp:∀b ∈ D,b < P.heap.objs.size:=λb R=>by obtain⟨o,e,_⟩:=k.obj _ _ st2 b R;exact aB e
 refine pS ?_ (by show 0≤sizeLine;exact bX _);refine AM B.cell (by intro t hy;simp at hy) (λh1 hns1 Z=>?_) B.kind;dsimp only at hns1 Z ⊢;have hD:I P.heap.objs.size=none:=I2.h.fresh (ag _);generalize hH2:P.heap.push { cls:=.type "list",dict:=none,data:=.seq ([]:LV).toArray }=K at hns1 Z ⊢;have hC:K.objs.size=P.heap.objs.size+1:=by rw[<- hH2,lX]
 have A:P.heap.objs.size≤K.objs.size:=by rw[hC];exact iA _
 have old:∀b o,P.heap.get? b=some o->h1.get? b=some o:=λb o e=>Z.extBut b o (bb (bD (aB e) A)) (aO _ (hH2 ▸ aO _ e));have hDC:P.heap.objs.size≠K.objs.size:=by rw[hC];exact bb (jA _)
 have accO:h1.get? P.heap.objs.size=some { cls:=.type "list",dict:=none,data:=.seq ([]:LV).toArray }:=Z.extBut _ _ hDC (aO _ (hH2 ▸ br _ rfl));have hCn:I K.objs.size=none:=I2.h.fresh A;have hCcell:∀x c,X.e.cells.lookup x=some c->c≠K.objs.size:=λx c e d=>by obtain⟨v,o,ho,_⟩:=I2.cell x c e;exact absurd (aB ho) (tJ.mpr (by rw[d];exact A))
 have hCloc:K.objs.size≠X.e.locals:=bP (bD I2.lt A);have hCpin:∀p ∈ X.pn++pins,p.1≠K.objs.size:=λp hp d=>absurd (aB (I2.pin p hp).1) (tJ.mpr (by rw[d];exact A));have I3:=II (tk:=P.toks+([]:List (Str×Value)).length) B I2 A f2 hfp old hD hDC hCn hns1 accO;have okX:=Fi (k:=K.objs.size) B I2 A f2 hfp;have fpH:∀{H':Hp},(∀b ∈ D,H' b=none)->∀b ∈ D,vq (inn X G N' P I K.objs.size D) [] H' b:=λhn b R=>
  ⟨hn b R,bb (bD (hfp b R) A),okX.exfs b R,.inl R,(okX.exf b R).2,λp hp=>absurd (show p ∈ ([]:PN) from hp) (by simp)⟩
 have tn1:tn 0 h1:=k.keep _ _ _ st2 λb R o e=>old b o e;have loop:∀s3:Shared,s3={ P with heap:=h1,toks:=P.toks+([]:List (Str×Value)).length } ->
   codeAny (model X.p X.w) X.A (.compLoop (.ListComp elt [⟨tg,iter,ifs,0⟩] G M) 0 (.ref it) (.ref P.heap.objs.size) (compEnvC G (lL G X.e) K.objs.size X.e))
    (compPost (model X.p X.w) X.A X.xe use Q (.ref P.heap.objs.size) K.objs.size) s3:=by
  rintro s3 rfl;refine CN (cIv X.K (inn X G N' P I K.objs.size D) C m1 I P.heap.objs.size tn D (λnn i L' N j=>nn=T.length-i/\i≤T.length/\jS ok g fc fe (T.drop i) L' N=some (j,S2)) ds) ?_ T.length ?_
  .rintro nn sx ⟨i,J',F',m',H',L',N,acc,j,xs,I',tn',fr',st',r',l',hacc,ra,hal,nF,nm,⟨rfl,hi',E⟩,rfl⟩;by_cases hlt:i < T.length
   .have hv:T[i]? = some T[i]:=by simp[hlt]
    rw[z4 hlt]at E;unfold jS at E;split at E;case isFalse=>cases E
    rename_i hok;obtain⟨hgo,_⟩:=itp F' m' H' N st' r' hok;obtain⟨hgo1,hy⟩:=hgo i _ hv;refine cA (k.item (inn X G N' P I K.objs.size D) rfl rfl rfl hcalm i [] sx J' H' (λ_ _=>False) I' (fpH fr') tn' hgo1) (λrr sy hr=>?_) (λ_ _ f=>f.elim);obtain⟨u,rfl,hr⟩:=hr;refine cA hr (λ_ sz hz=>?_) (λ_ _ f=>f.elim);obtain⟨x,H3,I4,rx,yl,tn4,fr4⟩:=hz;obtain⟨F3,gr,p3⟩:=hy x H3 yl;have Ge:Stp C m1 I F3 m' H3:=st'.trans gr.stp;have r4:=r'.grow gr;have l4:=l'.mono (gr.stp (m:=m'));have acc4:=gr.keep _ _ hacc;have nF4:¬F3 P.heap.objs.size:=λd=>by
     rcases gr.nf _ d with d|⟨d,_⟩
     .exact nF d
     .rw [hacc]at d;cases d
    have I4':=I4.pinned (fpH fr4) (k.obj _ _ tn4);have back:∀{J7:L2.St}{H7:Hp}{s7:Shared},Inv (inn X G N' P I K.objs.size D) ([]++nK D sz.heap) J7 H7 s7->tn (i+1) s7.heap/\∀b ∈ D,H7 b=none:=λ{J7 H7 s7} I7=>
     ⟨k.keep _ _ _ tn4 λb R o e=>(I7.pin (b,o) (eT _ (eT _ (jM R e)))).1,λb R=>by obtain⟨o,e,dd⟩:=k.obj _ _ tn4 b R;exact(I7.pin (b,o) (eT _ (eT _ (jM R e)))).2.1⟩
    cases eg:g T[i] L' with
    |none=>rw[eg]at E;cases E
    |some L1=>
     rw[eg]at E;dsimp only at E;obtain⟨kk,S5,e5,E⟩:=ah E;refine cA (hg P I K.objs.size D _ sz J' H3 x u (λJ5 H5=>H5=H3/\RL X.K F3 H3 m' J5 L1) I4' rx ⟨F3,m',L',T[i],L1,l4,p3,eg,λJ5 l5=>⟨rfl,l5⟩⟩) (λ_ s5 h5=>?_) (λ_ _ f=>f.elim);obtain⟨J5,H5,I5,rfl,l5⟩:=h5;have test:wx X (forIn ifs true λc r=>if r=true then do let ok <- isTrue c (compEnvC G (lL G X.e) K.objs.size X.e) (eval c (compEnvC G (lL G X.e) K.objs.size X.e));pure (ForInStep.yield ok) else pure (ForInStep.yield r))
       (λok s6=>ok=kk/\∃V m6 H6,Inv (inn X G N' P I K.objs.size D) ([]++nK D sz.heap) J5 H6 s6/\Stp F3 m' H5 V m6 H6/\Rel X.K V H6 m6 S5) (λ_ _=>False) s5:=by
      have hcc:=hc P I K.objs.size D;cases hcc with
      |none=>cases e5;exact wpAny_tests_nil ⟨rfl,F3,m',H5,I5,.refl,r4⟩
      |one hq=>refine wpAny_tests_one (cA (hq _ s5 J5 H5 (λb H6=>b=kk/\∃V m6,Stp F3 m' H5 V m6 H6/\Rel X.K V H6 m6 S5) I5 ⟨F3,m',L1,N,kk,S5,r4,l5,e5,λV m6 H6 s6 r6=>⟨rfl,V,m6,s6,r6⟩⟩) (λb s6 h6=>?_) λ_ _ f=>f);obtain⟨H6,I6,rfl,V,m6,DV,r6⟩:=h6;exact⟨rfl,V,m6,H6,I6,DV,r6⟩
     refine cA test (λok s6 h6=>?_) (λ_ _ f=>f.elim);obtain⟨rfl,V,m6,H6,I6,DV,r6⟩:=h6;have W:=DV.oth _ _ acc4 nm;have nm6:P.heap.objs.size ∉ m6:=λd=>by
      rcases DV.nm _ d with d|d
      .exact nm d
      .rw [acc4]at d;cases d
     have nF6:¬V P.heap.objs.size:=λd=>by
      rcases DV.nf _ d with d|d|d
      .exact nF4 d
      .rw [acc4]at d;cases d
      .exact nm d
     have ra6:=b7.mono DV (ra.grow gr);have l6:=l5.mono DV;cases ok with
     |false=>rw[af bx]at E ⊢;obtain⟨t7,f7⟩:=back I6;exact⟨T.length-(i+1),by lia,i+1,J5,V,m6,H6,L1,S5,acc,j,xs,I6.pins_of λp hp=>absurd hp (by simp),t7,f7,Ge.trans DV,r6,l6,W,ra6,zy hal,nF6,nm6,⟨rfl,hlt,E⟩,rfl⟩
     |true=>
      rw[ac rfl]at E ⊢;obtain⟨t,S8,e8,E⟩:=ah E;obtain⟨zs,S9,e9,E⟩:=ah E;cases E;refine cA (he P I K.objs.size D _ s6 J5 H6 (λv8 H8=>∃F8 m8,Stp V m6 H6 F8 m8 H8/\Rel X.K F8 H8 m8 S8/\RP X.K F8 H8 t v8) I6 ⟨V,m6,L1,S5,t,S8,r6,l6,e8,λv8 F8 m8 H8 s8 r8 p8=>⟨F8,m8,s8,r8,p8⟩⟩) (λu8 s8 h8=>?_) (λ_ _ f=>f.elim);obtain⟨v8,H8,I8,rv8,F8,m8,st8,r8,p8⟩:=h8;have acc8:=st8.oth _ _ W nm6;have nm8:P.heap.objs.size ∉ m8:=λd=>by
       rcases st8.nm _ d with d|d
       .exact nm6 d
       .rw [W]at d;cases d
      have nF8:¬F8 P.heap.objs.size:=λd=>by
       rcases st8.nf _ d with d|d|d
       .exact nF6 d
       .rw [W]at d;cases d
       .exact nm6 d
      have ra8:=b7.mono st8 ra6;have nt8:∀zs,H8 P.heap.objs.size≠some (.tup zs):=λzs d=>by rw[acc8]at d;cases d
      have nc8:∀x u,H8 P.heap.objs.size≠some (.frz x (.own u)):=λx u d=>by rw[acc8]at d;cases d
      have hl8:xs.length < sizeLine:=by have h9:T.length≤1000000:=aJ hfew;rw[<- ra8.length];exact bD (jB hal hlt) (au h9 (by decide))
      refine cA (sr (X:=inn X G N' P I K.objs.size D) _ s8 J5 H8 (.ref P.heap.objs.size) [v8] (.ref P.heap.objs.size) [u8] (λ_ H9=>H9=bO H8 P.heap.objs.size (.lst (xs++[v8]))) I8 rfl (.cons rv8 .nil) ⟨_,xs,v8,rfl,rfl,acc8,hl8,rfl⟩) (λ_ s9 h9=>?_) (λ_ _ f=>f.elim);obtain⟨_,H9,I9,_,rfl⟩:=h9;obtain⟨t9,f9⟩:=back I9;have kb:Kp F8 m8 H8 F8 m8 (bO H8 P.heap.objs.size (.lst (xs++[v8]))):=Kp.bump nF8 nt8 nc8;have st9:Stp C m1 I F8 m8 (bO H8 P.heap.objs.size (.lst (xs++[v8]))):=(Ge.trans (DV.trans st8)).bump hD;have l9:RL X.K F8 (bO H8 P.heap.objs.size (.lst (xs++[v8]))) m8 J5 L1:=⟨l6.len,λw dd e=>by obtain⟨v,e1,rr⟩:=(l6.mono st8).at' w dd e;exact⟨v,e1,RD.kp kb rr⟩⟩
      exact⟨T.length-(i+1),by lia,i+1,J5,F8,m8,_,L1,S8,acc++[t],zs,xs++[v8],I9.pins_of fun p hp=>absurd hp (by simp),t9,f9,st9,r8.bump nF8 nm8 nt8 nc8,l9,aD,
       b7.kp kb (ra8.append ⟨v8,[],rfl,p8,rfl⟩),by rw[aX];exact Nat.succ_le_succ hal,nF8,nm8,⟨rfl,hlt,e9⟩,by simp⟩
   .have e:i=T.length:=by lia
    subst e;rw[pj]at E;unfold jS at E;split at E;case isFalse=>cases E
    rename_i hok;cases E;obtain⟨_,hstop⟩:=itp F' m' H' _ st' r' hok;refine cA (k.done (inn X G N' P I K.objs.size D) rfl rfl rfl hcalm T.length [] sx J' H' (λ_ _=>False) I' (fpH fr') tn' hstop) (λrr sy hr=>?_) (λ_ _ f=>f.elim);obtain⟨rfl,I5⟩:=hr;rw[cZ] at *
    have Iout:Inv X pins J H' sy:=I2.call' (q:=D) I5.os I5.base I5.h I5.bare λb R=>⟨(f2 b R).2.2.2.1,(f2 b R).2.1,(f2 b R).2.2.2.2.1,(f2 b R).2.2.2.2.2⟩;have hD0:H P.heap.objs.size=none:=by
     cases q:H P.heap.objs.size with
     |none=>rfl
     |some o=>exact absurd hD (s1.trk _ (by rw[q];exact λd=>nomatch d))
    have hCH:H' K.objs.size=none:=I5.free;obtain⟨mC,hmC,_⟩:=I5.loc;exact fin P.heap.objs.size F' m' H' sy K.objs.size xs Iout (s1.trans st') r' ⟨hD0,nF,nm,hacc,ra⟩ hCH (au I2.sz A) hCloc hCcell hCpin ⟨mC,hmC⟩
  .exact⟨0,_,C,m1,_,my y n L,S1,[],ds,[],I3,tn1,λb R=>by rw[aj (bb (hfp b R))];exact(f2 b R).1,(cg hD).stp,r1.grow (cg hD),((l.mono s1).mono (cg hD).stp).up y n,aD,rfl,bX _,r1.fresh_F hD,r1.fresh_m hD,⟨rfl,bX _,by rw[l7];exact e2⟩,rfl⟩
 exact codeAny_compStart_list (loop _ rfl) (k.self X.A 0 _ _ _ tn1 (loop _ rfl))
theorem wL(q:Stp F m H F' m' H')(r:Rel K F' H' m' S)(f:H p=none/\¬F' p/\p ∉ m'/\H' p=some (.lst xs)/\b7 K F' H' k xs) :
  Stp F m H (λb=>F' b\/b=p) m' H'/\Rel K (λb=>F' b\/b=p) H' m' S/\RP K (λb=>F' b\/b=p) H' (.lst k) (.ref p):=by
 obtain⟨x,e,n,h,a⟩:=f;exact⟨q.addF x,r.addF n (by rw[h];exact λz=>nomatch z),_,xs,rfl,⟨.inr rfl,h⟩,b7.kp (m:=m') Ru a⟩
theorem MS(B:BlockOk X G N' y n)(c:X.c=true)
  (W:re X tg iter f y n g fc fe) (hg:∀s H C a,PG (inn X G N' s H C a) tg (gT X.K g)) (V:∀s H C a,PIfs (inn X G N' s H C a) u fc) (Z:∀s H C a,Y (inn X G N' s H C a) t (tV X.K fe))
  (o:closureFor G X.e=pure (lL G X.e)) (hs:∀x,foldedSetIterable iter X.e x=pure x:=by intro _;rfl) :
  Y X (.ListComp t [⟨tg,iter,u,0⟩] G M) (tV X.K f):=by
 intro i s J H Q I ⟨F,m,L,S,d,N,r,l,h,k⟩;rw[An];obtain⟨wi,hi,W⟩:=W;obtain⟨ok,T,S1,ds,rfl,e,hw,K⟩:=W J H F m L S d N r l h;refine k7 B c hi hg V Z o hs I r l hw e K λp F' m' H' sx C xs v q r' f R P A D E hz=>?_
 obtain⟨mC,b⟩:=hz;obtain⟨w,j,z⟩:=wL q r' f;exact⟨mC,b,λh' sb=>⟨.ref p,H',v.letGo sb R P A D E,rfl,k _ _ m' H' w j z⟩⟩
@[simp] def oy(f:EV)(L:Lc)(S:U):wY:=bI (f L S) λv h=>match v with
 | .lst d=>some (.ref h.length,h++[.lst (d.map .p)])
 |_=>none
theorem wK(q:Stp F m H F' m' H')(r:Rel K F' H' m' S)(f:H p=none/\¬F' p/\p ∉ m'/\H' p=some (.lst xs)/\b7 K F' H' Q xs) :
  Stp F m H F' (m'++[p]) H'/\Rel K F' H' (m'++[p]) (S++[.lst (Q.map .p)]):=by
 obtain⟨v,j,l,c,y⟩:=f;have g:Kp F' m' H' F' (m'++[p]) H':=⟨⟨[p],rfl⟩,λ_ h=>h,λ_ _ _ h=>h,λ_ _ h=>h,λ_ _ _ h=>h⟩;have lt:∀{i:Nat}{a:Addr},(m'++[p])[i]? = some a->i < m'.length\/(i=m'.length/\a=p):=λ{i a} e=>by
  rcases tL i m'.length with h|h
  .exact .inl h
  .rw [bH h]at e;have d:i-m'.length=0:=by
    rcases zA (i-m'.length) with z|z
    .exact z
    .rw [pA (by simp;lia)]at e;cases e
   rw[d]at e;exact .inr ⟨by lia,by simpa using e.symm⟩
 refine⟨⟨?_,q.oth,q.frz,q.frk,q.tup,q.trk,q.nf,λb t=>?_,q.cod⟩,⟨by rw[aX,aX,r.len];rfl,?_,λi a o s x=>?_,λi a o s x w=>?_,λa k=>?_,r.ft⟩⟩
 .obtain⟨n,e⟩:=q.pre;exact⟨n++[p],by rw[e,eS]⟩
 .rcases bE.mp t with t|t
  .exact q.nm b t
  .have:b=p:=by simpa using t
   subst this;exact .inr v
 .rw [jF];refine⟨r.nd,by simp,λa k b t e=>?_⟩;have:b=p:=by simpa using t
  subst this;subst e;exact l k
 .rcases lt s with h|⟨h,rfl⟩
  .rw [bL h]at s;rw[bL (by rw[<- r.len];exact h)]at x;exact(r.obj i a o s x).kp g λu z=>z
  .subst h;rw[r.len,bH (ag _)]at x;simp at x;subst x;exact⟨xs,c,cV.ofP y⟩
 .rcases lt s with h|⟨h,rfl⟩
  .rw [bL h]at s;rw[bL (by rw[<- r.len];exact h)]at x;exact r.sep i a o s x w
  .exact j
 .rcases bE.mp k with k|k
  .exact r.trk a k
  .have:a=p:=by simpa using k
   subst this;rw[c];exact λz=>nomatch z
theorem JP(B:BlockOk X G N' y n)(c:X.c=true)
  (W:re X tg iter f y n g fc fe) (hg:∀s H C a,PG (inn X G N' s H C a) tg (gT X.K g)) (hc:∀s H C a,PIfs (inn X G N' s H C a) u fc) (he:∀s H C a,Y (inn X G N' s H C a) t (tV X.K fe))
  (o:closureFor G X.e=pure (lL G X.e)) (hs:∀x,foldedSetIterable iter X.e x=pure x:=by intro _;rfl) :
  Y X (.ListComp t [⟨tg,iter,u,0⟩] G M) (tE X.K (oy f)):=by
 intro i s J H Q I ⟨F,m,L,S,d,N,r,l,h,k⟩;rw[An];obtain⟨v,z,A,h⟩:=ah h;obtain⟨wi,hi,W⟩:=W;obtain⟨ok,T,S3,ds,rfl,e,hw,D⟩:=W J H F m L S v z r l A;cases h;refine k7 B c hi hg hc he o hs I r l hw e D λp F' m' H' sx C xs j q w f hC E R V Z hz=>?_
 obtain⟨mC,b⟩:=hz;obtain⟨K,P⟩:=wK q w f;refine⟨mC,b,λh' sb=>⟨.ref p,H',j.letGo sb hC E R V Z,rfl,k _ F' _ H' K P ⟨p,rfl,?_⟩⟩⟩;rw[<- w.len,bH (ag _)];simp
theorem MG(i:Nat)(hN:X.N.Nodup)(B:BlockOk X G N' y n)(c:X.c=true)
  (W:re X tg iter f y n g fc fe) (hg:∀s H C b,PG (inn X G N' s H C b) tg (gT X.K g)) (hc:∀s H C b,PIfs (inn X G N' s H C b) u fc) (he:∀s H C b,Y (inn X G N' s H C b) t (tV X.K fe))
  (o:closureFor G X.e=pure (lL G X.e)) (R:swapsWith (.ListComp t [⟨tg,iter,u,0⟩] G M) (some (.Name x px)) spos.line X.e=pure true:=by rfl)
  (hs:∀x,foldedSetIterable iter X.e x=pure x:=by intro _;rfl) (A:X.N[i]? = some x:=by rfl) (hx:Loc X.e.scope x:=by first|exact Or.inl rfl|exact Or.inr rfl)
  (hf:X.fn x=true\/X.e.scope.names.lookup x=some .local:=by first|exact .inl rfl|exact .inr rfl|assumption) :
  PS X (.Assign [.Name x px] (.ListComp t [⟨tg,iter,u,0⟩] G M) spos) (kl X.K (aC i (O f))):=by
 intro K s J H D I ⟨F,m,L,S,fl,L',N,r,l,h,k⟩;obtain⟨d,S1,e1,h⟩:=ah h;cases h;obtain⟨v,S2,e2,e3⟩:=ah e1;cases e3;rw[C3 _ _ _ _ R];refine ab (sW (ab ?_));show wpAny _ _ (do let _ <- comprehension (.ListComp t [⟨tg,iter,u,0⟩] G M) G X.e _ (newList []) false (eval iter X.e) (some (assign (.Name x px) X.e))) _ _ s;obtain⟨wi,hi,W⟩:=W;obtain⟨ok,T,S3,ds,rfl,j,hw,e4⟩:=W J H F m L S v _ r l e2;refine ab (cA (k7 (use:=some (assign (.Name x px) X.e)) (Q:=λ_ V=>SP X K D .next V) B c hi hg hc he o hs I r l hw j e4 λp F' m' H' sx C xs I' st0 r0 f hC h0 h1 h2 h3 hz=>?_) (λ_ V hq=>al (al hq)) λ_ _ e=>e);obtain⟨mC,E⟩:=hz;obtain⟨q,r',rp⟩:=wL st0 r0 f;refine xc (nE I' hN A hx (v:=.ref p) rfl (λV P z=>?_) hf);refine⟨mC,?_,λh' sb=>⟨_,H',P.letGo sb hC h0 h1 h2 h3,k _ _ m' H' q r' ((l.mono q).set (d:=.p (.lst ds)) rp i)⟩⟩;obtain⟨a,Z,w⟩:=z;refine E.sameBut Z ?_;rcases w with w|w
 .rw [w];exact h1
 .exact aI (h2 x a w)
end
end Ev
namespace Ev
open PySem PySem.Spec PyProof.Rows L2
section
variable{X:Cx}{a b e:Expr}{es:Ab}{C t:EV}{fs:j_}{N p:Pos}
noncomputable def CG:P->Option P
 | .int i=>some (.int (-i))
 |_=>none
theorem PP(f:Y X a (tV X.K C)):Y X (.UnaryOp .USub a N) (tV X.K (MY CG C)):=(Nu JW f).imp' λJ H Q z=>by
 obtain⟨F,m,L,S,d,t,r,l,q,k⟩:=z;obtain⟨x,w,n,q⟩:=ah q;cases x with
 |int i=>cases q;exact⟨F,m,L,S,_,_,r,l,n,λv h b e s c p=>⟨i,p,k _ h b e s c rfl⟩⟩
 |_=>cases q
noncomputable def sP:List P->Option P
 | [.int i]=>some (.int i)
 | [.bl b]=>some (.int (if b then 1 else 0))
 |_=>none
theorem Qm{K:FG}{F:Aa}{H:Hp}{d h:P}{s:List V}(r:b7 K F H [d,h] s):∃x y,s=[x,y]/\RP K F H d x/\RP K F H h y:=by obtain⟨x,f,rfl,p,e⟩:=r;obtain⟨y,n,rfl,a,k⟩:=e;cases (show n=[] from k);exact⟨x,y,rfl,p,a⟩
theorem xM{K:FG}{F:Aa}{H:Hp}{d:P}{s:List V}(r:b7 K F H [d] s):∃x,s=[x]/\RP K F H d x:=by obtain⟨x,h,rfl,p,a⟩:=r;cases (show h=[] from a);exact⟨x,rfl,p⟩
theorem IL:eE X (.type "int") (rC X.K sP):=by
 intro B s J H n u Q I r h;obtain⟨F,e,d,f,a,q,k⟩:=h;unfold sP at q;split at q
 .cases q;obtain⟨x,rfl,p⟩:=xM a;exact sM B s J H _ u Q I r (.inl ⟨_,by rw[show x=_ from p],k _ F H .refl rfl⟩)
 .cases q;obtain⟨x,rfl,p⟩:=xM a;exact sM B s J H _ u Q I r (.inr ⟨_,by rw[show x=_ from p],k _ F H .refl rfl⟩)
 .cases q
noncomputable def ou:EE:=λ_ S=>some (.ref S.length,S++[.dct [] []])
theorem DD:Y X (.Dict [] [] N) (tE X.K ou):=Ep.imp' λJ H Q z=>by obtain⟨F,m,L,S,d,x,r,l,q,k⟩:=z;cases q;intro p h;refine k (.ref p) F (m++[p]) _ (dD h) (r.own h ⟨[],aD,rfl,rfl⟩) ⟨p,rfl,?_⟩;rw[<- r.len,bH (ag _)];simp
noncomputable def qW(k:b0)(v:D):List b0->List D->List b0×List D
 |h::s,w::x=>if h=k then (h::s,v::x) else (h::(qW k v s x).1,w::(qW k v s x).2)
 |_,_=>([k],[v])
noncomputable def mI(d:D)(S:U):Option (Nat×List b0×List D):=match d with
 | .ref i=>match S[i]? with
  |some (.dct k T)=>some (i,k,T)
  |_=>none
 |_=>none
theorem uJ(h:mI v S=some (i,u,T)):v=.ref i/\S[i]? = some (.dct u T):=by
 unfold mI at h;split at h
 .split at h
  .rename_i e;cases h;exact⟨rfl,e⟩
  .cases h
 .cases h
def xK(o:EE)(k v:EV):ES:=λL S=>bI (v L S) λy x=>bI (o L x) λd a=>bI (k L a) λz h=>match mI d h,cP z with
 |some (i,s,T),some e=>if (s.Nodup/\few s=true) then some (.nx,L,h.set i (.dct (qW e (.p y) s T).1 (qW e (.p y) s T).2)) else none
 |_,_=>none
theorem sh{K:FG}{F:Aa}{H:Hp}{m:List Addr}{k:b0}{y:D}{u:V}(b:RD K F H m y u):∀{v:List (b0×V)}{s:List D},(v.map (·.1)).Nodup->cV K F H m s (v.map (·.2)) ->
  (putK v k u).map (·.1)=(qW k y (v.map (·.1)) s).1/\cV K F H m (qW k y (v.map (·.1)) s).2 ((putK v k u).map (·.2))
 | [],s,_,r=>by have:s=[]:=g9 r.length;subst this;exact⟨rfl,u,[],rfl,b,rfl⟩
 |(h,w)::v,[],_,r=>by have:=r.length;simp at this
 |(h,w)::v,d::s,g,r=>by
  obtain⟨x,E,e,C,i⟩:=r;rw[aA]at e g;injection e with j o;subst j;subst o;obtain⟨t,p⟩:=bQ.mp g;simp only[aA,qW];by_cases hk:h=k
  .subst hk;rw[ac rfl];have n:putK ((h,w)::v) h u=(h,u)::v:=by
    unfold putK;rw[ac (by simp)];rw[aA,ac rfl];congr 1;have:∀l:List (b0×V),h ∉ l.map (·.1)->l.map (λa=>if a.1=h then (a.1,u) else a)=l:=by
     intro l;induction l with
     |nil=>intro _;rfl
     |cons q l B=>
      intro f;rw[aA]at f;have S:¬q.1=h:=λz=>f (by rw[<- z];exact aH)
      rw[aA,af S,B λz=>f (aG _ z)]
    exact this v t
   rw[n];exact⟨rfl,u,_,rfl,b,i⟩
  .rw [af hk];obtain⟨P,A⟩:=sh b p i;have n:putK ((h,w)::v) k u=(h,w)::putK v k u:=by
    unfold putK;rw[du,bo (show ¬(h,w).1=k from hk),kT];by_cases c:(v.any λa=>decide (a.1=k))=true
    .rw [ac c,ac c,aA,af (show ¬(h,w).1=k from hk)]
    .rw [af c,af c];rfl
   rw[n,aA,aA,P];exact⟨rfl,w,_,rfl,C,A⟩
theorem Ps{o i g:Expr}{I:EE}{r z:EV}{G:Pos}(hu:X.A.units+1 < cLine)(ho:Y X o (tE X.K I))(hi:Y X i (tV X.K r))(hv:Y X g (tV X.K z))(hs:swapsWith g (some (.Subscript o i G)) N.line X.e=pure false:=by rfl) :
  PS X (.Assign [.Subscript o i G] g N) (kl X.K (xK I r z)):=(A8 hu ho hi hv hs).imp' λD J H hz=>by
 obtain⟨F,m,L,S,fl,L',S',h,l,q,k⟩:=hz;obtain⟨y,M,e1,q⟩:=ah q;obtain⟨d,Q,e2,q⟩:=ah q;obtain⟨e,R,e3,q⟩:=ah q;refine⟨F,m,L,S,y,M,h,l,e1,λv E m1 H1 p r1 p1=>?_⟩;refine⟨E,m1,L,M,d,Q,r1,l.mono p,e2,λx F2 m2 H2 u r2 p2=>?_⟩;refine⟨F2,m2,L,Q,e,R,r2,(l.mono p).mono u,e3,λw f c b K C p3=>?_⟩;cases A:mI d R with
 |none=>rw[A]at q;cases q
 |some t=>
  obtain⟨j,ks,T⟩:=t;rw[A]at q;cases P:cP e with
  |none=>rw[P]at q;cases q
  |some n=>
   rw[P]at q;dsimp only at q;split at q
   .rename_i Z;cases q;obtain⟨rfl,es⟩:=uJ A;obtain⟨a,rfl,B⟩:=RD.mono K p2;obtain⟨s,W,hk,rs⟩:=C.obj j a _ B es;subst hk;have pv:RD X.K f b c (.p y) v:=RD.mono K (RD.mono u (show RD X.K E H1 m1 (.p y) v from p1));obtain⟨h1,h2⟩:=sh (k:=n) pv Z.1 rs;cases (im P p3);have nt:∀zs,b a≠some (.tup zs):=λzs e=>by rw[W]at e;cases e
    have st:Stp f c b f c (bO b a (.dK (putK s n v))):=eU C B es trivial nt;have hl:s.length < sizeLine:=by have V:(s.map (·.1)).length≤1000000:=aJ Z.2;rw[aQ]at V;exact jB V (by decide)
    refine⟨a,_,rfl,wX.k W hl,?_⟩;exact k J f c _ (p.trans (u.trans (K.trans st))) (C.set B es trivial nt ⟨_,aD,h1,cV.mono st h2⟩) (((l.mono p).mono u).mono (K.trans st))
   .cases q
end
section
variable{X:Cx}{a b c e:Expr}{es:Ab}{C t q:EV}{fs:j_}{N p:Pos}
abbrev CJ:P->P->Option P:=RA
theorem NM(_:X.A.units+1 < cLine):oS X (compareOp .Eq) CJ:=QC
@[simp] def jc(a:EV)(L:Lc)(S:U):DI:=bI (a L S) λv h=>match v with
 | .lst x=>some (x,h)
 | .ro x=>some (x,h)
 | .tup x=>some (x,h)
 |_=>none
theorem iS{N iter:Expr}(h:Y X iter (tV X.K C)):PI X N iter (tI X.K (jc C)):=by
 intro B s J H R I ⟨F,m,L,S,T,Z,r,l,q,k⟩;obtain⟨v,K,e1,q⟩:=ah q;refine cF (h B s J H (λx n=>∃c w,Stp F m H c w n/\Rel X.K c n w K/\RP X.K c n v x) I ⟨F,m,L,S,v,K,r,l,e1,λx c w n f D j=>⟨c,w,f,D,j⟩⟩) λu f A=>?_
 obtain⟨x,n,t,M,c,w,st,D,j⟩:=A;have mk:∀{E:It},Mb X.K E T c w n->K=Z->R E n:=λit e=>by subst e;exact k _ c w n st D it
 have i:∀{a:Addr}{z:List V},x=.ref a->iy X.K n a z->R (Pp X.K a) n->wx X (pyIter u) (Pm X B J N R) X.xe f:=λ{a z} e hq q=>by
  subst e;cases M;obtain⟨g,rv,p,A⟩:=t.list hq;refine xf p.isList ?_;refine⟨f.heap.objs.size,[f.heap.objs.size],_,_,n,rfl,t.kept (t':=f.toks) λb o e=>aO _ e,B0 a _,⟨_,br _ rfl,rfl,rfl⟩,λb P=>?_,q⟩;have e:b=f.heap.objs.size:=by simpa using P
  subst e;exact t.fpOk (ag _) (t.h.fresh (ag _))
 cases v with
 |lst G=>cases q;obtain⟨a,z,rfl,d,y⟩:=j;exact i rfl d.sq (mk (E_ (λQ m2 W s=>(d.kp s.kp).sq) y) rfl)
 |ro G=>cases q;obtain⟨a,z,rfl,d,y⟩:=j;exact i rfl d.sq (mk (E_ (λQ m2 W s=>(d.kp s.kp).sq) y) rfl)
 |tup G=>
  cases q;obtain⟨a,z,rfl,d,y⟩:=j;cases M;obtain⟨g,rv,pp,A⟩:=t.tuple d.sq;refine s_ (show f.heap.IsTuple a g.toArray from pp) ?_;refine⟨f.heap.objs.size,[f.heap.objs.size],_,_,n,rfl,t.kept (t':=f.toks) λb o e=>aO _ e,xy a _,⟨_,br _ rfl,rfl,rfl⟩,λb P=>?_,mk (Lr d y) rfl⟩;have e:b=f.heap.objs.size:=by simpa using P
  subst e;exact t.fpOk (ag _) (t.h.fresh (ag _))
 |_=>cases q
end
section
variable{X:Cx}{N p:Pos}
end
noncomputable def cE:Nat->P->Bool
 |_,.non=>true
 |_,.bl _=>true
 |_,.int _=>true
 |_,.str x=>aW x
 |n+1,.tup s=>s.all (cE n)
 |n+1,.lst s=>s.all (cE n)
 |n+1,.ro s=>s.all (cE n)
 |_,_=>false
variable{n:Nat}
theorem pI:∀{s:List P},(∀d ∈ s,(pd d).canLay0=true/\(pd d).depth≤n)->vw (i_ s)=true/\pZ (i_ s)≤n
 | [],_=>⟨rfl,bX _⟩
 |d::r,h=>by obtain⟨⟨p,a⟩,q⟩:=List.forall_mem_cons.mp h;obtain⟨x,e⟩:=pI q;exact⟨by simp only[i_,vw,p,x,Bool.and_self],by simp only[i_,pZ];lia⟩
theorem fM:∀(n:Nat)(p:P),cE n p=true->(pd p).canLay0=true/\(pd p).depth≤n
 |_,.non,_=>⟨rfl,bX _⟩
 |_,.bl _,_=>⟨rfl,bX _⟩
 |_,.int _,_=>⟨rfl,bX _⟩
 |n,.str x,h=>⟨by cases n<;>exact h,bX _⟩
 |n,.dct _ _,h=>by cases n<;>cases h
 |0,.tup _,h=>by cases h
 |0,.lst _,h=>by cases h
 |0,.ro _,h=>by cases h
 |n+1,.tup s,h=>by obtain⟨a,b⟩:=pI λd hd=>fM n d (a_.mp h d hd);exact⟨a,by simp only[pd,rX];lia⟩
 |n+1,.lst s,h=>by obtain⟨a,b⟩:=pI λd hd=>fM n d (a_.mp h d hd);exact⟨a,by simp only[pd,rX];lia⟩
 |n+1,.ro s,h=>by obtain⟨a,b⟩:=pI λd hd=>fM n d (a_.mp h d hd);exact⟨a,by simp only[pd,rX];lia⟩
theorem jL(h:cE 20 p=true):zG (pd p)=true:=by obtain⟨x,a⟩:=fM 20 p h;unfold zG;rw[x,ui];exact gX (by lia)
section
variable{X:Cx}{B:PN}{J:L2.St}{H:Hp}{s:Shared}{F:Aa}
theorem iI(o:∀{p:P}{v:V}{u:Value},RP X.K F H p v->RelV v u->cE n p=true->∃k,Reads s.heap u (pd p) k) :
  ∀{f:List P}{a:List V}{b:LV},b7 X.K F H f a->ba a b->(∀d ∈ f,cE n d=true)->∃k,ReadsAll s.heap b (i_ f) k
 | [],a,b,r,v,_=>by cases (show a=[] from r);cases v;exact⟨_,.nil⟩
 |d::f,a,b,r,v,h=>by
  obtain⟨x,i,rfl,p,r⟩:=r;cases v with
  |cons w t=>obtain⟨k,q⟩:=o p w (h d (.head _));obtain⟨g,m⟩:=iI o r t λe c=>h e (.tail _ c);exact⟨_,.cons q m⟩
theorem ie(I:Inv X B J H s):∀(n:Nat){p:P}{v:V}{u:Value},RP X.K F H p v->RelV v u->cE n p=true->∃w,Reads s.heap u (pd p) w:=by
 intro n;induction n with
 |zero=>
  intro p v u r k h;cases p with
  |non=>cases (show v=.non from r);cases k;exact⟨_,.none⟩
  |bl b=>cases (show v=.bl b from r);cases k;exact⟨_,.bool b⟩
  |int i=>cases (show v=.int i from r);obtain⟨t,rfl⟩:=k;exact⟨_,.int i t⟩
  |str x=>cases (show v=.str x from r);obtain⟨t,rfl⟩:=k;exact⟨_,.str x t⟩
  |_=>simp[cE]at h
 |succ n y=>
  intro p v u r k h;cases p with
  |non=>cases (show v=.non from r);cases k;exact⟨_,.none⟩
  |bl b=>cases (show v=.bl b from r);cases k;exact⟨_,.bool b⟩
  |int i=>cases (show v=.int i from r);obtain⟨t,rfl⟩:=k;exact⟨_,.int i t⟩
  |str x=>cases (show v=.str x from r);obtain⟨t,rfl⟩:=k;exact⟨_,.str x t⟩
  |dct A T=>simp[cE]at h
  |tup z=>obtain⟨a,K,rfl,l,j⟩:=r;cases k;obtain⟨g,f,⟨o,e,c,m,d⟩,S⟩:=I.tuple l.sq;obtain⟨w,q⟩:=iI y j f (by simpa[cE] using h);rw[pd];exact⟨w,reads_tuple_at e c d (by simpa using q)⟩
  |lst z=>obtain⟨a,K,rfl,l,j⟩:=r;cases k;obtain⟨g,f,⟨o,m,e,c,_,d⟩,S⟩:=I.list l.sq;obtain⟨w,q⟩:=iI y j f (by simpa[cE] using h);rw[pd];exact⟨_,tF e c d (by simpa using q)⟩
  |ro z=>obtain⟨a,K,rfl,l,j⟩:=r;cases k;obtain⟨g,f,⟨o,m,e,c,_,d⟩,S⟩:=I.list l.sq;obtain⟨w,q⟩:=iI y j f (by simpa[cE] using h);rw[pd];exact⟨_,tF e c d (by simpa using q)⟩
end
noncomputable def oJ(f:D->Option P):List D->Option (List P)
 | []=>some []
 |d::r=>(f d).bind λv=>(oJ f r).map λT=>v::T
def eI(S:U):Nat->D->Option P
 |_,.p v=>some v
 |0,.ref _=>none
 |n+1,.ref i=>match S[i]? with
  |some (.lst d)=>(oJ (eI S n) d).map .lst
  |some (.fz v)=>some v
  |_=>none
@[simp] theorem uD(S:U)(n:Nat)(v:P):eI S n (.p v)=some v:=by cases n<;>rfl
theorem Bh(S:U)(n:Nat):∀T:List P,oJ (eI S n) (T.map .p)=some T
 | []=>rfl
 |v::r=>by simp[oJ,Bh S n r]
section
variable{X:Cx}{B:PN}{J:L2.St}{H:Hp}{s:Shared}{F:Aa}{m:List Addr}{S:U}
theorem qF(o:∀{d:D}{v:V}{u:Value}{p:P},RD X.K F H m d v->RelV v u->eI S n d=some p->cE a0 p=true->∃c,Reads s.heap u (pd p) c) :
  ∀{f:List D}{b:List V}{t:LV}{k:List P},cV X.K F H m f b->ba b t->oJ (eI S n) f=some k->(∀d ∈ k,cE a0 d=true)->∃c,ReadsAll s.heap t (i_ k) c
 | [],b,t,k,r,v,q,_=>by cases (show b=[] from r);cases v;cases q;exact⟨_,.nil⟩
 |d::f,b,t,k,r,v,q,h=>by
  obtain⟨x,B,rfl,p,r⟩:=r;obtain⟨y,j,q⟩:∃a,eI S n d=some a/\(oJ (eI S n) f).map (λT=>a::T)=some k:=by
   cases e:eI S n d with
   |none=>simp[oJ,e]at q
   |some a=>exact⟨a,rfl,by simpa[oJ,e] using q⟩
  obtain⟨C,l,rfl⟩:∃a,oJ (eI S n) f=some a/\k=y::a:=by
   cases e:oJ (eI S n) f with
   |none=>rw[e]at q;cases q
   |some a=>rw[e]at q;cases q;exact⟨a,rfl,rfl⟩
  cases v with
  |cons K z=>obtain⟨c,g⟩:=o p K j (h y (.head _));obtain⟨A,w⟩:=qF o r z l λe i=>h e (.tail _ i);exact⟨_,.cons g w⟩
theorem dJ(I:Inv X B J H s)(y:Rel X.K F H m S):∀(n k:Nat){d:D}{v:V}{u:Value}{p:P},RD X.K F H m d v->RelV v u->eI S n d=some p->cE k p=true->∃b,Reads s.heap u (pd p) b:=by
 intro n;induction n with
 |zero=>
  intro k d v u p r x q h;cases d with
  |p w=>rw[uD]at q;cases q;exact ie I k r x h
  |ref i=>cases q
 |succ n C=>
  intro k d v u p r x q h;cases d with
  |p w=>rw[uD]at q;cases q;exact ie I k r x h
  |ref i=>
   obtain⟨a,rfl,g⟩:=r;have A:i < S.length:=by rw[<- y.len];exact(bw.mp g).1
   obtain⟨o,j⟩:∃o,S[i]? = some o:=⟨S[i],by simp[A]⟩;have l:=y.obj i a o g j;simp only[eI,j]at q;cases o with
   |fz w=>cases q;exact ie I k l x h
   |dct M t=>cases q
   |ins _ _ _=>cases q
   |dtn _ _=>cases q
   |dtt _ _=>cases q
   |fn _=>cases q
   |lst t=>
    dsimp only at q;cases e:oJ (eI S n) t with
    |none=>rw[e]at q;cases q
    |some Q=>
     rw[e]at q;cases q;cases k with
     |zero=>simp[cE]at h
     |succ k=>obtain⟨R,K,G⟩:=l;cases x;obtain⟨E,f,⟨o,N,z,c,_,d⟩,L⟩:=I.list (iy.of K);obtain⟨b,q⟩:=qF (a0:=k) (λr x q h=>C k r x q h) G f e (by simpa[cE] using h);rw[pd];exact⟨_,tF z c d (by simpa using q)⟩
theorem mF(l:Rel X.K F H m S)(r:RD X.K F H m u v)(q:eI S n u=some p)(f:∀s,p≠.lst s/\p≠.tup s):RP X.K F H p v:=by
 cases u with
 |p w=>rw[uD]at q;cases q;exact r
 |ref i=>
  cases n with
  |zero=>cases q
  |succ n=>
   obtain⟨a,rfl,h⟩:=r;have k:i < S.length:=by rw[<- l.len];exact(bw.mp h).1
   obtain⟨o,x⟩:∃o,S[i]? = some o:=⟨S[i],by simp[k]⟩;have b:=l.obj i a o h x;simp only[eI,x]at q;cases o with
   |fz w=>cases q;exact b
   |dct t d=>cases q
   |ins _ _ _=>cases q
   |dtn _ _=>cases q
   |dtt _ _=>cases q
   |fn _=>cases q
   |lst d=>
    dsimp only at q;cases e:oJ (eI S n) d with
    |none=>rw[e]at q;cases q
    |some c=>rw[e]at q;cases q;exact absurd rfl (f c).1
end
inductive rEI(K:FG)(g:D->D->U->Option P)(x:V)(y:V)(H:Hp)(Q:VK):Prop
 |mk (F:Aa) (m:List Addr) (S:U) (d:D) (e:D) (v:P) (h0_:Rel K F H m S) (h1_:RD K F H m d x) (h2_:RD K F H m e y) (h3_:g d e S=some v) (h4_:∀u F' H',Grow F H F' H'->RP K F' H' v u->Q u H'):rEI K g x y H Q
noncomputable def rE(K:FG)(g:D->D->U->Option P):R2:=λx y H Q=>rEI K g x y H Q
@[simp] def dF(g:D->D->U->Option P)(a b:EE)(L:Lc)(S:U):tyV:=bI (a L S) λx e=>bI (b L e) λy h=>(g x y h).map λv=>(v,h)
section
variable{X:Cx}{a b:Expr}{C t:EE}{N:Pos}
theorem AZ(h:tV X.K (dF a0 C t) J H Q):Kb (rE X.K a0) (tE X.K C) (tE X.K t) J H Q:=by
 obtain⟨F,m,L,S,d,K,r,l,q,k⟩:=h;obtain⟨x,a,P,q⟩:=ah q;obtain⟨y,s,A,q⟩:=ah q;refine⟨F,m,L,S,x,a,r,l,P,λv p B M b I D=>?_⟩;refine⟨p,B,L,a,y,s,I,l.mono b,A,λu i n N c f E=>?_⟩;cases e:a0 x y s with
 |none=>rw[e]at q;cases q
 |some z=>rw[e]at q;cases q;exact⟨i,n,K,x,y,_,f,RD.mono c D,E,e,λw j o g G=>k w j n o (b.trans (c.trans g.stp)) (f.grow g) G⟩
theorem MT(o:i4 X (compareOp u) (rE X.K v))(x:Y X a (tE X.K C))(e:Y X b (tE X.K t))(m:behindInMarks u b=false):Y X (.Compare a [u] [b] N) (tV X.K (dF v C t)):=
 (Ba o x e m).imp' λ_ _ _ h=>AZ h
theorem MH(o:i4 X (compareOp op) (rE X.K u))(c:Y X a (tE X.K C))(w:Y X b (tE X.K t))(g:behindInMarks op b=false):PT X (.Compare a [op] [b] N) (tQ X.K (bV (dF u C t))):=
 (A7 o c w g).imp' λJ H Q h=>by
  refine AZ ?_;obtain⟨F,m,L,S,d,y,r,l,q,k⟩:=h;obtain⟨x,z,f,q⟩:=ah q;cases x with
  |bl b=>cases q;exact⟨F,m,L,S,_,_,r,l,f,λv e i n s j p=>⟨_,p,k e i n s j⟩⟩
  |_=>cases q
end
def IB(x y:P):Option Bool:=match CJ x y with
 |some (.bl b)=>some b
 |_=>if (cE 20 x && cE 20 y)=true then some (eA (pd x) (pd y)) else none
def Gg(d e:D)(S:U):Option P:=(eI S 9 d).bind λx=>(eI S 9 e).bind λy=>(IB x y).map .bl
def CW(x y:P):Option Bool:=match LQ x y with
 |some (.bl b)=>some b
 |_=>if (cE 20 x && cE 20 y)=true then some (!PyData.eqv (pd x) (pd y)) else none
def CZ(d e:D)(S:U):Option P:=(eI S 9 d).bind λx=>(eI S 9 e).bind λy=>(CW x y).map .bl
noncomputable def lq(c:D)(S:U):Option (List b0):=match c with
 | .p (.dct k _)=>some k
 | .ref i=>match S[i]? with
  |some (.dct k _)=>some k
  |some (.fz (.dct k _))=>some k
  |_=>none
 |_=>none
noncomputable def Cv(k:b0)(s:List b0):Bool:=s.any λh=>decide (h=k)
def Mj(d c:D)(S:U):Option Bool:=match lq c S with
 |some s=>(eI S 9 d).bind λx=>(cP x).map λk=>Cv k s
 |none=>none
def LC(d c:D)(S:U):Option P:=(Mj d c S).map .bl
noncomputable def eC:D->Bool
 | .p .non=>true
 |_=>false
def vr(d e:D)(_:U):Option P:=match e with
 | .p .non=>some (.bl (eC d))
 |_=>none
def dw(d e:D)(_:U):Option P:=match e with
 | .p .non=>some (.bl (!eC d))
 |_=>none
theorem yo(h:CJ x v=some b):(∀s,x≠.lst s/\x≠.tup s)/\∀s,v≠.lst s/\v≠.tup s:=by
 refine⟨λs=>⟨λe=>?_,λe=>?_⟩,λs=>⟨λe=>?_,λe=>?_⟩⟩
 .subst e;cases v<;>cases h
 .subst e;cases v<;>cases h
 .subst e;cases x<;>cases h
 .subst e;cases x<;>cases h
section
variable{X:Cx}
theorem NL(o:X.A.units+64 < cLine):i4 X (compareOp .Eq) (rE X.K Gg):=by
 intro B s J H x y v u Q I j z h;obtain⟨F,m,S,d,e,r,l,g,i,q,k⟩:=h;unfold Gg at q;cases t:eI S 9 d with
 |none=>rw[t]at q;cases q
 |some a=>
  rw[t]at q;cases p:eI S 9 e with
  |none=>rw[p]at q;cases q
  |some b=>
   rw[p]at q;simp only[jx]at q;cases n:IB a b with
   |none=>rw[n]at q;cases q
   |some c=>
    rw[n]at q;cases q;unfold IB at n;split at n
    .rename_i G w;cases n;obtain⟨K,P⟩:=yo w;exact NM (by lia) B s J H x y v u Q I j z ⟨F,a,b,.bl c,l.ft,mF l g t K,mF l i p P,w,k⟩
    .split at n
     .rename_i f;rw[ar]at f;cases n;obtain⟨D,A⟩:=dJ I l 9 20 g j t f.1;obtain⟨E,C⟩:=dJ I l 9 20 i z p f.2;exact eq_dataH A C (jL f.1) (jL f.2) o ⟨.bl _,H,I,rfl,k _ F H .refl rfl⟩
     .cases n
theorem CH(h:LQ x v=some b):(∀s,x≠.lst s/\x≠.tup s)/\∀s,v≠.lst s/\v≠.tup s:=by
 refine⟨λs=>⟨λe=>?_,λe=>?_⟩,λs=>⟨λe=>?_,λe=>?_⟩⟩
 .subst e;cases v<;>cases h
 .subst e;cases v<;>cases h
 .subst e;cases x<;>cases h
 .subst e;cases x<;>cases h
theorem NE(o:X.A.units+64 < cLine):i4 X (compareOp .NotEq) (rE X.K CZ):=by
 intro B s J H x y v u Q I j z h;obtain⟨F,m,S,d,e,r,l,g,i,q,k⟩:=h;unfold CZ at q;cases t:eI S 9 d with
 |none=>rw[t]at q;cases q
 |some a=>
  rw[t]at q;cases p:eI S 9 e with
  |none=>rw[p]at q;cases q
  |some b=>
   rw[p]at q;simp only[jx]at q;cases n:CW a b with
   |none=>rw[n]at q;cases q
   |some c=>
    rw[n]at q;cases q;unfold CW at n;split at n
    .rename_i G w;cases n;obtain⟨K,P⟩:=CH w;exact Qx B s J H x y v u Q I j z ⟨F,a,b,.bl c,l.ft,mF l g t K,mF l i p P,w,k⟩
    .split at n
     .rename_i f;rw[ar]at f;cases n;obtain⟨D,A⟩:=dJ I l 9 20 g j t f.1;obtain⟨E,C⟩:=dJ I l 9 20 i z p f.2;exact ne_dataH A C (jL f.1) (jL f.2) o ⟨.bl _,H,I,rfl,k _ F H .refl rfl⟩
     .cases n
theorem mH(x:P):∀s:List P,(i_ s).any (λy=>eA y (pd x))=s.any λy=>eA (pd y) (pd x)
 | []=>rfl
 |y::r=>by rw[i_,du,du,mH x r]
theorem ED(h:v.all (cE 19)=true):vw (i_ v)=true/\pZ (i_ v)≤20:=by have l:=fM 20 (.lst v) h;simp only[pd,De,rX]at l;have x:=l.2;exact⟨l.1,by lia⟩
theorem BY:(gB u v).isSome=Cv v (u.map (·.1)):=by
 induction u with
 |nil=>rfl
 |cons p r i=>
  unfold Cv at i ⊢;by_cases h:p.1=v
  .rw [ib h,aA,du,gX h];rfl
  .rw [gA h,i,aA,du,bo h];rfl
theorem FJ{K:FG}{F:Aa}{H:Hp}{m:List Addr}{S:U}{c:D}{y:V}{s:List b0}(r:Rel K F H m S)(p:RD K F H m c y)(q:lq c S=some s):∃a k,y=.ref a/\H a=some (.dK k)/\k.map (·.1)=s:=by
 unfold lq at q;split at q
 .cases q;obtain⟨a,k,e,_,hk,h,_⟩:=p;exact⟨a,k,e,hk,h⟩
 .rename_i i;obtain⟨a,rfl,x⟩:=p;split at q
  .rename_i o;cases q;obtain⟨k,hk,h,_⟩:=r.obj i a _ x o;exact⟨a,k,rfl,hk,h⟩
  .rename_i o;cases q;obtain⟨b,k,e,_,hk,h,_⟩:=r.obj i a _ x o;cases e;exact⟨a,k,rfl,hk,h⟩
  .cases q
 .cases q
theorem NI(A:X.A.units+64 < cLine):i4 X (compareOp .In) (rE X.K LC):=by
 intro B s J H x y v u Q I K P h;obtain⟨F,m,S,d,e,r,l,j,o,q,k⟩:=h;unfold LC Mj at q;cases c:lq e S with
 |some C=>
  rw[c]at q;dsimp only at q;cases f:eI S 9 d with
  |none=>rw[f]at q;cases q
  |some a=>
   rw[f]at q;simp only[jx]at q;cases n:cP a with
   |none=>rw[n]at q;cases q
   |some w=>rw[n]at q;cases q;obtain⟨b,g,rfl,hk,p⟩:=FJ l o c;have i:RP X.K F H a x:=mF l j f λE=>⟨λz=>(by subst z;cases n),λz=>(by subst z;cases n)⟩;cases P;cases im n i;exact QZ (by lia) I (j1.k hk) K λD t=>⟨.bl _,H,t,rfl,by rw[BY,p];exact k _ F H .refl rfl⟩
 |none=>rw[c]at q;cases q
theorem NH:i4 X (compareOp .Is) (rE X.K vr):=by
 intro B s J H x y v u Q I c t h;obtain⟨F,m,S,d,e,r,l,n,f,q,k⟩:=h;unfold vr at q;split at q
 .cases q;cases (show y=.non from f);refine K1 B s J H x _ v u Q I c t ⟨rfl,?_⟩;have:decide (x=.non)=eC d:=by
   cases d with
   |ref i=>obtain⟨a,rfl,_⟩:=n;rfl
   |p w=>
    cases w with
    |non=>cases (show x=.non from n);rfl
    |bl b=>cases (show x=.bl b from n);rfl
    |int b=>cases (show x=.int b from n);rfl
    |str b=>cases (show x=.str b from n);rfl
    |_=>(obtain⟨a,g,rfl,_⟩:=n;rfl)
  rw[this];exact k _ F H .refl rfl
 .cases q
theorem EC:i4 X (compareOp .IsNot) (rE X.K dw):=by
 intro B s J H x y v u Q I c t h;obtain⟨F,m,S,d,e,r,l,n,f,q,k⟩:=h;unfold dw at q;split at q
 .cases q;cases (show y=.non from f);refine HQ B s J H x _ v u Q I c t ⟨rfl,?_⟩;have:decide (x=.non)=eC d:=by
   cases d with
   |ref i=>obtain⟨a,rfl,_⟩:=n;rfl
   |p w=>
    cases w with
    |non=>cases (show x=.non from n);rfl
    |bl b=>cases (show x=.bl b from n);rfl
    |int b=>cases (show x=.int b from n);rfl
    |str b=>cases (show x=.str b from n);rfl
    |_=>(obtain⟨a,g,rfl,_⟩:=n;rfl)
  rw[this];exact k _ F H .refl rfl
 .cases q
end
noncomputable def qN:List kc->List P->Lc->Option Lc
 | [],[],L=>some L
 |g::s,v::T,L=>match g v L with
  |some h=>qN s T h
  |none=>none
 |_,_,_=>none
def bF(g:List kc):kc:=λv L=>match v with
 | .tup T=>qN g T L
 |_=>none
theorem wu:∀{s:List kc}{T:List P}{L x:Lc},qN s T L=some x->T.length=s.length
 | [],[],_,_,_=>rfl
 | [],_::_,_,_,h=>by cases h
 |_::_,[],_,_,h=>by cases h
 |g::s,v::T,L,x,h=>by
  unfold qN at h;split at h
  .rw [aV,aV,wu h]
  .cases h
inductive gTsI(K:FG)(gs:List kc)(xs:List V)(J:L2.St)(H:Hp)(Q:L2.St->Hp->Prop):Prop
 |mk (F:Aa) (m:List Addr) (L:Lc) (vs:List P) (L':Lc) (h0_:RL K F H m J L) (h1_:b7 K F H vs xs) (h2_:qN gs vs L=some L') (h3_:∀J',RL K F H m J' L'->Q J' H):gTsI K gs xs J H Q
noncomputable def Sk(K:FG)(g:List kc):L_:=λx J H Q=>gTsI K g x J H Q
inductive GsOk(X:Cx):Ab->List kc->Prop where
 |nil:GsOk X [] []
 |cons {x:Str}{p:Pos}{es:Ab}{g:kc}{gs:List kc}:PG X (.Name x p) (gT X.K g)->GsOk X es gs->GsOk X (.Name x p::es) (g::gs)
section
variable{X:Cx}{N:Pos}
theorem rT:assignEach (.Name x p::es) v=(false,assign (.Name x p) v)::assignEach es v:=rfl
theorem GsOk.len(h:GsOk X es v)(e:Env):(assignEach es e).length=v.length/\(assignEach es e).findIdx? (·.1)=none:=by
 induction h with
 |nil=>exact⟨rfl,rfl⟩
 |cons _ _ i=>rw[rT];refine⟨by rw[aV,aV,i.1],?_⟩;simp only[List.findIdx?_cons,i.2];rfl
theorem GsOk.pgs(h:GsOk X es gs):OJ X es (Sk X.K gs):=by
 induction h with
 |nil=>
  intro B s J H f u Q I a ⟨F,m,L,T,e,l,r,q,k⟩;cases T with
  |nil=>cases q;cases (show f=[] from r);exact HJ B s J H [] u Q I a ⟨rfl,k J l⟩
  |cons _ _=>cases q
 |cons g _ i=>
  intro B s J H f u Q I a ⟨F,m,L,T,e,l,r,q,k⟩;cases T with
  |nil=>cases q
  |cons v T=>
   unfold qN at q;split at q
   .rename_i n b;obtain⟨x,t,rfl,p,r⟩:=r;refine Ei g i rfl B s J H _ u Q I a ⟨x,t,rfl,F,m,L,v,n,l,p,b,λd c=>?_⟩;exact⟨F,m,n,T,e,c,r,q,k⟩
   .cases q
theorem Lz(c:X.c=true)(h:GsOk X es u):PG X (.Tuple es n N) (gT X.K (bF u)):=
 PG.imp' (KE c h.pgs (h.len _).1 (h.len _).2) λv J H Q z=>by
  obtain⟨F,m,L,d,x,l,p,q,k⟩:=z;cases d with
  |tup T=>obtain⟨a,s,rfl,t,r⟩:=p;have e:=wu (show qN u T L=some x from q);exact⟨a,s,rfl,t.sq,by rw[<- r.length];exact e,F,m,L,T,x,l,r,q,k⟩
  |_=>cases q
def IW(K:FG)(a:Addr):It:=
 ⟨λi H=>∃s x,iy K H a s/\s[i]? = some x,λi H x h=>∃p y,x=.ref p/\H p=none/\h=bO H p (.tup [.int i,y])/\∀s,iy K H a s->s[i]? = some y,λi H=>∃s,iy K H a s/\s.length≤i⟩
theorem B1{P:Program}{w:World}{K:FG}{es:Ab}{n:Nat}(a e t:Addr)(C:e≠t):Turn P w K (.Tuple es n N) (IW K a) [e,t] e (λi h=>(∃l,IsEnum h e t i l)/\h.IsListIter t a i) where
 mem:=by simp
 obj:=λi h st b p=>by
  obtain⟨⟨l,A⟩,⟨o,ho,c,d⟩⟩:=st;have:b=e\/b=t:=by simpa using p
  rcases this with rfl|rfl
  .exact⟨_,A,λv z=>by have z':Data.fields _=Data.cell v:=z;cases z'⟩
  .exact⟨o,ho,λv z=>by rw[d]at z;cases z⟩
 keep:=λi h h' st k=>by obtain⟨⟨l,A⟩,y⟩:=st;exact⟨⟨l,k e (by simp) _ A⟩,y.at λo q=>k t (by simp) o q⟩
 item:=by
  intro X hP hw hK f i B s J H E I T st hg;subst hP hw hK;obtain⟨xs,x,V,hx⟩:=hg;obtain⟨its,rv,pl,hz⟩:=I.list V;obtain⟨u,hu,ru⟩:=rv.get hx;obtain⟨⟨l,A⟩,y⟩:=st;obtain⟨f0,f1,f2,f3,f4,f5⟩:=T e (by simp);obtain⟨M,Q,g2,Z,g4,g5⟩:=T t (by simp);refine wpAny_pyNext_enum_item A y pl.isList (x:=u) (by simpa using hu) C λh1 ho1 G ht1 hz1 hk1=>?_
  refine⟨_,rfl,Dc (s:={ s with heap:=h1,toks:=s.toks+1 }) ho1 λR he2 F=>?_⟩;replace F:dW e h1 R:=F;have D:e < s.heap.objs.size:=aB A;have S:∀b o,b≠e->b≠t->s.heap.get? b=some o->R.get? b=some o:=λb o b1 b2 q=>(F.2 b b1).trans (hk1 b o b1 b2 q);have L:R.get? s.heap.objs.size=some { cls:=.type "tuple",data:=.seq #[.int i s.toks,u] }:=(F.2 _ (bP D)).trans ht1;have j:H s.heap.objs.size=none:=I.h.fresh (ag _);have W:∀{b:Addr}{o:HO},H b=some o->b≠e/\b≠t:=λ{b o} q=>⟨λz=>(by rw[z,f0]at q;cases q),λz=>(by rw[z,M]at q;cases q)⟩;have g:∀b,b ∉ [e,t]->b≠e/\b≠t:=λb p=>⟨λz=>p (by simp[z]),λz=>p (by simp[z])⟩;have I':Inv X B J (bO H s.heap.objs.size (.tup [.int i,x])) { s with heap:=R,gens:=s.gens,drawn:=s.drawn,toks:=s.toks+1 }:=by
   refine I.step (ch:=[e,t]) (λb p=>?_) (λb o _ _ f q _=>S b o (g b f).1 (g b f).2 q) (λb o _ _ f q _=>⟨o.slots,S b o (g b f).1 (g b f).2 q⟩) (λb o _ q n=>?_) (λb o f q=>⟨o,S b o (g b f).1 (g b f).2 q⟩)
    (λb ys q=>?_) (λb o ys q=>?_) (λb q=>?_) (λm hm=>?_) (λb u' q=>?_) I.bare
   .have:b=e\/b=t:=by simpa using p
    rcases this with rfl|rfl
    .exact⟨f3,f1,f4,f5⟩
    .exact⟨Z,Q,g4,g5⟩
   .rw [aj (bb (aB q))];exact n
   .rw [aj (bz q j)];exact q
   .rw [aj (bz q j)];exact q
   .rw [aj (bz q j)];exact q
   .obtain⟨o,es,ep,ho,r⟩:=hm;exact⟨o,es,ep,S _ o (aI f1) (aI Q) ho,r⟩
   .by_cases p:b=s.heap.objs.size
    .subst p;rw[aD]at q;cases q;exact⟨by show 2≤sizeLine;decide,[.int i s.toks,u],.cons ⟨_,rfl⟩ (.cons ru .nil),⟨_,L,⟨rfl,_,rfl⟩,rfl⟩⟩
    .rw [aj p]at q;refine(I.h b u' q).stay (λc v f z=>S c v ?_ ?_ z) (λc z=>by rw[aj (bz z j)];exact z) λc ys z=>by rw[aj (bz z j)];exact z
     .rcases f with rfl|f
      .exact (W q).1
      .exact (W f).1
     .rcases f with rfl|f
      .exact (W q).2
      .exact (W f).2
  refine⟨.ref s.heap.objs.size,_,I',rfl,⟨s.heap.objs.size,x,rfl,j,rfl,λys hy=>by rw[I.list_inj hy V];exact hx⟩,⟨⟨u,by simpa using he2⟩,G.at λo q=>(F.2 t (aI C)).trans q⟩,λb p=>?_⟩;have hb':b=e\/b=t:=by simpa using p
  obtain⟨oi,hoi,_⟩:=id y;rcases hb' with rfl|rfl
  .rw [aj (bb D)];exact f0
  .rw [aj (bb (aB hoi))];exact M
 done:=by intro X hP hw hK f i B s J H E I T st hg;subst hP hw hK;obtain⟨xs,V,hx⟩:=hg;obtain⟨its,rv,pl,hz⟩:=I.list V;obtain⟨⟨l,A⟩,y⟩:=st;obtain⟨M,Q,g2,Z,g4,g5⟩:=T t (by simp);have hl:=rv.length;exact wpAny_pyNext_enum_end (I.o.hd f) A y pl.isList (by simp;lia) λh' eb=>⟨rfl,I.turned (t':=s.toks) (λb o p e=>eb b o p e) M Q Z g4 g5⟩
 self:=λ_ _ _ _ _ st h=>by obtain⟨⟨l,A⟩,_⟩:=st;exact sZ A h
noncomputable def cj(k:Int):List P->List P
 | []=>[]
 |x::r=>.tup [.int k,x]::cj (k+1) r
theorem k6:∀{T:List P}{k:Int}{i:Nat}{v:P},(cj k T)[i]? = some v->∃x,T[i]? = some x/\v=.tup [.int (k+i),x]
 | [],_,_,_,h=>by simp[cj]at h
 |x::r,k,0,v,h=>⟨x,rfl,by simpa[cj] using h.symm⟩
 |x::r,k,i+1,v,h=>by obtain⟨y,a,e⟩:=k6 (T:=r) (k:=k+1) (i:=i) (by simpa[cj] using h);refine⟨y,by simpa using a,?_⟩;rw[e];congr 3;lia
theorem d5:∀(T:List P)(k:Int),(cj k T).length=T.length
 | [],_=>rfl
 |_::r,k=>by rw[cj,aV,aV,d5 r]
@[simp] def QN(a:EV)(L:Lc)(S:U):DI:=bI (a L S) λv h=>match v with
 | .lst x=>some (cj 0 x,h)
 | .ro x=>some (cj 0 x,h)
 |_=>none
theorem Fa{K:FG}{F:Aa}{m:List Addr}{H:Hp}{a:Addr}{T:List P}{s:List V}(t:∀h k n,Stp F m H h k n->iy K n a s)(r:b7 K F H T s):Mb K (IW K a) (cj 0 T) F m H:=by
 intro h k n st;have q:=t h k n st;have l:=r.length;refine⟨λi v e=>?_,⟨s,q,by rw[d5,l];exact ag _⟩⟩;obtain⟨d,c,rfl⟩:=k6 e;obtain⟨x,f,p⟩:=r.get c;refine⟨⟨s,x,q,f⟩,λz u y=>?_⟩;obtain⟨g,y,rfl,b,rfl,w⟩:=y;have:y=x:=by have:=w s q;rw[f]at this;cases this;rfl
 subst this;refine⟨h,cg b,RP.newTup b ⟨_,_,rfl,?_,_,_,rfl,RP.mono st p,rfl⟩⟩;show V.int (i:Int)=V.int (0+(i:Int));rw[cO]
theorem iE{es:Ab}{n:Nat}{a:Expr}{C:EV}{p h:Pos}(hg:Gl X "enumerate")(hm:X.g "enumerate"=none)(ha:Y X a (tV X.K C))(G:starEach [a] X.e=[(false,eval a X.e)]):PI X (.Tuple es n N) (.Call (.Name "enumerate" p) [a] [] h) (tI X.K (QN C)):=by
 intro B s J H R I ⟨F,m,L,S,T,S',r,l,q,k⟩;obtain⟨v,A,e1,q⟩:=ah q;have hA:PA X [a] (rh X.K (aF C aS)):=Ga ha IS (by rw[G];rfl);refine Call_ (jN I hg hm ze (jz (cF (hA h B s J H (λt f=>∃c d,Stp F m H c d f/\Rel X.K c f d A/\b7 X.K c f [v] t) I ⟨F,m,L,S,[v],A,r,l,?_,λt c d f x j K=>⟨c,d,x,j,K⟩⟩) λus x ⟨t,f,w,Q,c,d,st,j,K⟩=>?_) (by rw[G];rfl) rfl))
 .simp only[aF,aS,e1,am]
 obtain⟨x1,rfl,M⟩:=xM K;obtain⟨u,rfl,ru⟩:=vals1 Q;have D:∀{a:Addr}{t:List V},x1=.ref a->iy X.K f a t->R (IW X.K a) f->wx X (call (.type "enumerate") [u]) (λv x=>wx X (pyIter v) (Pm X B J (.Tuple es n N) R) X.xe x) X.xe x:=λ{a t} e hq q=>by
  subst e;cases ru;obtain⟨its,Q,pl,hz⟩:=w.list hq;refine call_enumerate_list pl.isList λh' E o hsz hk=>?_
  refine sZ E ?_;have g:∀b,x.heap.objs.size≤b->f b=none:=λb y=>w.h.fresh y;refine⟨x.heap.objs.size+1,[x.heap.objs.size+1,x.heap.objs.size],_,_,f,rfl,w.kept (t':=x.toks) hk,B1 a _ _ (bP (jA _)),⟨⟨_,E⟩,o⟩,λb y=>?_,q⟩;have z:b=x.heap.objs.size+1\/b=x.heap.objs.size:=by simpa using y
  rcases z with rfl|rfl
  .exact w.fpOk (iA _) (g _ (iA _))
  .exact w.fpOk (ag _) (g _ (ag _))
 cases v with
 |lst ds=>cases q;obtain⟨a,t,rfl,i,P⟩:=M;exact D rfl i.sq (k _ c d f st j (Fa (λW m2 Z s=>(i.kp s.kp).sq) P))
 |ro ds=>cases q;obtain⟨a,t,rfl,i,P⟩:=M;exact D rfl i.sq (k _ c d f st j (Fa (λW m2 Z s=>(i.kp s.kp).sq) P))
 |_=>cases q
end
open PySem.AutoSeq1 (wpAny_loadPart')
theorem FS(n:Nat):(iq n=true)=(n≤1000000):=by unfold iq;simp
variable{d:Type}{Q:d->Shared->Prop}
theorem O4(h:c=false)(k:wpAny M A b Q E s):wpAny M A (if c=true then a else b) Q E s:=by rw[h,af bx];exact k
theorem Sh(h:c=true)(k:wpAny M A a Q E s):wpAny M A (if c=true then a else b) Q E s:=by rw[h,ac rfl];exact k
theorem wA(a:Array Value)(n:Nat):∀b:Array Value,((List.replicate n a).foldl (·++·) b).size=b.size+n * a.size:=by
 induction n with
 |zero=>intro b;simp
 |succ n i=>intro b;rw[cD,fH,i,Ah,lV];lia
theorem Hc(l:Addr)(i:Array Value)(n:Nat)(e:Option Addr)(k:Array (OV))(x:Int)(u:Tok)(c:-1000000 < x/\x < 1000000)(m:(i.isEmpty ||x == 1)=true) :
  Meets (Builtin.«tuple.__mul__» ⟨[.ref l,.int x u],[]⟩) (λ_ R s=>s.heap.get? l=some { cls:=.type "tuple",dict:=e,data:=.seq i n,slots:=k }/\R (.ok (.ret (Value.ref l))) s):=
 .of_wp λprog w A R s h=>by
  obtain⟨p,g,d,t,os⟩:=s;obtain⟨a,h⟩:=h;have f:=yD;have b:=yE
  wp_walk using lA a
  refine O4 (by rw[bo (by lia),bo (by lia)];rfl) ?_
  wp_walk using lA a
  exact⟨_,rfl,h⟩
theorem Hb(l:Addr)(i:Array Value)(n:Nat)(c:Option Addr)(q:Array (OV))(x:Int)(u:Tok)(H:-1000000 < x/\x < 1000000)(f:¬(i.isEmpty ||x == 1)=true)(z:i.size * x.toNat≤1000000) :
  Meets (Builtin.«tuple.__mul__» ⟨[.ref l,.int x u],[]⟩) (fun _ R s=>s.heap.get? l=some { cls:=.type "tuple",dict:=c,data:=.seq i n,slots:=q } /\
   R (.ok (.ret (Value.ref s.heap.objs.size))) { s with heap:=s.heap.push { cls:=Value.type "tuple",data:=Data.seq ((List.replicate x.toNat i).foldl (·++·) #[]) } }):=
 .of_wp λprog w A R s h=>by
  obtain⟨S,g,d,K,os⟩:=s;obtain⟨a,h⟩:=h;have y:=yD;have o:=yE
  wp_walk using lA a
  refine O4 (by rw[bo (by lia),bo (by lia)];rfl) ?_
  wp_walk using lA a
  have k:i.isEmpty=false:=by
   cases e:i.isEmpty with
   |false=>rfl
   |true=>rw[e]at f;simp at f
  by_cases b:x≤0
  .refine Sh (by rw[gX b];rfl) ?_;have m:x.toNat=0:=by lia
   rw[m]at h
   wp_walk using lA a
   exact⟨_,rfl,h⟩
  .refine O4 (by rw[bo b,k];rfl) ?_;have p:(i.size:Int) * x≤1000000:=by
    have:((i.size * x.toNat:Nat):Int)≤1000000:=by lia
    rw[yJ,yK (by lia)]at this;exact this
   have r:¬(i.size:Int) * x > (2 ^ 63-1) / 8:=by lia
   dsimp only;rw[af r];have F:(1000000:Int)≤(sizeLine:Int):=by decide
   refine O4 (show Jy _=false from bo (by lia)) ?_;have t:¬(pc (λv j=>v++j) #[] (List.replicate x.toNat i)).size > sizeLine:=by
    have e:=wA i x.toNat #[];rw[e];have:x.toNat * i.size≤1000000:=by rw[kM];exact z
    have:(1000000:Nat)≤sizeLine:=by decide
    simp only[bc,pf];lia
   wp_walk using lA a
   exact⟨_,rfl,h⟩
theorem Hu(a:Int)(t:Tok)(l:Addr)(i:Array Value)(n:Nat)(x:Option Addr)(e:Array (OV)) :
  Meets (Builtin.«int.__rmul__» ⟨[.int a t,.ref l],[]⟩) (λ_ R s=>s.heap.get? l=some { cls:=.type "tuple",dict:=x,data:=.seq i n,slots:=e }/\R (.ok (.ret Value.notImplemented)) s):=
 .of_wp λprog w A R s h=>by
  obtain⟨p,g,d,f,os⟩:=s;obtain⟨k,h⟩:=h
  wp_walk
  exact⟨_,rfl,h⟩
theorem Ci:fillsNumberSlot (.type "tuple") "mul"=pure false:=
 PySem.fillsNumberSlot_seq (id:="tuple.__mul__") (r:=some (.builtin "tuple.__rmul__")) o4.lookup (by decide +kernel) y7.lookup (by decide +kernel)
theorem Ko:seqRepeat? (.type "tuple")=pure (some (.builtin "tuple.__mul__")):=by unfold seqRepeat?;rw[C7 (T:="tuple") (name:="__mul__") (id:="tuple.__mul__") o4.lookup (by decide +kernel)];first|rfl|(rw[C7 (T:="tuple") (name:="__rmul__") (id:="tuple.__rmul__") y7.lookup (by decide +kernel)];rfl)
section
variable{X:Cx}
theorem yg(i:LV)(k:Nat):(List.replicate k i.toArray).foldl (·++·) #[]=(List.replicate k i).flatten.toArray:=by
 have:∀(m:Nat)(b:LV),(List.replicate m i.toArray).foldl (·++·) b.toArray=(b++(List.replicate m i).flatten).toArray:=by
  intro m;induction m with
  |zero=>intro b;simp
  |succ m x=>intro b;rw[cD,fH,List.append_toArray,x,cD,gn,eS]
 have h:=this k [];rw[eR]at h;exact h
theorem AT(r:ba u v):∀k:Nat,ba (List.replicate k u).flatten (List.replicate k v).flatten
 |0=>.nil
 |k+1=>by rw[cD,cD,gn,gn];exact r.append (AT r k)
theorem Lh(x:List d)(k:Nat):(List.replicate k x).flatten.length=x.length * k:=by
 induction k with
 |zero=>rfl
 |succ k i=>rw[cD,gn,aX,i,zr];lia
def mX:P->P->Option P
 | .tup s,.int n=>if (iq (s.length * n.toNat) && decide (n.natAbs < 1000000))=true then some (.tup (List.replicate n.toNat s).flatten) else none
 |x,y=>vd x y
theorem K4:oS X (binaryOp .Mult) mX:=by
 intro B s J H x y v u Q I M N h;obtain⟨F,z,S,d,W,G,L,q,k⟩:=h;have f:vd z S=some d->wx X (binaryOp .Mult v u) (EP X B J Q) X.xe s:=λq=>NF B s J H x y v u Q I M N ⟨F,z,S,d,W,G,L,q,k⟩
 cases z with
 |tup j=>
  cases S with
  |int n=>
   simp only[mX]at q;split at q
   .rename_i g;rw[ar,FS]at g;have h1:=aJ g.2;cases q;obtain⟨a,D,rfl,R,C⟩:=G;cases (show y=.int n from L);cases M;obtain⟨t,rfl⟩:=N;have K:=C.length;obtain⟨i,r,⟨o,e,c,m,E⟩,hz⟩:=I.tuple R.sq;have l:=r.length;obtain⟨oc,A,ot,os⟩:=o;dsimp only at c E;subst c E;refine Db (T:="tuple") (U:="int") (by decide) ⟨_,e,rfl⟩ (λZ=>pN Z n t) Ci yQ oZ Ko yS.lookup
     (gG oZ (pN s n t) yR (yU _ _) (Hu n t a i.toArray m A os) ⟨e,rfl,⟨_,e,rfl⟩,?_⟩)
    by_cases p:(i.toArray.isEmpty ||n == 1)=true
    .refine gG o4 ⟨_,e,rfl⟩ y4 (y8 _ _) (Hc a i.toArray m A os n t (by lia) p) ⟨e,⟨.ref a,H,I,rfl,k _ F H .refl ?_⟩⟩;have V:(List.replicate n.toNat j).flatten=j:=by
      rw[uj]at p;rcases p with p|p
      .have:i=[]:=by simpa using p
       have:j=[]:=g9 (by rw[K,l,this];rfl);subst this;simp
      .have:n=1:=by simpa using p
       subst this;simp
     rw[V];exact⟨a,D,rfl,R,C⟩
    .refine gG o4 ⟨_,e,rfl⟩ y4 (y8 _ _) (Hb a i.toArray m A os n t (by lia) p (by rw[bc,<- l,<- K];exact g.1)) ⟨e,?_⟩;rw[yg];have w:H s.heap.objs.size=none:=I.h.fresh (ag _);have P:(List.replicate n.toNat D).flatten.length≤sizeLine:=by
      rw[Lh,<- K];exact au g.1 (by decide)
     refine⟨.ref s.heap.objs.size,_,I.laid (t':=s.toks) (o:=.tup (List.replicate n.toNat D).flatten) (λb ob q=>aO _ q) (ag _) ⟨P,_,AT r n.toNat,nX.new _ _⟩,rfl,k _ F _ (cg w) (.newTup w (C.rep n.toNat))⟩
   .cases q
  |_=>exact f q
 |_=>exact f q
noncomputable def iZ:List P->Option P
 | [.lst x]=>some (.lst x)
 | [.ro x]=>some (.lst x)
 | [.tup x]=>some (.lst x)
 |_=>none
noncomputable def eY:List P->Option P
 | [.lst x]=>some (.tup x)
 | [.ro x]=>some (.tup x)
 | [.tup x]=>some (.tup x)
 |_=>none
theorem FV:eE X (.type "list") (rC X.K iZ):=by
  intro B s J H m u Q I r h;obtain⟨F,b,d,c,f,q,k⟩:=h;unfold iZ at q;split at q;all_goals first
    |(cases q;done)
    | (cases q
       obtain⟨x,rfl,p⟩:=xM f;obtain⟨a,y,rfl,t,n⟩:=p;first
         |exact m5 B s J H _ u Q I r ⟨a,y,rfl,.inl t.sq,λl e=>k _ _ _ (cK e) (.newLst e n)⟩
         |exact m5 B s J H _ u Q I r ⟨a,y,rfl,.inr t.sq,λl e=>k _ _ _ (cK e) (.newLst e n)⟩)
theorem CQ:eE X (.type "tuple") (rC X.K eY):=by
  intro B s J H m u Q I r h;obtain⟨F,b,d,c,f,q,k⟩:=h;unfold eY at q;split at q;all_goals first
    |(cases q;done)
    | (cases q
       obtain⟨x,rfl,p⟩:=xM f;obtain⟨a,y,rfl,t,n⟩:=p;first
         |exact lr B s J H _ u Q I r ⟨a,y,rfl,.inl ⟨t.sq,λl e=>k _ F _ (cg e) (.newTup e n)⟩⟩
         |exact lr B s J H _ u Q I r ⟨a,y,rfl,.inr ⟨t.sq,k _ F H .refl ⟨a,y,rfl,t,n⟩⟩⟩)
noncomputable def oC:List P->Option P
 | [.int i]=>some (.int (if i < 0 then -i else i))
 |_=>none
theorem IM:eE X (.builtin "abs") (rC X.K oC):=by
 intro B s J H n u Q I r h;obtain⟨F,e,d,f,a,q,k⟩:=h;unfold oC at q;split at q
 .cases q;obtain⟨x,rfl,p⟩:=xM a;exact FT B s J H _ u Q I r ⟨_,by rw[show x=_ from p],k _ F H .refl rfl⟩
 .cases q
variable{e:Expr}{es:Ab}{fs:j_}{p N:Pos}
theorem JG(g:Gl X "list")(m:X.g "list"=none)(a:PA X (e::es) (rh X.K fs))(x:starEach (e::es) X.e=(false,eval e X.e)::starEach es X.e)(h:(backTo N (starEach es X.e)).any (·.1)=false) :
  Y X (.Call (.Name "list" p) (e::es) [] N) (tV X.K (cL iZ fs)):=xu FV g m tG a (by decide) (by decide) x h
theorem G3(g:Gl X "tuple")(m:X.g "tuple"=none)(a:PA X (e::es) (rh X.K fs))(x:starEach (e::es) X.e=(false,eval e X.e)::starEach es X.e)(h:(backTo N (starEach es X.e)).any (·.1)=false) :
  Y X (.Call (.Name "tuple" p) (e::es) [] N) (tV X.K (cL eY fs)):=xu CQ g m GX a (by decide) (by decide) x h
theorem MM(g:Gl X "abs")(m:X.g "abs"=none)(a:PA X (e::es) (rh X.K fs))(x:starEach (e::es) X.e=(false,eval e X.e)::starEach es X.e)(h:(backTo N (starEach es X.e)).any (·.1)=false) :
  Y X (.Call (.Name "abs" p) (e::es) [] N) (tV X.K (cL oC fs)):=JV IM g m GQ a (by decide) (by decide) x h
@[simp] def fQ(r:EE)(a:EV)(L:Lc)(S:U):wY:=bI (r L S) λd h=>match dZ d h with
 |none=>none
 |some _=>bI (a L h) λx e=>match dZ d e,x with
  |some (i,s),.lst y=>if iq (s.length+y.length)=true then some (.p .non,e.set i (.lst (s++y.map .p))) else none
  |_,_=>none
def u_(r:EE):EE:=λL S=>bI (r L S) λd h=>match dZ d h with
 |some (i,_)=>some (.p .non,h.set i (.lst []))
 |none=>none
end
section
variable{X:Cx}{o e:Expr}{I k:EE}{C:EV}{j h N:Pos}
theorem G7(ho:Y X o (tE X.K I))(he:Y X e (tV X.K C))(E:starEach [e] X.e=[(false,eval e X.e)])
  (f:attributeBase o "extend" X.e (eval o X.e)=eval o X.e) (c:(j.endLine == h.line)=true):Y X (.Call (.Attribute o "extend" j) [e] [] h) (tE X.K (fQ I C)):=
 (Je o5 yX PySem.F.type_list_extend Cm ho (eW he ij (by rw[E];rfl)) f (by rw[E];rfl) c (by rw[E];rfl) rfl).imp' λJ H Q hz=>by
  obtain⟨F,m,L,S,d,S',r,l,q,k⟩:=hz;obtain⟨x,B,e1,q⟩:=ah q;refine⟨F,m,L,S,x,B,r,l,e1,λv F1 m1 H1 Z V T=>?_⟩;cases D:dZ x B with
  |none=>rw[D]at q;cases q
  |some z=>
   obtain⟨i,ds⟩:=z;rw[D]at q;dsimp only at q;obtain⟨rfl,es⟩:=kY D;obtain⟨a,rfl,hm⟩:=id T;obtain⟨xs,hH,rs⟩:=V.obj i a _ hm es;refine⟨.inl ⟨rfl,xs,iy.of hH⟩,?_⟩;obtain⟨y,N,e2,q⟩:=ah q;refine⟨F1,m1,L,B,y,N,V,l.mono Z,e2,λu P G A s2 M p2=>?_⟩;cases s:dZ (.ref i) N with
   |none=>rw[s]at q;cases q
   |some z=>
    obtain⟨i2,ds2⟩:=z;rw[s]at q;obtain⟨e3,n⟩:=kY s;cases e3;cases y with
    |lst ys=>
     dsimp only at q;split at q
     .rename_i hf;cases q;obtain⟨a2,e4,t⟩:=RD.mono s2 T;cases e4;obtain⟨g,p,w⟩:=M.obj i a _ t n;obtain⟨b,K,rfl,tb,W⟩:=p2;have R:∀K,A a≠some (.tup K):=λK z=>by rw[p]at z;cases z
      have st:Stp P G A P G (bO A a (.lst (g++K))):=eU M t n trivial R;refine⟨a,b,g,K,rfl,rfl,p,tb.2,by rw[<- w.length,<- W.length];exact iP hf,?_⟩;exact k .non P G _ (Z.trans (s2.trans st)) (M.set t n trivial R ⟨_,aD,cV.mono st (w.append (cV.ofP W))⟩) rfl
     .cases q
    |_=>cases q
theorem JQ(A:Y X o (tE X.K I))(b:attributeBase o "clear" X.e (eval o X.e)=eval o X.e)(n:(j.endLine == h.line)=true):Y X (.Call (.Attribute o "clear" j) [] [] h) (tE X.K (u_ I)):=
 (KS o5 yV PySem.F.type_list_clear EJ A b n).imp' λJ H Q B=>by
  obtain⟨F,m,L,S,d,E,r,l,q,k⟩:=B;obtain⟨x,u,P,q⟩:=ah q;refine⟨F,m,L,S,x,u,r,l,P,λv e p s D w C=>?_⟩;cases f:dZ x u with
  |none=>rw[f]at q;cases q
  |some z=>
   obtain⟨i,G⟩:=z;rw[f]at q;cases q;obtain⟨rfl,es⟩:=kY f;obtain⟨a,rfl,t⟩:=id C;obtain⟨y,c,M⟩:=w.obj i a _ t es;have g:∀K,s a≠some (.tup K):=λK z=>by rw[c]at z;cases z
   have st:Stp e p s e p (bO s a (.lst [])):=eU w t es trivial g;refine⟨.inl ⟨rfl,y,iy.of c⟩,a,y,rfl,rfl,c,?_⟩;exact k .non e p _ (D.trans st) (w.set t es trivial g ⟨_,aD,rfl⟩) rfl
noncomputable abbrev rW:=Lc->U->Option (List D×U)
noncomputable abbrev M3:=Option (List D×U)
inductive tDsI(K:FG)(f:rW)(J:L2.St)(H:Hp)(Q:List V->Hp->Prop):Prop
 |mk (F:Aa) (m:List Addr) (L:Lc) (S:U) (ds:List D) (S':U) (h0_:Rel K F H m S) (h1_:RL K F H m J L) (h2_:f L S=some (ds,S')) (h3_:∀xs F' m' H',Stp F m H F' m' H'->Rel K F' H' m' S'->cV K F' H' m' ds xs->Q xs H'):tDsI K f J H Q
noncomputable def B5(K:FG)(f:rW):TA:=λJ H Q=>tDsI K f J H Q
@[simp] def fC(_L:Lc)(S:U):M3:=some ([],S)
@[simp] def bB(a:EE)(r:rW)(L:Lc)(S:U):M3:=bI (a L S) λx h=>bI (r L h) λs e=>some (x::s,e)
variable{es:Ab}{fs:rW}
theorem Oh:PA X [] (B5 X.K fC):=ij.imp' λJ H Q h=>by obtain⟨F,m,L,S,d,x,r,l,q,k⟩:=h;cases q;exact k [] F m H .refl r rfl
theorem LJ(u:Y X e (tE X.K k))(g:PA X es (B5 X.K fs))(i:starEach (e::es) X.e=(false,eval e X.e)::starEach es X.e):PA X (e::es) (B5 X.K (bB k fs)):=
 (eW u g i).imp' λJ H Q z=>by obtain⟨F,m,L,S,d,t,r,l,q,h⟩:=z;obtain⟨x,a,p,q⟩:=ah q;obtain⟨B,D,w,q⟩:=ah q;cases q;refine⟨F,m,L,S,x,a,r,l,p,λv f j C s P o=>?_⟩;refine⟨f,j,L,a,B,t,P,l.mono s,w,λT b y c n A K=>?_⟩;exact h (v::T) b y c (s.trans n) A ⟨v,T,rfl,RD.mono n o,K⟩
noncomputable abbrev GF:=List D->U->Option (D×U)
inductive spRI(K:FG)(g:GF)(vs:List V)(H:Hp)(Q:VK):Prop
 |mk (F:Aa) (m:List Addr) (ds:List D) (S:U) (d:D) (S':U) (h0_:Rel K F H m S) (h1_:cV K F H m ds vs) (h2_:g ds S=some (d,S')) (h3_:∀v F' m' H',Stp F m H F' m' H'->Rel K F' H' m' S'->RD K F' H' m' d v->Q v H'):spRI K g vs H Q
noncomputable def nG(K:FG)(g:GF):Sp:=λT H Q _=>spRI K g T H Q
@[simp] def gK(g:GF)(a:rW)(L:Lc)(S:U):wY:=bI (a L S) λd h=>g d h
theorem JS(G:FnOk X.p X.w X.K X.g X.b oF u f fd ps (nG X.K a0))(P:Room u X.A)(o:Gl X x)(K:X.g x=some (.ref f))(hk:dH X.K (.ref f)=true)(y:Binds X.K fd ps [])
  (j:PA X (e::es) (B5 X.K fs)) (h:(x == ("__debug__":Str))=false) (z:starEach (e::es) X.e=(false,eval e X.e)::starEach es X.e) (a:(backTo N (starEach es X.e)).any (·.1)=false) :
  Y X (.Call (.Name x p) (e::es) [] N) (tE X.K (gK a0 fs)):=
 (uH G P o K hk y .nil si j h z a).imp' λJ H Q A=>by obtain⟨F,m,L,S,d,g,r,l,q,u⟩:=A;obtain⟨k,n,i,q⟩:=ah q;refine⟨F,m,L,S,k,n,r,l,i,λR b B t s E p=>?_⟩;show nG X.K a0 (R++[]) t Q E0;rw[cZ];exact⟨b,B,k,n,d,g,E,p,q,λv c C w M I D=>u v c C w (s.trans M) I D⟩
noncomputable def we(n:Nat):D->Bool
 | .p _=>true
 | .ref i=>decide (i < n)
def Ia(n:Nat):SO->Bool
 | .lst d=>d.all (we n)
 | .dct _ d=>d.all (we n)
 | .fz _=>true
 | .ins _ _ d=>d.all (we n)
 | .dtn _ d=>d.all (we n)
 | .dtt _ d=>d.all (we n)
 | .fn o=>o.all (we n)
def trunc(n:Nat)(S:U):U:=if (S.take n).all (Ia n)=true then S.take n else S
@[simp] def fx(g:GF)(a:rW)(L:Lc)(S:U):tyV:=bI (a L S) λs h=>bI (g s h) λd x=>bI (toP 9 d x) λv e=>some (v,trunc h.length e)
end
section
variable{K:FG}{F:Aa}{H:Hp}{m:List Addr}{S:U}
theorem RD.low(h:RD K F H m u v)(l:we n u=true):RD K F H (m.take n) u v:=by
 cases u with
 |p w=>exact h
 |ref i=>obtain⟨a,e,x⟩:=h;exact⟨a,e,by rw[g8 (aJ l)];exact x⟩
theorem cV.low:∀{s:List D}{a:List V},cV K F H m s a->s.all (we n)=true->cV K F H (m.take n) s a
 | [],_,h,_=>h
 |d::s,_,h,l=>by obtain⟨x,r,e,k,f⟩:=h;rw[dt,ar]at l;exact⟨x,r,e,k.low l.1,cV.low f l.2⟩
theorem Rel.trunc(r:Rel K F H m S)(B:n≤m.length)(h:(S.take n).all (Ia n)=true):Rel K F H (m.take n) (S.take n) where
 len:=by rw[g0,g0,r.len]
 nd:=r.nd.sublist (zQ _ _)
 obj:=λi a o b p=>by
  have u:i < n:=by have:=(bw.mp b).1;rw[g0]at this;lia
  rw[g8 u]at b;have lo:=a_.mp h o (aZ p);rw[g8 u]at p;have t:=r.obj i a o b p;cases o with
  |lst q=>obtain⟨A,x,s⟩:=t;exact⟨A,x,s.low lo⟩
  |dct g q=>obtain⟨k,x,e,s⟩:=t;exact⟨k,x,e,s.low lo⟩
  |fz v=>exact t
  |ins c g q=>obtain⟨C,j,k,l,x,e,s⟩:=t;exact⟨C,j,k,l,x,e,s.low lo⟩
  |dtn g q=>obtain⟨k,x,e,P,s⟩:=t;exact⟨k,x,e,P,s.low lo⟩
  |dtt g q=>obtain⟨k,x,e,s⟩:=t;exact⟨k,x,e,s.low lo⟩
  |fn D=>intro d hd;obtain⟨v,y,z⟩:=t d hd;subst hd;exact⟨v,y,z.low lo⟩
 sep:=λi a o b p w f=>by
  have u:i < n:=by have:=(bw.mp b).1;rw[g0]at this;lia
  rw[g8 u]at b p;exact r.sep i a o b p w f
 trk:=λa h=>r.trk a (ua h)
 ft:=r.ft
theorem Stp.trunc(s:Stp F m H u v H'):Stp F m H u (v.take m.length) H':=by
 obtain⟨n,e⟩:=s.pre;have x:v.take m.length=m:=by rw[e];simp
 rw[x];exact⟨⟨[],by simp⟩,s.oth,s.frz,s.frk,s.tup,s.trk,s.nf,λ_ h=>.inl h,s.cod⟩
end
section
variable{X:Cx}{e:Expr}{es:Ab}{fs:rW}{N:Pos}
theorem G5(G:FnOk X.p X.w X.K X.g X.b oF u f fd ps (nG X.K a0))(hr:Room u X.A)(Z:Gl X x)(hm:X.g x=some (.ref f))(hk:dH X.K (.ref f)=true)(V:Binds X.K fd ps [])
  (T:PA X (e::es) (B5 X.K fs)) (b:(x == ("__debug__":Str))=false) (W:starEach (e::es) X.e=(false,eval e X.e)::starEach es X.e) (w:(backTo N (starEach es X.e)).any (·.1)=false) :
  Y X (.Call (.Name x p) (e::es) [] N) (tV X.K (fx a0 fs)):=
 (uH G hr Z hm hk V .nil si T b W w).imp' λJ H Q hz=>by
  obtain⟨F,m,L,S,d,S',r,l,q,u⟩:=hz;obtain⟨z,h,I,q⟩:=ah q;obtain⟨E,D,M,q⟩:=ah q;obtain⟨v1,a,R,q⟩:=ah q;cases q;refine⟨F,m,L,S,z,h,r,l,I,λxs B g C A K p1=>?_⟩;show nG X.K a0 (xs++[]) C Q E0;rw[cZ];refine⟨B,g,z,h,E,D,K,p1,M,λv F2 i y s2 r2 p2=>?_⟩;obtain⟨j,s3,P,l3,o⟩:=nD 9 R r2 p2;have st:=s2.trans s3;have s:=K.len;by_cases c:(a.take h.length).all (Ia h.length)=true
  .have t:Ev.trunc h.length a=a.take h.length:=ac c;rw[t]at u;have k:g.length≤i.length:=by
    obtain⟨nn,e⟩:=st.pre;rw[e,aX];lia
   have rt:=P.trunc (n:=h.length) (by rw[<- s];exact k) c;refine u v j (i.take g.length) y (A.trans st.trunc) ?_ o;rw[s];exact rt
  .have t:Ev.trunc h.length a=a:=af c;rw[t]at u;exact u v j i y (A.trans st) P o
end
section
variable{X:Cx}{a b c e o i g:Expr}{C t q r z:EV}{I k:EE}{N G:Pos}
def q_ (i:Expr):Prop:=∀(o:Expr) (N:Pos) (e:Env) (v:Value),assign (.Subscript o i N) e v=(do
 let h <- holding [v] (eval o e)
 let iv <- holding [v,h] (eval i e)
 standAt N
 holding [v,h,iv] (setItem h iv v)
 release [v,h,iv] [])
def D1(o:EE)(k v:EV):ES:=λL S=>bI (v L S) λy x=>bI (o L x) λd a=>bI (k L a) λz h=>match dZ d h,z with
 |some (i,s),.int n=>match CY s.length n with
  |some j=>some (.nx,L,h.set i (.lst (s.set j (.p y))))
  |none=>none
 |_,_=>none
theorem cV.setAt{K:FG}{F:Aa}{H:Hp}{m:List Addr}{d:D}{v:V}(h:RD K F H m d v):∀{s:List D}{e:List V}(j:Nat),cV K F H m s e->cV K F H m (s.set j d) (e.set j v)
 | [],_,_,r=>by cases (show _=([]:List V) from r);exact rfl
 |_::_,_,0,r=>by obtain⟨x,a,rfl,p,r⟩:=r;exact⟨v,a,rfl,h,r⟩
 |_::_,_,j+1,r=>by obtain⟨x,a,rfl,p,r⟩:=r;exact⟨x,_,rfl,p,cV.setAt h j r⟩
theorem MB(ho:Y X o (tE X.K I))(hi:Y X i (tV X.K r))(hv:Y X g (tV X.K z))(hs:swapsWith g (some (.Subscript o i G)) N.line X.e=pure false)(hw:swappedStores [.Subscript o i G] g X.e=pure none)(A:q_ i) :
  PS X (.Assign [.Subscript o i G] g N) (kl X.K (D1 I r z)):=(Ee hv (KG ho hi DX (A o G X.e)) hs hw).imp' λD J H hz=>by
 obtain⟨F,m,L,S,fl,L',S',h,l,q,k⟩:=hz;obtain⟨y,Q,e1,q⟩:=ah q;obtain⟨d,R,e2,q⟩:=ah q;obtain⟨e,T,e3,q⟩:=ah q;refine⟨F,m,L,S,y,Q,h,l,e1,λv M W H1 c r1 p1=>?_⟩;refine⟨M,W,L,Q,d,R,r1,l.mono c,e2,λx F2 m2 H2 p r2 p2=>?_⟩;refine⟨F2,m2,L,R,e,T,r2,(l.mono c).mono p,e3,λw s b f u E p3=>?_⟩;cases P:dZ d T with
 |none=>rw[P]at q;cases q
 |some t=>
  obtain⟨j,ds⟩:=t;rw[P]at q;cases e with
  |int n=>
   dsimp only at q;cases K:CY ds.length n with
   |none=>rw[K]at q;cases q
   |some C=>
    rw[K]at q;cases q;obtain⟨rfl,es⟩:=kY P;obtain⟨a,rfl,B⟩:=RD.mono u p2;obtain⟨xs,V,rs⟩:=E.obj j a _ B es;have pv:RD X.K s f b (.p y) v:=RD.mono u (RD.mono p (show RD X.K M H1 W (.p y) v from p1));cases (show w=.int n from p3);have Z:∀zs,f a≠some (.tup zs):=λzs e=>by rw[V]at e;cases e
    have st:Stp s b f s b (bO f a (.lst (xs.set C v))):=eU E B es trivial Z;refine⟨a,xs,n,C,rfl,rfl,V,by rw[<- rs.length];exact K,?_⟩;exact k J s b _ (c.trans (p.trans (u.trans st))) (E.set B es trivial Z ⟨_,aD,cV.mono st (cV.setAt pv C rs)⟩) (((l.mono c).mono p).mono (u.trans st))
  |_=>cases q
def i8(o:EE)(k v:EV):ES:=λL S=>match xK o k v L S with
 |some r=>some r
 |none=>D1 o k v L S
theorem MC(j:X.A.units+1 < cLine)(d:Y X o (tE X.K I))(v:Y X i (tV X.K r))(u:Y X g (tV X.K z))(w:swapsWith g (some (.Subscript o i G)) N.line X.e=pure false)(hw:swappedStores [.Subscript o i G] g X.e=pure none)(t:q_ i) :
  PS X (.Assign [.Subscript o i G] g N) (kl X.K (i8 I r z)):=λB s J H D x h=>by
 obtain⟨F,m,L,S,b,n,f,a,l,q,k⟩:=h;cases c:xK I r z L S with
 |some e=>
  have p:some e=some (b,n,f):=by have:=q;unfold i8 at this;rw[c]at this;exact this
  cases p;exact Ps j d v u w B s J H D x ⟨F,m,L,S,b,n,f,a,l,c,k⟩
 |none=>
  have p:D1 I r z L S=some (b,n,f):=by have:=q;unfold i8 at this;rw[c]at this;exact this
  exact MB d v u w hw t B s J H D x ⟨F,m,L,S,b,n,f,a,l,p,k⟩
@[simp] def nC(g n:P->P->Option P)(a b c:EV)(L:Lc)(S:U):tyV:=bI (a L S) λx e=>bI (b L e) λy h=>match g x y with
 |some (.bl true)=>bI (c L h) λz s=>(n y z).map λv=>(v,s)
 |some (.bl false)=>some (.bl false,h)
 |_=>none
theorem wM{g c:P->P->Option P}{J:L2.St}{H:Hp}{Q:VK}(h:tV X.K (nC g c C t q) J H Q):xD (rP X.K g) (rP X.K c) (tV X.K C) (tV X.K t) (tV X.K q) J H Q:=by
 obtain⟨F,m,L,S,d,S',r,l,a,k⟩:=h;obtain⟨x,o,e1,a⟩:=ah a;obtain⟨y,K,e2,a⟩:=ah a;refine⟨F,m,L,S,x,o,r,l,e1,λv N m1 H1 G r1 p1=>?_⟩;refine⟨N,m1,L,o,y,K,r1,l.mono G,e2,λu R i H2 I B A=>?_⟩;cases b:g x y with
 |none=>rw[b]at a;cases a
 |some z=>
  rw[b]at a;cases z with
  |bl e=>
   refine⟨R,x,y,_,B.ft,RP.mono I p1,A,b,λw f j p p3=>⟨e,p3,?_⟩⟩;have qo:Stp F m H f i j:=G.trans (I.trans p.stp);have D:=B.grow p;cases e with
   |false=>rw[af bx];cases a;exact k _ f i j qo D rfl
   |true=>
    rw[ac rfl];dsimp only at a;obtain⟨z,Z,e3,a⟩:=ah a;refine⟨f,i,L,K,z,Z,D,l.mono qo,e3,λw' T m4 H4 M E p4=>?_⟩;cases s:c y z with
    |none=>rw[s]at a;cases a
    |some z2=>rw[s]at a;cases a;exact⟨T,y,z,_,E.ft,RP.mono M (RP.grow p A),p4,s,λw2 V W n p5=>k w2 V m4 W (qo.trans (M.trans n.stp)) (E.grow n) p5⟩
  |_=>cases a
theorem JR(n:oS X (compareOp op) v)(o:oS X (compareOp u) g')(x:Y X a (tV X.K C))(e:Y X b (tV X.K t))(s:Y X c (tV X.K q))(m:lastMarks [op,u] [b,c]=false) :
  Y X (.Compare a [op,u] [b,c] N) (tV X.K (nC v g' C t q)):=(Et n o x e s m).imp' λ_ _ _ h=>wM h
theorem JD(z:oS X (compareOp op) u)(o:oS X (compareOp op') g')(g:Y X a (tV X.K C))(i:Y X b (tV X.K t))(j:Y X c (tV X.K q))(y:lastMarks [op,op'] [b,c]=false) :
  PT X (.Compare a [op,op'] [b,c] N) (tQ X.K (bV (nC u g' C t q))):=(Ea z o g i j y).imp' λJ H Q h=>by
 refine wM ?_;obtain⟨F,m,L,S,d,A,r,l,e,k⟩:=h;obtain⟨x,B,w,e⟩:=ah e;cases x with
 |bl b=>cases e;exact⟨F,m,L,S,_,_,r,l,w,λv n K f s P p=>⟨_,p,k n K f s P⟩⟩
 |_=>cases e
def xB:P->Option Bool
 | .non=>some false
 | .bl b=>some b
 | .int i=>some (i != 0)
 | .str x=>if iq x.length=true then some ((x.length:Int) != 0) else none
 | .tup s=>some (!s.isEmpty)
 | .lst s=>some (!s.isEmpty)
 | .ro s=>some (!s.isEmpty)
 | .dct k _=>some (!k.isEmpty)
def Hd:D->U->Option Bool
 | .p v,_=>xB v
 | .ref i,S=>match S[i]? with
  |some (.lst d)=>some (!d.isEmpty)
  |some (.dct k _)=>some (!k.isEmpty)
  |some (.fz v)=>xB v
  |_=>none
@[simp] def bT(f:EE)(L:Lc)(S:U):Mg:=bI (f L S) λd h=>(Hd d h).map λb=>(b,h)
theorem iL{x:List d}{y:List l}(h:x.length=y.length):x.isEmpty=y.isEmpty:=by cases x<;>cases y<;>first|rfl|simp at h
theorem AX(p:RP X.K F H w v)(h:xB w=some u):L8 X.K v H u:=by
 cases w with
 |non=>cases (show v=.non from p);cases h;rfl
 |bl b=>cases (show v=.bl b from p);cases h;rfl
 |int b=>cases (show v=.int b from p);cases h;rfl
 |str x=>
  cases (show v=.str x from p);simp only[xB]at h;split at h
  .rename_i c;cases h;exact⟨iP c,rfl⟩
  .cases h
 |tup d=>obtain⟨a,s,rfl,t,r⟩:=p;cases h;exact .inr (.inl ⟨s,t.sq,by rw[iL r.length]⟩)
 |lst d=>obtain⟨a,s,rfl,t,r⟩:=p;cases h;exact .inl ⟨s,t.sq,by rw[iL r.length]⟩
 |ro d=>obtain⟨a,s,rfl,t,r⟩:=p;cases h;exact .inl ⟨s,t.sq,by rw[iL r.length]⟩
 |dct n d=>obtain⟨a,k,rfl,_,hk,e,r⟩:=p;cases h;exact .inr (.inr ⟨k,hk,by rw[<- e];cases k<;>rfl⟩)
theorem yT(h:Y X e (tE X.K k))(D:∀o,isTrue e X.e o=(do let v <- o;standAt e.pos;holding [v] (truthy v))):PT X e (tQ X.K (bT k)):=
 (D' h D).imp' λJ H Q E=>by
  obtain⟨F,m,L,S,d,N,r,l,q,s⟩:=E;obtain⟨x,P,B,q⟩:=ah q;cases n:Hd x P with
  |none=>rw[n]at q;cases q
  |some t=>
   rw[n]at q;cases q;refine⟨F,m,L,S,x,_,r,l,B,λv z G K I c i=>⟨_,?_,s z G K I c⟩⟩;cases x with
   |p w=>exact AX i n
   |ref j=>
    obtain⟨a,rfl,g⟩:=i;simp only[Hd]at n;split at n
    .rename_i A f;cases n;obtain⟨M,u,y⟩:=c.obj j a _ g f;exact .inl ⟨M,iy.of u,by rw[iL y.length]⟩
    .rename_i R A f;cases n;obtain⟨b,u,C,y⟩:=c.obj j a _ g f;exact .inr (.inr ⟨b,u,by rw[<- C];cases b<;>rfl⟩)
    .rename_i w f;exact AX (c.obj j a _ g f) n
    .cases n
@[simp] def xJ(g:kc)(f:EV)(L:Lc)(S:U):AW:=bI (f L S) λv x=>match g v L with
 |some h=>some (.nx,h,x)
 |none=>none
theorem Pr(p:Y X e (tV X.K C))(d:PG X tg (gT X.K u))(w:swapsWithSole [tg] e N.line X.e=pure false)(hw:swappedStores [tg] e X.e=pure none)(t:(assignEach [tg] X.e).map (·.2)=[assign tg X.e]) :
  PS X (.Assign [tg] e N) (kl X.K (xJ u C)):=(Ee p d w hw t).imp' λD J H z=>by
 obtain⟨F,m,L,S,P,o,K,r,l,q,k⟩:=z;obtain⟨v,b,c,q⟩:=ah q;refine⟨F,m,L,S,v,b,r,l,c,λx h a n s y j=>?_⟩;cases g:u v L with
 |none=>rw[g]at q;cases q
 |some L2=>rw[g]at q;cases q;exact⟨h,a,L,v,_,l.mono s,j,g,λf i=>k f h a n s y i⟩
def mY:P->P->Option P
 | .tup [],.tup s=>some (.tup s)
 |x,y=>vg x y
theorem LZ{M:Program}{w:World}{A:Around}{E:VP}{s:Shared}{t b:Addr}{a:LV}{Q:VP}(n:IsTup s.heap t #[])(e:IsTup s.heap b a.toArray)(h:Q (.ref b) s):wpAny (model M w) A (binaryOp .Add (.ref t) (.ref b)) Q E s:=by obtain⟨o,g,k,m,l⟩:=id n;obtain⟨p,x,f,r,c⟩:=id e;cases o;cases p;cases k;cases l;cases f;cases c;exact wZ ⟨_,g,rfl⟩ ⟨_,x,rfl⟩ xa w4 tt tu (tz _ _) (tuple_addW0 t b #[] a.toArray m r _ _ _ _ rfl) ⟨g,x,h⟩
theorem K5:oS X (binaryOp .Add) mY:=by
 intro B s J H x y v u Q I r m h;obtain⟨F,e,n,d,t,c,p,q,k⟩:=h;have o:vg e n=some d->wx X (binaryOp .Add v u) (EP X B J Q) X.xe s:=λq=>NN B s J H x y v u Q I r m ⟨F,e,n,d,t,c,p,q,k⟩
 cases e with
 |tup f=>
  cases n with
  |tup es=>
   cases f with
   |nil=>cases q;obtain⟨a,P,rfl,S,z⟩:=c;obtain⟨b,D,rfl,K,C⟩:=id p;cases (show P=[] from z);cases r;cases m;obtain⟨w,l,g,_⟩:=I.tuple S.sq;obtain⟨i,A,j,_⟩:=I.tuple K.sq;cases l;exact LZ g j ⟨.ref b,H,I,rfl,k _ F H .refl p⟩
   |cons _ _=>exact o q
  |_=>cases f<;>exact o q
 |_=>exact o q
def yx(K:FG)(m:SV)(x:Str)(v:P):Prop:=∃u w,m x=some u/\RelV w u/\∀F H,RP K F H v w
theorem MQ(g:Gl X x)(h:yx X.K X.g x v)(hd:(x == ("__debug__":Str))=false):Y X (.Name x N) (tV X.K (vC v)):=by obtain⟨u,w,m,r,p⟩:=h;exact xC (HN g m r hd) p
end
section
variable{X:Cx}{a:Expr}{C:EE}{p N:Pos}
end
noncomputable def iK(f:Str):LS->List D->Option D
 |k::h,d::s=>if k=f then some d else iK f h s
 |_,_=>none
noncomputable def putK(f:Str):LS->LS
 | []=>[f]
 |k::s=>if k=f then k::s else k::putK f s
noncomputable def rD(f:Str)(y:D):LS->List D->List D
 | [],_=>[y]
 |k::h,d::s=>if k=f then y::s else d::rD f y h s
 |_::_,[]=>[]
def j'(K:FG)(c:Str)(C:Addr):Prop:=pX K mainGlobals c=some (some (.ref C))
variable{K:FG}
theorem j'.inj(h:j' K c v)(x:j' K c u):v=u:=by have:=h.symm.trans x;cases this;rfl
def Pq(K:FG)(A:Str->Str->Bool):Prop:=∀c f,A c f=true->∃C,j' K c C/\Cls K C/\lR K C f
section
variable{K:FG}{F:Aa}{H:Hp}{m:List Addr}
theorem Bj:∀{a:List (Str×V)}{s:List D}{d:D},cV K F H m s (a.map (·.2))->iK f (a.map (·.1)) s=some d->∃v,a.lookup f=some v/\RD K F H m d v
 | [],s,d,_,h=>by cases s<;>cases h
 |(k,x)::r,s,d,p,h=>by
  cases s with
  |nil=>cases h
  |cons q s=>
   obtain⟨y,w,e,c,t⟩:=p;simp only[aA,jv]at e;obtain⟨rfl,rfl⟩:=e;simp only[aA,iK]at h;split at h
   .rename_i hk;cases h;subst hk;exact⟨x,by simp[fG],c⟩
   .rename_i hk;obtain⟨v,n,b⟩:=Bj t h;exact⟨v,by rw[pu,show(f == k)=false by simpa using λz=>hk z.symm];exact n,b⟩
theorem Bi:∀{v:List (Str×V)},(v.map (·.1)).contains f=false->v.lookup f=none
 | [],_=>rfl
 |(k,x)::r,h=>by simp only[aA,List.contains_cons,Ad]at h;rw[pu,h.1];exact Bi h.2
theorem D_(h:RD K F H m u v):∀{s:List (Str×V)}{d:List D},cV K F H m d (s.map (·.2))->(iW f v s).map (·.1)=putK f (s.map (·.1))/\cV K F H m (rD f u (s.map (·.1)) d) ((iW f v s).map (·.2))
 | [],d,n=>⟨rfl,v,[],rfl,h,rfl⟩
 |(k,x)::r,d,n=>by
  cases d with
  |nil=>cases (show _=([]:List V) from n)
  |cons t d=>
   obtain⟨z,p,e,b,a⟩:=n;simp only[aA,jv]at e;obtain⟨rfl,rfl⟩:=e;by_cases hk:k=f
   .simp only[iW,hk,jC,aA,putK,rD];first|exact⟨rfl,v,_,rfl,h,a⟩|exact⟨trivial,v,_,rfl,h,a⟩
   .obtain⟨i,c⟩:=D_ h a;simp only[iW,hk,jD,aA,putK,rD];exact⟨by rw[i],x,_,rfl,b,c⟩
end
section
variable{X:Cx}{o e g:Expr}{f:Str}{N G j:Pos}{I z:EE}{A:Str->Str->Bool}{es:Ab}{fs:rW}
@[simp] def dR(A:Str->Str->Bool)(o:EE)(f:Str)(L:Lc)(S:U):wY:=bI (o L S) λd h=>match d with
 | .ref i=>match h[i]? with
  |some (.ins c k s)=>if A c f=true then (iK f k s).map λz=>(z,h) else none
  |_=>none
 |_=>none
theorem PZ(B:Pq X.K A)(V:Y X o (tE X.K I))(G:attributeBase o f X.e (eval o X.e)=eval o X.e):Y X (.Attribute o f N) (tE X.K (dR A I f)):=(KR V G).imp' λJ H Q Z=>by
 obtain⟨F,m,L,S,d,S',r,l,q,k⟩:=Z;obtain⟨x,u,y,q⟩:=ah q;refine⟨F,m,L,S,x,u,r,l,y,λv b m1 t s1 n p1=>?_⟩;cases x with
 |p w=>cases q
 |ref i=>
  obtain⟨a,rfl,R⟩:=p1;dsimp only at q;split at q
  .rename_i c ks g W;split at q
   .rename_i E;cases h:iK f ks g with
    |none=>rw[h]at q;cases q
    |some z=>rw[h]at q;cases q;obtain⟨C,j,s,P,D,rfl,rs⟩:=n.obj i a _ R W;obtain⟨C',e,M,T⟩:=B c f E;cases j'.inj P e;obtain⟨v,K,p3⟩:=Bj rs h;exact⟨a,C,j,s,v,rfl,D,M,T,K,k v b m1 t s1 n p3⟩
   .cases q
  .cases q
@[simp] def n0(A:Str->Str->Bool)(o:EE)(f:Str)(v:EE)(L:Lc)(S:U):AW:=bI (v L S) λy x=>bI (o L x) λd h=>match d with
 | .ref i=>match h[i]? with
  |some (.ins c k s)=>if (A c f && decide (k.length < 900))=true then some (.nx,L,h.set i (.ins c (putK f k) (rD f y k s))) else none
  |_=>none
 |_=>none
theorem MD(hA:Pq X.K A)(ho:Y X o (tE X.K I))(hv:Y X g (tE X.K z))(e:swapsWith g (some (.Attribute o f G)) N.line X.e=pure false):PS X (.Assign [.Attribute o f G] g N) (kl X.K (n0 A I f z)):=(Ky ho hv e).imp' λD J H hz=>by
 obtain⟨F,m,L,S,fl,L',S',r,l,q,k⟩:=hz;obtain⟨y,Q,e1,q⟩:=ah q;obtain⟨d,S2,e2,q⟩:=ah q;refine⟨F,m,L,S,y,Q,r,l,e1,λv Z m1 H1 E r1 p1=>?_⟩;refine⟨Z,m1,L,Q,d,S2,r1,l.mono E,e2,λx n P b M B p2=>?_⟩;cases d with
 |p w=>cases q
 |ref i=>
  obtain⟨a,rfl,K⟩:=p2;dsimp only at q;split at q
  .rename_i c ks ds e;split at q
   .rename_i j;rw[ar]at j;cases q;obtain⟨C,t,s,R,T,rfl,rs⟩:=B.obj i a _ K e;obtain⟨C',u,hc,hn⟩:=hA c f j.1;cases j'.inj R u;have hl:s.length < 1000:=by have:=aJ j.2;rw[aQ]at this;lia
    have V:∀W,b a≠some (.tup W):=λW h=>by rw[T]at h;cases h
    have st:Stp n P b n P (bO b a (.ins C t (iW f v s))):=eU B K e trivial V;obtain⟨i1,i2⟩:=D_ (f:=f) (RD.mono st (RD.mono M p1)) (cV.mono st rs);exact⟨a,C,t,s,rfl,T,hc,hn,hl,k J n P _ (E.trans (M.trans st)) (B.set K e trivial V ⟨C,t,_,R,aD,i1,i2⟩) ((l.mono E).mono (M.trans st))⟩
   .cases q
  .cases q
@[simp] def dQ(M:Str->Str->Option GF)(o:EE)(y:Str)(a:rW)(L:Lc)(S:U):wY:=bI (o L S) λd h=>match d with
 | .ref i=>match h[i]? with
  |some (.ins c k _)=>match M c y with
   |some g=>if k.contains y=true then none else bI (a L h) λT x=>g (.ref i::T) x
   |none=>none
  |_=>none
 |_=>none
def Pn(X:Cx)(M:Str->Str->Option GF):Prop:=∀c y g,M c y=some g->∃C k f d p,j' X.K c C/\Cls X.K C/\Meth X.K C y f/\FnOk X.p X.w X.K X.g X.b oF k f d p (nG X.K g)/\Room k X.A/\Binds X.K d p []
variable{M:Str->Str->Option GF}{y:Str}
theorem ss(hM:Pn X M){t:TE}{ta:TA}(b:∀C k f u j g,Cls X.K C->Meth X.K C y f->FnOk X.p X.w X.K X.g X.b oF k f u j (nG X.K g)->Room k X.A->Binds X.K u j []->Y X e (DT C y (nG X.K g) [] E0 (tE X.K I) (B5 X.K fs))):Y X e (tE X.K (dQ M I y fs)):=by
 intro B s J H Q n h;obtain⟨F,m,L,S,d,S',r,l,q,k⟩:=h;obtain⟨x,P,e1,q⟩:=ah q;cases x with
 |p w=>cases q
 |ref i=>
  dsimp only at q;split at q
  .rename_i c ks ds hs;split at q
   .rename_i g hg;split at q
    .cases q
    .rename_i hk;obtain⟨T,A,e2,q⟩:=ah q;obtain⟨C,kk,f,u,j,ec,hc,hm,hF,hr,hb⟩:=hM c y g hg;refine b C kk f u j g hc hm hF hr hb B s J H Q n ⟨F,m,L,S,.ref i,P,r,l,e1,λv R m1 H1 G E D=>?_⟩;obtain⟨a,rfl,o⟩:=id D;obtain⟨C',dx,K,z,hH,rfl,rs⟩:=E.obj i a _ o hs;cases j'.inj ec z;refine⟨a,dx,K,rfl,hH,Bi (by simpa using hk),R,m1,L,P,T,A,E,l.mono G,e2,λxs W m2 H2 N r2 p2=>?_⟩;show nG X.K g (V.ref a::(xs++[])) H2 Q E0;rw[cZ];exact⟨W,m2,.ref i::T,A,d,S',r2,⟨_,_,rfl,RD.mono N D,p2⟩,q,λv Z m3 H3 s3 r3 p3=>k v Z m3 H3 (G.trans (N.trans s3)) r3 p3⟩
   .cases q
  .cases q
theorem MO(x:Pn X M)(s:Y X o (tE X.K I))(a:PA X (e::es) (B5 X.K fs))(hst:starEach (e::es) X.e=(false,eval e X.e)::starEach es X.e)(h:(backTo N (starEach es X.e)).any (·.1)=false)
  (n:eval (.Call (.Attribute o y j) (e::es) [] N) X.e=(do
   let v <- eval o X.e
   standAt j.atName
   let (f,first) <- holding [v] (getMethod v y u)
   callWith N f first (backTo N (starEach (e::es) X.e)) (backToKw N (keywordEach [] X.e)))) :
  Y X (.Call (.Attribute o y j) (e::es) [] N) (tE X.K (dQ M I y fs)):=
 ss (t:=tE X.K I) (ta:=B5 X.K fs) x λC k f d p g c m F r b=>HL s c m F r b .nil si a hst h n
theorem JJ(i:Pn X M)(B:Y X o (tE X.K I))
  (E:eval (.Call (.Attribute o y j) [] [] N) X.e=(do
   let u <- eval o X.e
   standAt j.atName
   let (f,first) <- holding [u] (getMethod u y pl)
   callWith N f first (backTo N (starEach [] X.e)) (backToKw N (keywordEach [] X.e)))) :
  Y X (.Call (.Attribute o y j) [] [] N) (tE X.K (dQ M I y fC)):=
 ss (t:=tE X.K I) (ta:=B5 X.K fC) i λC k f fd ps g K A p D z=>(Ek B K A p D z .nil si E).imp' λJ H Q h=>by obtain⟨F,m,L,S,d,n,r,l,q,k⟩:=h;refine⟨F,m,L,S,d,n,r,l,q,λv e R x s' Z V=>?_⟩;obtain⟨a,c,fs,rfl,w,P,s,T,L2,S2,ds,b,r2,l2,W,G⟩:=k v e R x s' Z V;cases W;exact⟨a,c,fs,rfl,w,P,G [] s T x .refl r2 rfl⟩
@[simp] def qU(g:GF)(c:Str)(a:rW)(L:Lc)(S:U):wY:=bI (a L S) λT h=>match g (.ref h.length::T) (h++[.ins c [] []]) with
 |some (.p .non,x)=>some (.ref h.length,x)
 |_=>none
theorem MP{C f:Addr}{o:FuncData}{K:LS}{k:Nat}{x:Str}{p:Pos}{g:GF}(M:Mk X.K C f)(G:FnOk X.p X.w X.K X.g X.b oF k f o K (nG X.K g))(hr:Room (k+1) X.A)(hg:Gl X x)(hm:X.g x=some (.ref C))(Z:j' X.K x C)(hb:Binds X.K o K [])
  (ha:PA X (e::es) (B5 X.K fs)) (i:(x == ("__debug__":Str))=false) (he:starEach (e::es) X.e=(false,eval e X.e)::starEach es X.e) (z:(backTo N (starEach es X.e)).any (·.1)=false) :
  Y X (.Call (.Name x p) (e::es) [] N) (tE X.K (qU g x fs)):=
 (HM M G hr hg hm hb .nil si ha i he z).imp' λJ H Q hz=>by
  obtain⟨F,m,L,S,d,S',r,l,q,k⟩:=hz;obtain⟨T,t,R,q⟩:=ah q;refine⟨F,m,L,S,T,t,r,l,R,λxs s a b s1 P p1=>λy h hy w j=>?_⟩;split at q
  .rename_i _ S2 V;cases q;have A:Stp s a b s a (bO b h (.own y)):=dY w;have r2:Rel X.K s (bO b h (.own y)) a t:=P.new w;have u:bO b h (.own y) y=none:=by rw[aj (aI j)];exact hy
   have B:Stp s a (bO b h (.own y)) s (a++[y]) (bO (bO b h (.own y)) y (.ins C h [])):=dD u;have r3:Rel X.K s (bO (bO b h (.own y)) y (.ins C h [])) (a++[y]) (t++[.ins x [] []]):=r2.own u ⟨C,h,[],Z,aD,rfl,rfl⟩;rw[cZ];have c:(a++[y])[t.length]? = some y:=by rw[<- P.len,bH (ag _)];simp
   refine⟨s,a++[y],.ref t.length::T,_,.p .non,_,r3,⟨_,_,rfl,⟨y,rfl,c⟩,cV.mono B (cV.mono A p1)⟩,V,λv E m4 I D r4 p4=>⟨p4,?_⟩⟩;refine k (.ref y) E m4 I (s1.trans (A.trans (B.trans D))) r4 ⟨y,rfl,?_⟩;obtain⟨n,W⟩:=D.pre;rw[W,bL (bw.mp c).1];exact c
  .cases q
end
theorem Lf(h:attributeBase o y v (eval o v)=eval o v)(e:methodCallForm (u.length+([]:List Keyword).length) (backTo N (starEach u v)) (backToKw N (keywordEach [] v))=true)(l:(j.endLine == N.line)=true) :
  eval (.Call (.Attribute o y j) u [] N) v=(do
   let ov <- eval o v
   standAt j.atName
   let (f,first) <- holding [ov] (getMethod ov y (do return (<- importBound o v).getD true))
   callWith N f first (backTo N (starEach u v)) (backToKw N (keywordEach [] v))):=by
 have x:methodCallPos true o v j N=pure N:=by unfold methodCallPos;rw[l];rfl
 have a:∀ov,methodCall o y j N v ov (u.length+([]:List Keyword).length) (backTo N (starEach u v)) (backToKw N (keywordEach [] v))=(do
   let (f,first) <- holding [ov] (getMethod ov y (do return (<- importBound o v).getD true))
   callWith N f first (backTo N (starEach u v)) (backToKw N (keywordEach [] v))):=λov=>by
  unfold methodCall;rw[e,x];rfl
 have s:eval (.Call (.Attribute o y j) u [] N) v=(do
  let ov <- attributeBase o y v (eval o v)
  standAt j.atName
  methodCall o y j N v ov (u.length+([]:List Keyword).length) (backTo N (starEach u v)) (backToKw N (keywordEach [] v))):=by rfl
 rw[s,h];simp only[a]
section
variable{X:Cx}{o e g:Expr}{f:Str}{N G L:Pos}{I:EE}{z:EV}{A:Str->Str->Bool}
def D2(i:Nat)(v:EV):ES:=λL S=>match L[i]? with
 |some (some (.p (.int a)))=>bI (v L S) λy h=>match y with
  | .int b=>some (.nx,L.set i (some (.p (.int (a+b)))),h)
  |_=>none
 |_=>none
theorem Px(i:Nat)(d:X.N.Nodup)(h:Y X e (tV X.K z))(g:X.N[i]? = some x)(j:L2.Loc X.e.scope x)(u:X.fn x=true\/X.e.scope.names.lookup x=some .local):PS X (.AugAssign (.Name x G) .Add e N) (kl X.K (D2 i z)):=
 (Kz d g j h Lw u).imp' λD J H o=>by
  obtain⟨F,m,L,S,M,C,E,r,l,q,k⟩:=o;unfold D2 at q;split at q
  .rename_i a w;obtain⟨y,I,t,q⟩:=ah q;cases y with
   |int b=>cases q;obtain⟨B,p,P⟩:=l.at' i _ w;cases (show B=.int a from P);refine⟨_,p,F,m,L,S,_,_,r,l,t,λv s f n c A K=>?_⟩;cases (show v=.int b from K);exact⟨a,b,rfl,rfl,k _ s f n c A ((l.mono c).set (show RD X.K s n f (.p (.int (a+b))) (.int (a+b)) from rfl) i)⟩
   |_=>cases q
  .cases q
end
open PySem.W (KasT kas_sort kas_ask kas_item kat_run kat_snds kat_lt kat_kind KatTups KatLex kat_nil kat_cons kat_yes kat_no kat_one)
noncomputable def Oc{d:Type}(lt:Nat->Nat->Option Bool):KasT d->Option d
 | .ret a=>some a
 | .ask i j k=>match lt i j with
  |some b=>Oc lt (k b)
  |none=>none
theorem Fz{d:Type}{lt:Nat->Nat->Option Bool}{c:Nat->Nat->(Bool->Shared->Prop)->Shared->Prop}{Q:d->Shared->Prop}{s:Shared}(x:∀i j b C,lt i j=some b->C b s->c i j C s){a:d}(q:Q a s) :
  ∀(t:KasT d),Oc lt t=some a->t.kasWp c Q s
 | .ret _,h=>by cases h;exact q
 | .ask i j k,h=>by
  simp only[Oc]at h;split at h
  .rename_i b e;exact x i j b _ e (Fz x q (k b) h)
  .cases h
section
variable{prog:Program}{w:World}{A:Around}{E:VP}{s:Shared}{D:Addr}{T:LV}
theorem wB(few:T.length < 2):((arrOf (SortSt.mk' general' (T.toArray.zip T.toArray) #[] 7 none)).map (·.2))=T.toArray:=by
 have same:(T.toArray.zip T.toArray).map (·.2)=T.toArray:=by
  rcases T with _|⟨v,_|⟨u,r⟩⟩
  .simp
  .simp
  .exact absurd few (by simp)
 exact same
theorem Fx(few:T.length < 2)(a:s.heap.get? D=some (seqObj "list" T.toArray v))
  (g:∀x c,(∀b o,b≠D->s.heap.get? b=some o->x.get? b=some o)->x.get? D=some (seqObj "list" T.toArray c)->u (.done (.ret .none)) { s with heap:=x }) :
  wpAny (model prog w) A (Builtin.«list.sort» ⟨[.ref D],[]⟩) u E s:=by
 have m:T.length+1≤sizeLine:=by rw[nu];lia
 have cond:T.toArray.size < 2:=by simpa using few
 have h:=zg a λ_=>(#[]:Array Value);rw[list_sort_plain];refine ab <|listItems_at a rfl <|ab <|zc a rfl (ab <|seqEpoch_at h rfl <|ab <|w8 (ab <|Ap (fD ?_) (bX _)) (by simpa using tN m)) (by simpa using tN m) (bX _);simp only[cond,jC];have k:∀b o,(s.heap.update D (jw λ_=>(#[]:Array Value))).get? b=some o->((((s.heap.update D (jw λ_=>(#[]:Array Value))).push { cls:=.type "tuple",data:=.seq T.toArray }).push { cls:=.type "list",data:=.seq ([]:LV).toArray })).get? b=some o:=
  λ_ _ q=>aO _ (aO _ q)
 have t:=k D _ h;refine ab <|al <|ab <|al ?_;refine ab <|seqEpoch_at t rfl <|ab <|zc t rfl ?_ (bX _) (by rw[wB few];simpa using zy (tN m));rw[wB few];have Mw:=zg t λ_=>T.toArray;simp only[bne_self_eq_false,uk,jD,failedOf];refine al (g _ _ (λb o n e=>?_) Mw);exact((lS _ D _).2 b n).trans (k b o (((lS s.heap D _).2 b n).trans e))
theorem wU(q:∀a u,Q a u->v a u):∀(t:KasT d)(u:Shared),t.kasWp (kas_ask prog w A κ T) Q u->t.kasWp (kas_ask prog w A κ T) v u
 | .ret a,u,h=>q a u h
 | .ask _ _ k,_,h=>cA h (λb u e=>wU q (k b) u e) λ_ _ x=>x
theorem Hm{f:Heap}{L l:Addr}{m:SV}{d:PN}{a:String}{o:Obj}{n:Nat}{G:VP}(F:Fr f L s.heap m)(N:News f L s.heap d)(hT:a="list"\/a="tuple")(ho:s.heap.get? l=some o)(hc:o.cls=.type a)(hd:o.data=.seq T.toArray n)(C:T.length < 64)
  (h1:T.length < 2->∀D g c,s.heap.get? D=none->Fr f L g m->News f L g ((D,seqObj "list" T.toArray c)::d)->G (.ref D) { s with heap:=g })
  (h2:2≤T.length->∀D e g,s.heap.get? D=none->(∀q ∈ d,q.1≠D)->Fr f L g m->News f L g ((D,seqObj "list" #[] e)::d) ->
   wpAny (model prog w) A.in1.in1 (keyKind' T.toArray) (λR u=>(kas_sort T.length).kasWp (kas_ask prog w A.in1.in1 R T) (λp u=>Dh f L m D e (p.toList.map λi=>T.getD i Value.none) (λu=>G (.ref D) u) u) u) (λ_ _=>False) { s with heap:=g }) :
  wpAny (model prog w) A (call (.builtin "sorted") [.ref l]) G E s:=by
 have y:T.length≤sizeLine:=by rw[nu];lia
 refine Calls.call_function_entry (b:=Builtin.«sorted») kind_sorted plain_sorted entry_sorted (args_sorted1 (.ref l)) (ab (m:=checkCount "sorted" 1 1 1) <|al <|ab <|wpAny_collect_seq l hT ho hc hd (λh k=>ab <|Ap ?_ y) y);have t:∀b,b=h.objs.size->s.heap.get? b=none:=λb hb=>by
  cases q:s.heap.get? b with
  |none=>rfl
  |some u=>exact absurd (aB (k b u q)) (by rw[hb];exact eQ _)
 have Q:∀b u,s.heap.get? b=some u->(h.push { cls:=.type "list",data:=.seq T.toArray }).get? b=some u:=λb u e=>aO _ (k b u e);have H:(h.push { cls:=.type "list",data:=.seq T.toArray }).get? h.objs.size=some (seqObj "list" T.toArray 0):=br _ rfl;have S:h.objs.size≠L:=λz=>by obtain⟨u,_,_,e,_⟩:=F.ns;rw[t L z.symm]at e;cases e
 have K:f.get? h.objs.size=none:=by
  rcases q:f.get? h.objs.size with _|u
  .rfl
  .have:=F.keep _ _ q;rw[t _ rfl]at this;cases this
 have neN:∀q ∈ d,q.1≠h.objs.size:=λq hq z=>by have:=(N q hq).1;rw[t _ z]at this;cases this
 have P:=F.keeps Q;have B:=N.keeps Q;refine ab (fD (nw (b:=Builtin.«list.sort») slot_list_sort ⟨_,H,rfl⟩ entry_list_sort ?_ (args_list_sort _)));by_cases few:T.length < 2
 .refine Fx (s:={ s with heap:=h.push { cls:=.type "list",data:=.seq T.toArray } }) few H λg c M e=>⟨_,rfl,al ⟨_,rfl,h1 few _ g c (t _ rfl) ⟨?_,λb u q=>?_,F.above⟩ λq j=>?_⟩⟩
  .obtain⟨u,es,Z,X,r⟩:=P.ns;exact⟨u,es,Z,M L u S.symm X,r⟩
  .exact M b u (λz=>by rw[z,K]at q;cases q) (P.keep b u q)
  .rcases aN.mp j with rfl|j
   .exact⟨e,S,K⟩
   .exact⟨M _ _ (neN q j) (B q j).1,(B q j).2⟩
 .refine PySem.W.kat_list_sort (s:={ s with heap:=h.push { cls:=.type "list",data:=.seq T.toArray } }) P B H S K neN (by lia) C λe g V W=>?_;refine cA (h2 (by lia) _ e g (t _ rfl) neN V W) (λR u hu=>?_) λ_ _ x=>x;exact wU (λp v I=>I.mono λv I=>⟨_,rfl,al ⟨_,rfl,I⟩⟩) _ _ hu
end
noncomputable def R_:P->P->Option Bool
 | .tup [.str a,.int i],.tup [.str b,.int j]=>some (if a=b then decide (i < j) else decide (a.cps.toList < b.cps.toList))
 |_,_=>none
noncomputable def Ip:P->Bool
 | .tup [.str _,.int _]=>true
 |_=>false
theorem Io(h:Ip v=true):∃a i,v=.tup [.str a,.int i]:=by
 unfold Ip at h;split at h
 .exact⟨_,_,rfl⟩
 .cases h
def wd(d:List P)(i j:Nat):Option Bool:=match d[i]?,d[j]? with
 |some x,some y=>R_ x y
 |_,_=>none
def qv(d:List P):Option (List P):=if d.length < 2 then some d else if d.length < 64 then (Oc (wd d) (kas_sort d.length)).bind λp=>if p.size < 64 then some (p.toList.map λi=>d.getD i .non) else none else none
def sortable(d:List P):Bool:=d.all Ip
def m7(d:List P):Option P:=if sortable d=true then (qv d).map .lst else none
def KV(h:Heap)(d:P)(v:Value):Prop:=∃x i a o n t u,d=.tup [.str x,.int i]/\v=.ref a/\h.get? a=some o/\o.cls=.type "tuple"/\o.data=.seq #[.str x t,.int i u] n
variable{l:Type}
theorem jK:∀{s:List d}{a:List l}{i:Nat}{x:d},Paired R s a->s[i]? = some x->∃y,a[i]? = some y/\R x y
 |_,_,_,_,.nil,h=>by simp at h
 |_,_,0,x,.cons (b:=b) r _,h=>⟨b,rfl,by simp at h;subst h;exact r⟩
 |_,_,i+1,x,.cons _ n,h=>by obtain⟨y,e,r⟩:=jK (i:=i) n (by simpa using h);exact⟨y,by simpa using e,r⟩
theorem ig{d l:Type}{R:d->l->Prop}:∀{x:List d}{y:List l},Paired R x y->x.length=y.length
 |_,_,.nil=>rfl
 |_,_,.cons _ r=>by rw[aV,aV,ig r]
section
variable{prog:Program}{w:World}{A:Around}{E:VP}{s:Shared}
theorem IQ{d:List P}{T:LV}{i j:Nat}{b:Bool}{C:Bool->Shared->Prop}(r:Paired (KV s.heap) d T)(h:wd d i j=some b)(c:C b s):kas_ask prog w A (tuples' true) T i j C s:=by
 unfold wd at h;split at h
 .rename_i x y m t;obtain⟨_,u,l,p,o,D,K,G,L,rfl,rfl,g,S,n⟩:=jK r m;obtain⟨_,v,z,q,H,E,B,I,M,rfl,rfl,f,F,k⟩:=jK r t;cases h;unfold kas_ask;rw[kS,kS,u,v];refine kat_lt g n f k (kat_cons (Ay ?_));by_cases e:l=z
  .rw [ac e]at c;rw[gX e];refine kat_yes (kat_cons (Ax ?_));by_cases a:(p == q)=true
   .rw [a];rw[bo (by rw[eq_of_beq a];exact Int.lt_irrefl _)]at c;exact kat_yes (kat_nil c)
   .rw [Bool.not_eq_true]at a;rw[a];exact kat_no (kat_one _ _ (zj (show PySem.W.BoolBack C (.bool _) s from c)))
  .rw [af e]at c;rw[bo e];exact kat_no (oneLt_str c)
 .cases h
theorem wm:∀{s:List P}{T:LV},Paired (KV a0) s T->∃fs,KatTups a0 T fs/\fs.length=s.length/\∀v ∈ fs,∃x t,v=Value.str x t
 |_,_,.nil=>⟨[],.nil,rfl,λ_ z=>nomatch z⟩
 |d::s,_,.cons k r=>by
  obtain⟨fs,f,h,e⟩:=wm r;obtain⟨x,i,a,o,n,t,u,rfl,rfl,b,c,hd⟩:=k;refine⟨.str x t::fs,.cons (xs:=#[.str x t,.int i u]) b c hd rfl f,by rw[aV,aV,h],λv m=>?_⟩;rcases aN.mp m with rfl|m
  .exact⟨x,t,rfl⟩
  .exact e v m
theorem Ii{d:List P}{T:LV}(r:Paired (KV s.heap) d T)(m:2≤T.length) :
  wpAny (model prog w) A (keyKind' T.toArray) (λk h=>h=s/\∀i j b C,wd d i j=some b->C b h->kas_ask prog w A k T i j C h) (λ_ _=>False) s:=by
 obtain⟨fs,f,x,a⟩:=wm r;refine kat_kind (T:=.type "str") f (by rw[x,ig r];lia) (λv n=>?_) rfl ⟨rfl,λi j b C e c=>IQ r e c⟩;obtain⟨i,t,rfl⟩:=a v n;exact PySem.W.Looks.of_peek (K:=[]) (λ_ _ z=>nomatch z) rfl
end
section
variable{X:Cx}
theorem E7{B:PN}{J:L2.St}{H:Hp}{s:Shared}(I:Inv X B J H s){F:Aa}:∀{e:List P}{f:List V}{k:LV},b7 X.K F H e f->ba f k->sortable e=true->Paired (KV s.heap) e k
 | [],_,_,h,r,_=>by cases (show _=([]:List V) from h);cases r;exact .nil
 |d::e,_,_,h,r,q=>by
  obtain⟨x,D,rfl,w,g⟩:=h;obtain⟨l,z⟩:=Bool.and_eq_true_iff.mp (show(Ip d && sortable e)=true from q);cases r with
  |cons S K=>refine .cons ?_ (E7 I g K z);obtain⟨y,i,rfl⟩:=Io l;obtain⟨a,E,rfl,C,_,_,rfl,b,_,_,rfl,c,m⟩:=w;cases S;cases b;cases c;cases m;obtain⟨j,A,⟨o,v,p,n,hd⟩,_⟩:=I.tuple C.sq;obtain⟨_,_,rfl,⟨t,rfl⟩,u,rfl⟩:=vals2 A;exact⟨y,i,a,o,n,t,u,rfl,rfl,v,p,hd⟩
theorem MX(r:ba u v)(i:Nat):RelV (u.getD i .non) (v.getD i Value.none):=by
 rw[kS,kS];cases e:u[i]? with
 |none=>
  have l:=ig r;have:v[i]? = none:=by rw[z5]at e ⊢;lia
  rw[this];rfl
 |some x=>obtain⟨y,h,a⟩:=jK r e;rw[h];exact a
theorem AU{x:List V}{t:LV}(r:ba x t):∀p:List Nat,ba (p.map λi=>x.getD i .non) (p.map λi=>t.getD i Value.none)
 | []=>.nil
 |i::p=>.cons (MX r i) (AU r p)
theorem D4{K:FG}{F:Aa}{H:Hp}{s:List P}{h:List V}(r:b7 K F H s h):∀p:List Nat,b7 K F H (p.map λi=>s.getD i .non) (p.map λi=>h.getD i .non)
 | []=>rfl
 |i::p=>by
  refine⟨_,_,rfl,?_,D4 r p⟩;show RP K F H (s.getD i P.non) (h.getD i V.non);rw[kS,kS];cases e:s[i]? with
  |none=>
   have l:=r.length;have:h[i]? = none:=by rw[z5]at e ⊢;lia
   rw[this];rfl
  |some d=>obtain⟨x,a,n⟩:=r.get e;rw[a];exact n
theorem sD{B:PN}{J:L2.St}{H:Hp}{s:Shared}{r:Heap}{A:Nat}{m:SV}(I:Inv X B J H s)(y:s.heap.Ns X.e.locals m)(a:r.Ns X.e.locals m)(k:∀b o,b≠X.e.locals->s.heap.get? b=some o->r.get? b=some o):Inv X B J H { s with heap:=r,toks:=A }:=by
 have L:∀b u,H b=some u->b≠X.e.locals:=λb u e z=>by rw[z,I.free]at e;cases e
 refine I.step (g':=s.gens) (d':=s.drawn) (ch:=[]) (λ_ z=>nomatch z) (λb o h _ _ e _=>k b o h e) (λb o h _ _ e _=>⟨o.slots,k b o h e⟩) (λ_ _ _ _ n=>n) (λb o _ e=>?_) (λ_ _ e=>e) (λ_ _ _ e=>e) (λ_ e=>e) (λK l=>?_) (λb u e=>?_) I.bare
 .by_cases h:b=X.e.locals
  .subst h;obtain⟨P,_,_,w,_⟩:=a;exact⟨P,w⟩
  .exact⟨o,k b o h e⟩
 .obtain⟨o,es,C,S,hd,D,t⟩:=y;obtain⟨E,i,g,f,d,F,p⟩:=l;rw[S]at f;cases f;rw[hd]at d;cases d;have:m=K:=funext λx=>(t x).symm.trans (p x);rw[<- this];exact a
 .refine (I.h b u e).stay (λc v j q=>k c v ?_ q) (λ_ q=>q) λ_ _ q=>q;rcases j with z|z
  .rw [z];exact L b u e
  .exact L c _ z
theorem wk{g h x:Heap}{L:Addr}{m:SV}(k:∀b o,g.get? b=some o->h.get? b=some o)(F:Fr g L x m)(N:News g L x (nj g h L)):∀b o,b≠L->h.get? b=some o->x.get? b=some o:=λb o a e=>by
 cases q:g.get? b with
 |some u=>have:=k b u q;rw[e]at this;cases this;exact F.keep b _ q
 |none=>exact(N (b,o) (wc a q e)).1
theorem K_{P:Program}{w:World}{H:Hp}{h:Heap}{a:Addr}{o:HO}(x:cU P w H h a o):∃u,h.get? a=some u:=by
 cases o with
 |lst s=>obtain⟨_,_,_,_,e⟩:=x;exact⟨_,e⟩
 |tup s=>obtain⟨_,_,_,_,e,_⟩:=x;exact⟨_,e⟩
 |dK k=>obtain⟨_,_,_,_,_,_,_,e,_⟩:=x;exact⟨_,e⟩
 |dT k=>obtain⟨_,_,_,_,_,_,_,e,_⟩:=x;exact⟨_,e⟩
 |dN k=>obtain⟨_,_,_,_,_,_,_,e,_⟩:=x;exact⟨_,e⟩
 |set S n=>obtain⟨_,_,_,_,e,_⟩:=x;exact⟨_,e⟩
 |ins C d fs=>obtain⟨_,_,_,e,_⟩:=x;exact⟨_,e⟩
 |own y=>exact x
 |xd fs=>obtain⟨_,⟨_,_,_,e,_⟩,_⟩:=x;exact⟨_,e⟩
 |rng lo i=>obtain⟨_,_,_,e⟩:=x;exact⟨_,e⟩
 |frz b u=>exact⟨_,x.1⟩
 |tbl=>obtain⟨_,e,_⟩:=(show qZ H h a from x);exact⟨_,e⟩
 |met f y=>exact⟨_,(show h.get? a=some _ from x)⟩
 |ext c=>exact x.2.1
theorem Fh{B:PN}{J:L2.St}{H:Hp}{s:Shared}{D:Addr}(I:Inv X B J H s)(h:s.heap.get? D=none):H D=none:=by
 cases q:H D with
 |none=>rfl
 |some v=>obtain⟨u,e⟩:=K_ (I.h D v q);rw[h]at e;cases e
theorem Cs{B:PN}{J:L2.St}{H:Hp}{s:Shared}{t:Heap}{S:Nat}{m:SV}{D:Addr}{u:HO}(I:Inv X B J H s)(y:s.heap.Ns X.e.locals m)(h:t.Ns X.e.locals m)(k:∀b o,b≠X.e.locals->s.heap.get? b=some o->t.get? b=some o)(j:s.heap.get? D=none)(i:cU X.p X.w (bO H D u) t D u):Inv X B J (bO H D u) { s with heap:=t,toks:=S }:=by
 have f:=Fh I j;have M:∀b o,s.heap.get? b=some o->b≠D:=λb o e z=>by rw[z,j]at e;cases e
 have a:∀b v,H b=some v->b≠D:=λb v e z=>by rw[z,f]at e;cases e
 have F:=sD (A:=S) I y h k;refine I.step (g':=s.gens) (d':=s.drawn) (ch:=[]) (λ_ z=>nomatch z) (λb o L _ _ e _=>k b o L e) (λb o L _ _ e _=>⟨o.slots,k b o L e⟩) (λb o _ e n=>(aj (M b o e)).trans n) (λb o _ e=>?_) (λb Q e=>(aj (a b _ e)).trans e) (λb o v e=>(aj (a b _ e)).trans e) (λb e=>(aj (a b _ e)).trans e) (λG A=>?_) (λb v e=>?_) I.bare
 .by_cases L:b=X.e.locals
  .subst L;obtain⟨N,_,_,g,_⟩:=h;exact⟨N,g⟩
  .exact⟨o,k b o L e⟩
 .obtain⟨o,es,R,C,hd,T,p⟩:=y;obtain⟨V,P,K,r,d,E,w⟩:=A;rw[C]at r;cases r;rw[hd]at d;cases d;have:m=G:=funext λx=>(p x).symm.trans (w x);rw[<- this];exact h
 .by_cases l:b=D
  .subst l;rw[aD]at e;cases e;exact i
  .rw [aj l]at e;exact(F.h b v e).stay (λ_ _ _ q=>q) (λc q=>(aj (a c _ q)).trans q) (λc Q q=>(aj (a c _ q)).trans q) (λc W q=>(aj (a c _ q)).trans q)
theorem vh:eE X (.builtin "sorted") (λxs H Q=>∃F a P S b,xs=[.ref a]/\(iy X.K H a P\/nr X.K H a P)/\b7 X.K F H S P/\sortable S=true/\qv S=some b/\∀l z,H l=none->b7 X.K F H b z->Q (.ref l) (bO H l (.lst z))):=by
 intro B s J H xs us Q I r h;obtain⟨F,a,P,S,b,rfl,G,L,hs,k,q⟩:=h;obtain⟨u,rfl,rx⟩:=vals1 r;cases rx;obtain⟨m,R⟩:=I.fr;have w:∀(T:String)(hT:T="list"\/T="tuple")(t:LV)(o:Obj)(n:Nat),ba P t->s.heap.get? a=some o->o.cls=.type T->o.data=.seq t.toArray n->wx X (call (.builtin "sorted") [.ref a]) (EP X B J Q) X.xe s:=by
  intro T hT t o n M E C hd;have hl1:=L.length;have hl2:=ig M;have y:S.length < 64:=by
   unfold qv at k;split at k
   .lia
   .split at k
    .lia
    .cases k
  have A:∀(z:List V)(j:LV)(D:Addr)(f:Heap)(c:Nat),ba z j->b7 X.K F H b z->j.length≤64->s.heap.get? D=none->Fr X.b X.e.locals f m->News X.b X.e.locals f ((D,seqObj "list" j.toArray c)::nj X.b s.heap X.e.locals)->EP X B J Q (.ref D) { s with heap:=f }:=
   λz j D f c vz rz hz K d N=>⟨.ref D,_,Cs (S:=s.toks) I R.ns d.ns (wk I.bk d λp hp=>N p (.tail _ hp)) K (show cU X.p X.w _ f _ (.lst z) from ⟨by rw[ig vz,nu];lia,j,c,vz,(N _ (.head _)).1⟩),rfl,q _ z (Fh I K) rz⟩
  refine Hm R (EG (g:=X.b)) hT E C hd (by lia) (λfew D f c K d N=>?_) λtwo D e f K ne d N=>?_
  .unfold qv at k;rw[ac (by lia)]at k;cases k;exact A P t D f c M L (by lia) K d N
  .unfold qv at k;rw[af (by lia),ac y]at k;obtain⟨p,ep,k⟩:=Option.bind_eq_some_iff.mp k;split at k;case isFalse=>cases k
   rename_i ps;cases k;have I1:Inv X B J H { s with heap:=f }:=sD (A:=s.toks) I R.ns d.ns (wk I.bk d λp hp=>N p (.tail _ hp));have Z:Oc (wd S) (kas_sort t.length)=some p:=by rw[<- hl2,<- hl1];exact ep
   refine cA (Ii (s:={ s with heap:=f }) (E7 I1 L M hs) two) (λκ v hv=>?_) λ_ _ x=>x;obtain⟨rfl,W⟩:=hv;exact Fz (a:=p) (Q:=λp u=>Dh X.b X.e.locals m D e (p.toList.map λi=>t.getD i Value.none) (λu=>EP X B J Q (.ref D) u) u) W (PySem.W.KasFin.intro d N (.head ne) λh2 c F2 N2=>A _ _ D h2 c (AU M p.toList) (D4 L p.toList) (by rw[aQ,mu];lia) K F2 N2) _ Z
 rcases G with G|G
 .obtain⟨t,r',pl,hz⟩:=I.list G;obtain⟨o,E,C,n,hd⟩:=pl.isList;exact w "list" (.inl rfl) t o n r' E C hd
 .obtain⟨t,r',⟨o,E,C,n,hd⟩,hz⟩:=I.tuple G;exact w "tuple" (.inr rfl) t o n r' E C hd
noncomputable def Mf:List D->Option (List P)
 | []=>some []
 | .p v::r=>(Mf r).map (v::·)
 | .ref _::_=>none
theorem DH:∀{d:List D}{T:List P},Mf d=some T->d=T.map .p
 | [],T,h=>by cases h;rfl
 | .p v::r,T,h=>by
  cases e:Mf r with
  |none=>simp only[Mf,e]at h;cases h
  |some w=>simp only[Mf,e]at h;cases h;rw[DH e];rfl
 | .ref _::_,T,h=>by cases h
theorem Jc:∀{T:List P}{s:List V},cV K F H m (T.map .p) s->b7 K F H T s
 | [],_,h=>h
 |_::_,_,h=>by obtain⟨x,r,e,a,n⟩:=h;exact⟨x,r,e,a,Jc n⟩
noncomputable def Hq:P->Option (List P)
 | .lst x=>some x
 | .ro x=>some x
 | .tup x=>some x
 |_=>none
def Hs:D->U->Option (List P)
 | .p v,_=>Hq v
 | .ref i,S=>match S[i]? with
  |some (.lst d)=>Mf d
  |some (.fz v)=>Hq v
  |_=>none
@[simp] def DF(r:EE)(L:Lc)(S:U):tyV:=bI (r L S) λd h=>match Hs d h with
 |some x=>(m7 x).map λv=>(v,h)
 |none=>none
theorem A2(p:RP K F H w v)(h:Hq w=some u):∃a y,v=.ref a/\(iy K H a y\/nr K H a y)/\b7 K F H u y:=by
 cases w with
 |tup d=>obtain⟨a,y,rfl,t,r⟩:=p;cases h;exact⟨a,y,rfl,.inr t.sq,r⟩
 |lst d=>obtain⟨a,y,rfl,t,r⟩:=p;cases h;exact⟨a,y,rfl,.inl t.sq,r⟩
 |ro d=>obtain⟨a,y,rfl,t,r⟩:=p;cases h;exact⟨a,y,rfl,.inl t.sq,r⟩
 |_=>cases h
theorem Hr(r:Rel K F H m S)(p:RD K F H m u v)(h:Hs u S=some xs):∃a y,v=.ref a/\(iy K H a y\/nr K H a y)/\b7 K F H xs y:=by
 cases u with
 |p w=>exact A2 p h
 |ref i=>
  obtain⟨a,rfl,x⟩:=p;simp only[Hs]at h;split at h
  .rename_i d es;obtain⟨y,e,s⟩:=r.obj i a _ x es;rw[DH h]at s;exact⟨a,y,rfl,.inl (iy.of e),Jc s⟩
  .rename_i w es;exact A2 (r.obj i a _ x es) h
  .cases h
theorem DC(j:Gl X "sorted")(y:X.g "sorted"=none)(i:Y X e (tE X.K k))(n:starEach [e] X.e=[(false,eval e X.e)]:=by rfl):Y X (.Call (.Name "sorted" p) [e] [] N) (tV X.K (DF k)):=
 (mG vh j y GW (eW i ij (by rw[n];rfl)) (by decide) (by decide) (by rw[n];rfl) rfl).imp' λJ H Q s=>by
  obtain⟨F,m,L,S,d,I,r,l,q,h⟩:=s;obtain⟨x,t,w,q⟩:=ah q;refine⟨F,m,L,S,x,t,r,l,w,λv c P G D f A=>?_⟩;split at q
  .rename_i b g;unfold m7 at q;split at q
   .rename_i n;cases o:qv b with
    |none=>rw[o]at q;cases q
    |some u=>rw[o]at q;cases q;obtain⟨a,E,rfl,K,B⟩:=Hr f A g;exact⟨c,a,E,b,u,rfl,K,B,n,o,λz M s C=>h _ _ P _ (D.trans (cK s).stp) (f.grow (cK s)) (.newLst s C)⟩
   .cases q
  .cases q
end
noncomputable def Sc(K:FG)(e:Bool)(a:Addr):It:=if e=true then IW K a else Pp K a
inductive tIOI(K:FG)(en:Bool)(fe:EE)(J:L2.St)(H:Hp)(R:It->Hp->Prop):Prop
 |mk (F:Aa) (m:List Addr) (L:Lc) (S:U) (j:Nat) (S':U) (ds:List D) (h0_:Rel K F H m S) (h1_:RL K F H m J L) (h2_:fe L S=some (.ref j,S')) (h3_:S'[j]? = some (.lst ds)) (h4_:∀a F' m' H',Stp F m H F' m' H'->Rel K F' H' m' S'->m'[j]? = some a->R (Sc K en a) H'):tIOI K en fe J H R
section
variable{X:Cx}{N:Pos}
theorem yu:eE X (.type "range") (λx H Q=>∃j:Int,x=[.int j]/\∀r,H r=none->Q (.ref r) (bO H r (.rng 0 j))):=by intro B s J H x n Q I r h;obtain⟨j,rfl,q⟩:=h;obtain⟨u,rfl,a⟩:=vals1 r;obtain⟨t,rfl⟩:=a;refine call_range_1 ?_;exact⟨.ref s.heap.objs.size,_,I.laid (o:=.rng 0 j) (λb o e=>aO _ e) (ag _) ⟨_,_,_,br _ rfl⟩,rfl,q _ (I.h.fresh (ag _))⟩
theorem sk:∀{s:List d}{e:List l},s.length=e.length->(∀(i:Nat) x y,s[i]? = some x->e[i]? = some y->R x y)->Paired R s e
 | [],[],_,_=>.nil
 | [],_::_,h,_=>by simp at h
 |_::_,[],h,_=>by simp at h
 |x::s,y::e,h,k=>.cons (k 0 x y rfl rfl) (sk (by simpa using h) λi a b n f=>k (i+1) a b (by simpa using n) (by simpa using f))
theorem x4(h:ItemsOf (λi v=>∃t,v=Value.int (0+i * 1) t) u n):ba ((List.range n).map λ(i:Nat)=>V.int (i:Int)) u.toList:=by
 obtain⟨z,f⟩:=h;refine sk (by simp[z]) λi x y a b=>?_;rw[bY]at a;cases e:(List.range n)[i]? with
 |none=>rw[e]at a;cases a
 |some k=>
  rw[e]at a;cases a;have hk:k=i:=by have:=bw.mp e;obtain⟨c,s⟩:=this;simpa using s.symm
  subst hk;obtain⟨t,rfl⟩:=f k y (by simpa using b);exact⟨t,by simp⟩
theorem wR(a:X.c=true):eE X (.type "list") (λk H Q=>∃r j,k=[.ref r]/\H r=some (.rng 0 j)/\j.natAbs < 1000000/\∀l,H l=none->Q (.ref l) (bO H l (.lst ((List.range j.toNat).map λ(i:Nat)=>V.int (i:Int))))):=by
 intro B s J H k y Q I r h;obtain⟨p,j,rfl,m,g,q⟩:=h;obtain⟨u,rfl,d⟩:=vals1 r;cases d;obtain⟨t,u,v,o⟩:=I.h p _ m;refine call_list_range (n:=j.toNat) (I.o.hd a) o (small_one (by lia) (by lia) (by lia) (by lia)) (by rw[Ao];split<;>lia) (by lia) λf w x c hk e b=>?_
 exact⟨.ref s.heap.objs.size,_,I.laid (t':=w) hk (ag _) (show cU X.p X.w _ f _ (.lst _) from ⟨by rw[aQ,zO];exact au (by lia:j.toNat≤1000000) (by decide),x.toList,c,x4 b,by simpa using e⟩),rfl,q _ (I.h.fresh (ag _))⟩
@[simp] def MZ(a:EV)(L:Lc)(S:U):tyV:=bI (a L S) λv h=>match v with
 | .int j=>if decide (j.natAbs < 1000000)=true then some (.lst (intsFrom 0 j.toNat),h) else none
 |_=>none
theorem vP:∀s:List Nat,b7 K F H (s.map λ(i:Nat)=>P.int (0+(i:Int))) (s.map λ(i:Nat)=>V.int (i:Int))
 | []=>rfl
 |i::s=>⟨_,_,rfl,by show V.int _=V.int _;rw[cO],vP s⟩
theorem G4{a:Expr}{C:EV}{p G i y:Pos}(h:X.c=true)(A:Gl X "list")(D:X.g "list"=none)(g:Gl X "range")(s:X.g "range"=none)(K:Y X a (tV X.K C))(t:starEach [a] X.e=[(false,eval a X.e)])
  : Y X (.Call (.Name "list" p) [.Call (.Name "range" G) [a] [] y] [] i) (tV X.K (MZ C)):=
 (nL (wR h) A D tG (eW (nL yu g s boot_range (eW K ij (by rw[t];rfl)) (by decide) (by decide) (by rw[t];rfl) rfl) ij rfl) (by decide) (by decide) rfl rfl).imp' λJ H Q e=>by
  obtain⟨F,m,L,S,d,N,r,l,q,k⟩:=e;obtain⟨x,u,o,q⟩:=ah q;refine⟨F,m,L,S,x,u,r,l,o,λv f E b M I p=>?_⟩;cases x with
  |int j=>
   dsimp only at q;split at q
   .rename_i P;have B:j.natAbs < 1000000:=aJ P;cases q;cases (show v=.int j from p);refine⟨j,rfl,λw n=>⟨w,j,rfl,aD,B,λz e=>?_⟩⟩;have c:Grow f b f (bO b w (.rng 0 j)):=cg n;exact k _ _ E _ (M.trans (c.stp.trans (cK e).stp)) ((I.grow c).grow (cK e)) (.newLst e (vP _))
   .cases q
  |_=>cases q
end
section
variable{X:Cx}{N:Pos}
theorem B2{prog:Program}{w:World}{A:Around}{E:VP}{s:Shared}{t l:Addr}{i:Array Value}{v u:Value}{lo x:Option Int}{Q:VP}(h:IsTup s.heap t i)(a:s.heap.IsSliceOf l v u .none)(p:IsPart v lo)(b:IsPart u x)
  (k:HT.eJ i.size 0 lo=0) (f:HT.eJ i.size i.size x=i.size) (q:Q (.ref t) s):wpAny (model prog w) A (getItem (.ref t) (.ref l)) Q E s:=by
 have T:s.TypeIs (.ref l) "slice":=by obtain⟨o,e,n,_⟩:=a;exact⟨o,e,n⟩
 unfold getItem;try with_reducible refine fD ?_
 first|refine ab (al ?_)|skip
 refine ab (AG h.typeIs (by decide) ?_);refine ab (pW (name:=Str.ofString "__getitem__") h.typeIs jy (nw jy h.typeIs zi ?_ (zh _ _)));show wpAny _ _ (Dd (.ref t) >>= _) _ _ s;refine ab (zd h (ab (lz T ?_)));rw[ac (by decide)];refine ab (HT.i7 a p b ?_);rw[k,f];have y:((((0:Nat):Int) == 0 && (1:Int) == 1 && (i.size-0) == i.size)=true):=by simp
 show wpAny _ _ (if ((((0:Nat):Int) == 0 && (1:Int) == 1 && (i.size-0) == i.size)=true) then _ else _) _ _ s;rw[ac y];refine ab (ab (lz h.typeIs ?_));refine al ?_;rw[ac (by rfl)];first
  |exact ab (al (al ⟨_,rfl,al q⟩))
  |exact ab (pQ (al ⟨_,rfl,al q⟩))
  |exact al ⟨_,rfl,al q⟩
theorem DW:Ju X (λx lo n H Q=>∃a e,x=.ref a/\nr X.K H a e/\HT.eJ e.length 0 lo=0/\HT.eJ e.length e.length n=e.length/\Q (.ref a) H):=by
 intro B s J H x v w g lo n d Q I m b p u h;obtain⟨a,e,rfl,c,k,f,q⟩:=h;cases m;obtain⟨i,r,t,_⟩:=I.tuple c;have l:i.toArray.size=e.length:=by rw[bc];exact r.length.symm
 exact⟨"tuple",_,jy.lookup,t.typeIs,B2 t b p u (by rw[l];exact k) (by rw[l];exact f) ⟨.ref a,H,I,rfl,q⟩⟩
def LO:P->Option Int->Option Int->Option P
 | .tup s,lo,h=>some (.tup (cut s lo h))
 |x,lo,h=>Sz x lo h
@[simp] def qc(a:EV)(lo n:EO)(L:Lc)(S:U):tyV:=bI (a L S) λx h=>bI (lo L h) λi e=>bI (n L e) λj s=>(LO x i j).map λv=>(v,s)
theorem PJ{e:Expr}{lo A:Option Expr}{C:EV}{P K:EO}{N p2:Pos}(Z:Y X e (tV X.K C))(hl:PO X lo (tO X.K P))(hh:PO X A (tO X.K K)):Y X (.Subscript e (.Slice lo A none p2) N) (tV X.K (qc C P K)):=
 (Ej (Hn.or (Ki.or DW)) Z hl hh).imp' λJ H Q hz=>by
  obtain⟨F,m,L,S,d,S',r,l,q,k⟩:=hz;obtain⟨x,z,R,q⟩:=ah q;obtain⟨i,o,T,q⟩:=ah q;obtain⟨j,M,V,q⟩:=ah q;refine⟨F,m,L,S,x,z,r,l,R,λv D m1 H1 g r1 p1=>?_⟩;refine⟨D,m1,L,z,i,o,r1,l.mono g,T,λE m2 H2 y r2=>?_⟩;refine⟨E,m2,L,o,j,M,r2,(l.mono g).mono y,V,λG b I B c=>?_⟩;have u:=RP.mono B (RP.mono y p1);have w:=g.trans (y.trans B);cases x with
  |lst f=>cases q;obtain⟨a,s,rfl,t,n⟩:=u;exact .inl ⟨a,s,rfl,t.sq,λp h=>k _ _ b _ (w.trans (cK h).stp) (c.grow (cK h)) (.newLst h (n.cut i j))⟩
  |ro f=>cases q;obtain⟨a,s,rfl,t,n⟩:=u;exact .inl ⟨a,s,rfl,t.sq,λp h=>k _ _ b _ (w.trans (cK h).stp) (c.grow (cK h)) (.newLst h (n.cut i j))⟩
  |tup f=>
   obtain⟨a,s,rfl,t,n⟩:=u;cases q;by_cases hw:HT.eJ s.length 0 i=0/\HT.eJ s.length s.length j=s.length
   .have W:cut f i j=f:=by
     unfold cut;rw[n.length,hw.1,hw.2,l7,tM,<- n.length,ma]
    rw[W]at k;exact .inr (.inr ⟨a,s,rfl,t.sq,hw.1,hw.2,k _ G b I w c ⟨a,s,rfl,t,n⟩⟩)
   .exact .inr (.inl ⟨a,s,rfl,t.sq,hw,λp h=>k _ _ b _ (w.trans (cg h).stp) (c.grow (cg h)) (.newTup h (n.cut i j))⟩)
  |_=>cases q
abbrev lM:List P->Option P:=sP
variable{e:Expr}{es:Ab}{fs:j_}{p:Pos}
theorem JH(g:Gl X "int")(m:X.g "int"=none)(a:PA X (e::es) (rh X.K fs))(x:starEach (e::es) X.e=(false,eval e X.e)::starEach es X.e)(h:(backTo N (starEach es X.e)).any (·.1)=false) :
  Y X (.Call (.Name "int" p) (e::es) [] N) (tV X.K (cL lM fs)):=xu IL g m GU a (by decide) (by decide) x h
inductive PEs(X:Cx):Ab->List EV->Prop
 |nil:PEs X [] []
 |cons {e es f fs}:Y X e (tV X.K f)->PEs X es fs->PEs X (e::es) (f::fs)
@[simp] def DG(a b c:EV)(L:Lc)(S:U):tyV:=bI (a L S) λd h=>bI (b L h) λy x=>bI (c L x) λz e=>match d with
 | .dct s T=>match cP y with
  |some k=>some ((bW k s T).getD z,e)
  |none=>none
 |_=>none
theorem r9:∀{k:List (b0×V)}{d:List P},b7 K F H d (k.map (·.2))->bW u (k.map (·.1)) d=none->gB k u=none
 | [],d,r,h=>rfl
 |(a,v)::k,[],r,h=>by have:=r.length;simp at this
 |(a,v)::k,f::d,r,h=>by
  obtain⟨x,c,e,p,s⟩:=r;rw[aA]at e;injection e with b n;simp only[aA,bW]at h;by_cases hk:a=u
  .rw [ac hk]at h;cases h
  .rw [af hk]at h;rw[<- n]at s;rw[gA (p:=(a,v)) hk];exact r9 s h
theorem JI{o a b:Expr}{I C t:EV}{D E:Pos}(hu:X.A.units+1 < cLine)(ho:Y X o (tV X.K I))(ha:Y X a (tV X.K C))(hb:Y X b (tV X.K t))(m:M2 X o "get" D a b E):Y X (.Call (.Attribute o "get" D) [a,b] [] E) (tV X.K (DG I C t)):=
 (Er hu ho ha hb m).imp' λJ H Q hz=>by
  obtain⟨F,m,L,S,d,S',r,l,q,k⟩:=hz;obtain⟨x,A,Z,q⟩:=ah q;obtain⟨y,B,e2,q⟩:=ah q;obtain⟨z,V,e3,q⟩:=ah q;refine⟨F,m,L,S,x,A,r,l,Z,λv R m1 H1 K r1 p1=>?_⟩;cases x with
  |dct ks W=>
   obtain⟨a,s,rfl,i,hk,ek,ra⟩:=id p1;refine⟨a,rfl,.inl ⟨s,.inl hk⟩,?_⟩;refine⟨R,m1,L,A,y,B,r1,l.mono K,e2,λvy T m2 H2 f r2 p2=>?_⟩;refine⟨T,m2,L,B,z,V,r2,(l.mono K).mono f,e3,λvz P G p c M p3=>?_⟩;have h:p a=some (.dK s):=(f.trans c).frk _ _ i hk;have e:=b7.mono c (b7.mono f ra);have py:=RP.mono c p2;dsimp only at q;split at q
   .rename_i j u;cases q;have g:=im u py;subst g ek;have N:=K.trans (f.trans c);cases n:bW j (s.map (·.1)) W with
    |none=>have hm:=r9 e n;refine⟨none,by rw[<- hm];exact j1.k h,?_⟩;rw[n]at k;exact k vz P G p N M p3
    |some w=>obtain⟨v,h1,h2⟩:=nB e n;refine⟨some v,by rw[<- h1];exact j1.k h,?_⟩;rw[n]at k;exact k v P G p N M h2
   .cases q
  |_=>cases q
def OM(w:World):List DictEntry->List (Str×P)->Prop
 | [],[]=>True
 |e::es,(k,p)::r=>(∃t,e.key=.str k t)/\e.hash=hashStr w k/\(∃v,RelV v e.val/\∀K F H,RP K F H p v)/\OM w es r
 |_,_=>False
def Rh(w:World)(K:FG)(m:SV)(x:Str)(k:List (Str×P)):Prop:=
 ∃a o es e,m x=some (.ref a)/\K.lookup a=some o/\o.ExactDict/\o.data=.dict es e/\OM w es.toList k/\(k.map (·.1)).Nodup
end
noncomputable def M7:List b0->List P->Option (List (Str×P))
 | [],[]=>some []
 | .inr k::s,v::T=>(M7 s T).map λr=>(k,v)::r
 |_,_=>none
noncomputable def Fg:P->Bool
 | .dct _ _=>true
 |_=>false
def np(w:World)(K:FG)(m:SV)(x:Str)(v:P):Prop:=(Fg v=false->yx K m x v)/\∀s T,v=.dct s T->∃k,M7 s T=some k/\Rh w K m x k
variable{x:Str}
theorem np.plain(h:yx K u x v)(a:Fg v=false):np w K u x v:=⟨λ_=>h,λk T e=>by subst e;cases a⟩
end Ev
namespace Ev
open PySem PySem.Spec PyProof.Rows L2
theorem wy(f:Nat->β->Sem (ForInStep β))(I:Nat->β->Shared->Prop)(Q:β->Shared->Prop)(k:Nat)
  (turn:∀i b s,i < k->I i b s->wpAny M A (f i b) (λr s'=>match r with | .yield b'=>I (i+1) b' s' | .done b'=>Q b' s') E s)
  (fin:∀b s,I k b s->Q b s) (b:β) (h:I 0 b s):wpAny M A (forIn [0:k] b f) Q E s:=by
 rw[Std.Legacy.Range.forIn_eq_forIn_range'];refine AA f (λrest b s=>∃i,rest=zI i (k-i)/\i≤k/\I i b s) Q (λx rest b s ⟨i,e,hi,hI⟩=>?_) (λb s ⟨i,e,hi,hI⟩=>?_) _ b ⟨0,by simp[Std.Legacy.Range.size],bX _,h⟩
 .obtain⟨m,hm⟩:∃m,k-i=m+1:=by
   cases q:k-i with
   |zero=>rw[q]at e;simp at e
   |succ m=>exact⟨m,rfl⟩
  rw[hm,t8]at e;injection e with e1 e2;subst e1;refine cA (turn x b s (by lia) hI) (λr s' hr=>?_) λ_ _ z=>z;cases r with
  |done b'=>exact hr
  |yield b'=>exact⟨x+1,by rw[e2];congr 1;lia,by lia,hr⟩
 .have:k-i=0:=by
   cases q:k-i with
   |zero=>rfl
   |succ m=>rw[q,t8]at e;cases e
  have:i=k:=by lia
  subst this;exact fin b s hI
section
open PySem.SeqAt PySem.MeetsSeq
open PySem.AutoSeq1 (wpAny_loadPart')
theorem B3(l:Addr)(items:Array Value)(n:Nat)(dd:Option Addr)(sl:Array (OV))(x:Value)(e:Value->Bool)(j:Nat)(hj:j < items.size)
  (hit:e items[j]=true) (hno:∀m (hm:m < items.size),m < j->e items[m]=false) :
  Meets (Builtin.«tuple.index» ⟨[.ref l,x],[]⟩)
   (λA R s=>s.heap.get? l=some { cls:=.type "tuple",dict:=dd,data:=.seq items n,slots:=sl }/\(∀y,y ∈ items->EqAt A.in1 s y x (e y))/\R (.ok (.ret (.int j s.toks))) { s with toks:=s.toks+1 }):=
 .of_wp λprog w A R s h=>by
  obtain⟨hp,g,d,tk,os⟩:=s;obtain⟨hl,he,h⟩:=h
  wp_walk using lA hl,wy _ (λi b s'=>i≤j/\b.1=none/\s'=⟨hp,g,d,tk,os⟩) _
  case turn=>
   rintro i b s' hi ⟨hij,hb,rfl⟩;have hi':i < items.size:=by lia
   rw[Ai hi'];refine ab (he _ (Array.getElem_mem hi') prog w _ _ ?_);by_cases hc:i=j
   .subst hc;rw[hit]
    wp_walk
    exact⟨_,rfl,h⟩
   .rw [hno i hi' (by lia)]
    wp_walk
    exact⟨by lia,rfl,rfl⟩
  case fin=>rintro b s' ⟨hij,_,_⟩;exact absurd hij (by lia)
  case h=>exact⟨bX _,rfl,rfl⟩
end
def lG(ps:List P)(y:P):Option Nat:=if (ps.all (cE 19) && cE 19 y)=true then (i_ ps).findIdx? λz=>eA z (pd y) else none
@[simp] def xx(fa fb:EV)(L:Lc)(S:U):tyV:=bI (fa L S) λv x=>match v with
 | .lst ps=>bI (fb L x) λy h=>(lG ps y).map λ(i:Nat)=>(.int (i:Int),h)
 | .tup ps=>bI (fb L x) λy h=>(lG ps y).map λ(i:Nat)=>(.int (i:Int),h)
 |_=>none
section
variable{X:Cx}{pins:PN}{J:L2.St}{H:Hp}{s:Shared}{F:Aa}{ps:List P}{y:P}{vy:V}{u:Value}{i:Nat}{Q:VK}{a:Addr}
theorem uI:∀qs:List P,(i_ qs).length=qs.length
 | []=>rfl
 |q::qs=>by simp[i_,uI qs]
theorem Fk(o:X.A.units+64 < cLine)(I:Inv X pins J H s)(d:RP X.K F H y vy)(g:RelV vy u)(e:lG ps y=some i){v:Array Value}{f:List Addr}(k:ReadsAll s.heap v.toList (i_ ps) f) :
  ∃t:i < v.size,eA (lY s.heap v[i]) (pd y)=true/\(∀m (x:m < v.size),m < i->eA (lY s.heap v[m]) (pd y)=false)/\v.size=ps.length /\
   ∀z,z ∈ v->SeqAt.EqAt X.A.in1 s z u (eA (lY s.heap z) (pd y)):=by
 unfold lG at e;split at e;case isFalse=>cases e
 rename_i c;rw[ar]at c;obtain⟨j,w⟩:=ie I 19 d g c.2;have l:=ED c.1;have q:=fM 19 _ c.2;obtain⟨t,b,r⟩:=Ac.mp e;have n:=SeqAt.readsAll_map _ _ _ l.1 k;have h:v.size=(i_ ps).length:=by rw[<- n];simp
 have a:∀(m:Nat)(x:m < v.size),lY s.heap v[m]=(i_ ps)[m]'(h ▸ x):=λm x=>by
  have:(v.toList.map (lY s.heap))[m]? = (i_ ps)[m]?:=by rw[n]
  rw[bY,Array.getElem?_toList,Ai x,bg (h ▸ x)]at this;simpa using this
 refine⟨by lia,?_,λm x p=>?_,by rw[h,uI],SeqAt.items_eqAt k w l.1 q.1 (by lia)⟩
 .rw [a];exact b
 .rw [a];simpa using r m p
theorem Fj(e:lG ps y=some i):ps.all (cE 19)=true:=by
 unfold lG at e;split at e
 .rename_i h;rw[ar]at h;exact h.1
 .cases e
theorem yr(P:X.A.units+64 < cLine)(I:Inv X pins J H s)(p:RP X.K F H (.lst ps) (.ref a))(D:RP X.K F H y vy)(G:RelV vy u)(e:lG ps y=some i)(q:Q (.int i) H) :
  wx X (call (.builtin "list.index") [.ref a,u]) (EP X pins J Q) X.xe s:=by
 have S:=Fj e;obtain⟨N,b⟩:=ie I 20 p (show RelV (.ref a) (.ref a) from rfl) (by simpa[cE] using S);rw[pd]at b;cases b with
 | @list l o L n _ c x k f w=>
  obtain⟨j,t,v,V,d⟩:=Fk P I D G e w;obtain⟨oc,B,C,h⟩:=o;dsimp only at k f;subst k f;have T:ps.length≤sizeLine:=by obtain⟨M,xs,m,K,E⟩:=p;cases m;obtain⟨z,A,Z,r,R,_⟩:=I.lstM K.2;have W:=E.length;lia
  have g:sizeLine < 2 ^ 63:=by decide
  exact gG y6 ⟨_,x,rfl⟩ PySem.F.entry_list_index (PySem.F.args_list_index_2 _ _) (SeqAt.list_indexAt a L n B h u _ i j (by lia) t v) ⟨x,d,⟨.int i,H,I.tok _,⟨_,rfl⟩,q⟩⟩
theorem wP(hu:X.A.units+64 < cLine)(I:Inv X pins J H s)(px:RP X.K F H (.tup ps) (.ref a))(py:RP X.K F H y vy)(ru:RelV vy u)(e:lG ps y=some i)(q:Q (.int i) H) :
  wx X (call (.builtin "tuple.index") [.ref a,u]) (EP X pins J Q) X.xe s:=by
 have ho:=Fj e;obtain⟨as,ra⟩:=ie I 20 px (show RelV (.ref a) (.ref a) from rfl) (by simpa[cE] using ho);rw[pd]at ra;cases ra with
 | @tuple l o vs n _ as' h1 h2 h3 h4=>obtain⟨hi,e1,e2,hz,eq⟩:=Fk hu I py ru e h4;obtain⟨oc,od,odt,osl⟩:=o;dsimp only at h2 h3;subst h2 h3;exact gG y9 ⟨_,h1,rfl⟩ PySem.F.entry_tuple_index (PySem.F.args_tuple_index_2 _ _) (B3 a vs n od osl u _ i hi e1 e2) ⟨h1,eq,⟨.int i,H,I.tok _,⟨_,rfl⟩,q⟩⟩
theorem JK(hu:X.A.units+64 < cLine)(ho:Y X o (tV X.K fo))(he:Y X e (tV X.K fe))(hs:starEach [e] X.e=[(false,eval e X.e)])
  (w:attributeBase o "index" X.e (eval o X.e)=eval o X.e) (j:(M.endLine == g.line)=true):Y X (.Call (.Attribute o "index" M) [e] [] g) (tV X.K (xx fo fe)):=by
 intro pins s J H Q I ⟨F,m,L,S,d,S',r,l,q,k⟩;obtain⟨x,Z,e1,q⟩:=ah q;refine C9 w (by rw[hs];rfl) j rfl (cF (ho pins s J H (λv c=>∃f K,Stp F m H f K c/\Rel X.K f c K Z/\RP X.K f c x v) I ⟨F,m,L,S,x,Z,r,l,e1,λv f K c s1 r1 B=>⟨f,K,s1,r1,B⟩⟩) λu s1 hz=>?_);obtain⟨v,c,I1,ru,f,K,T,r1,B⟩:=hz;have t:∀(id:String)(ps:List P),bI (fe L Z) (λy S2=>(lG ps y).map λ(i:Nat)=>((.int (i:Int):P),S2))=some (d,S') ->
   (∀(s:Shared)(h:Hp)(n:Aa)(y:P)(vy:V)(C:Value)(i:Nat),Inv X pins J h s->(∀p,RP X.K f c p v->RP X.K n h p v)->RP X.K n h y vy->RelV vy C->lG ps y=some i->Q (.int i) h->wx X (call (.builtin id) [u,C]) (EP X pins J Q) X.xe s) ->
   wx X (callWith g (.builtin id) [u] (backTo g (starEach [e] X.e)) []) (EP X pins J Q) X.xe s1:=by
  intro id ps q hc;obtain⟨y,S2,e2,q⟩:=ah q;obtain⟨i,E,q⟩:=gU.mp q;cases q;rw[hs];refine kK rfl (lU (dq (cF (he pins s1 J c (λvy h=>∃n A,Stp f K c n A h/\Rel X.K n h A S'/\RP X.K n h y vy) I1 ⟨f,K,L,Z,y,S',r1,l.mono T,e2,λv n A h s2 r2 G=>⟨n,A,s2,r2,G⟩⟩) λC s2 ⟨vy,h,D,ruy,n,A,W,r2,G⟩=>gm ?_)));exact hc s2 h n y vy C i D (λp R=>RP.mono W R) G ruy E (k _ n A h (T.trans W) r2 rfl)
 cases x with
 |lst ps=>obtain⟨a,xs,rfl,hq,rp⟩:=id B;cases (show u=Value.ref a from ru);obtain⟨z,its,n',rr,hl,N⟩:=I1.lstM hq.2;exact⟨"list","list.index",o5,y6,PySem.F.type_list_index,⟨_,N,rfl⟩,λb eb=>by cases eb;exact⟨_,N,rfl⟩,t _ ps q λs h n y vy C i D R py ry E q=>yr hu D (R _ B) py ry E q⟩
 |tup ps=>obtain⟨a,xs,rfl,hq,rp⟩:=id B;cases (show u=Value.ref a from ru);obtain⟨its,rr,o,N,⟨ec,n',ed⟩,en⟩:=I1.tupleN hq.sq;exact⟨"tuple","tuple.index",PySem.F.plainAttrs_tuple,y9,PySem.F.type_tuple_index,⟨_,N,ec⟩,λb eb=>by cases eb;exact⟨_,N,en⟩,t _ ps q λs h n y vy C i D R py ry E q=>wP hu D (R _ B) py ry E q⟩
 |_=>cases q
end
variable{L:Type}
noncomputable def cy[DecidableEq L](k:L):List L->List D->Option D
 |h::s,v::x=>if h=k then some v else cy k s x
 |_,_=>none
noncomputable def di[DecidableEq L](k:L)(v:D):List L->List D->List L×List D
 |h::s,w::x=>if h=k then (h::s,v::x) else (h::(di k v s x).1,w::(di k v s x).2)
 |_,_=>([k],[v])
def dv:List P->Option (List b0)
 | []=>some []
 |p::r=>(cP p).bind λk=>(dv r).map λs=>k::s
noncomputable def lD(d:D)(S:U):Option (Nat×List (List b0)×List D):=match d with
 | .ref i=>match S[i]? with
  |some (.dtt k v)=>some (i,k,v)
  |_=>none
 |_=>none
theorem pG(h:lD d S=some (i,k,n)):d=.ref i/\S[i]? = some (.dtt k n):=by
 unfold lD at h;split at h
 .split at h
  .rename_i e;cases h;exact⟨rfl,e⟩
  .cases h
 .cases h
section
variable{K:FG}{F:Aa}{H:Hp}{m:List Addr}
theorem jb:∀{ps:List P}{s:List b0}{a:List V},dv ps=some s->b7 K F H ps a->a=s.map kV
 | [],s,a,h,r=>by cases h;exact r
 |p::ps,s,a,h,r=>by
  obtain⟨x,m,rfl,b,c⟩:=r;unfold dv at h;cases e:cP p with
  |none=>rw[e]at h;cases h
  |some k=>
   rw[e]at h;cases n:dv ps with
   |none=>rw[n]at h;cases h
   |some f=>rw[n]at h;cases h;rw[aA,im e b,jb n c]
theorem jI[DecidableEq L]:∀{C:List (L×V)}{s:List D},cV K F H m s (C.map (·.2)) ->
  match cy k (C.map (·.1)) s with|some d=>∃v,gB C k=some v/\RD K F H m d v|none=>gB C k=none
 | [],s,r=>by have:s=[]:=g9 r.length;subst this;rfl
 |(h,v)::C,[],r=>by have:=r.length;simp at this
 |(h,v)::C,d::s,r=>by
  obtain⟨x,b,e,p,a⟩:=r;rw[aA]at e;injection e with n f;rw[<- f]at a;simp only[aA,cy];by_cases hk:h=k
  .rw [ac hk];exact⟨v,ib (p:=(h,v)) hk,by rw[show v=x from n];exact p⟩
  .rw [af hk,gA (p:=(h,v)) hk];exact jI a
theorem nI[DecidableEq L](f:RD K F H m y u):∀{C:List (L×V)}{s:List D},(C.map (·.1)).Nodup->cV K F H m s (C.map (·.2)) ->
  (L2.putK C k u).map (·.1)=(di k y (C.map (·.1)) s).1/\cV K F H m (di k y (C.map (·.1)) s).2 ((L2.putK C k u).map (·.2))
 | [],s,_,r=>by have:s=[]:=g9 r.length;subst this;exact⟨rfl,u,[],rfl,f,rfl⟩
 |(h,w)::C,[],_,r=>by have:=r.length;simp at this
 |(h,w)::C,d::s,p,r=>by
  obtain⟨x,B,e,A,G⟩:=r;rw[aA]at e p;injection e with g i;subst g;subst i;obtain⟨b,t⟩:=bQ.mp p;simp only[aA,di];by_cases hk:h=k
  .subst hk;rw[ac rfl];have same:∀l:List (L×V),h ∉ l.map (·.1)->l.map (λv=>if v.1=h then (v.1,u) else v)=l:=by
    intro l;induction l with
    |nil=>intro _;rfl
    |cons q l P=>
     intro n;rw[aA]at n;have j:¬q.1=h:=λz=>n (by rw[<- z];exact aH)
     rw[aA,af j,P λz=>n (aG _ z)]
   have a:L2.putK ((h,w)::C) h u=(h,u)::C:=by unfold L2.putK;rw[ac (by simp),aA,ac rfl,same C b]
   rw[a];exact⟨rfl,u,_,rfl,f,G⟩
  .rw [af hk];obtain⟨o,S⟩:=nI (k:=k) f t G;have a:L2.putK ((h,w)::C) k u=(h,w)::L2.putK C k u:=by
    unfold L2.putK;rw[du,bo (show ¬(h,w).1=k from hk),kT];by_cases c:(C.any λv=>decide (v.1=k))=true
    .rw [ac c,ac c,aA,af (show ¬(h,w).1=k from hk)]
    .rw [af c,af c];rfl
   rw[a,aA,aA,o];exact⟨rfl,w,_,rfl,A,S⟩
end
section
variable{X:Cx}{pos G:Pos}{o T:Expr}{c:Ab}{fo:EE}{fs:j_}{fv:EV}
@[simp] def yk(_L:Lc)(S:U):wY:=some (.ref S.length,S++[.dtt [] []])
theorem JM:Y X (.Dict [] [] pos) (tE X.K yk):=Eo.imp' λJ H Q z=>by obtain⟨F,m,L,S,d,x,r,l,q,k⟩:=z;cases q;intro p h;refine k (.ref p) F (m++[p]) _ (dD h) (r.own h ⟨[],aD,rfl,rfl⟩) ⟨p,rfl,?_⟩;rw[<- r.len,bH (ag _)];simp
@[simp] def wF(o:EE)(k:j_)(L:Lc)(S:U):wY:=bI (o L S) λd x=>bI (k L x) λps h=>match lD d h,dv ps with
 |some (_,s,v),some B=>if few ps=true then (cy B s v).map λz=>(z,h) else none
 |_,_=>none
theorem Ij(b:X.A.units+1 < cLine):Gc X (λx y H Q=>∃a v,x=.ref a/\j1 H a y (some v)/\(∃C,H a=some (.dT C))/\Q v H):=by intro T l pins s J H x y v u Q I c m h f;obtain⟨a,w,rfl,g,⟨C,hk⟩,q⟩:=h;cases c;obtain⟨_,_,_,_,o,_,_,e,k,_⟩:=I.h a _ hk;exact o7 ⟨o,e,k.1⟩ AE.lookup (sI b I g m λp t n r=>⟨w,H,n,r,q⟩) f
theorem PV {N} (hu:X.A.units+1 < cLine) (ho:Y X o (tE X.K fo)) (hk:PA X c (rh X.K fs)) (hs:nl (.Tuple c N G)):Y X (.Subscript o (.Tuple c N G) pos) (tE X.K (wF fo fs)):=
 (Em (Ij hu) ho (uG hk) hs).imp' λJ H Q hz=>by
  obtain⟨F,m,L,S,d,S',r,l,q,k⟩:=hz;obtain⟨x,K,W,q⟩:=ah q;obtain⟨ps,P,Z,q⟩:=ah q;refine⟨F,m,L,S,x,K,r,l,W,λv T m1 H1 I r1 p1=>?_⟩;refine⟨T,m1,L,K,ps,P,r1,l.mono I,Z,λR y m2 V M E G=>?_⟩;cases s:lD x P with
  |none=>rw[s]at q;cases q
  |some t=>
   obtain⟨j,ks,vs⟩:=t;rw[s]at q;cases h:dv ps with
   |none=>rw[h]at q;cases q
   |some B=>
    rw[h]at q;dsimp only at q;split at q
    .rename_i hf;obtain⟨z,eg,q⟩:=gU.mp q;cases q;obtain⟨rfl,n⟩:=pG s;obtain⟨a,rfl,hm⟩:=RD.mono M p1;obtain⟨C,f,u,rs⟩:=E.obj j a _ hm n;subst u;have A:=jI (k:=B) rs;rw[eg]at A;obtain⟨w,ev,i⟩:=A;refine⟨by rw[<- G.length];exact lI hf,λb D=>?_⟩;have p:a≠b:=λz=>by rw[z,D]at f;cases f
     have e:bO V b (.tup R) a=some (.dT C):=by rw[aj p];exact f
     have g:=cg (F:=y) (o:=.tup R) D;rw[jb h G]at e g ⊢;refine⟨a,w,rfl,by rw[<- ev];exact j1.t e aD,⟨C,e⟩,?_⟩;exact k w y m2 _ (I.trans (M.trans g.stp)) (E.grow g) (RD.mono g.stp i)
    .cases q
@[simp] def sF(o:EE)(k:j_)(L:Lc)(S:U):wY:=bI (o L S) λd h=>match lD d h with
 |none=>none
 |some _=>bI (k L h) λps x=>match lD d x,dv ps with
  |some (_,s,v),some B=>if few ps=true then some ((cy B s v).getD (.p .non),x) else none
  |_,_=>none
theorem MR {N} (hu:X.A.units+1 < cLine) (ho:Y X o (tE X.K fo)) (hk:PA X c (rh X.K fs)) (I:M1 X o "get" ap (.Tuple c N G) cp) :
  Y X (.Call (.Attribute o "get" ap) [.Tuple c N G] [] cp) (tE X.K (sF fo fs)):=
 (Es hu ho (uG hk) I).imp' λJ H Q hz=>by
  obtain⟨F,m,L,S,d,S',r,l,q,k⟩:=hz;obtain⟨x,p,e1,q⟩:=ah q;refine⟨F,m,L,S,x,p,r,l,e1,λv F1 m1 H1 V r1 p1=>?_⟩;cases e:lD x p with
  |none=>rw[e]at q;cases q
  |some t1=>
   obtain⟨j,ks1,vs1⟩:=t1;rw[e]at q;dsimp only at q;obtain⟨ps,Z,e2,q⟩:=ah q;obtain⟨rfl,y⟩:=pG e;obtain⟨a,rfl,hm⟩:=id p1;obtain⟨s,A,_,_⟩:=r1.obj j a _ hm y;refine⟨a,rfl,.inr ⟨s,.inl A⟩,?_⟩;refine⟨F1,m1,L,p,ps,Z,r1,l.mono V,e2,λus f m2 H2 W R G=>?_⟩;cases i:lD (.ref j) Z with
   |none=>rw[i]at q;cases q
   |some t=>
    obtain⟨j2,ks,vs⟩:=t;rw[i]at q;cases u:dv ps with
    |none=>rw[u]at q;cases q
    |some B=>
     rw[u]at q;dsimp only at q;split at q
     .rename_i hf;cases q;obtain⟨h,K⟩:=pG i;cases h;obtain⟨a',e4,M⟩:=RD.mono W p1;cases e4;obtain⟨C,P,E,rs⟩:=R.obj j a _ M K;subst E;have n:=jI (k:=B) rs;refine⟨by rw[<- G.length];exact lI hf,λb hb=>?_⟩;have D:a≠b:=λz=>by rw[z,hb]at P;cases P
      have h:bO H2 b (.tup us) a=some (.dT C):=by rw[aj D];exact P
      have g:=cg (F:=f) (o:=.tup us) hb;rw[jb u G]at h g ⊢;refine⟨gB C B,j1.t h aD,?_⟩;cases eg:cy B (C.map (·.1)) vs with
      |none=>rw[eg]at n k;rw[show gB C B=none from n];exact k .non f m2 _ (V.trans (W.trans g.stp)) (R.grow g) rfl
      |some z=>rw[eg]at n k;obtain⟨w,ev,T⟩:=n;rw[ev];exact k w f m2 _ (V.trans (W.trans g.stp)) (R.grow g) (RD.mono g.stp T)
     .cases q
@[simp] def D0(o:EE)(k:j_)(v:EV)(L:Lc)(S:U):AW:=bI (v L S) λy a=>bI (o L a) λd e=>bI (k L e) λps h=>match lD d h,dv ps with
 |some (i,s,x),some B=>if (s.Nodup/\few s=true/\few ps=true) then some (.nx,L,h.set i (.dtt (di B (.p y) s x).1 (di B (.p y) s x).2)) else none
 |_,_=>none
theorem Mz {N} (hu:X.A.units+1 < cLine) (ho:Y X o (tE X.K fo)) (hk:PA X c (rh X.K fs)) (hv:Y X T (tV X.K fv)) (hs:swapsWith T (some (.Subscript o (.Tuple c N G) h)) pos.line X.e=pure false) :
  PS X (.Assign [.Subscript o (.Tuple c N G) h] T pos) (kl X.K (D0 fo fs fv)):=(A8 hu ho (uG hk) hv hs).imp' λD J H hz=>by
 obtain⟨F,m,L,S,fl,L',S',r,l,q,k⟩:=hz;obtain⟨y,A,e1,q⟩:=ah q;obtain⟨d,E,e2,q⟩:=ah q;obtain⟨ps,I,e3,q⟩:=ah q;refine⟨F,m,L,S,y,A,r,l,e1,λv K V H1 s r1 p1=>?_⟩;refine⟨K,V,L,A,d,E,r1,l.mono s,e2,λx F2 m2 H2 e r2 G=>?_⟩;refine⟨F2,m2,L,E,ps,I,r2,(l.mono s).mono e,e3,λus P W H3 n r3 p3=>?_⟩;cases w:lD d I with
 |none=>rw[w]at q;cases q
 |some t=>
  obtain⟨j,ks,vs⟩:=t;rw[w]at q;cases p:dv ps with
  |none=>rw[p]at q;cases q
  |some B=>
   rw[p]at q;dsimp only at q;split at q
   .rename_i u;cases q;obtain⟨rfl,c⟩:=pG w;refine⟨by rw[<- p3.length];exact lI u.2.2,λb hb=>?_⟩;have M:=cg (F:=P) (o:=.tup us) hb;have i:=r3.grow M;have f:=M.stp (m:=W);obtain⟨a,rfl,g⟩:=RD.mono f (RD.mono n G);obtain⟨C,R,hk,rs⟩:=i.obj j a _ g c;subst hk;have pv:=RD.mono f (RD.mono n (RD.mono e (show RD X.K K H1 V (.p y) v from p1)));obtain⟨h1,h2⟩:=nI (k:=B) pv u.1 rs;have Z:∀zs,bO H3 b (.tup us) a≠some (.tup zs):=λzs z=>by rw[R]at z;cases z
    have st:=eU (o:=.dT (L2.putK C B v)) i g c trivial Z;have hl:C.length < sizeLine:=by have Q:(C.map (·.1)).length≤1000000:=aJ u.2.1;rw[aQ]at Q;exact jB Q (by decide)
    refine⟨a,_,rfl,wX.t (k:=B) R ?_ hl,?_⟩
    .rw [jb p p3];exact aD
    .exact k J P W _ (s.trans (e.trans (n.trans (f.trans st)))) (i.set g c trivial Z ⟨_,aD,h1,cV.mono st h2⟩) ((((l.mono s).mono e).mono n).mono (f.trans st))
   .cases q
end
section
variable{X:Cx}{pins:PN}{J:L2.St}{H:Hp}{s:Shared}{a:Addr}{C:List (b0×V)}{B:b0}{u r:Value}{x:V}{A:Around}{E:VP}
theorem FI(I:Inv X pins J H s)(e:H a=some (.dK C))(K:C.length < sizeLine)(S:RelV (kV B) u)(o:RelV x r)
  (t:∀v w n,gB C B=some v->RelV v w->Inv X pins J H n->Q w n) (p:gB C B=none->∀n,Inv X pins J (bO H a (.dK (L2.putK C B x))) n->Q r n) :
  wpAny (model X.p X.w) A (call (.builtin "dict.setdefault") [.ref a,u,r]) Q E s:=by
 obtain⟨z,hd,F,l,k⟩:=Jr I.h e;have h:=l.val B;refine pR y_ k.typeIs PySem.F.entry_dict_setdefault (PySem.F.args_dict_setdefault_3 _ _ _) (kt_meets_setdefault (ce X.p X.w) a (oh S) hd r)
  ⟨F,k,by rw[<- l.length];exact z,λv f=>?_,λc m d j=>?_⟩
 .cases q:gB C B with
  |none=>rw[q,f]at h;cases h
  |some b=>rw[q,f]at h;exact t b v _ q h (I.tok _)
 .have q:gB C B=none:=by
   cases q:gB C B with
   |none=>rfl
   |some b=>rw[q,c]at h;cases h
  refine p q _ ?_;have g:∃q,m.get? a=some q:=let ⟨q,_,_,i,_⟩:=d;⟨q,i⟩
  have y:(L2.putK C B x).length≤sizeLine:=by have:=kq C B x;lia
  exact mW I (by rw[e];exact True.intro) j g (FE y hd (l.put B o) d)
end
section
variable{X:Cx}{o e f:Expr}{ap cp:Pos}{fo fd:EE}{fk:EV}
@[simp] def mU(o:EE)(k:EV)(d:EE)(L:Lc)(S:U):wY:=bI (o L S) λx a=>match mI x a with
 |none=>none
 |some _=>bI (k L a) λz e=>bI (d L e) λy h=>match mI x h,cP z with
  |some (i,s,v),some B=>if (s.Nodup/\few s=true) then match cy B s v with
    |some w=>some (w,h)
    |none=>some (y,h.set i (.dct (di B y s v).1 (di B y s v).2))
   else none
  |_,_=>none
theorem G6(ho:Y X o (tE X.K fo))(he:Y X e (tV X.K fk))(hf:Y X f (tE X.K fd))(n:M2 X o "setdefault" ap e f cp):Y X (.Call (.Attribute o "setdefault" ap) [e,f] [] cp) (tE X.K (mU fo fk fd)):=by
 intro pins s J H Q I ⟨F,m,L,S,d,S',r,l,q,k⟩;obtain⟨x,S1,e1,q⟩:=ah q;refine xb n.base n.few n.line tw y_ PySem.F.type_dict_setdefault
  (cF (ho pins s J H (λv P=>∃b i,Stp F m H b i P/\Rel X.K b P i S1/\RD X.K b P i x v) I ⟨F,m,L,S,x,S1,r,l,e1,λv b i P s1 r1 p1=>⟨b,i,s1,r1,p1⟩⟩) λu s1 ⟨v,P,I1,ru,b,i,R,r1,p1⟩=>?_)
 cases D:mI x S1 with
 |none=>rw[D]at q;cases q
 |some t1=>
  obtain⟨j,ks1,vs1⟩:=t1;rw [D] at q;dsimp only at q;obtain⟨z,S2,e2,q⟩:=ah q;obtain⟨y,S3,e3,q⟩:=ah q;obtain⟨rfl,es1⟩:=uJ D;obtain⟨a,rfl,hm⟩:=id p1;obtain⟨kvs1,hH1,_,_⟩:=r1.obj j a _ hm es1;cases (show u=Value.ref a from ru);obtain⟨t1,t2,_⟩:=x' I1 (.inl ⟨kvs1,.inl hH1⟩);refine⟨t1,t2,?_⟩;rw [n.trees];refine kK rfl (lU (dq (cF (he pins s1 J P (fun vz A=>∃c N,Stp b i P c N A/\Rel X.K c A N S2/\RP X.K c A z vz) I1 ⟨b,i,L,S1,z,S2,r1,l.mono R,e2,fun v c N A s2 r2 G=>⟨c,N,s2,r2,G⟩⟩) fun uz s2 ⟨vz,A,I2,rz,c,N,T,r2,G⟩=>
   dq (cF (hf pins s2 J A (λvy g=>∃p K,Stp c N A p K g/\Rel X.K p g K S3/\RD X.K p g K y vy) I2 ⟨c,N,L,S2,y,S3,r2,(l.mono R).mono T,e3,λv p K g s3 W p3=>⟨p,K,s3,W,p3⟩⟩) λuy s3 ⟨vy,g,I3,ry,p,K,qo,W,p3⟩=>gm ?_))))
  cases eo:mI (.ref j) S3 with
  |none=>rw[eo]at q;cases q
  |some t=>
   obtain⟨j2,ks,vs⟩:=t;rw[eo]at q;cases ek:cP z with
   |none=>rw[ek]at q;cases q
   |some B=>
    rw[ek]at q;dsimp only at q;split at q
    .rename_i hc;obtain⟨e4,E⟩:=uJ eo;cases e4;obtain⟨a',e5,M⟩:=RD.mono (T.trans qo) p1;cases e5;obtain⟨C,hH,hk,rs⟩:=W.obj j a _ M E;subst hk;have V:=jI (k:=B) rs;have pz:=RP.mono qo G;have ez:=im ek pz;subst ez;have hl:C.length < sizeLine:=by
      have h9:(C.map (·.1)).length≤1000000:=aJ hc.2;rw[aQ]at h9;exact jB h9 (by decide)
     have stA:=R.trans (T.trans qo);refine FI I3 hH hl rz ry (λv w s' ev rv I'=>?_) λev s' I'=>?_
     .cases Z:cy B (C.map (·.1)) vs with
      |none=>rw[Z]at V;rw[show gB C B=none from V]at ev;cases ev
      |some w'=>rw[Z]at V q;dsimp only at q;cases q;obtain⟨v',h,rd⟩:=V;rw[ev]at h;cases h;exact⟨v,g,I',rv,k v p K g stA W rd⟩
     .cases Z:cy B (C.map (·.1)) vs with
      |some w'=>rw[Z]at V;obtain⟨v',h,_⟩:=V;rw[ev]at h;cases h
      |none=>
       rw[Z]at q;dsimp only at q;cases q;obtain⟨h1,h2⟩:=nI (k:=B) p3 hc.1 rs;have nt:∀zs,g a≠some (.tup zs):=λzs z=>by rw[hH]at z;cases z
       have st:=eU (o:=.dK (L2.putK C B vy)) W M E trivial nt;exact⟨vy,_,I',ry,k vy p K _ (stA.trans st) (W.set M E trivial nt ⟨_,aD,h1,cV.mono st h2⟩) (RD.mono st p3)⟩
    .cases q
end
end Ev
set_option tactic.hygienic false
namespace PySem
open PySem PyProof.Rows
section
variable{prog:Program}{w:World}{A:Around}{E:VP}{s:Shared}
theorem qg(t:s.heap.IsTupleIter k h i)(f:s.heap.IsTuple h n)(b:n[i]? = some x)
  (e:∀a,a.IsTupleIter k h (i+1)->dW k s.heap a->Q x { s with heap:=a }):wpAny (model prog w) A (fE (.ref k)) Q E s:=by
 have T:=t.typeIs;obtain⟨⟨q,v,m,r⟩,o,c,hd⟩:=id t;obtain⟨u,l,_,p,d⟩:=f;dsimp only at c hd;subst c hd;unfold fE;apply ab;apply pW (name:=Str.ofString "__next__") T o6;refine nw o6 T yY ?_ (y0 _);repeat first|with_reducible refine ab (dj o rfl (x:=.ref h) rfl ?_)|wp_step
 rw[d];apply al;simp only[oY,b];apply ab;apply Ar o rfl (by simp);refine al ⟨x,rfl,al (e _ ⟨_,tS _ o rfl,rfl,?_⟩ (lS ..))⟩;simp[yF,rawInt]
theorem mB(m:A.handled=none)(t:s.heap.IsTupleIter k h i)(p:s.heap.IsTuple h n)(q:n[i]? = none)
  (b:∀a e,tR k s.heap a->(∃o,a.get? e=some o/\o.cls=.type "StopIteration")->E (.ref e) { s with heap:=a }):wpAny (model prog w) A (fE (.ref k)) Q E s:=by
 have T:=t.typeIs;obtain⟨⟨j,y,v,u⟩,r,c,hd⟩:=id t;obtain⟨z,l,_,g,d⟩:=p;dsimp only at c hd;subst c hd;unfold fE;apply ab;apply pW (name:=Str.ofString "__next__") T o6;refine nw o6 T yY ?_ (y0 _);repeat first|with_reducible refine ab (dj r rfl (x:=.ref h) rfl ?_)|wp_step
 rw[d];apply al;simp only[oY,q];have f:A.in1.handled=none:=m;repeat first|assumption|wp_step
 unfold raiseNew;apply ab;apply wpAny_handled;rw[f];apply wpAny_throw;exact b _ _ (((lS ..).extBut.push _).push _) ⟨_,br _ rfl,rfl⟩
def Gj(t:Bool)(h:Heap)(i l:Addr)(k:Nat):Prop:=if t=true then h.IsTupleIter i l k else h.IsListIter i l k
def OG(t:Bool)(h:Heap)(l:Addr)(y:Array Value):Prop:=if t=true then h.IsTuple l y else h.IsList l y
theorem Gj.extBut(x:Gj n h a l i)(s:tR b h k)(e:a≠b):Gj n k a l i:=by
 cases n
 .exact Heap.IsListIter.extBut x s e
 .exact Heap.IsTupleIter.extBut x s e
theorem OG.extBut(x:OG n h a q)(s:tR b h k)(e:a≠b):OG n k a q:=by
 cases n
 .exact Heap.IsList.extBut x s e
 .exact Heap.IsTuple.extBut x s e
theorem Gj.obj(x:Gj k h a l i):∃o,h.get? a=some o/\(∃v,o.data=.fields v)/\∀s,s.get? a=some o->Gj k s a l i:=by
 cases k
 .obtain⟨o,e,c,d⟩:=x;exact⟨o,e,⟨_,d⟩,λs n=>⟨o,n,c,d⟩⟩
 .obtain⟨o,e,c,d⟩:=x;exact⟨o,e,⟨_,d⟩,λs n=>⟨o,n,c,d⟩⟩
theorem Fb(t:Gj q s.heap k h i)(f:OG q s.heap h n)(b:n[i]? = some x)
  (e:∀a,Gj q a k h (i+1)->dW k s.heap a->Q x { s with heap:=a }):wpAny (model prog w) A (fE (.ref k)) Q E s:=by
 cases q
 .exact xi t f b e
 .exact qg t f b e
def gE(h:Heap)(z TI TO:Addr)(f x:Value):Prop:=h.get? z=some { cls:=.type "zip",data:=.fields #[f,x,.bool false,.ref TI,.ref TO] }
def eF(h:Heap)(T:Addr)(a b:Value):Prop:=h.get? T=some { cls:=.type "tuple",data:=.seq #[a,b] }
theorem Dt (l y:Addr) (xs ys:Array Value):Meets (Builtin.«zip.__new__» ⟨[.type "zip",.ref l,.ref y],[]⟩) (fun _ R s=>s.heap.IsList l xs/\s.heap.IsTuple y ys /\
  ∀v S F TI TO z,(∀b o,s.heap.get? b=some o->v.get? b=some o)->s.heap.objs.size≤S->S < F->F < TI->TI < TO->TO < z->v.IsListIter S l 0->v.IsTupleIter F y 0->eF v TI (.ref S) (.ref F)->eF v TO .none .none ->
   gE v z TI TO .none (.bool false)->R (.ok (.ret (.ref z))) { s with heap:=v }):=
 .of_wp λprog w A R s h=>by
  obtain⟨i,g,d,Z,os⟩:=s;obtain⟨B,C,h⟩:=h;have X:=sub_zip;have L:Heap.IsList (Shared.heap ⟨i,g,d,Z,os⟩) l xs:=B;have P:zC (Shared.heap ⟨i.push { cls:=.type "list_iterator",data:=.fields #[.ref l,.int 0 0] },g,d,Z,os⟩) y ys:=C.push _
  wp_walk using xf L,s_ P
  have j:∀(u n x a f c:Heap)(r t p q m:Obj),n=u.push r->x=n.push t->a=x.push p->f=a.push q->c=f.push m->r.isFreed=false->t.isFreed=false->p.isFreed=false->q.isFreed=false->m.isFreed=false ->
    (∀b o,u.get? b=some o->c.get? b=some o)/\u.objs.size < n.objs.size/\n.objs.size < x.objs.size/\x.objs.size < a.objs.size/\a.objs.size < f.objs.size /\
    c.get? u.objs.size=some r/\c.get? n.objs.size=some t/\c.get? x.objs.size=some p/\c.get? a.objs.size=some q/\c.get? f.objs.size=some m:=by
   intro u n x a f c r t p q m E G I M N f1 f2 f3 f4 f5;have Q:n.get? u.objs.size=some r:=by rw[E];exact br _ f1
   have T:x.get? n.objs.size=some t:=by rw[G];exact br _ f2
   have V:a.get? x.objs.size=some p:=by rw[I];exact br _ f3
   have W:f.get? a.objs.size=some q:=by rw[M];exact br _ f4
   have g5:c.get? f.objs.size=some m:=by rw[N];exact br _ f5
   have u2:∀b o,n.get? b=some o->x.get? b=some o:=λb o e=>by rw[G];exact aO _ e
   have D:∀b o,x.get? b=some o->a.get? b=some o:=λb o e=>by rw[I];exact aO _ e
   have K:∀b o,a.get? b=some o->f.get? b=some o:=λb o e=>by rw[M];exact aO _ e
   have H:∀b o,f.get? b=some o->c.get? b=some o:=λb o e=>by rw[N];exact aO _ e
   exact⟨λb o e=>H _ _ (K _ _ (D _ _ (u2 _ _ (by rw[E];exact aO _ e)))),aB Q,aB T,aB V,aB W,H _ _ (K _ _ (D _ _ (u2 _ _ Q))),H _ _ (K _ _ (D _ _ T)),H _ _ (K _ _ V),H _ _ W,g5⟩
  let r:Obj:={ cls:=.type "list_iterator",data:=.fields #[.ref l,.int 0 0] }
  let n:=i.push r
  let t:Obj:={ cls:=.type "tuple_iterator",data:=.fields #[.ref y,.int 0 0] }
  let x:=n.push t
  let p:Obj:={ cls:=.type "tuple",data:=.seq #[.ref i.objs.size,.ref n.objs.size] }
  let a:=x.push p
  let q:Obj:={ cls:=.type "tuple",data:=.seq #[.none,.none] }
  let f:=a.push q
  let m:Obj:={ cls:=.type "zip",data:=.fields #[.none,.bool false,.bool false,.ref x.objs.size,.ref a.objs.size] }
  obtain⟨k,s1,s2,s3,s4,a1,a2,a3,a4,a5⟩:=j i n x a f (f.push m) r t p q m rfl rfl rfl rfl rfl rfl rfl rfl rfl rfl;exact⟨_,rfl,h (f.push m) i.objs.size n.objs.size x.objs.size a.objs.size f.objs.size k (ag _) s1 s2 s3 s4 ⟨_,a1,rfl,rfl⟩ ⟨_,a2,rfl,rfl⟩ a3 a4 a5⟩
end
section
variable{prog:Program}{w:World}{A:Around}{E:VP}{s:Shared}
theorem CT(h:Q (s.heap.get? a) s):wpAny M A (loadIfAlive a) Q E s:=λx p _=>by unfold loadIfAlive;rw[Sem.wp_loadIfAlive];exact(Sem.wp_pure ..).mpr h
theorem qL{z TI TO T:Addr}{f:Bool}{o:Obj}{Q:Bool->Shared->Prop}(a:gE s.heap z TI TO (rawInt T) (.bool f))(n:s.heap.get? T=some o)
  (h:∀e,gE e z TI TO (rawInt T) (.bool true)->dW z s.heap e->Q false { s with heap:=e }):wpAny (model prog w) A (oV (.ref z)) Q E s:=by
 unfold oV;apply ab;refine dj (show s.heap.get? z=some _ from a) rfl (x:=rawInt T) rfl ?_;unfold rawInt;dsimp only;apply ab;refine CT ?_;rw[oY,n];rw[af (by simp)];apply ab;refine dj (show s.heap.get? z=some _ from a) rfl (x:=.bool f) rfl ?_;cases f with
 |true=>rw[af (by decide)];exact al (h s.heap a ⟨rfl,λ_ _=>rfl⟩)
 |false=>rw[ac (by decide)];apply ab;refine Ar (show s.heap.get? z=some _ from a) rfl (by simp) (al (h _ ?_ (lS ..)));unfold gE;rw[tS _ (show s.heap.get? z=some _ from a) rfl];simp[yF]
theorem BQ{z TI TO i a l r T:Addr}{P:Bool}{k:Nat}{S F:Array Value}{x y:Value}{oT:Obj}{Q:VP}(d:gE s.heap z TI TO (rawInt T) (.bool P))(I:eF s.heap TI (.ref i) (.ref a))(G:s.heap.get? T=some oT)
  (B:s.heap.IsListIter i l k) (C:s.heap.IsTupleIter a r k) (p:s.heap.IsList l S) (q:s.heap.IsTuple r F) (M:S[k]? = some x) (R:F[k]? = some y)
  (g:i≠z) (j:a≠z) (X:l≠z) (Z:r≠z) (H:a≠i) (n6:r≠i) (n7:l≠a) (n8:l≠i) (n9:r≠a)
  (D:∀m:Heap,gE m z TI TO (rawInt T) (.bool true)->m.IsListIter i l (k+1)->m.IsTupleIter a r (k+1)->(∀c o,c≠z->c≠i->c≠a->s.heap.get? c=some o->m.get? c=some o) ->
   Q (.ref m.objs.size) { s with heap:=m.push { cls:=.type "tuple",data:=.seq #[x,y] } }) :
  wpAny (model prog w) A (Builtin.«zip.__next__» ⟨[.ref z],[]⟩) (λt s'=>∃h,t=.done (.ret h)/\Q h s') E s:=by
 unfold Builtin.«zip.__next__»;apply ab;apply al;apply ab;refine dj (show s.heap.get? z=some _ from d) rfl (x:=.bool false) rfl ?_;apply ab;refine dj (show s.heap.get? z=some _ from d) rfl (x:=.ref TI) rfl ?_;apply ab;refine iQ (show s.heap.get? TI=some _ from I) rfl ?_;dsimp only;rw[af (by simp)];apply ab;refine qL d G λh0 u b=>?_
 rw[af (by simp)];apply ab;rw[<- pE];show wpAny _ _ (forIn [Value.ref i,Value.ref a] _ _) _ _ _;rw[iD];apply ab;apply ab;apply fD;show wpAny _ _ (fE (.ref i) >>= _) _ _ _;apply ab;refine xi (B.extBut b.extBut g) (p.extBut b.extBut X) M λha V n=>al ?_;dsimp only;apply al;dsimp only;rw[iD];apply ab;apply ab;apply fD;show wpAny _ _ (fE (.ref a) >>= _) _ _ _;apply ab;refine qg ((C.extBut b.extBut j).extBut n.extBut H) ((q.extBut b.extBut Z).extBut n.extBut n6) R λL W f=>al ?_;dsimp only;apply al;dsimp only;rw[zJ];apply al;dsimp only;apply ab;refine w8 (hsz:=by show 2≤sizeLine;decide) (al ⟨_,rfl,D L ?_ ?_ W ?_⟩)
 .exact f.extBut _ _ (aI j) (n.extBut _ _ (aI g) u)
 .exact V.extBut f.extBut (aI H)
 .exact λc o N v K e=>f.extBut _ _ K (n.extBut _ _ v (b.extBut _ _ N e))
theorem Du{z TI TO i f n T:Addr}{t:Bool}{k:Nat}{m:Array Value}{S:Obj}{Q:Fin->Shared->Prop}(u:A.handled=none)(a:gE s.heap z TI TO (rawInt T) (.bool t))(I:eF s.heap TI (.ref i) (.ref f))(d:s.heap.get? T=some S)
  (p:s.heap.IsListIter i n k) (l:s.heap.IsList n m) (g:m[k]? = none) (y:i≠z) (H:n≠z)
  (q:∀h e,(∀c o,c≠z->c≠i->s.heap.get? c=some o->h.get? c=some o)->(∃o,h.get? e=some o/\o.cls=.type "StopIteration")->E (.ref e) { s with heap:=h }) :
  wpAny (model prog w) A (Builtin.«zip.__next__» ⟨[.ref z],[]⟩) Q E s:=by
 unfold Builtin.«zip.__next__»;apply ab;apply al;apply ab;refine dj (show s.heap.get? z=some _ from a) rfl (x:=.bool false) rfl ?_;apply ab;refine dj (show s.heap.get? z=some _ from a) rfl (x:=.ref TI) rfl ?_;apply ab;refine iQ (show s.heap.get? TI=some _ from I) rfl ?_;dsimp only;rw[af (by simp)];apply ab;refine qL a d λF j b=>?_
 rw[af (by simp)];apply ab;rw[<- pE];show wpAny _ _ (forIn [Value.ref i,Value.ref f] _ _) _ _ _;rw[iD];apply ab;apply ab;apply fD;show wpAny _ _ (fE (.ref i) >>= _) _ _ _;apply ab;exact C4 u (p.extBut b.extBut y) (l.extBut b.extBut H) g λh e x o=>q h e (λc K N v r=>x _ _ v (b.extBut _ _ N r)) o
end
section
variable{prog:Program}{w:World}{A:Around}{E:VP}{s:Shared}
theorem BR{tp:Bool}{k:Nat}{z TI TO i d D l:Addr}{xs ys:Array Value}{x y p q:Value}{Q:VP}(H:gE s.heap z TI TO .none (.bool false))(L:eF s.heap TI (.ref i) (.ref d))(M:eF s.heap TO p q)
  (h1:s.heap.IsListIter i D k) (h2:Gj tp s.heap d l k) (R:s.heap.IsList D xs) (V:OG tp s.heap l ys) (hx:xs[k]? = some x) (hy:ys[k]? = some y)
  (n1:i≠z) (n2:d≠z) (n3:D≠z) (n4:l≠z) (n5:d≠i) (n6:l≠i) (G:TO≠z) (n8:TO≠i) (n9:TO≠d) (n10:l≠TO)
  (hQ:∀(g:Heap) (T:Addr),gE g z TI TO (rawInt T) (.bool false)->g.IsListIter i D (k+1)->Gj tp g d l (k+1)->eF g TO x y->eF g T x y->T=s.heap.objs.size->(∀c o,c≠z->c≠i->c≠d->c≠TO->s.heap.get? c=some o->g.get? c=some o) ->
   Q (.ref T) { s with heap:=g }) :
  wpAny (model prog w) A (Builtin.«zip.__next__» ⟨[.ref z],[]⟩) (λI s'=>∃h,I=.done (.ret h)/\Q h s') E s:=by
 unfold Builtin.«zip.__next__»;apply ab;apply al;apply ab;refine dj (show s.heap.get? z=some _ from H) rfl (x:=.bool false) rfl ?_;apply ab;refine dj (show s.heap.get? z=some _ from H) rfl (x:=.ref TI) rfl ?_;apply ab;refine iQ (show s.heap.get? TI=some _ from L) rfl ?_;dsimp only;rw[af (by simp)];apply ab;unfold oV;apply ab;refine dj (show s.heap.get? z=some _ from H) rfl (x:=.none) rfl (al ?_);rw[ac rfl];apply ab;apply pQ;apply ab;refine dj (show s.heap.get? z=some _ from H) rfl (x:=.ref TO) rfl ?_;dsimp only;apply ab;refine pU (show s.heap.get? z=some _ from H) (by simp) λh0 W b=>?_
 apply ab;show wpAny _ _ (forIn [(Value.ref i,0),(Value.ref d,1)] _ _) _ _ _;rw[iD];apply ab;apply ab;apply w5;show wpAny _ _ (fE (.ref i) >>= _) _ _ _;apply ab;refine xi (h1.extBut b.extBut n1) (R.extBut b.extBut n3) hx λha ia n=>al ?_;dsimp only;have P:ha.get? TO=some { cls:=.type "tuple",data:=.seq #[p,q] }:=n.extBut _ _ n8 (b.extBut _ _ G M);apply ab;refine iQ P rfl ?_;dsimp only;apply ab;refine C2 (s:={ s with heap:=ha }) P λhb j f=>?_;replace j:hb.get? TO=some { cls:=.type "tuple",data:=.seq #[x,q] }:=j;apply ab;apply wpAny_letGo;apply al;dsimp only;rw[iD];apply ab;apply ab;apply w5;show wpAny _ _ (fE (.ref d) >>= _) _ _ _;apply ab;refine Fb (((h2.extBut b.extBut n2).extBut n.extBut n5).extBut f.extBut (aI n9)) (((V.extBut b.extBut n4).extBut n.extBut n6).extBut f.extBut n10) hy λhc ic m=>al ?_;dsimp only;have B:hc.get? TO=some { cls:=.type "tuple",data:=.seq #[x,q] }:=m.extBut _ _ n9 j;apply ab;refine iQ B rfl ?_;dsimp only;apply ab;refine C2 (s:={ s with heap:=hc }) B λhd u t=>?_;replace u:hd.get? TO=some { cls:=.type "tuple",data:=.seq #[x,y] }:=u;apply ab;apply wpAny_letGo;apply al;dsimp only;rw[zJ];apply al;dsimp only;apply ab;refine iQ u rfl ?_;dsimp only;apply ab;refine w8 (hsz:=by show 2≤sizeLine;decide) ?_;have S:hd.get? z=some { cls:=.type "zip",data:=.fields #[.ellipsis,.bool false,.bool false,.ref TI,.ref TO] }:=t.extBut _ _ (aI G) (m.extBut _ _ (aI n2) (f.extBut _ _ (aI G) (n.extBut _ _ (aI n1) W)));have C:=aB S;have X:(hd.push { cls:=.type "tuple",data:=.seq #[x,y] }).get? z=some { cls:=.type "zip",data:=.fields #[.ellipsis,.bool false,.bool false,.ref TI,.ref TO] }:=aO _ S;apply ab;unfold Gk;dsimp only;apply ab;refine pU X (by simp) λhe Z F=>?_;refine pU Z (by simp) λhf hz7 K=>?_;have a:∀c o,c≠z->hd.get? c=some o->hf.get? c=some o:=λc o N e=>K.extBut _ _ N (F.extBut _ _ N (aO _ e));refine al ⟨_,rfl,hQ hf hd.objs.size hz7 ?_ ?_ (a _ _ G u) ?_ ?_ ?_⟩
 .exact (((ia.extBut f.extBut (aI n8)).extBut m.extBut (aI n5)).extBut t.extBut (aI n8)).at λo e=>a _ o n1 e
 .obtain⟨o,e,_,r⟩:=(ic.extBut t.extBut (aI n9)).obj;exact r _ (a _ o n2 e)
 .exact K.extBut _ _ (bP C) (F.extBut _ _ (bP C) (br _ rfl))
 .show hd.objs.size=s.heap.objs.size;rw[t.1,m.1,f.1,n.1,b.1]
 .exact λc o N v c3 c4 e=>a c o N (t.extBut _ _ c4 (m.extBut _ _ c3 (f.extBut _ _ c4 (n.extBut _ _ v (b.extBut _ _ N e)))))
theorem Dv(H:A.handled=none)(a:gE s.heap z TI TO .none (.bool false))(T:eF s.heap TI (.ref d) (.ref I))
  (i:s.heap.IsListIter d g k) (l:s.heap.IsList g M) (S:M[k]? = none) (t:d≠z) (K:g≠z)
  (y:∀h e,(∀c o,c≠z->c≠d->s.heap.get? c=some o->h.get? c=some o)->(∃o,h.get? e=some o/\o.cls=.type "StopIteration")->E (.ref e) { s with heap:=h }) :
  wpAny (model prog w) A (Builtin.«zip.__next__» ⟨[.ref z],[]⟩) Q E s:=by
 unfold Builtin.«zip.__next__»;apply ab;apply al;apply ab;refine dj (show s.heap.get? z=some _ from a) rfl (x:=.bool false) rfl ?_;apply ab;refine dj (show s.heap.get? z=some _ from a) rfl (x:=.ref TI) rfl ?_;apply ab;refine iQ (show s.heap.get? TI=some _ from T) rfl ?_;dsimp only;rw[af (by simp)];apply ab;unfold oV;apply ab;refine dj (show s.heap.get? z=some _ from a) rfl (x:=.none) rfl (al ?_);rw[ac rfl];apply ab;apply pQ;apply ab;refine dj (show s.heap.get? z=some _ from a) rfl (x:=.ref TO) rfl ?_;dsimp only;apply ab;refine pU (show s.heap.get? z=some _ from a) (by simp) λB r b=>?_
 apply ab;show wpAny _ _ (forIn [(Value.ref d,0),(Value.ref I,1)] _ _) _ _ _;rw[iD];apply ab;apply ab;apply w5;show wpAny _ _ (fE (.ref d) >>= _) _ _ _;apply ab;refine C4 H (i.extBut b.extBut t) (l.extBut b.extBut K) S λh e x o=>?_;have n:=x _ _ (aI t) r;refine pU (s:={ s with heap:=h }) n (by simp) λj F f=>y j e (λc p N v u=>f.extBut _ _ N (x _ _ v (b.extBut _ _ N u))) ?_;obtain⟨p,m,c⟩:=o;have P:e≠z:=λq=>by rw[q,n]at m;cases m;exact absurd (show Value.type "zip"=Value.type "StopIteration" from c) (by decide)
 exact⟨p,f.extBut _ _ P m,c⟩
end
theorem vx:typeLookup (.type "zip") "keys"=pure none:=by rw[w_,xh];kernel_rfl
theorem p9:typeLookup (.type "zip") "__getattr__"=pure none:=by rw[w_,xh];kernel_rfl
theorem nz:entryFor table "zip.__getattribute__"=some Builtin.«object.__getattribute__»:=
 entryFor_alias (id':="object.__getattribute__") (by kernel_rfl) (by decide +kernel) (by decide +kernel) (by kernel_rfl)
section
variable{prog:Program}{w:World}{A:Around}{E:VP}{s:Shared}
theorem Ds(z TI TO:Addr)(f0 f1:Value)(u:Tok):Meets (Builtin.«object.__getattribute__» ⟨[.ref z,.str "keys" u],[]⟩) (λA R s=>gE s.heap z TI TO f0 f1/\raisesAttr (.ref z) "keys" A R s):=
 .of_wp λprog w A R s hs=>by
  obtain⟨hp,g,d,tk,os⟩:=s;obtain⟨hx,hs⟩:=hs;unfold gE at hx;have hT:(⟨hp,g,d,tk,os⟩:Shared).TypeIs (.ref z) "zip":=⟨_,hx,rfl⟩;have nk:=vx;unfold Builtin.«object.__getattribute__»;repeat any_goals first|assumption|wp_step
  exact wpAny_raiseAttrError hs.1 hs.2 (attrMsg_fits (by decide +kernel) (by size_fits))
theorem BO(q:gE s.heap z TI TO l j)(i:A.handled=none)
  (h:∀x v,(∀b o,s.heap.get? b=some o->x.get? b=some o)->Q none { s with heap:=x,toks:=v }):wpAny (model prog w) A (getAttr? (.ref z) "keys") Q E s:=by
 obtain⟨p,g,d,v,os⟩:=s;have T:∀t,(⟨p,g,d,t,os⟩:Shared).TypeIs (.ref z) "zip":=λ_=>⟨_,q,rfl⟩;have j:=AH;have y:=tm.lookup;have H:=tm.bind (.ref z);have S:=p9;have step:∀(n:Nat)(u:Tok)(m:VP)(f:VP),(∀x c e,zD p x e (.ref z) "keys"->f (.ref e) ⟨x,g,d,c,os⟩) ->
   wpAny (model prog w) A (call (Value.builtin "zip.__getattribute__") ([Value.ref z]++[Value.str "keys" u]) []) m f ⟨p,g,d,n,os⟩:=λn u m f k=>
  gG tm (T _) nz (F.args_zip_getattribute_2 _ _) (Ds z TI TO _ _ u) ⟨q,i,k⟩
 unfold getAttr?;unfold getAttrBy?;unfold getAttrBy;repeat any_goals first|assumption|exact T _|(with_reducible refine step _ _ _ _ λx t e a=>?_)|wp_step
 have r:=a.there;obtain⟨K,P,r⟩:=r;repeat any_goals first|assumption|wp_step
 exact h _ _ a.keeps
end
section
variable{prog:Program}{w:World}{A:Around}{E:VP}{s:Shared}
theorem Dr(n:s.TypeIs (.ref z) "zip")
  (h:wpAny (model prog w) A.in1 (Builtin.«zip.__next__» ⟨[.ref z],[]⟩) (λf x=>∃v,f=.done (.ret v)/\Q (some v) x) (λe x=>∃a o,e=.ref a/\x.heap.get? a=some o/\o.cls=.type "StopIteration"/\Q none x) s) :
  wpAny (model prog w) A (pyNext (.ref z)) Q E s:=by
 unfold pyNext;apply ab;apply wpAny_attempt;refine pW (name:=Str.ofString "__next__") n yL (nw yL n F.entry_zip_next (cA h (λf x ⟨v,e,q⟩=>⟨v,e,al q⟩) λe x ⟨a,o,k,c,m,q⟩=>?_) (F.args_zip_next_1 _));subst k;apply ab;exact AB (T:="StopIteration") (b:=true) ⟨_,c,m⟩ isSubtype_stop (al q)
def IT(d:Addr)(h:Heap)(z TI TO i x l a:Addr)(k:Nat):Prop:=eF h TI (.ref i) (.ref x)/\h.IsListIter i l k/\h.IsTupleIter x a k /\
 ((k=0/\gE h z TI TO .none (.bool false)/\eF h TO .none .none)\/∃(T:Addr)(o:Obj)(f:Bool),gE h z TI TO (rawInt T) (.bool f)/\h.get? T=some o/\T≠z/\T≠i/\T≠x/\T≠d)
structure ZAp(d z TI TO i1 i2 l1 l2:Addr):Prop where
 nd:[d,z,TI,TO,i1,i2].Nodup
 l1n:l1 ∉ [d,z,TI,TO,i1,i2]
 l2n:l2 ∉ [d,z,TI,TO,i1,i2]
theorem IT.typeIs(x:IT d s.heap z TI TO n q l g k):s.TypeIs (.ref z) "zip":=by
 obtain⟨_,_,_,⟨_,h,_⟩|⟨T,o,f,h,_⟩⟩:=x
 .exact⟨_,h,rfl⟩
 .exact⟨_,h,rfl⟩
theorem IT.but(x:IT d h z TI TO q g l j k)(p:ZAp d z TI TO q g l j)(s:dW d h I):IT d I z TI TO q g l j k:=by
 have n:=p.nd;simp only[bQ,aN,db,cY,kN]at n;obtain⟨b,c,m,r⟩:=x;refine⟨s.extBut _ _ (aI n.1.2.1) b,c.extBut s.extBut (aI n.1.2.2.2.1),m.extBut s.extBut (aI n.1.2.2.2.2),?_⟩;rcases r with ⟨e,a,t⟩|⟨T,o,v,a,t,w,u,i,f⟩
 .exact .inl ⟨e,s.extBut _ _ (aI n.1.1) a,s.extBut _ _ (aI n.1.2.2.1) t⟩
 .exact .inr ⟨T,o,v,s.extBut _ _ (aI n.1.1) a,s.extBut _ _ f t,w,u,i,f⟩
theorem Dx(p:ZAp d z TI TO I M l1 l2)(a:IT d s.heap z TI TO I M l1 l2 k)(hd:s.heap.get? d=some od)(l:s.heap.IsList l1 xs)(b:s.heap.IsTuple l2 ys)(B:xs[k]? = some x)(C:ys[k]? = some y)
  (P:∀h T,IT d h z TI TO I M l1 l2 (k+1)->eF h T x y->T≠d->(∀c o,c ∉ [z,TO,I,M]->s.heap.get? c=some o->h.get? c=some o)->Q (some (.ref T)) { s with heap:=h }) :
  wpAny (model prog w) A (pyNext (.ref z)) Q E s:=by
 have X:=p.nd;have V:=p.l1n;have W:=p.l2n;simp only[bQ,aN,db,cY,kN]at X V W;refine Dr a.typeIs ?_;obtain⟨m,g,i,R⟩:=a;rcases R with ⟨e,v,t⟩|⟨T,Z,f1,v,t,G,L,N,t4⟩
 .subst e;refine BR (tp:=true) v m t g i l b B C (by grind) (by grind) (by grind) (by grind) (by grind) (by grind) (by grind) (by grind) (by grind) (by grind) λh T S F K _ D q5 q=>?_
  have fresh:∀c o,s.heap.get? c=some o->T≠c:=λc o f z=>absurd (aB f) (by rw[<- z,q5];exact eQ _);obtain⟨oi1,j,_⟩:=g;obtain⟨oi2,H,_⟩:=i;exact P h T ⟨q _ _ (by grind) (by grind) (by grind) (by grind) m,F,K,.inr ⟨T,_,false,S,D,fresh _ _ v,fresh _ _ j,fresh _ _ H,fresh _ _ hd⟩⟩ D (fresh _ _ hd) λc o n f=>q c o (λz=>n (by simp[z])) (λz=>n (by simp[z])) (λz=>n (by simp[z])) (λz=>n (by simp[z])) f
 .refine BQ v m t g i l b B C (by grind) (by grind) (by grind) (by grind) (by grind) (by grind) (by grind) (by grind) (by grind) λh S F K q=>?_;have dl:d < h.objs.size:=aB (q _ _ (by grind) (by grind) (by grind) hd);have u:∀c o,h.get? c=some o->(h.push { cls:=.type "tuple",data:=.seq #[x,y] }).get? c=some o:=λc o e=>aO _ e;refine P _ _ ⟨u _ _ (q _ _ (by grind) (by grind) (by grind) m),?_,?_,.inr ⟨T,Z,true,u _ _ S,u _ _ (q _ _ G L N t),G,L,N,t4⟩⟩ (br _ rfl) (bP dl) λc o n f=>u _ _ (q c o (λz=>n (by simp[z])) (λz=>n (by simp[z])) (λz=>n (by simp[z])) f)
  .obtain⟨o,e,r⟩:=F;exact⟨o,u _ _ e,r⟩
  .obtain⟨o,e,r⟩:=K;exact⟨o,u _ _ e,r⟩
theorem G2(u:A.handled=none)(p:ZAp d z TI TO j I M l2)(a:IT d s.heap z TI TO j I M l2 k)(l:s.heap.IsList M xs)(i:xs[k]? = none)
  (v:∀h,(∀c o,c ∉ [z,TO,j,I]->s.heap.get? c=some o->h.get? c=some o)->Q none { s with heap:=h }):wpAny (model prog w) A (pyNext (.ref z)) Q E s:=by
 have S:=p.nd;have H:=p.l1n;simp only[bQ,aN,db,cY,kN]at S H;refine Dr a.typeIs ?_;obtain⟨r,t,F,y⟩:=a;rcases y with ⟨e,n,g⟩|⟨T,P,K,n,g,B,C,D,G⟩
 .subst e;exact Dv u n r t l i (by grind) (by grind) λh e q n=>by obtain⟨o,b,m⟩:=n;exact⟨e,o,rfl,b,m,v h λc o x f=>q c o (λz=>x (by simp[z])) (λz=>x (by simp[z])) f⟩
 .exact Du u n r g t l i (by grind) (by grind) λh e q ⟨o,b,m⟩=>⟨e,o,rfl,b,m,v h λc o x f=>q c o (λz=>x (by simp[z])) (λz=>x (by simp[z])) f⟩
end
section
variable{prog:Program}{w:World}{K:Type}[DecidableEq K]{t:KeyKind prog w K}{A:Around}{E:VP}{R:Result->Shared->Prop}
inductive ZipsAt(knd:KeyKind prog w K):LV->LV->List (K×Value)->Prop
 |nil {vs:LV}:ZipsAt knd [] vs []
 |cons {key v:Value}{k:K}{us vs:LV}{kvs:List (K×Value)}:knd.is k key=true->ZipsAt knd us vs kvs->ZipsAt knd (key::us) (v::vs) ((k,v)::kvs)
set_option tactic.hygienic true in
theorem ym(hh:A.handled=none){u:Heap}(p:ZAp d z TI TO i1 i2 l1 l2)(fr:∀a ∈ [d,z,TI,TO,i1,i2],u.get? a=none)(L:u.IsList l1 j)(hl2:u.IsTuple l2 ys) :
  ∀(n:List (K×Value))(i:Nat)(f:List (K×Value))(s:Shared),(∀b o,u.get? b=some o->s.heap.get? b=some o)->IT d s.heap z TI TO i1 i2 l1 l2 i->s.heap.DictOf t d f->ZipsAt t (j.toList.drop i) (ys.toList.drop i) n ->
   ((f++n).map (·.1)).Nodup->(f++n).length≤sizeLine->i+n.length=j.size ->
   (∀l t',(∀b o,u.get? b=some o->l.get? b=some o)->l.DictOf t d (f++n)->R (.ok (.ret .none)) { s with heap:=l,toks:=t' }) ->
   codeAny (model prog w) A (.builtin "dict.update.loop" ⟨[.ref d,.ref z,rawInt i,.none],[]⟩) R s:=by
 have nd:=p.nd;simp only[bQ,aN,db,cY,kN]at nd;have P:∀b o,u.get? b=some o->b ∉ [d,z,TI,TO,i1,i2]:=λb o e m=>by rw[fr b m]at e;cases e
 have dz:d ∉ [z,TO,i1,i2]:=by simp only[aN,db,cY,kN];grind
 intro n;induction n with
 |nil=>
  intro i f s C y hd X N Z hi h;have I:j[i]? = none:=by simp at hi ⊢;lia
  have H:s.heap.IsList l1 j:=by obtain⟨o,S,r⟩:=L;exact⟨o,C _ _ S,r⟩
  refine sX F.entry_dict_update_loop ?_;rw[pD F.plain_dict_update_loop _];unfold Builtin.«dict.update.loop»;show wpAny _ A.in1 (pyNext (.ref z) >>= _) _ _ s;refine ab (G2 hh p y H I λl D=>?_);show wpAny _ A.in1 (yB d [] >>= _) _ _ _;rw[cZ]at h;apply ab;apply al;apply al;refine h l s.toks (λb o e=>D b o (λm=>P b o e (by simp only[aN,db,cY]at m ⊢;grind)) (C b o e)) ?_;obtain⟨o,c,ep,S,r⟩:=hd;exact⟨o,c,ep,D _ _ dz S,r⟩
 |cons kv n ih=>
  intro i f s C y hd X N Z hi h;have H:s.heap.IsList l1 j:=by obtain⟨o,S,r⟩:=L;exact⟨o,C _ _ S,r⟩
  have M:s.heap.IsTuple l2 ys:=by obtain⟨o,S,r⟩:=hl2;exact⟨o,C _ _ S,r⟩
  generalize er:j.toList.drop i=us at X;generalize c:ys.toList.drop i=vs at X;cases X with
  |cons hk hps=>
   rename_i B v k us' vs';have hx:j[i]? = some B:=by have:=cX (·[0]?) er;simpa using this
   have hy:ys[i]? = some v:=by have:=cX (·[0]?) c;simpa using this
   have er':j.toList.drop (i+1)=us':=by rw[<- tY,er];rfl
   have es':ys.toList.drop (i+1)=vs':=by rw[<- tY,c];rfl
   obtain⟨od,ed1,ed2,Q,hdr⟩:=id hd;refine sX F.entry_dict_update_loop ?_;rw[pD F.plain_dict_update_loop _];unfold Builtin.«dict.update.loop»;show wpAny _ A.in1 (pyNext (.ref z) >>= _) _ _ s;refine ab (Dx p y Q H M hx hy λW T za g hTd D=>?_);have kp1:∀b o,u.get? b=some o->W.get? b=some o:=λb o e=>D b o (λm=>P b o e (by simp only[aN,db,cY]at m ⊢;grind)) (C b o e);have hd1:W.DictOf t d f:=⟨od,ed1,ed2,D _ _ dz Q,hdr⟩;show wpAny _ A.in1 (holding [Value.ref T] _ >>= _) _ _ _;apply ab;apply fD;apply ab;apply As;unfold yA;refine ab (lz (T:="tuple") ⟨_,g,rfl⟩ ?_);rw[ac (by decide)];refine ab (iQ (show W.get? T=some _ from g) rfl (al ?_));show wpAny _ A.in1 (holding [B,v] (dictSet d B v)) _ _ _;refine fD ?_;refine wpAny_dictSet_pairs (s:={ s with heap:=W }) hk hd1 (λh2 G V=>?_) (by simp at Z;lia);have hnk:k ∉ f.map (·.1):=by intro hm;rw[jE,jF]at N;exact N.2.2 _ hm _ (by simp) rfl
   have est:stored f k v=f++[(k,v)]:=by unfold stored;rw[af];intro E;obtain⟨x,hx1,hx2⟩:=ph.mp E;exact hnk (aY.mpr ⟨x,hx1,aJ hx2⟩)
   rw[est]at G;refine al ⟨sV F.plain_dict_update_loop _,?_⟩;have kp2:∀b o,u.get? b=some o->h2.get? b=some o:=λb o e=>V.extBut _ _ (λq=>P b o e (by simp[q])) (kp1 b o e);have e1:f++(k,v)::n=(f++[(k,v)])++n:=by simp
   rw[e1]at N Z h;exact ih (i+1) (f++[(k,v)]) { s with heap:=h2,toks:=s.toks+1 } kp2 (za.but p V) G (er' ▸ es' ▸ hps) N Z (by simp at hi;lia) λl t' k1 k2=>h l t' k1 k2
end
section
variable{prog:Program}{w:World}{K:Type}[DecidableEq K]{t:KeyKind prog w K}{A:Around}{E:VP}{s:Shared}
theorem wO(l:s.heap.IsList n I)(e:s.heap.IsTuple q M)
  (h:∀x i a TI TO z,(∀b o,s.heap.get? b=some o->x.get? b=some o)->s.heap.objs.size≤i->i < a->a < TI->TI < TO->TO < z->x.IsListIter i n 0->x.IsTupleIter a q 0->eF x TI (.ref i) (.ref a)->eF x TO .none .none ->
   gE x z TI TO .none (.bool false)->Q (.ref z) { s with heap:=x }):wpAny (model prog w) A (call (.type "zip") [.ref n,.ref q]) Q E s:=by
 refine callType_new F.called_zip (by decide) (F.typeCall_zip_2 _ _) (F.newCall_zip_2 _ _) (λj=>F.args_object_init_3 j _ _) F.entry_zip_new (Dt n q I M) ⟨l,e,λx i a TI TO z k c m r t p v d u g f=>?_⟩;show _/\_;exact⟨⟨_,f,rfl⟩,h x i a TI TO z k c m r t p v d u g f⟩
theorem rS{k:Heap}(hh:A.handled=none)(k0:∀b o,k.get? b=some o->s.heap.get? b=some o)(H:k.IsList l1 xs)(S:k.IsTuple l2 ys)
  (i:k.objs.size≤I) (D:I < M) (G:M < TI) (P:TI < TO) (j:TO < z) (b1:s.heap.IsListIter I l1 0) (b2:s.heap.IsTupleIter M l2 0) (b3:eF s.heap TI (.ref I) (.ref M)) (b4:eF s.heap TO .none .none) (y:gE s.heap z TI TO .none (.bool false))
  (hp:ZipsAt t xs.toList ys.toList C) (hn:(C.map (·.1)).Nodup) (hz:C.length≤sizeLine) (hi:C.length=xs.size)
  (h:∀d X,(∀b o,k.get? b=some o->d.get? b=some o)->d.DictOf t s.heap.objs.size C->Q (.ref s.heap.objs.size) { s with heap:=d,toks:=X }) :
  wpAny (model prog w) A (call (.type "dict") [.ref z]) Q E s:=by
 have fresh:(s.heap.push { cls:=.type "dict",data:=.dict #[] }).DictOf t s.heap.objs.size []:=.new s.heap;have u:∀b o,s.heap.get? b=some o->(s.heap.push { cls:=.type "dict",data:=.dict #[] }).get? b=some o:=λb o=>aO _;have q:z < s.heap.objs.size:=aB y;have K:=Av (prog:=prog) (w:=w) (A:=A.in1) (E:=E) (s:=s) (Value.ref z) (Q₁:=λx z=>x=.ref s.heap.objs.size/\z={ s with heap:=s.heap.push { cls:=.type "dict",data:=.dict #[] } }) ⟨rfl,rfl⟩;apply Aq yM (yP (.ref z)) yN K;rintro _ _ ⟨e,e'⟩;subst e e';generalize s.heap.push { cls:=.type "dict",data:=.dict #[] }=h1 at fresh u;refine⟨fresh.typeIs,yO (.ref s.heap.objs.size) (.ref z),?_⟩;unfold Builtin.«dict.__init__» yC;apply ab;apply ab;apply C5 fresh.typeIs;apply al;show wpAny _ _ (oU "dict.__init__" s.heap.objs.size (.ref z) [] .none) _ _ _;unfold oU;refine ab (lz (T:="zip") ⟨_,u _ _ y,rfl⟩ ?_);rw[ac (by decide)];refine ab (BO (u _ _ y) hh λh2 tk k2=>?_);rw[ac (by rfl)];refine ab (pQ ?_);have g:∀b o,s.heap.get? b=some o->h2.get? b=some o:=λb o e=>k2 b o (u b o e);have R:h2.DictOf t s.heap.objs.size []:=by obtain⟨o,c,ep,ho,r⟩:=fresh;exact⟨o,c,ep,k2 _ _ ho,r⟩
 refine ab (wpAny_pyIter_zip (z:=z) (TI:=TI) (TO:=TO) (f0:=.none) (g _ _ y) ?_);refine al ⟨sV F.plain_dict_update_loop _,?_⟩;have V:l1 < k.objs.size:=by obtain⟨o,e,_⟩:=H;exact aB e
 have W:l2 < k.objs.size:=by obtain⟨o,e,_⟩:=S;exact aB e
 have f:∀{a b n:Nat},a < b->b < n->a < n:=λh d=>kL h d;have N:=f D G;have v:=f N P;have L:=f v j;have Z:=f L q;have c5:=f G P;have c6:=f c5 j;have c7:=f c6 q;have c8:=f P j;have c9:=f c8 q;have ca:=f j q;have low:∀{l n:Nat},l < k.objs.size->k.objs.size≤n->l≠n:=λh d=>bb (bD h d);have ge:∀n ∈ [s.heap.objs.size,z,TI,TO,I,M],k.objs.size≤n:=λn B=>by
  simp only[aN,db,cY]at B;rcases B with rfl|rfl|rfl|rfl|rfl|rfl
  .exact au i (eP Z)
  .exact au i (eP L)
  .exact au i (eP N)
  .exact au i (eP v)
  .exact i
  .exact au i (eP D)
 have p:ZAp s.heap.objs.size z TI TO I M l1 l2:=by refine⟨?_,λm=>low V (ge _ m) rfl,λm=>low W (ge _ m) rfl⟩;simp only[bQ,aN,db,cY,kN,l8,not_false_eq_true,and_true];exact⟨⟨bP q,bP c9,bP ca,bP Z,bP c7⟩,⟨bP c8,bP j,bP L,bP c6⟩,⟨bb P,bP N,bP G⟩,⟨bP v,bP c5⟩,bb D⟩
 refine ym (A:=A.in1) (t:=t) (u:=k) hh p (λn B=>?_) H S C 0 [] _ (λb o e=>g b o (k0 b o e)) ⟨g _ _ b3,?_,?_,.inl ⟨rfl,g _ _ y,g _ _ b4⟩⟩ R (by simpa using hp) (by simpa using hn) (by simpa using hz) (by lia) λd X q1 q2=>?_
 .cases e:k.get? n with
  |none=>rfl
  |some o=>exact absurd rfl (low (aB e) (ge n B))
 .obtain⟨o,e,r⟩:=b1;exact⟨o,g _ _ e,r⟩
 .obtain⟨o,e,r⟩:=b2;exact⟨o,g _ _ e,r⟩
 .exact⟨rfl,h d X q1 q2⟩
end
end PySem
set_option tactic.hygienic true
namespace Ev
open PySem PySem.Spec PyProof.Rows L2
@[simp] def yj(fa fb:EV)(L:Lc)(S:U):wY:=bI (fa L S) λx a=>bI (fb L a) λy h=>match x,y with
 | .lst k,.tup v=>match dv k with
  |some B=>if (B.Nodup/\few k=true/\B.length≤v.length) then some (.ref h.length,h++[.dct B ((v.take B.length).map .p)]) else none
  |none=>none
 |_,_=>none
theorem AN:∀{B:List b0}{s i:LV}{x:List V},ba (B.map kV) s->ba x i->B.length≤x.length->ZipsAt (ce g w) s i (B.zip i)/\L2.KV (B.zip x) (B.zip i)
 | [],_,i,x,h,_,_=>by cases h;exact⟨.nil,.nil⟩
 |k::B,_,_,[],h,_,l=>absurd l (by simp)
 |k::B,_,_,y::x,h,e,l=>by
  cases h with
  |cons r t=>
   cases e with
   |cons n f=>obtain⟨a,b⟩:=AN (g:=g) (w:=w) t f (by simpa using l);exact⟨.cons (oh r) a,.cons ⟨rfl,n⟩ b⟩
theorem ny:∀{xs:List L}{ys:List n},xs.length≤ys.length->(xs.zip ys).map (·.1)=xs/\(xs.zip ys).map (·.2)=ys.take xs.length
 | [],ys,_=>by simp
 |x::xs,[],h=>absurd h (by simp)
 |x::xs,y::ys,h=>by obtain⟨a,b⟩:=ny (xs:=xs) (ys:=ys) (by simpa using h);simp[a,b]
section
variable{X:Cx}{a b:Expr}{fa fb:EV}{p G N v:Pos}
theorem JL(hc:X.c=true)(gd:Gl X "dict")(md:X.g "dict"=none)(gz:Gl X "zip")(mz:X.g "zip"=none)(ha:Y X a (tV X.K fa))(hb:Y X b (tV X.K fb))(hs:starEach [a,b] X.e=[(false,eval a X.e),(false,eval b X.e)])(W:starEach [b] X.e=[(false,eval b X.e)])(hz:bootBuiltins "zip"=some (.type "zip")) :
  Y X (.Call (.Name "dict" p) [.Call (.Name "zip" G) [a,b] [] v] [] N) (tE X.K (yj fa fb)):=by
 intro pins s J H Q I ⟨F,m,L,S,d,S',r,l,q,k⟩;obtain⟨x,S1,e1,q⟩:=ah q;obtain⟨y,S2,e2,q⟩:=ah q;have hh:X.A.handled=none:=I.o.hd hc;refine iR (jN I gd md zn ?_ (by decide) (by decide));refine jz (dq ?_) rfl rfl;refine iR (jN I gz mz hz ?_ (by decide) (by decide));refine jz ?_ (by rw [hs,W]) (by rw [W];rfl);rw [hs];refine dq (cF (ha pins s J H (fun h g=>∃n P,Stp F m H n P g/\Rel X.K n g P S1/\RP X.K n g x h) I ⟨F,m,L,S,x,S1,r,l,e1,fun h n P g s1 r1 p1=>⟨n,P,s1,r1,p1⟩⟩) fun u s1 ⟨h,g,I1,ru,n,P,st1,r1,p1⟩=>
  dq (cF (hb pins s1 J g (λh C=>∃f D,Stp n P g f D C/\Rel X.K f C D S2/\RP X.K f C y h) I1 ⟨n,P,L,S1,y,S2,r1,l.mono st1,e2,λh f D C E r2 G=>⟨f,D,E,r2,G⟩⟩) λu2 E ⟨v2,C,M,ru2,f,D,st2,r2,G⟩=>gm ?_))
 cases x with
 |lst ks=>
  cases y with
  |tup vs=>
   dsimp only at q;cases ek:dv ks with
   |none=>rw[ek]at q;cases q
   |some B=>
    rw[ek]at q;dsimp only at q;split at q
    .rename_i c;cases q;obtain⟨ax,xs,rfl,hq,rp⟩:=RP.mono st2 p1;obtain⟨ay,ys,rfl,ta,rq⟩:=G;cases (show u=Value.ref ax from ru);cases (show u2=Value.ref ay from ru2);obtain⟨z1,Z,n1,rx,V,ex⟩:=M.lstM hq.2;obtain⟨i,ry,ity,hzy⟩:=M.tuple ta.sq;have exs:=jb ek rp;subst exs;have K:B.length≤ys.length:=by rw[<- rq.length];exact c.2.2
     obtain⟨za,zk⟩:=AN (g:=X.p) (w:=X.w) rx ry K;have hl2:B.length≤i.length:=by rw[<- ry.length];exact K
     obtain⟨zf1,zf2⟩:=ny (xs:=B) (ys:=ys) K;obtain⟨A,_⟩:=ny (xs:=B) (ys:=i) hl2;have R:(B.zip i).length=Z.toArray.size:=by have:=cX l0 A;rw[aQ]at this;rw[this,bc,<- V,aQ]
     have hkz:(B.zip i).length≤sizeLine:=by rw[R,bc,<- V];exact z1
     have T:E.heap.IsList ax Z.toArray:=⟨_,ex,rfl,n1,rfl⟩;refine wO T ity λe i1 i2 TI TO z k0 a1 a2 a3 a4 a5 b1 b2 b3 b4 b5=>gm ?_;refine rS (t:=ce X.p X.w) (s:={ E with heap:=e }) (k:=E.heap) hh k0 T ity a1 a2 a3 a4 a5 b1 b2 b3 b4 b5 (by simpa using za) (by rw[A];exact c.1) hkz R λh'' t' k1 dd=>?_;have j:E.heap.objs.size≤e.objs.size:=eP (jB a1 (kL a2 (kL a3 (kL a4 (kL a5 (aB b5))))));have hf:C e.objs.size=none:=M.h.fresh j;have hsm:(e.objs.size == sysModules)=false:=by have:=M.big;simp only[gY];exact bP (bD this j)
     have hkv:(B.zip ys).length≤sizeLine:=by have e1:=cX l0 zf1;have e2:=cX l0 A;rw[aQ]at e1 e2;lia
     have I3:=M.laid (a:=e.objs.size) (o:=.dK (B.zip ys)) (t':=t') k1 j ⟨hkv,hsm,_,zk,dd⟩;refine⟨.ref e.objs.size,_,I3,rfl,k (.ref e.objs.size) f (D++[e.objs.size]) _ (st1.trans (st2.trans (dD hf))) (r2.own hf ⟨_,aD,zf1,?_⟩) ⟨e.objs.size,rfl,?_⟩⟩
     .rw [zf2,tX];exact(cV.mono (dD hf) (cV.ofP rq)).take _
     .rw [<- r2.len,bH (ag _)];simp
    .cases q
  |_=>cases q
 |_=>cases y<;>cases q
end
end Ev
namespace Ev
open PySem PySem.Spec PyProof.Rows L2
noncomputable def QO:P->Bool
 | .tup _=>true
 |_=>false
def eD(k:P):Bool:=QO k && (cE 8 k && Nk.kd (pd k))
noncomputable def rF(d:D)(S:U):Option (Nat×List P×List D):=match d with
 | .ref i=>match S[i]? with
  |some (.dtn k v)=>some (i,k,v)
  |_=>none
 |_=>none
theorem Bc(h:rF d S=some (i,k,q)):d=.ref i/\S[i]? = some (.dtn k q):=by
 unfold rF at h;split at h
 .split at h
  .cases h;exact⟨rfl,by assumption⟩
  .cases h
 .cases h
def lb(k:P)(s:List P):Bool:=s.any λq=>eA (pd q) (pd k)
def Mi(d c:D)(S:U):Option Bool:=match d,rF c S with
 | .p k,some (_,s,_)=>if (eD k && s.all eD)=true then some (lb k s) else none
 |_,_=>none
def hY(d c:D)(S:U):Option P:=(Mi d c S).map λb=>.bl (!b)
section
variable{X:Cx}{f:PN}{J:L2.St}{H:Hp}{s:Shared}{F:Aa}
theorem qG(I:Inv X f J H s)(g:eD k=true)(r:RP X.K F H k y):vo s.heap (pd k) y:=by
 unfold eD at g;simp only[ar]at g;obtain⟨t,o,h⟩:=g;cases k with
 |tup e=>obtain⟨b,z,rfl,x⟩:=r;obtain⟨a,d⟩:=ie I 8 (p:=.tup e) (v:=.ref b) (u:=.ref b) ⟨b,z,rfl,x⟩ rfl o;exact⟨b,rfl,h,(fM 8 _ o).2,a,d⟩
 |_=>cases t
theorem uR(I:Inv X f J H s):∀{v:List (PyData×V×V)}{h:List P},h.all eD=true->v.map (·.1)=i_ h->b7 X.K F H h (v.map (·.2.1))->∀p ∈ v,vo s.heap p.1 p.2.1
 | [],_,_,_,_,_,a=>nomatch a
 |q::v,h,g,e,r,p,a=>by
  cases h with
  |nil=>cases r
  |cons k h=>
   rw[dt,ar]at g;rw[aA,i_]at e;injection e with n b;obtain⟨x,w,c,m,t⟩:=r;injection c with z d;subst z d;rcases aN.mp a with rfl|a
   .rw [n];exact qG I g.1 m
   .exact uR I g.2 b t p a
theorem mN(g:eD k=true):Nk.kd (pd k)=true:=by unfold eD at g;simp only[ar]at g;exact g.2.2
theorem yb(g:eD k=true):∀{kvs:List (PyData×V×V)}{ks:List P},ks.all eD=true->kvs.map (·.1)=i_ ks->yc kvs (pd k)=lb k ks
 | [],ks,_,e=>by
  cases ks with
  |nil=>rfl
  |cons _ _=>cases e
 |q::kvs,ks,h,e=>by
  cases ks with
  |nil=>cases e
  |cons p ks=>rw[dt,ar]at h;rw[aA,i_]at e;injection e with e1 e2;have ih:=yb g h.2 e2;unfold yc lb at ih ⊢;rw[du,du,ih,e1];congr 1;rw[kU,Nk.eqv_kd _ _ (mN h.1) (mN g),decide_eq_true_iff]
theorem Ly(h:Mi d c S=some b):∃k i s v,d=.p k/\rF c S=some (i,s,v)/\eD k=true/\s.all eD=true/\b=lb k s:=by
 unfold Mi at h;split at h
 .split at h
  .rename_i e x;rw[ar]at x;cases h;exact⟨_,_,_,_,rfl,e,x.1,x.2,rfl⟩
  .cases h
 .cases h
end
section
variable{X:Cx}
theorem EA(G:X.A.units+64 < cLine):i4 X (compareOp .NotIn) (rE X.K hY):=by
 intro f s J H x y v u Q I D E h;obtain⟨F,m,S,d,e,r,C,P,A,q,k⟩:=h;unfold hY at q;obtain⟨b,j,rfl⟩:=gU.mp q;obtain⟨z,i,L,N,rfl,o,g,c,rfl⟩:=Ly j;obtain⟨rfl,p⟩:=Bc o;obtain⟨a,rfl,l⟩:=A;obtain⟨K,w,n,B,_⟩:=C.obj i a _ l p;cases E;refine HY (by lia) I w (uR I c n B) (qG I g P) D λM t=>⟨.bl _,H,t,rfl,?_⟩
 rw[yb g c n];exact k _ F H .refl rfl
end
section
variable{X:Cx}{B C:Pos}{o i n:Expr}{G:EE}{M N:EV}{j l z:TE}
def Nn(X:Cx)(j l z:TE):TS:=λD J H=>z J H λv e=>j J e λx n=>l J n λy h=>∃a k d,x=.ref a/\h a=some (.dN k)/\(∀f s,Inv X f J h s->vo s.heap d y/\∀p ∈ k,vo s.heap p.1 p.2.1)/\yc k d=false/\k.length < sizeLine/\D.nx J (bO h a (.dN (k++[(d,y,v)])))
theorem HB(E:X.A.units+9 < cLine)(P:Y X o j)(F:Y X i l)(G:Y X n z)(A:swapsWith n (some (.Subscript o i C)) B.line X.e=pure false):PS X (.Assign [.Subscript o i C] n B) (Nn X j l z):=by intro f s J H D I h;refine C8 (cF (G f s J H _ I h) λr s1 ⟨v,b,m,V,Q⟩=>cF (P f s1 J b _ m Q) λu s2 ⟨x,c,t,W,R⟩=>cF (F f s2 J c _ t R) λiv s3 L=>?_) A;obtain⟨y,H3,k,Z,a,M,d,q,e,g,N,K,T⟩:=L;subst q;obtain rfl:u=Value.ref a:=W;obtain⟨w,S⟩:=g f s3 k;exact NS E k e S w Z V N K λs4 p=>⟨J,_,p,T⟩
def se(o:EE)(k v:EV):ES:=λL S=>bI (v L S) λy x=>bI (o L x) λd a=>bI (k L a) λe h=>match rF d h with
 |some (i,s,n)=>if (eD e && (s.all eD && (few s && !lb e s)))=true then some (.nx,L,h.set i (.dtn (s++[e]) (n++[.p y]))) else none
 |none=>none
theorem vU(k:P):∀s:List P,i_ (s++[k])=i_ s++[pd k]
 | []=>rfl
 |x::s=>by rw[pi,i_,i_,vU k s,pi]
theorem MA(hu:X.A.units+9 < cLine)(ho:Y X o (tE X.K G))(hk:Y X i (tV X.K M))(hv:Y X n (tV X.K N))(hs:swapsWith n (some (.Subscript o i C)) B.line X.e=pure false) :
  PS X (.Assign [.Subscript o i C] n B) (kl X.K (se G M N)):=(HB hu ho hk hv hs).imp' λD J H hz=>by
 obtain⟨F,m,L,S,fl,L',S',r,l,q,k⟩:=hz;obtain⟨y,V,e1,q⟩:=ah q;obtain⟨d,W,e2,q⟩:=ah q;obtain⟨e,Z,e3,q⟩:=ah q;refine⟨F,m,L,S,y,V,r,l,e1,λv Q m1 H1 b r1 p1=>?_⟩;refine⟨Q,m1,L,V,d,W,r1,l.mono b,e2,λx F2 m2 H2 c r2 p2=>?_⟩;refine⟨F2,m2,L,W,e,Z,r2,(l.mono b).mono c,e3,λP R m3 T p A p3=>?_⟩;cases u:rF d Z with
 |none=>rw[u]at q;cases q
 |some t=>
  obtain⟨j,ks,vs⟩:=t;rw[u]at q;dsimp only at q;split at q
  .rename_i hc;simp only[ar,mn]at hc;obtain⟨g1,g2,g3,g4⟩:=hc;cases q;obtain⟨rfl,g⟩:=Bc u;obtain⟨a,rfl,K⟩:=RD.mono p p2;obtain⟨h,hH,w,E,rs⟩:=A.obj j a _ K g;have nt:∀zs,T a≠some (.tup zs):=λzs z=>by rw[hH]at z;cases z
   have st:=eU (o:=.dN (h++[(pd e,P,v)])) A K g trivial nt;have pv:=RD.mono st (RD.mono p (RD.mono c (show RD X.K Q H1 m1 (.p y) v from p1)));have pk:RP X.K R (bO T a (.dN (h++[(pd e,P,v)]))) e P:=RP.kp st.kp p3;have hl:h.length < sizeLine:=by have h9:ks.length≤1000000:=aJ g3;have h8:=E.length;rw[aQ]at h8;exact jB (by lia) (show(1000000:Nat) < sizeLine by decide)
   refine⟨a,h,pd e,rfl,hH,λf s I=>⟨qG I g1 p3,uR I g2 w E⟩,(yb g1 g2 w).trans g4,hl,?_⟩;refine k J R m3 _ (b.trans (c.trans (p.trans st))) (A.set K g trivial nt ⟨_,aD,?_,?_,?_⟩) ((((l.mono b).mono c).mono p).mono st)
   .rw [jE,w,vU];rfl
   .rw [jE];exact b7.append (b7.kp st.kp E) ⟨_,_,rfl,pk,rfl⟩
   .rw [jE];exact cV.append (cV.mono st rs) ⟨_,_,rfl,pv,rfl⟩
  .cases q
end
def QQ(x c:P):Option Bool:=match c with
 | .lst s=>if (s.all (cE 19) && cE 19 x)=true then some (s.any λy=>eA (pd y) (pd x)) else none
 | .tup s=>if (s.all (cE 19) && cE 19 x)=true then some (s.any λy=>eA (pd y) (pd x)) else none
 |_=>none
def O3(d c:D)(S:U):Option Bool:=(eI S 9 d).bind λx=>(eI S 9 c).bind λy=>QQ x y
def ww(d c:D)(S:U):Option P:=(lq c S).elim ((O3 d c S).map .bl) λ_=>LC d c S
section
variable{X:Cx}{f:PN}{J:L2.St}{H:Hp}{s:Shared}{F:Aa}{m:List Addr}{S:U}{d e:D}{x y:V}{v u:Value}{b:Bool}{Q:VK}
theorem Lx(A:X.A.units+64 < cLine)(I:Inv X f J H s)(i:RelV x v)(j:RelV y u)(p:Rel X.K F H m S)(w:RD X.K F H m d x)(g:RD X.K F H m e y)(q:O3 d e S=some b) :
  (Q (.bl b) H->wx X (compareOp .In v u) (EP X f J Q) X.xe s)/\(Q (.bl (!b)) H->wx X (compareOp .NotIn v u) (EP X f J Q) X.xe s):=by
 unfold O3 at q;cases c:eI S 9 d with
 |none=>rw[c]at q;cases q
 |some B=>
  rw[c]at q;cases t:eI S 9 e with
  |none=>rw[t]at q;cases q
  |some K=>
   rw[t]at q;simp only[jx]at q;cases K with
   |lst P=>
    simp only[QQ]at q;split at q
    .rename_i h;rw[ar]at h;cases q;obtain⟨z,r⟩:=dJ I p 9 20 g j t (by simpa[cE] using h.1);obtain⟨o,n⟩:=dJ I p 9 19 w i c h.2;have l:=ED h.1;have a:=fM 19 _ h.2;rw[pd]at r;exact⟨λk=>SeqAt.in_list_reads r n l.1 a.1 (by lia) ⟨.bl _,H,I,rfl,by rw[mH];exact k⟩,λk=>SeqAt.notIn_list_reads r n l.1 a.1 (by lia) ⟨.bl _,H,I,rfl,by rw[mH];exact k⟩⟩
    .cases q
   |tup P=>
    simp only[QQ]at q;split at q
    .rename_i h;rw[ar]at h;cases q;obtain⟨z,r⟩:=dJ I p 9 20 g j t (by simpa[cE] using h.1);obtain⟨o,n⟩:=dJ I p 9 19 w i c h.2;have l:=ED h.1;have a:=fM 19 _ h.2;rw[pd]at r;exact⟨λk=>SeqAt.in_tuple_reads r n l.1 a.1 (by lia) ⟨.bl _,H,I,rfl,by rw[mH];exact k⟩,λk=>SeqAt.notIn_tuple_reads r n l.1 a.1 (by lia) ⟨.bl _,H,I,rfl,by rw[mH];exact k⟩⟩
    .cases q
   |_=>cases q
end
section
variable{X:Cx}
theorem NJ(n:X.A.units+64 < cLine):i4 X (compareOp .In) (rE X.K ww):=by
 intro f s J H x y v u Q I t w h;obtain⟨F,m,S,d,e,r,l,p,c,q,k⟩:=h;unfold ww at q;cases a:lq e S with
 |some i=>rw[a]at q;exact NI n f s J H x y v u Q I t w ⟨F,m,S,d,e,r,l,p,c,q,k⟩
 |none=>rw[a]at q;obtain⟨b,g,rfl⟩:=gU.mp (show(O3 d e S).map P.bl=some r from q);exact(Lx n I t w l p c g).1 (k _ F H .refl rfl)
end
section
variable{X:Cx}{B:Pos}{a b c:Expr}{r:EB}{t I:EE}{L T:EV}
end
end Ev
namespace L2
open PySem PySem.Spec PyProof.Rows
end L2
namespace Ev
open PySem PySem.Spec PyProof.Rows L2
section
variable{X:Cx}{a:Expr}{t:EE}{p B:Pos}
noncomputable def Bq(T:String)(d:D)(S:U):Option Bool:=match d with
 | .p (.bl _)=>if T="bool" then some true else none
 | .ref i=>(match S[i]? with
  |some (.lst _)=>if T="list" then some true else none
  |_=>none)
 |_=>none
@[simp] def r_(T:String)(f:EE)(L:Lc)(S:U):tyV:=bI (f L S) λd h=>(Bq T d h).map λb=>(.bl b,h)
theorem CP(T:k="list"\/k="bool"):eE X (.builtin "isinstance") (λl H Q=>∃F m S d b x,l=[x,.ty k]/\Rel X.K F H m S/\RD X.K F H m d x/\Bq k d S=some b/\Q (.bl b) H):=by
 intro f s J H l R Q I r ⟨F,m,S,d,b,x,e,G,pd,i,q⟩;subst e;obtain⟨u,L,rfl,y,g⟩:=vals2 r;cases (show L=Value.type k from g);have t:∀K,EP X f J Q (.bool b) { s with toks:=K }:=λK=>⟨.bl b,H,I.tok _,rfl,q⟩
 unfold Bq at i;cases d with
 |p w=>
  cases w with
  |bl c=>
   dsimp only at i;split at i
   .rename_i h;subst h;cases i;cases (show x=.bl c from pd);cases (show u=Value.bool c from y);exact Dj PySem.W.kitx_bool I.kIn True.intro rfl (λz=>nomatch z) t
   .cases i
  |_=>cases i
 |ref j=>
  obtain⟨a,rfl,C⟩:=pd;dsimp only at i;cases v:S[j]? with
  |none=>rw[v]at i;cases i
  |some o=>
   rw[v]at i;cases o with
   |lst M=>
    dsimp only at i;split at i
    .rename_i h;subst h;cases i;obtain⟨l,B,N⟩:=G.obj j a _ C v;cases y;obtain⟨D,_,E,_⟩:=I.list (iy.of B);obtain⟨o,n,P,A,_⟩:=E;exact Dj PySem.W.kitx_list I.kIn ⟨o,P,A⟩ rfl (λz=>nomatch z) t
    .cases i
   |_=>cases i
theorem IY(T:h="list"\/h="bool")(K:Gl X "isinstance")(P:X.g "isinstance"=none)(e:Gl X g)(n:X.g g=none)(o:bootBuiltins g=some (.type h))(z:Y X a (tE X.K t))
  (A:g≠"__name__") (hd:(g == ("__debug__":Str))=false) (c:starEach [a,.Name g p2] X.e=[(false,eval a X.e),(false,eval (.Name g p2) X.e)]):Y X (.Call (.Name "isinstance" p) [a,.Name g p2] [] B) (tV X.K (r_ h t)):=
 (mG (CP T) K P GV (eW z (eW (HP (v:=.ty h) e n o rfl A hd) ij rfl) (by rw[c];rfl)) (by decide) (by decide) (by rw[c];rfl) rfl).imp' λJ H Q C=>by obtain⟨F,m,L,S,d,E,r,l,q,k⟩:=C;obtain⟨x,G,j,q⟩:=ah q;obtain⟨b,y,q⟩:=gU.mp q;cases q;exact⟨F,m,L,S,_,_,r,l,j,λv f w i s u D=>⟨f,w,_,x,b,v,rfl,u,D,y,k _ f w i s u rfl⟩⟩
end
end Ev
namespace PySem
open PySem PyProof.Rows
section
variable{prog:Program}{w:World}{A:Around}{E:VP}{s:Shared}
theorem CC(u:A.handled=none)(n t:Addr)(k:t≠n)(m:Array Value):Draws prog w A n [n,t] m.size (λi v=>m[i]? = some v) (λi h=>h.IsTupleIter n t i/\h.IsTuple t m) where
 live:=λ_ _ st=>by obtain⟨⟨o,g,_⟩,_⟩:=st;exact⟨o,g⟩
 frame:=λ_ _ _ st hk=>⟨st.1.at λo e=>hk n (by simp) o e,st.2.at λo e=>hk t (by simp) o e⟩
 item:=λi s Q E f st d=>by obtain⟨a,b⟩:=st;exact qg a b (x:=m[i]) (by simp[f]) λp c r=>d _ p s.toks (by simp[f]) ⟨c,b.extBut r.extBut k⟩ r
 done:=λs Q E st q=>by obtain⟨a,b⟩:=st;exact mB u a b (by simp) q
theorem CD(a:A.handled=none)(f:g[k]? = none):Draws prog w A it [it,q] k (λ_ _=>True) (λj h=>j=k/\h.IsTupleIter it q k/\h.IsTuple q g) where
 live:=λ_ _ st=>by obtain⟨_,⟨o,b,_⟩,_⟩:=st;exact⟨o,b⟩
 frame:=λ_ _ _ st hk=>⟨st.1,st.2.1.at λo e=>hk it (by simp) o e,st.2.2.at λo e=>hk q (by simp) o e⟩
 item:=λi s Q E n st _=>absurd st.1 (bb n)
 done:=λs Q E st x=>mB a st.2.1 st.2.2 f x
theorem uv{h:Heap}(t:h.IsTuple k q)(e:h.IsTupleIter g k i):k≠g:=λz=>by subst z;obtain⟨o,s,a,_⟩:=t;obtain⟨n,x,c,_⟩:=e;rw[s]at x;cases x;rw[a]at c;simp at c
theorem uw{i:Int}(t:h.IsTuple k q)(s:IsEnum h e g i x):e≠k:=λz=>by subst z;obtain⟨o,a,c,_⟩:=t;rw[show h.get? e=_ from s]at a;cases a;simp at c
theorem CA (t:Addr) (r:Array Value):Meets (Builtin.«enumerate.__new__» ⟨[.type "enumerate",.ref t],[]⟩) (fun _ R s=>s.heap.IsTuple t r /\
  ∀a,IsEnum a (s.heap.objs.size+1) s.heap.objs.size 0 .none->a.IsTupleIter s.heap.objs.size t 0->a.objs.size=s.heap.objs.size+2->(∀b o,s.heap.get? b=some o->a.get? b=some o)->R (.ok (.ret (.ref (s.heap.objs.size+1)))) { s with heap:=a }):=
 .of_wp λprog w A R s h=>by
  obtain⟨p,g,d,H,os⟩:=s;obtain⟨m,h⟩:=h;have u:=sub_enumerate;obtain⟨⟨S,i,j,y⟩,l,e,n,hd⟩:=id m;dsimp only at e hd;subst e hd;have T:zC (Shared.heap ⟨p,g,d,H,os⟩) t r:=m
  wp_walk using tf l
  let k:Obj:={ cls:=.type "tuple_iterator",data:=.fields #[.ref t,.int 0 0] }
  let v:Obj:={ cls:=.type "enumerate",data:=.fields #[.none,.bool false,.ref p.objs.size,rawInt 0,.none,.none] }
  have z:(p.push k).objs.size=p.objs.size+1:=lX ..;have q:IsEnum ((p.push k).push v) (p.objs.size+1) p.objs.size 0 .none:=by rw[<- z];exact br _ rfl
  have f:=h _ q ⟨_,aO _ (br _ rfl),rfl,rfl⟩ ((lX ..).trans (by rw[z])) λb o x=>aO _ (aO _ x);rw[show Array.size p.objs+1=(p.push k).objs.size from z.symm]at f;apply wpAny_stack_any;intro st;apply al;split
  .rename_i c _ _ _ _ _;rcases c == Value.type "enumerate" with _|_;all_goals
    wp_walk using tf l,s_ T
    exact⟨_,rfl,f⟩
  .wp_walk using tf l,s_ T
   exact⟨_,rfl,f⟩
theorem yt(t:s.heap.IsTuple k q)
  (h:∀x,IsEnum x (s.heap.objs.size+1) s.heap.objs.size 0 .none->x.IsTupleIter s.heap.objs.size k 0->x.objs.size=s.heap.objs.size+2->(∀b o,s.heap.get? b=some o->x.get? b=some o)->Q (.ref (s.heap.objs.size+1)) { s with heap:=x }) :
  wpAny (model prog w) A (call (.type "enumerate") [.ref k]) Q E s:=callType_new F.called_enumerate (by decide) (F.typeCall_enumerate_1 _) (F.newCall_enumerate_1 _) (λj=>F.args_object_init_2 j _) F.entry_enumerate_new (CA k q) ⟨t,λx e i z hk=>⟨⟨_,e,rfl⟩,h x e i z hk⟩⟩
end
end PySem
namespace Ev
open PySem PySem.Spec PyProof.Rows L2
section
variable{X:Cx}{B:Pos}
def OL(K:FG)(a:Addr):It:=
 ⟨λi H=>∃s x,nr K H a s/\s[i]? = some x,λi H x h=>∃p y,x=.ref p/\H p=none/\h=bO H p (.tup [.int i,y])/\∀s,nr K H a s->s[i]? = some y,λi H=>∃s,nr K H a s/\s.length≤i⟩
theorem xA{P:Program}{w:World}{K:FG}{es:Ab}{n:Nat}(a e g:Addr)(Q:e≠g):Turn P w K (.Tuple es n B) (OL K a) [e,g] e (λi h=>(∃l,IsEnum h e g i l)/\h.IsTupleIter g a i) where
 mem:=by simp
 obj:=λi h st b y=>by
  obtain⟨⟨l,C⟩,⟨o,ho,c,d⟩⟩:=st;have:b=e\/b=g:=by simpa using y
  rcases this with rfl|rfl
  .exact⟨_,C,λv z=>by have z':Data.fields _=Data.cell v:=z;cases z'⟩
  .exact⟨o,ho,λv z=>by rw[d]at z;cases z⟩
 keep:=λi h h' st k=>by obtain⟨⟨l,C⟩,j⟩:=st;exact⟨⟨l,k e (by simp) _ C⟩,j.at λo q=>k g (by simp) o q⟩
 item:=by
  intro X hP hw hK p i f s J H E I hf st hg;subst hP hw hK;obtain⟨xs,x,hq,hx⟩:=hg;obtain⟨N,rv,pl,hz⟩:=I.tuple hq;obtain⟨u,hu,ru⟩:=rv.get hx;obtain⟨⟨l,C⟩,j⟩:=st;obtain⟨f0,f1,f2,f3,f4,f5⟩:=hf e (by simp);obtain⟨Z,g1,g2,g3,g4,g5⟩:=hf g (by simp);have W:s.heap.IsTuple a N.toArray:=pl;have hai:=uv W j;have hae:=uw W C;have D:=CC (prog:=X.p) (w:=X.w) (A:=X.A.in1) (I.o.hd p) g a hai N.toArray;refine wpAny_pyNext_enum_itemD D C ⟨j,W⟩ (by simpa using (bw.mp hu).1) Q (by simp[Q,hae]) λu2 h1 tk V ho1 G ht1 hz1 hk1=>?_
  obtain⟨G,_⟩:=G;have hu3:u2=u:=by simp[hu]at V;exact V.symm
  subst hu3;refine⟨_,rfl,Dc (s:={ s with heap:=h1,toks:=tk+1 }) ho1 λh2 he2 M=>?_⟩;replace M:dW e h1 h2:=M;have R:e < s.heap.objs.size:=aB C;have L:∀b o,b≠e->b≠g->s.heap.get? b=some o->h2.get? b=some o:=λb o b1 b2 q=>(M.2 b b1).trans (hk1 b o b1 b2 q)
  have T:h2.get? s.heap.objs.size=some { cls:=.type "tuple",data:=.seq #[.int i tk,u2] }:=(M.2 _ (bP R)).trans ht1;have F:H s.heap.objs.size=none:=I.h.fresh (ag _);have ne:∀{b:Addr}{o:HO},H b=some o->b≠e/\b≠g:=λ{b o} q=>⟨λz=>(by rw[z,f0]at q;cases q),λz=>(by rw[z,Z]at q;cases q)⟩;have S:∀b,b ∉ [e,g]->b≠e/\b≠g:=λb y=>⟨λz=>y (by simp[z]),λz=>y (by simp[z])⟩;have I':Inv X f J (bO H s.heap.objs.size (.tup [.int i,x])) { s with heap:=h2,gens:=s.gens,drawn:=s.drawn,toks:=tk+1 }:=by
   refine I.step (ch:=[e,g]) (λb y=>?_) (λb o _ _ p q _=>L b o (S b p).1 (S b p).2 q) (λb o _ _ p q _=>⟨o.slots,L b o (S b p).1 (S b p).2 q⟩) (λb o _ q n=>?_) (λb o p q=>⟨o,L b o (S b p).1 (S b p).2 q⟩)
    (λb ys q=>?_) (λb o ys q=>?_) (λb q=>?_) (λm hm=>?_) (λb u' q=>?_) I.bare
   .have:b=e\/b=g:=by simpa using y
    rcases this with rfl|rfl
    .exact⟨f3,f1,f4,f5⟩
    .exact⟨g3,g1,g4,g5⟩
   .rw [aj (bb (aB q))];exact n
   .rw [aj (bz q F)];exact q
   .rw [aj (bz q F)];exact q
   .rw [aj (bz q F)];exact q
   .obtain⟨o,es,ep,ho,r⟩:=hm;exact⟨o,es,ep,L _ o (aI f1) (aI g1) ho,r⟩
   .by_cases y:b=s.heap.objs.size
    .subst y;rw[aD]at q;cases q;exact⟨by show 2≤sizeLine;decide,[.int i tk,u2],.cons ⟨_,rfl⟩ (.cons ru .nil),⟨_,T,⟨rfl,_,rfl⟩,rfl⟩⟩
    .rw [aj y]at q;refine(I.h b u' q).stay (λc v p z=>L c v ?_ ?_ z) (λc z=>by rw[aj (bz z F)];exact z) λc ys z=>by rw[aj (bz z F)];exact z
     .rcases p with rfl|p
      .exact (ne q).1
      .exact (ne p).1
     .rcases p with rfl|p
      .exact (ne q).2
      .exact (ne p).2
  refine⟨.ref s.heap.objs.size,_,I',rfl,⟨s.heap.objs.size,x,rfl,F,rfl,λys hy=>by rw[I.tuple_inj hy hq];exact hx⟩,⟨⟨u2,by simpa using he2⟩,G.at λo q=>(M.2 g (aI Q)).trans q⟩,λb y=>?_⟩;have hb':b=e\/b=g:=by simpa using y
  obtain⟨oi,hoi,_⟩:=id j;rcases hb' with rfl|rfl
  .rw [aj (bb R)];exact f0
  .rw [aj (bb (aB hoi))];exact Z
 done:=by intro X hP hw hK p i f s J H E I hf st hg;subst hP hw hK;obtain⟨xs,hq,hx⟩:=hg;obtain⟨N,rv,pl,hz⟩:=I.tuple hq;obtain⟨⟨l,C⟩,j⟩:=st;obtain⟨Z,g1,g2,g3,g4,g5⟩:=hf g (by simp);have hl:=rv.length;have W:s.heap.IsTuple a N.toArray:=pl;exact wpAny_pyNext_enum_endD (CD (prog:=X.p) (w:=X.w) (A:=X.A.in1) (I.o.hd p) (it:=g) (q:=a) (g:=N.toArray) (k:=i) (by simp;lia)) C ⟨rfl,j,W⟩ λh' eb=>⟨rfl,I.turned (t':=s.toks) (λb o y e=>eb b o y e) Z g1 g3 g4 g5⟩
 self:=λ_ _ _ _ _ st h=>by obtain⟨⟨l,C⟩,_⟩:=st;exact sZ C h
theorem Ik{K:FG}{F:Aa}{m:List Addr}{H:Hp}{a:Addr}{c:List P}{s:List V}(w:∀h k n,Stp F m H h k n->nr K n a s)(r:b7 K F H c s):Mb K (OL K a) (cj 0 c) F m H:=by
 intro h k n st;have q:=w h k n st;have l:=r.length;refine⟨λi v e=>?_,⟨s,q,by rw[d5,l];exact ag _⟩⟩;obtain⟨d,t,rfl⟩:=k6 e;obtain⟨x,f,p⟩:=r.get t;refine⟨⟨s,x,q,f⟩,λz g y=>?_⟩;obtain⟨j,y,rfl,b,rfl,u⟩:=y;have:y=x:=by have:=u s q;rw[f]at this;cases this;rfl
 subst this;refine⟨h,cg b,RP.newTup b ⟨_,_,rfl,?_,_,_,rfl,RP.mono st p,rfl⟩⟩;show V.int (i:Int)=V.int (0+(i:Int));rw[cO]
@[simp] def lF(a:EV)(L:Lc)(S:U):DI:=bI (a L S) λv h=>match v with
 | .lst x=>some (cj 0 x,h)
 | .ro x=>some (cj 0 x,h)
 | .tup x=>some (cj 0 x,h)
 |_=>none
theorem Sj{es:Ab}{n:Nat}{a:Expr}{t:EV}{p c:Pos}(A:Gl X "enumerate")(D:X.g "enumerate"=none)(o:Y X a (tV X.K t))(j:starEach [a] X.e=[(false,eval a X.e)]):PI X (.Tuple es n B) (.Call (.Name "enumerate" p) [a] [] c) (tI X.K (lF t)):=by
 intro f s J H R I ⟨F,m,L,S,Z,N,r,l,q,k⟩;obtain⟨v,Q,z,q⟩:=ah q;cases v with
 |lst i=>exact iE A D o j f s J H R I ⟨F,m,L,S,Z,N,r,l,by unfold QN;rw[z];exact q,k⟩
 |ro i=>exact iE A D o j f s J H R I ⟨F,m,L,S,Z,N,r,l,by unfold QN;rw[z];exact q,k⟩
 |tup i=>
  have hA:PA X [a] (rh X.K (aF t aS)):=Ga o IS (by rw[j];rfl);refine Call_ (jN I A D ze (jz (cF (hA c f s J H (λy x=>∃e d,Stp F m H e d x/\Rel X.K e x d Q/\b7 X.K e x [.tup i] y) I ⟨F,m,L,S,[.tup i],Q,r,l,?_,λy e d x h M G=>⟨e,d,h,M,G⟩⟩) λus h ⟨y,x,w,V,e,d,st,M,G⟩=>?_) (by rw[j];rfl) rfl))
  .simp only[aF,aS,z,am]
  obtain⟨x1,rfl,px⟩:=xM G;obtain⟨u,rfl,ru⟩:=vals1 V;cases q;obtain⟨b,y,rfl,W,ra⟩:=px;have kk:=k _ e d x st M (Ik (λF2 m2 H2 s=>(W.kp s.kp).sq) ra);cases ru;obtain⟨E,V,pl,hz⟩:=w.tuple W.sq;refine yt (show h.heap.IsTuple b E.toArray from pl) λh' T C hsz hk=>?_;refine sZ T ?_;have g:∀b,h.heap.objs.size≤b->x b=none:=λb K=>w.h.fresh K;refine⟨h.heap.objs.size+1,[h.heap.objs.size+1,h.heap.objs.size],_,_,x,rfl,w.kept (t':=h.toks) hk,xA b _ _ (bP (jA _)),⟨⟨_,T⟩,C⟩,λb K=>?_,kk⟩;have P:b=h.heap.objs.size+1\/b=h.heap.objs.size:=by simpa using K
  rcases P with rfl|rfl
  .exact w.fpOk (iA _) (g _ (iA _))
  .exact w.fpOk (ag _) (g _ (ag _))
 |_=>cases q
end
end Ev
set_option tactic.hygienic false
namespace Ev
open PySem PySem.Spec PyProof.Rows L2
section
variable{X:Cx}{M:PN}{J:L2.St}{H:Hp}{s:Shared}
set_option tactic.hygienic true in
theorem Ig(G:FnOk X.p X.w X.K X.g X.b oF k fe fd ps sp)(D:Room (k+1) X.A)(V:X.g "ends_on"=some (.ref fe))(hk:dH X.K (.ref fe)=true)(c:Binds X.K fd ps [])
  (I:Inv X M J H s) (W:s.heap.get? f=some (wg p1 p2 p3 p4 p5 T pm c' ctv)) (S:s.heap.CodeRec (.ref c') xZ) (N:s.heap.IsCell T (some g)) (Z:RelV vb g) (rv:RelV v t) (h:sp [vb,v] H Q E0) :
  wx X (call (.ref f) [t]) (EP X M J Q) X.xe s:=by
 refine pP (PySem.W.kla_callFunE (body:=uQ p2 p3 p4 p5) D.depth W rfl rfl rfl rfl S ?_);rw[show bindArgs (PySem.W.kla_fn "<lambda>" xZ (wj p1) (uQ p2 p3 p4 p5) oK [(Str.ofString "board",T)] pm (.ref c') ctv) ⟨[t],[]⟩=pure [(Str.ofString "standing",t)] from rfl];refine al (AM (show ∀x ∈ oK.names,x.2≠.cell by decide) (show ∀x ∈ [(Str.ofString "standing",t)],oK.names.lookup x.1=some .local by simp) (λa p l=>⟨I.nolimit.fresh _ l,?_⟩) rfl);have m:∀b o,s.heap.get? b=some o->a.get? b=some o:=λb o e=>l.extBut b o (bb (aB e)) (aO _ e);have y:a.IsCell T (some g):=let ⟨o,e,d⟩:=N;⟨o,m _ _ e,d⟩
 have F:a.Ns mainGlobals X.g:=I.mod.glob.keeps λb o e=>m b o (I.bk b o e);have C:X.K.In a:=I.o.mod.kin.keeps λb o e=>m b o (I.bk b o e);have R:[g,t].length=ps.length:=G.len _ _ _ _ h;refine PySem.W.kla_codeExpr (iR (tH rfl rfl (zo F V ?_) (by decide)));refine p7 (h₀:=X.b) I.o.mod.kin hk ?_ rfl rfl;show wpAny _ _ (spliced ((false,eval (.Name "board" p3) _)::(false,eval (.Name "standing" p4) _)::[])) _ _ _;refine dq (pO (AL rfl rfl rfl y (dq (pO (xg rfl rfl p rfl (gm ⟨C,?_⟩))))));refine pP (nv (G.run _ (_::X.k) { s with heap:=a,toks:=s.toks+1 } H ⟨[g,t],[]⟩ [g,t] [vb,v] Q E0 (D.deeper _) ⟨Ae I.o.frames,I.o.mod,λb o e=>⟨m b o (I.bs b o e).1,(I.bs b o e).2⟩,?_,?_,?_,λP L=>I.base.tbls P (I.o.tab P L),I.h.kept m,I.bare⟩ (c _ [g,t] C R) (.cons Z (.cons rv .nil)) h) λr s' i=>?_)
 .refine au (au I.o.bsz I.sz) ?_;exact eP p.lt
 .refine .cons (show ScopeKind.function≠ScopeKind.module by decide) rfl p (zE (au I.o.bsz I.sz)) (I.stack.of_keeps λb o e _=>⟨o,m b o e,rfl⟩)
 .intro b c;have c:b=s.heap.objs.size\/b ∈ Cy X.k:=aN.mp c;rcases c with rfl|c
  .exact I.h.fresh (ag _)
  .exact I.stkFree b c
 .cases r with
  |error e=>exact False.elim i
  |ok E=>
   cases E with
   |ret w=>
    obtain⟨v',j,os,u,un,K,B,q⟩:=i;refine I.after ⟨v',j,os,u,⟨λb o e n c _=>?_,λb o e n c _=>?_,λb o e n A=>un.free b o (m b o e) n A,λb o e A=>un.there b o (m b o e) A,un.tups,un.frzs,un.tbls⟩,K,B,q⟩
    .refine un.keep b o (m b o e) n (λz=>?_) (by simp);have z:b=s.heap.objs.size\/b ∈ Cy X.k:=aN.mp z;rcases z with rfl|z
     .exact absurd (aB e) (eQ _)
     .exact c z
    .exact un.slot b o (m b o e) n (aG _ c) (by simp)
   |next=>exact False.elim i
   |brk=>exact False.elim i
   |cont=>exact False.elim i
theorem E4{E:VP}{Q:VP}{c P K:Addr}{p1 p2 p3 p4 p5:Pos}(I:Inv X M J H s)(i:X.e.code=.ref c)(C:pY X.b c P)(hP:P ∈ cf X.K)(hq:X.e.qual++Str.ofString "<lambda>"=xZ)(cl:X.e.cells.lookup (Str.ofString "board")=some K)
  (k:∀f h l pm p w F j,Inv X M J j { s with heap:=w,toks:=F }->(j=bO H f (.frz (wg p1 p2 p3 p4 p5 K pm h p) (.own f))\/H h=none/\h≠f/\j=bO (bO H h (.frz l (.own P))) f (.frz (wg p1 p2 p3 p4 p5 K pm h p) (.own f)))->H f=none->j h=some (.frz l (.own P))->x8 l->Q (.ref f) { s with heap:=w,toks:=F }) :
  wx X (eval (.Lambda (wj p1) (uQ p2 p3 p4 p5) oK uP) X.e) Q E s:=by
 have y:H P=some .tbl:=I.base.tbls P (I.o.tab P hP);obtain⟨ps,e0,z⟩:=(show qZ H s.heap P from I.h P _ y);have C':=C.keeps I.bk;obtain⟨bm,ob,b1,b2,b3,b4,b5,b6⟩:=I.mod.bmain;have B:s.heap.Ns mainGlobals X.g:=I.mod.glob.keeps I.bk;have hgP:mainGlobals≠P:=λq=>by obtain⟨o,es,ep,e,hd,_⟩:=B;rw[q,e0]at e;cases e;cases hd
 have S:bm≠P:=λq=>by have e:=I.bk _ _ b3;rw[q,e0]at e;cases e;cases b4
 have hbG:bm≠mainGlobals:=λq=>by obtain⟨o,es,ep,e,hd,_⟩:=I.mod.glob;rw[q,e]at b3;cases b3;rw[hd]at b6;cases b6
 have hB:s.heap.BuiltinsAt X.g P:=⟨bm,ob,b1,b2,hbG,S,I.bk _ _ b3,b4,b5,b6⟩;have N:closureFor oK X.e=pure [(Str.ofString "board",K)]:=by
  have:cellOf X.e (Str.ofString "board")=pure K:=by unfold cellOf;rw[cl]
  simp[closureFor,this]
 refine PySem.W.kla_eval rfl ?_;rw[hq];rcases z with rfl|⟨h,l,rfl,h1,h2⟩
 .refine PySem.W.kla_makeFunction (mg:=X.g) N I.o.glob B i C' e0 trivial rfl hgP hB λh p w F Z A T V W=>?_;obtain⟨x,l,vs,t,ex,ec,d1,d2⟩:=V;cases ex;have L:H h=none:=I.h.fresh A;have D:∀b,H b=none->b≠P:=λb n q=>by rw[q,y]at n;cases n
  have g:∀b o,H b=some o->b≠h:=λb o e q=>by rw[q,L]at e;cases e
  have hs':s.heap.objs.size≤w.objs.size:=au A (eP T);have I1:Inv X M J (bO H h (.frz l (.own P))) { s with heap:=w,toks:=F }:=by
   refine I.step (g':=s.gens) (d':=s.drawn) (ch:=[]) (λ_ z=>nomatch z) (λb o _ _ _ e n=>Z b o (D b n) e) (λb o _ _ _ e n=>⟨o.slots,Z b o (D b n) e⟩) (λb o _ e n=>?_) (λb o _ e=>?_) (λb xs q=>(aj (g b _ q)).trans q) (λb o u q=>(aj (g b _ q)).trans q) (λb q=>(aj (g b _ q)).trans q) (λm hm=>?_) (λb u q=>?_) I.bare
   .rw [aj (bb (bD (aB e) A))];exact n
   .by_cases G:b=P
    .subst G;exact⟨_,W⟩
    .exact⟨o,Z b o G e⟩
   .obtain⟨o,es,ep,ho,r⟩:=hm;exact⟨o,es,ep,Z _ o (D _ I.free) ho,r⟩
   .by_cases G:b=h
    .subst G;rw[aD]at q;cases q;exact⟨ec,⟨l,ec⟩⟩
    .rw [aj G]at q;by_cases S:b=P
     .subst S;rw[y]at q;cases q;exact⟨_,W,.inr ⟨h,l,by simp,aD,vs,t,d1,d2⟩⟩
     .refine (I.h b u q).stay (λd v hd e=>Z d v (λz=>?_) e) (λd e=>(aj (g d _ e)).trans e) (λd xs e=>(aj (g d _ e)).trans e) (λd xs e=>(aj (g d _ e)).trans e);rcases hd with hd|hd
      .exact S (hd ▸ z)
      .rw [z,y]at hd;cases hd
  have R:h≠w.objs.size:=bb T;refine k w.objs.size h l ((X.g "__name__").getD .none) p _ F _ (I1.laid (a:=w.objs.size) (o:=.frz (wg p1 p2 p3 p4 p5 K ((X.g "__name__").getD .none) h p) (.own w.objs.size)) (λb u e=>aO _ e) (ag _) ⟨br _ rfl,⟨_,br _ rfl⟩⟩) (.inr ⟨L,R,rfl⟩) (I.h.fresh hs') ?_ ⟨vs,t,d1,d2⟩;rw[aj R];exact aD
 .refine PySem.W.kla_makeFunctionHit (mg:=X.g) (cv:=.ref h) N I.o.glob B i C' e0 ?_ ?_ hB λp w F hk hsz=>?_
  .exact trivial
  .simp [codeAmong,rawInt]
  .have I1:Inv X M J H { s with heap:=w,toks:=F }:=I.kept hk;have hf:H w.objs.size=none:=I1.h.fresh (ag _);refine k w.objs.size h l ((X.g "__name__").getD .none) p _ F _ (I1.laid (a:=w.objs.size) (o:=.frz (wg p1 p2 p3 p4 p5 K ((X.g "__name__").getD .none) h p) (.own w.objs.size)) (λb u e=>aO _ e) (ag _) ⟨br _ rfl,⟨_,br _ rfl⟩⟩) (.inl rfl) hf ?_ h2;rw[aj (bz h1 hf)];exact h1
end
noncomputable def fnOf(d:D)(S:U):Option D:=match d with
 | .ref i=>match S[i]? with
  |some (.fn (some b))=>some b
  |_=>none
 |_=>none
theorem Iz(h:fnOf d S=some b):∃i,d=.ref i/\S[i]? = some (.fn (some b)):=by
 unfold fnOf at h;split at h
 .split at h
  .cases h;exact⟨_,rfl,by assumption⟩
  .cases h
 .cases h
def qd(g:GF)(i:Nat)(a:EV):EV:=λL S=>bI (ak i L S) λf _=>(fnOf f S).elim none λb=>bI (a L S) λv h=>bI (g [b,.p v] h) λd x=>bI (toP 9 d x) λr e=>some (r,trunc h.length e)
section
variable{X:Cx}{e:Expr}{C:EV}{N p:Pos}{x:Str}{i:Nat}
theorem JU(G:FnOk X.p X.w X.K X.g X.b oF k fe fd ps (nG X.K g))(hr:Room (k+1) X.A)(hm:X.g "ends_on"=some (.ref fe))(hk:dH X.K (.ref fe)=true)(hb:Binds X.K fd ps [])
  (hx:Y X (.Name x p) (tE X.K (ak i))) (ha:Y X e (tV X.K C)) (he:starEach [e] X.e=[(false,eval e X.e)]):Y X (.Call (.Name x p) [e] [] N) (tV X.K (qd g i C)):=by
 intro M s J H Q I ⟨F,m,L,S,d,S',r,l,q,kk⟩;obtain⟨f,E,W,q⟩:=ah q;have hS:E=S:=by
  unfold ak at W;split at W
  .cases W;rfl
  .cases W
 subst hS;cases eb:fnOf f E with
 |none=>rw[eb]at q;cases q
 |some b=>
  rw[eb]at q;obtain⟨v,c,e1,q⟩:=ah (show bI (C L E) _=_ from q);obtain⟨d1,S2,e2,q⟩:=ah q;obtain⟨v1,V,e3,q⟩:=ah q;cases q;obtain⟨j,rfl,es⟩:=Iz eb;refine iR (cF (hx M s J H (λv D=>∃z K,Stp F m H z K D/\Rel X.K z D K E/\RD X.K z D K (.ref j) v) I ⟨F,m,L,E,_,E,r,l,W,λv z K D s1 r1 p1=>⟨z,K,s1,r1,p1⟩⟩) λfu s1 hz=>?_);obtain⟨vf,D,I1,rf,z,K,R,r1,p1⟩:=hz;obtain⟨a,rfl,hma⟩:=p1;cases (show fu=Value.ref a from rf);obtain⟨vb,⟨p1,p2,p3,p4,p5,cr,c',P,o,oc,pm,ctv,ub,h1,h2,h3,h4,h5,h6⟩,rb⟩:=r1.obj j a _ hma es _ rfl;refine callWith_def (o:=wg p1 p2 p3 p4 p5 cr pm c' ctv) rfl ?_ he;refine cF ((eW ha ij (by rw[he];rfl)) N M s1 J D (λxs T=>∃y B A,xs=[y]/\Stp z K D B A T/\Rel X.K B T A c/\RP X.K B T v y) I1 ⟨z,K,L,E,v,c,r1,l.mono R,e1,λy B A T s2 r2 p2=>⟨y,B,A,rfl,s2,r2,p2⟩⟩) λus s2 hz=>?_;obtain⟨vs,T,I2,rv,y,B,A,ev,h,r2,p2⟩:=hz;subst ev;obtain⟨u,rfl,ru⟩:=vals1 rv;have h1':=h.cod _ _ _ h1;have h2':=h.cod _ _ _ h2;have h5':=h.cod _ _ _ h5;have oa:=(I2.h _ _ h1').1;have ocr:=(I2.h _ _ h2').1;have occ:=(I2.h _ _ h5').1;obtain⟨vs,t,d1',d2'⟩:=h6;refine⟨oa,Ig G hr hm hk hb I2 oa ⟨c',oc,vs,t,rfl,occ,d1',d2'⟩ ⟨o,ocr,h3⟩ h4 ru ?_⟩;refine⟨B,A,[b,.p v],c,d1,S2,r2,⟨vb,_,rfl,RD.mono h rb,_,_,rfl,p2,rfl⟩,e2,λw F3 m3 H3 s3 r3 p3=>?_⟩;obtain⟨F4,s4,r4,l4,p4⟩:=nD 9 e3 r3 p3;have st:=s3.trans s4;have Z:=r2.len;by_cases hc:(V.take c.length).all (Ia c.length)=true
  .have et:Ev.trunc c.length V=V.take c.length:=ac hc;rw[et]at kk;have hle:A.length≤m3.length:=by
    obtain⟨nn,e⟩:=st.pre;rw[e,aX];lia
   have rt:=r4.trunc (n:=c.length) (by rw[<- Z];exact hle) hc;refine kk w F4 (m3.take A.length) H3 (R.trans (h.trans st.trunc)) ?_ p4;rw[Z];exact rt
  .have et:Ev.trunc c.length V=V:=af hc;rw[et]at kk;exact kk w F4 m3 H3 (R.trans (h.trans st)) r4 p4
end
noncomputable def era(H:Hp)(c:Addr):Hp:=λb=>if b=c then none else H b
section
variable{K:FG}{F B:Aa}{H j:Hp}{m G:List Addr}{S:U}{c:Addr}{x:Obj}{y:Addr}
theorem ga(h:b≠c):era H c b=H b:=af h
theorem gI(a:H c=some (.frz x (.own y)))(h:H b=some o)(n:o≠.frz x (.own y)):era H c b=some o:=by rw[ga];exact h;rintro rfl;rw[a]at h;cases h;exact n rfl
mutual
theorem RP.era(hc:H c=some (.frz x (.own y))):∀{d:P}{v:V},RP K F H d v->RP K F (era H c) d v
 | .non,_,h=>h
 | .bl _,_,h=>h
 | .int _,_,h=>h
 | .str _,_,h=>h
 | .tup _,_,h=>by obtain⟨a,xs,e,t,r⟩:=h;exact⟨a,xs,e,t.imp (λz=>gI hc z (by simp)) id,b7.era hc r⟩
 | .lst _,_,h=>by obtain⟨a,xs,e,t,r⟩:=h;exact⟨a,xs,e,⟨t.1,gI hc t.2 (by simp)⟩,b7.era hc r⟩
 | .ro _,_,h=>by obtain⟨a,xs,e,t,r⟩:=h;refine⟨a,xs,e,t.imp (λz=>?_) id,b7.era hc r⟩;obtain⟨f,o,z⟩:=z;exact⟨f,o,gI hc z (by simp)⟩
 | .dct _ _,_,h=>by obtain⟨a,kvs,e,f,t,k,r⟩:=h;exact⟨a,kvs,e,f,gI hc t (by simp),k,b7.era hc r⟩
theorem b7.era(hc:H c=some (.frz x (.own y))):∀{ds:List P}{xs:List V},b7 K F H ds xs->b7 K F (era H c) ds xs
 | [],_,h=>h
 |_::_,_,h=>by obtain⟨x,r,e,h1,h2⟩:=h;exact⟨x,r,e,RP.era hc h1,b7.era hc h2⟩
end
theorem RD.era(a:H c=some (.frz x (.own y))):∀{d:D}{v:V},RD K F H m d v->RD K F (era H c) m d v
 | .p _,_,h=>RP.era a h
 | .ref _,_,h=>h
theorem cV.era(a:H c=some (.frz x (.own y))):∀{d:List D}{s:List V},cV K F H m d s->cV K F (era H c) m d s
 | [],_,h=>h
 |_::_,_,h=>by obtain⟨x,r,e,n,k⟩:=h;exact⟨x,r,e,RD.era a n,cV.era a k⟩
noncomputable def Lb:SO->Bool
 | .fn (some _)=>false
 |_=>true
theorem RO.era(s:H c=some (.frz x (.own y)))(q:Lb o=true)(h:RO K F H m a o):RO K F (era H c) m a o:=by
 cases o with
 |lst b=>obtain⟨u,e,r⟩:=h;exact⟨u,gI s e (by simp),r.era s⟩
 |dct t b=>obtain⟨k,e,f,r⟩:=h;exact⟨k,gI s e (by simp),f,r.era s⟩
 |fz v=>exact RP.era s (show RP K F H v (.ref a) from h)
 |ins c t b=>obtain⟨C,p,k,n,e,f,r⟩:=h;exact⟨C,p,k,n,gI s e (by simp),f,r.era s⟩
 |dtn t b=>obtain⟨k,e,f,w,r⟩:=h;exact⟨k,gI s e (by simp),f,w.era s,r.era s⟩
 |dtt t b=>obtain⟨k,e,f,r⟩:=h;exact⟨k,gI s e (by simp),f,r.era s⟩
 |fn g=>intro d hd;subst hd;cases q
theorem Rel.era(r:Rel K F H m S)(k:H c=some (.frz x (.own y)))(n:¬F c)(b:c ∉ m)(t:S.all Lb=true):Rel K F (era H c) m S where
 len:=r.len
 nd:=r.nd
 obj:=λi a o s e=>(r.obj i a o s e).era k (a_.mp t o (aZ e))
 sep:=r.sep
 trk:=λa h=>by rw[ga (by rintro rfl;exact b h)];exact r.trk a h
 ft:=λa f=>by rw[ga (by rintro rfl;exact n f)];exact r.ft a f
theorem Stp.era(s:Stp F m (bO H c (.frz x (.own y))) B G j)(a:H c=none):Stp F m H B G (era j c):=by
 have n:∀{b:Addr}{o:HO},H b=some o->b≠c:=λh z=>by rw[z,a]at h;cases h
 have p:∀{b:Addr}{o:HO},H b=some o->bO H c (.frz x (.own y)) b=some o:=λh=>(aj (n h)).trans h;refine⟨s.pre,λb o h k=>?_,s.frz,λb o f h=>?_,λb r h=>?_,λb h=>?_,λb h=>?_,λb h=>?_,λb o u h=>?_⟩
 .rw [ga (n h)];exact s.oth b o (p h) k
 .rw [ga (n h)];exact s.frk b o f (p h)
 .rw [ga (n h)];exact s.tup b r (p h)
 .cases q:H b with
  |none=>exact absurd q h
  |some o=>rw[ga (n q)];exact s.trk b (by rw[p q];exact λz=>nomatch z)
 .rcases s.nf b h with z|z|z
  .exact .inl z
  .by_cases e:b=c
   .subst e;exact .inr (.inl a)
   .rw [aj e]at z;exact .inr (.inl z)
  .exact .inr (.inr z)
 .rcases s.nm b h with z|z
  .exact .inl z
  .by_cases e:b=c
   .subst e;exact .inr a
   .rw [aj e]at z;exact .inr z
 .rw [ga (n h)];exact s.cod b o u (p h)
theorem Rel.swap(r:Rel K F H m S)(n:m[i]? = some a)(k:RO K F H m a o)(hw:¬o.own):Rel K F H m (S.set i o) where
 len:=by rw[c_];exact r.len
 nd:=r.nd
 obj:=λj b u h e=>by
  by_cases x:i=j
  .subst x;rw[n]at h;cases h;have s:i < S.length:=by rw[<- r.len];exact(bw.mp n).1
   rw[bv s]at e;cases e;exact k
  .rw [aP x]at e;exact r.obj j b u h e
 sep:=λj b u h e w=>by
  by_cases x:i=j
  .subst x;have s:i < S.length:=by rw[<- r.len];exact(bw.mp n).1
   rw[bv s]at e;cases e;exact absurd w hw
  .rw [aP x]at e;exact r.sep j b u h e w
 trk:=r.trk
 ft:=r.ft
end
noncomputable def CO:SO->SO
 | .fn _=>.fn none
 |o=>o
theorem Rel.clr{K:FG}{F:Aa}{H:Hp}{m:List Addr}{S:U}(r:Rel K F H m S):Rel K F H m (S.map CO) where
 len:=by rw[aQ];exact r.len
 nd:=r.nd
 obj:=λi a o h e=>by
  rw[bY]at e;cases q:S[i]? with
  |none=>rw[q]at e;cases e
  |some u=>
   rw[q]at e;cases e;have:=r.obj i a u h q
   cases u with
   |fn _=>exact λd z=>nomatch z
   |_=>exact this
 sep:=λi a o h e w=>by
  rw[bY]at e;cases q:S[i]? with
  |none=>rw[q]at e;cases e
  |some u=>
   rw[q]at e;cases e;cases u with
   |fn _=>exact absurd w id
   |_=>exact r.sep i a _ h q w
 trk:=r.trk
 ft:=r.ft
theorem LX(S:U):(S.map CO).all Lb=true:=by rw[List.all_map];refine a_.mpr λo _=>?_;cases o<;>rfl
def va(g:GF)(i:Nat)(a:EV):EE:=λL S=>bI (a L S) λv h=>bI (ak i L h) λd _=>bI (g [.p v,.ref h.length] (h++[.fn (some d)])) λr x=>some (r,x.map CO)
def Jx(X:Cx):Prop:=X.e.qual++Str.ofString "<lambda>"=xZ/\∃c P,X.e.code=.ref c/\xn X.K c P=true/\P ∈ cf X.K
theorem i5.cell{P:Program}{w:World}{H:Hp}{h:Heap}{c:Addr}{o:Obj}(ok:i5 P w H h)(a:H c=none)(e:h.get? c=some o):i5 P w (bO H c (.frz o (.own c))) h:=λb u q=>by
 have n:∀{b:Addr}{o:HO},H b=some o->b≠c:=λh z=>by rw[z,a]at h;cases h
 by_cases x:b=c
 .subst x;rw[aD]at q;cases q;exact⟨e,o,e⟩
 .rw [aj x]at q;exact(ok b u q).stay (λ_ _ _ z=>z) (λd z=>(aj (n z)).trans z) (λd s z=>(aj (n z)).trans z) (λd s z=>(aj (n z)).trans z)
theorem i5.era{P:Program}{w:World}{H:Hp}{h:Heap}{c:Addr}{o:Obj}(ok:i5 P w H h)(a:H c=some (.frz o (.own c))):i5 P w (era H c) h:=λb u q=>by
 by_cases x:b=c
 .subst x;cases (show(none:Option HO)=some u from(ac rfl).symm.trans q)
 .rw [ga x]at q;refine(ok b u q).stay (λ_ _ _ z=>z) (λd z=>gI a z (by simp)) (λd s z=>gI a z (by simp)) (λd s z=>?_);refine gI a z λw=>?_;injection w with _ w;injection w with w;exact x w
section
variable{X:Cx}{e:Expr}{C:EV}{N p:Pos}{x:Str}{i:Nat}
set_option tactic.hygienic true in
theorem JT(G:FnOk X.p X.w X.K X.g X.b oF k f fd ps (nG X.K g))(hr:Room k X.A)(hg:Gl X x)(hm:X.g x=some (.ref f))(hk:dH X.K (.ref f)=true)(W:Binds X.K fd ps [])
  (lm:Jx X) (hN:X.N[i]? = some (Str.ofString "board")) (hK:X.e.scope.names.lookup (Str.ofString "board")=some .cell) (hfn:X.fn (Str.ofString "board")=true) (ha:Y X e (tV X.K C)) (hdb:(x == ("__debug__":Str))=false)
  (he:starEach [e,.Lambda (wj p1) (uQ p2 p3 p4 p5) oK uP] X.e=(false,eval e X.e)::starEach [.Lambda (wj p1) (uQ p2 p3 p4 p5) oK uP] X.e) :
  Y X (.Call (.Name x p) [e,.Lambda (wj p1) (uQ p2 p3 p4 p5) oK uP] [] N) (tE X.K (va g i C)):=by
 intro M s J H Q I ⟨F,m,L,S,d,S',r,l,q,kk⟩;obtain⟨v,S1,e1,q⟩:=ah q;obtain⟨b,S0,e0,q⟩:=ah q;obtain⟨d2,S2,e2,q⟩:=ah q;cases q;obtain⟨hq,c,P,hcode,a,hP⟩:=lm;refine iR (pH I hg hm ?_ hdb);refine p7 (h₀:=X.b) I.o.mod.kin hk ?_ he rfl;rw[he];show wpAny _ _ (spliced ((false,eval e X.e)::(false,eval (.Lambda (wj p1) (uQ p2 p3 p4 p5) oK uP) X.e)::[])) _ _ _;have eL:L[i]? = some (some b):=by
  unfold ak at e0;split at e0
  .cases e0;assumption
  .cases e0
 obtain⟨vb,hJ,rb⟩:=l.at' i b eL;refine dq (cF (ha M s J H (λv1 H1=>∃A E,Stp F m H A E H1/\Rel X.K A H1 E S1/\RP X.K A H1 v v1) I ⟨F,m,L,S,v,S1,r,l,e1,λv A E H1 s1 r1 p1=>⟨A,E,s1,r1,p1⟩⟩) λu1 s1 hz=>?_);obtain⟨v1,H1,I1,ru1,A,E,st1,r1,pv⟩:=hz;obtain⟨t,cl⟩:=I1.o.has (Str.ofString "board") (.inl hK);refine dq (E4 (p1:=p1) (p2:=p2) (p3:=p3) (p4:=p4) (p5:=p5) I1 hcode (Dm I1.mod.kin a) hP hq cl λj c' oc pm ctv h' tk B Z hH hf0 hc' hlam=>gm ⟨Z.kIn,?_⟩);have hf2:B j=some (.frz (wg p1 p2 p3 p4 p5 t pm c' ctv) (.own j)):=by rcases hH with rfl|⟨_,_,rfl⟩<;>exact aD
 have st2:Stp A E H1 A (E++[j]) B/\Rel X.K A B (E++[j]) (S1++[.fn none]):=by
  rcases hH with rfl|⟨hc0,hcf,rfl⟩
  .exact⟨dD hf0,r1.own hf0 λd z=>nomatch z⟩
  .have hf1:bO H1 c' (.frz oc (.own P)) j=none:=(aj (aI hcf)).trans hf0;exact⟨(dY hc0).trans (dD hf1),(r1.new hc0).own hf1 λd z=>nomatch z⟩
 obtain⟨st2,r2⟩:=st2;obtain⟨mm,_,hl⟩:=id Z.loc;obtain⟨ub,rub,lk⟩:=hl i _ _ hN hJ (.inr (.inl hK));have hcell:h'.IsCell t (some ub):=by
  rcases lk with ⟨z,_⟩|⟨_,cr',z1,z2⟩
  .have z:X.e.scope.names.lookup (Str.ofString "board")=some .local:=z;rw[hK]at z;cases z
  .rw [cl]at z1;cases z1;exact z2
 obtain⟨o,ocr,od⟩:=hcell;have D:B t=none:=Z.freeC _ _ cl;have R:∀{b:Addr}{o:HO},B b=some o->b≠t:=λh z=>by rw[z,D]at h;cases h
 have sab:X.z.heap.objs.size≤t:=Z.o.cab _ _ hfn cl;have qo:Stp A (E++[j]) B A (E++[j]) (bO B t (.frz o (.own t))):=dY D;have hfm:(E++[j])[S1.length]? = some j:=by rw[<- r1.len,bH (ag _)];simp
 have rb3:RD X.K A (bO B t (.frz o (.own t))) (E++[j]) b vb:=RD.mono (st1.trans (st2.trans qo)) rb;have up:∀{b:Addr}{K:HO},B b=some K->bO B t (.frz o (.own t)) b=some K:=λh=>(aj (R h)).trans h;have r3:Rel X.K A (bO B t (.frz o (.own t))) (E++[j]) (S1++[.fn (some b)]):=by
  have z:=(r2.new (o:=.frz o (.own t)) D).swap (i:=S1.length) (o:=.fn (some b)) hfm (λd hd=>by cases hd;exact⟨vb,⟨p1,p2,p3,p4,p5,t,c',P,o,oc,pm,ctv,ub,up hf2,aD,od,rub,up hc',hlam⟩,rb3⟩) id
  have e:(S1++[SO.fn none]).set S1.length (.fn (some b))=S1++[.fn (some b)]:=by simp
  rw[e]at z;exact z
 have hnF:¬A t:=r2.fresh_F D;have hnm:t ∉ E++[j]:=r2.fresh_m D;have hsp:nG X.K g [v1,.ref j] (bO B t (.frz o (.own t))) (λv H4=>Q v (era H4 t)) E0:=by
  refine⟨A,E++[j],[.p v,.ref S1.length],S1++[.fn (some b)],_,S2,r3,⟨_,_,rfl,RP.mono (st2.trans qo) pv,_,_,rfl,⟨j,rfl,hfm⟩,rfl⟩,e2,λw F4 m4 H4 Ge r4 p4=>?_⟩;have V:H4 t=some (.frz o (.own t)):=Ge.cod _ _ _ aD;have hF4:¬F4 t:=λz=>by
   rcases Ge.nf t z with z|z|z
   .exact hnF z
   .rw [aD]at z;cases z
   .exact hnm z
  have hm4:t ∉ m4:=λz=>by
   rcases Ge.nm t z with z|z
   .exact hnm z
   .rw [aD]at z;cases z
  exact kk w F4 m4 (era H4 t) (st1.trans (st2.trans (Ge.era D))) (r4.clr.era V hF4 hm4 (LX _)) (p4.era V)
 have hps:[u1,Value.ref j].length=ps.length:=G.len _ _ _ _ hsp;have E3:Env0 X.p X.w X.K X.g X.b X.A X.k { s1 with heap:=h',toks:=tk } (bO B t (.frz o (.own t))):=by
  have z:=Z.env0;refine⟨z.frames,z.mod,λb K e=>⟨(z.bs b K e).1,?_⟩,z.bsz,z.funs,λb W=>?_,λT hT=>up (z.tab T hT),i5.cell z.h D ocr,z.bare⟩
  .rw [aj];exact(z.bs b K e).2;rintro rfl;exact absurd (bD (aB e) (au Z.o.bsz sab)) (eQ _)
  .rw [aj];exact z.frf b W;rintro rfl;rcases aN.mp (Z.stkSub b W) with W|W
   .exact Z.cne _ _ cl W
   .obtain⟨_,K,ho',_⟩:=Z.o.funs.mem W;exact absurd (bD (aB ho') sab) (eQ _)
 refine pP (nv (G.run X.A X.k _ _ ⟨[u1,.ref j],[]⟩ [u1,.ref j] [v1,.ref j] _ E0 hr E3 (W _ [u1,.ref j] Z.kIn hps) (.cons ru1 (.cons rfl .nil)) hsp) λr s' hq=>?_);cases r with
 |error e=>exact False.elim hq
 |ok fl'=>
  cases fl' with
  |ret w=>
   obtain⟨v',H4,os,bare,un,hok,rw',q4⟩:=hq;have V:H4 t=some (.frz o (.own t)):=un.frzs t o _ aD;have dn:∀{b:Addr},b≠t->B b=none->bO B t (.frz o (.own t)) b=none:=λh z=>(aj h).trans z;refine Z.after ⟨v',era H4 t,os,bare,⟨λb K e n W hx=>?_,λb K e n W hx=>?_,λb K e n hx=>?_,λb K e hx=>un.there b K e hx,λb xs z=>?_,λb K u z=>?_,λb z=>?_⟩,i5.era hok V,rw',q4⟩
   .by_cases y:b=t
    .subst y;have e:h'.get? b=some K:=e;rw[ocr]at e;cases e;exact(hok _ _ V).1
    .exact un.keep b K e (dn y n) W hx
   .by_cases y:b=t
    .subst y;have e:h'.get? b=some K:=e;rw[ocr]at e;cases e;exact⟨o.slots,(hok _ _ V).1⟩
    .exact un.slot b K e (dn y n) W hx
   .by_cases y:b=t
    .exact ac y
    .rw [ga y];exact un.free b K e (dn y n) hx
   .rw [ga (R z)];exact un.tups b xs (up z)
   .rw [ga (R z)];exact un.frzs b K u (up z)
   .rw [ga (R z)];exact un.tbls b (up z)
  |next=>exact False.elim hq
  |brk=>exact False.elim hq
  |cont=>exact False.elim hq
end
end Ev
set_option tactic.hygienic true
namespace PySem
open PySem PyProof.Rows
section
variable{prog:Program}{w:World}{A:Around}{E:VP}{R:Result->Shared->Prop}
theorem sm(k:∀c o,h.get? c=some o->h'.get? c=some o)(x:(Nk.nest prog w).is h d b):(Nk.nest prog w).is h' d b:=by obtain⟨x1,x2,as,r⟩:=x;exact⟨x1,x2,as,Nk.stay _ x1 r λc o hc _ _=>k c o hc⟩
inductive PairsN(prog:Program)(w:World)(h:Heap):LV->List (PyData×Addr×Value)->Prop
 |nil:PairsN prog w h [] []
 |cons {t b:Addr}{v:Value}{d:PyData}{us:LV}{xs:List (PyData×Addr×Value)}:IsTup h t #[.ref b,v]->(Nk.nest prog w).is h d b->PairsN prog w h us xs->PairsN prog w h (.ref t::us) ((d,b,v)::xs)
def oR(w:World)(h:Heap)(d:Addr)(xs:List (PyData×Addr×Value)):Prop:=∃o es ep,h.get? d=some o/\o.ExactDict/\o.data=.dict es ep/\es.toList=xs.map (λx=>(⟨Nk.hk w x.1,.ref x.2.1,x.2.2⟩:DictEntry))/\(xs.map (·.1)).Nodup
theorem oR.of(x:oR w h d xs)(k:∀y ∈ xs,(Nk.nest prog w).is h y.1 y.2.1):h.DictOfH (Nk.nest prog w) d xs:=
 let ⟨o,es,ep,h1,h2,h3,h4,h5⟩:=x;⟨o,es,ep,h1,h2,h3,h4,k,h5⟩
theorem oR.to(x:h.DictOfH (Nk.nest prog w) d xs):oR w h d xs:=
 let ⟨o,es,ep,h1,h2,h3,h4,_,h5⟩:=x;⟨o,es,ep,h1,h2,h3,h4,h5⟩
theorem oR.at(x:oR w h d f)(k:∀o,h.get? d=some o->h'.get? d=some o):oR w h' d f:=
 let ⟨o,s,e,a,r⟩:=x;⟨o,s,e,k o a,r⟩
theorem Cj(hh:A.handled=none)(hu:A.units+9 < cLine)(hd₀:h₀.get? d=none)(hi₀:h₀.get? it=none)(hdi:d≠it)(hl:h₀.IsList l items) :
  ∀(rest:List (PyData×Addr×Value))(i:Nat)(acc:List (PyData×Addr×Value))(s:Shared),(∀b o,h₀.get? b=some o->s.heap.get? b=some o)->s.heap.IsListIter it l i->oR w s.heap d acc->(∀y ∈ acc,(Nk.nest prog w).is h₀ y.1 y.2.1)->PairsN prog w h₀ (items.toList.drop i) rest ->
   ((acc++rest).map (·.1)).Nodup->(acc++rest).length≤sizeLine->i+rest.length=items.size ->
   (∀h' t',(∀b o,h₀.get? b=some o->h'.get? b=some o)->oR w h' d (acc++rest)->R (.ok (.ret .none)) { s with heap:=h',toks:=t' }) ->
   codeAny (model prog w) A (.builtin "dict.update.loop" ⟨[.ref d,.ref it,rawInt i,.none],[]⟩) R s:=by
 intro rest;induction rest with
 |nil=>
  intro i acc s kp hit hd ha hp hn hz hi h;have hl1:s.heap.IsList l items:=let ⟨o,ho,r⟩:=hl;⟨o,kp _ _ ho,r⟩
  refine sX F.entry_dict_update_loop ?_;rw[pD F.plain_dict_update_loop _];unfold Builtin.«dict.update.loop»;show wpAny _ A.in1 (pyNext (.ref it) >>= _) _ _ s;refine ab (C6 hh hit hl1 (by simp at hi ⊢;lia) λh1 eb=>?_);show wpAny _ A.in1 (yB d [] >>= _) _ _ _;rw[cZ]at h;refine ab (al (al (h h1 s.toks (λb o e=>eb b o (λz=>by rw[z,hi₀]at e;cases e) (kp b o e)) (hd.at λo e=>eb d o hdi e))))
 |cons kv rest ih=>
  intro i acc s kp hit hd ha hp hn hz hi h;have hl1:s.heap.IsList l items:=let ⟨o,ho,r⟩:=hl;⟨o,kp _ _ ho,r⟩
  generalize er:items.toList.drop i=us at hp;cases hp with
  | @cons t b v k us1 _ hpt hk hps=>
   have hx:items[i]? = some (.ref t):=by have:=cX (·[0]?) er;simpa using this
   have er1:items.toList.drop (i+1)=us1:=by rw[<- tY,er];rfl
   refine sX F.entry_dict_update_loop ?_;rw[pD F.plain_dict_update_loop _];unfold Builtin.«dict.update.loop»;show wpAny _ A.in1 (pyNext (.ref it) >>= _) _ _ s;refine ab (C_ hit hl1 hx λh1 hit1 sb1=>?_);have kp1:∀c o,h₀.get? c=some o->h1.get? c=some o:=λc o e=>(sb1.2 c (λz=>by rw[z,hi₀]at e;cases e)).trans (kp c o e);obtain⟨ot,hot,hct,nt,hdt⟩:=hpt;have hot1:=kp1 _ _ hot;show wpAny _ A.in1 (holding [Value.ref t] _ >>= _) _ _ _;refine ab (fD (ab (As ?_)));unfold yA;refine ab (lz (T:="tuple") ⟨ot,hot1,hct⟩ ?_);rw[ac (by decide)];refine ab (iQ hot1 hdt (al ?_));show wpAny _ A.in1 (holding [Value.ref b,v] (dictSet d (.ref b) v)) _ _ _;have dd:=(hd.at (h':=h1) λo e=>(sb1.2 d hdi).trans e).of (prog:=prog) λy hy=>sm kp1 (ha y hy);refine fD (AI (knd:=Nk.nest prog w) (s:={ s with heap:=h1 }) (hsz:=by simp at hz;lia) (show A.in1.units+8 < cLine by rw[mq];lia) (sm kp1 hk) dd λh2 dd2 sb2=>?_);have hnk:k ∉ acc.map (·.1):=λhm=>by rw[jE,jF]at hn;exact hn.2.2 _ hm _ (by simp) rfl
   have none:atKey acc k=none:=by unfold atKey;rw[Option.map_eq_none_iff,List.find?_eq_none];intro y hy z;exact hnk (aY.mpr ⟨y,hy,aJ z⟩)
   rw[storedH_new none]at dd2;refine al ⟨sV F.plain_dict_update_loop _,?_⟩;have e1:acc++(k,b,v)::rest=(acc++[(k,b,v)])++rest:=by simp
   rw[e1]at hn hz h;refine ih (i+1) (acc++[(k,b,v)]) { s with heap:=h2,toks:=s.toks+(Nk.nest prog w).draws k } (λc o e=>(sb2.2 c (λz=>by rw[z,hd₀]at e;cases e)).trans (kp1 c o e)) ?_ (.to dd2) (λy hy=>?_) (er1 ▸ hps) hn hz (by simp at hi;lia) λh3 t3 k1 k2=>h h3 t3 k1 k2
   .obtain⟨o,ho,r⟩:=hit1;exact⟨o,(sb2.2 it (aI hdi)).trans ho,r⟩
   .rcases bE.mp hy with hy|hy
    .exact ha y hy
    .cases cC.mp hy;exact hk
theorem call_dict_nest(j:A.handled=none)(V:A.units+10 < cLine)(y:s.heap.get? a=some { cls:=.type "list",data:=.seq t n })(C:PairsN prog w s.heap t.toList k)
  (P:(k.map (·.1)).Nodup) (G:k.length≤sizeLine) (R:k.length=t.size)
  (h:∀x i,(∀b o,s.heap.get? b=some o->x.get? b=some o)->oR w x s.heap.objs.size k->Q (.ref s.heap.objs.size) { s with heap:=x,toks:=i }) :
  wpAny (model prog w) A (call (.type "dict") [.ref a]) Q E s:=by
 have fresh:(s.heap.push { cls:=.type "dict",data:=.dict #[] }).DictOf (intKind prog w) s.heap.objs.size []:=.new s.heap;have p:oR w (s.heap.push { cls:=.type "dict",data:=.dict #[] }) s.heap.objs.size []:=⟨_,#[],0,br _ rfl,⟨rfl,rfl,rfl⟩,rfl,rfl,l8⟩;have d:∀b o,s.heap.get? b=some o->(s.heap.push { cls:=.type "dict",data:=.dict #[] }).get? b=some o:=λb o=>aO _;have r:=Av (prog:=prog) (w:=w) (A:=A.in1) (E:=E) (s:=s) (Value.ref a) (Q₁:=λv z=>v=.ref s.heap.objs.size/\z={ s with heap:=s.heap.push { cls:=.type "dict",data:=.dict #[] } }) ⟨rfl,rfl⟩;apply Aq yM (yP (.ref a)) yN r;rintro _ _ ⟨e,H⟩;subst e H;generalize s.heap.push { cls:=.type "dict",data:=.dict #[] }=N at fresh d p;have g:=d _ _ y;refine⟨fresh.typeIs,yO (.ref s.heap.objs.size) (.ref a),?_⟩;unfold Builtin.«dict.__init__» yC;apply ab;apply ab;apply C5 fresh.typeIs;apply al;show wpAny _ _ (oU "dict.__init__" s.heap.objs.size (.ref a) [] .none) _ _ _;unfold oU;refine ab (lz (T:="list") ⟨_,g,rfl⟩ ?_);rw[ac (by decide)];refine ab (xY (name:="keys") g rfl rfl rfl F.list_no_keys (by decide) j λf W u=>?_);rw[ac (by rfl)];refine ab (pQ ?_);have q:=u _ _ g;have I:∀b o,s.heap.get? b=some o->f.get? b=some o:=λb o e=>u b o (d b o e);have c:oR w f s.heap.objs.size []:=p.at λo e=>u _ _ e;refine ab (xf (l:=a) (items:=t) ⟨_,q,rfl,n,rfl⟩ ?_);refine al ⟨sV F.plain_dict_update_loop _,?_⟩;have m:s.heap.objs.size < f.objs.size:=by obtain⟨o,_,_,B,_⟩:=c;exact aB B
 have S:s.heap.get? f.objs.size=none:=by
  cases e:s.heap.get? f.objs.size with
  |none=>rfl
  |some o=>exact absurd (aB e) (tJ.mpr (eP m))
 have K:s.heap.get? s.heap.objs.size=none:=by
  cases e:s.heap.get? s.heap.objs.size with
  |none=>rfl
  |some o=>exact absurd (aB e) (eQ _)
 refine Cj (A:=A.in1) (w:=w) j (by rw[mq];lia) (h₀:=s.heap) (items:=t) (l:=a) K S (bb m) ⟨_,y,rfl,n,rfl⟩ k 0 [] _ (λb o e=>aO _ (I b o e)) ?_ (c.at λo e=>aO _ e) (λ_ D=>nomatch D) (by simpa using C) (by simpa using P) (by simpa using G) (by lia) λx i L M=>?_
 .exact⟨_,br _ rfl,rfl,rfl⟩
 .exact⟨rfl,h x i L M⟩
end
end PySem
namespace Ev
open PySem PySem.Spec PyProof.Rows L2
noncomputable def vT:List P->Option (List P×List P)
 | []=>some ([],[])
 | .tup [k,v]::r=>(vT r).map λz=>(k::z.1,v::z.2)
 |_=>none
def Jh:List P->Bool
 | []=>true
 |k::s=>!lb k s && Jh s
theorem qM(g:eD k=true):∀{ks:List P},ks.all eD=true->(lb k ks=true↔pd k ∈ i_ ks)
 | [],_=>by simp[lb,i_]
 |q::ks,h=>by rw[dt,ar]at h;have ih:=qM g h.2;unfold lb at ih ⊢;rw[du,uj,ih,i_,aN,Nk.eqv_kd _ _ (mN h.1) (mN g)];exact⟨λz=>z.imp Eq.symm id,λz=>z.imp Eq.symm id⟩
theorem EH:∀{s:List P},s.all eD=true->Jh s=true->(i_ s).Nodup
 | [],_,_=>l8
 |k::s,h,n=>by rw[dt,ar]at h;simp only[Jh,ar,mn]at n;refine bQ.mpr ⟨λz=>?_,EH h.2 n.2⟩;rw[(qM h.1 h.2).mpr z]at n;cases n.1
theorem Cb(e:vT (p::b)=some (f,t)):∃k v s x,p=.tup [k,v]/\vT b=some (s,x)/\f=k::s/\t=v::x:=by
 unfold vT at e;split at e
 .rename_i h;cases h
 .rename_i k v r h;cases h;obtain⟨z,a,e⟩:=gU.mp e;cases e;exact⟨k,v,z.1,z.2,rfl,a,rfl,rfl⟩
 .cases e
theorem sj(I:Inv X M J H s):∀{c a m:List P}{d:List V}{n:LV},b7 X.K F H c d->ba d n->vT c=some (a,m)->a.all eD=true ->
  ∃(h:List (PyData×V×V))(f:List (PyData×Addr×Value)),h.map (·.1)=i_ a/\b7 X.K F H a (h.map (·.2.1))/\b7 X.K F H m (h.map (·.2.2))/\KN h f/\PySem.PairsN X.p X.w s.heap n f/\h.length=n.length
 | [],_,_,_,_,r,v,e,_=>by cases e;cases r;cases v;exact⟨[],[],rfl,rfl,rfl,.nil,.nil,rfl⟩
 |p::c,_,_,_,_,r,v,e,g=>by
  obtain⟨k,w,a,m,rfl,S,rfl,rfl⟩:=Cb e;rw[dt,ar]at g;obtain⟨x,xr,rfl,E,G⟩:=r;obtain⟨t,ys,rfl,R,N⟩:=E;obtain⟨y1,Z,rfl,q,L⟩:=Qm N;cases v with
  | @cons _ u _ n v1 v2=>cases (show u=Value.ref t from v1);obtain⟨C,Q,B,_⟩:=I.tuple R.sq;obtain⟨T,W,rfl,K,A⟩:=vals2 Q;obtain⟨h,f,i,j,l,y,z,o⟩:=sj I G v2 S g.2;obtain⟨b,rfl,D⟩:=qG I g.1 q;cases (show T=Value.ref b from K);exact⟨(pd k,.ref b,Z)::h,(pd k,b,W)::f,by rw[aA,i];rfl,⟨_,_,rfl,q,j⟩,⟨_,_,rfl,L,l⟩,.cons ⟨rfl,rfl,A⟩ y,.cons B D z,by simp[o]⟩
def u7(C:EV):EE:=λL S=>bI (C L S) λx h=>match x with
 | .lst p=>match vT p with
  |some (k,v)=>if (k.all eD && (Jh k && few p))=true then some (.ref h.length,h++[.dtn k (v.map .p)]) else none
  |none=>none
 |_=>none
section
variable{X:Cx}{a:Expr}{C:EV}{p c1:Pos}
theorem JN(hc:X.c=true)(hu:X.A.units+10 < cLine)(gd:Gl X "dict")(md:X.g "dict"=none)(ha:Y X a (tV X.K C))(hs:starEach [a] X.e=[(false,eval a X.e)]) :
  Y X (.Call (.Name "dict" p) [a] [] c1) (tE X.K (u7 C)):=by
 intro M s J H Q I ⟨F,m,L,S,d,S',r,l,q,k⟩;obtain⟨x,R,e1,q⟩:=ah q;have hh:X.A.handled=none:=I.o.hd hc;refine iR (jN I gd md zn ?_ (by decide) (by decide));refine jz ?_ (by rw[hs];rfl) rfl;rw[hs];refine dq (cF (ha M s J H (λv w=>∃f t,Stp F m H f t w/\Rel X.K f w t R/\RP X.K f w x v) I ⟨F,m,L,S,x,R,r,l,e1,λv f t w e y E=>⟨f,t,e,y,E⟩⟩) λu e ⟨v,w,g,ru,f,t,G,y,E⟩=>gm ?_);cases x with
 |lst ps=>
  dsimp only at q;cases B:vT ps with
  |none=>rw[B]at q;cases q
  |some z=>
   obtain⟨ks,vs⟩:=z;rw[B]at q;dsimp only at q;split at q
   .rename_i c;simp only[ar]at c;obtain⟨Z,g2,g3⟩:=c;cases q;obtain⟨A,xs,rfl,hq,rp⟩:=E;cases (show u=Value.ref A from ru);obtain⟨zl,i,n,rv,ho⟩:xs.length≤sizeLine/\∃(i:LV)(n:Nat),ba xs i/\e.heap.get? A=some { cls:=.type "list",data:=.seq i.toArray n }:=g.h A _ hq.2;obtain⟨b,N,K,T,V,P,W,a6⟩:=sj g rp rv B Z;have el:b.length=N.length:=Paired.length P;have e2:=rv.length;have D:N.map (·.1)=b.map (·.1):=by
     clear K T V W a6 el;induction P with
     |nil=>rfl
     |cons h _ ih=>rw[aA,aA,ih,h.1]
    refine PySem.call_dict_nest hh hu ho (by simpa using W) (by rw[D,K];exact EH Z g2) (by lia) (by simp;lia) λh' t' k1 k2=>?_;have j:w e.heap.objs.size=none:=g.h.fresh (ag _);obtain⟨ob,es,ep,h1,h2,h3,h4,h5⟩:=k2;have I3:=g.laid (a:=e.heap.objs.size) (o:=.dN b) (t':=t') k1 (ag _) ⟨by lia,gY.mpr (aI (bb g.big)),N,P,ob,es,ep,h1,h2,h3,h4,h5⟩;refine⟨.ref e.heap.objs.size,_,I3,rfl,k (.ref e.heap.objs.size) f (t++[e.heap.objs.size]) _ (G.trans (dD j)) (y.own j ⟨_,aD,K,b7.kp (dD (m:=t) j).kp T,cV.mono (dD j) (cV.ofP V)⟩) ⟨e.heap.objs.size,rfl,?_⟩⟩;rw[<- y.len,bH (ag _)];simp
   .cases q
 |_=>cases q
end
theorem Ew{K:FG}{F B:Aa}{m G:List Addr}{H j:Hp}{S:U}{p:Addr}{c:SO}(st:Stp F m H B G j)(r:Rel K B j G S)(t:H p=none)(l:¬B p)(y:p ∉ G)(v:j p≠none)(q:RO K B j (G++[p]) p c) :
  Stp F m H B (G++[p]) j/\Rel K B j (G++[p]) (S++[c]):=by
 have g:Kp B G j B (G++[p]) j:=⟨⟨[p],rfl⟩,λ_ h=>h,λ_ _ _ h=>h,λ_ _ h=>h,λ_ _ _ h=>h⟩;have lt:∀{i:Nat}{a:Addr},(G++[p])[i]? = some a->i < G.length\/(i=G.length/\a=p):=λ{i a} e=>by
  rcases tL i G.length with h|h
  .exact .inl h
  .rw [bH h]at e;have d:i-G.length=0:=by
    rcases zA (i-G.length) with z|z
    .exact z
    .rw [pA (by simp;lia)]at e;cases e
   rw[d]at e;exact .inr ⟨by lia,by simpa using e.symm⟩
 refine⟨⟨?_,st.oth,st.frz,st.frk,st.tup,st.trk,st.nf,λb f=>?_,st.cod⟩,⟨by rw[aX,aX,r.len];rfl,?_,λi a o s x=>?_,λi a o s x w=>?_,λa k=>?_,r.ft⟩⟩
 .obtain⟨n,e⟩:=st.pre;exact⟨n++[p],by rw[e,eS]⟩
 .rcases bE.mp f with f|f
  .exact st.nm b f
  .have:b=p:=by simpa using f
   subst this;exact .inr t
 .rw [jF];refine⟨r.nd,by simp,λa k b f e=>?_⟩;have:b=p:=by simpa using f
  subst this;subst e;exact y k
 .rcases lt s with h|⟨h,rfl⟩
  .rw [bL h]at s;rw[bL (by rw[<- r.len];exact h)]at x;exact(r.obj i a o s x).kp g λu z=>z
  .subst h;rw[r.len,bH (ag _)]at x;simp at x;subst x;exact q
 .rcases lt s with h|⟨h,rfl⟩
  .rw [bL h]at s;rw[bL (by rw[<- r.len];exact h)]at x;exact r.sep i a o s x w
  .exact l
 .rcases bE.mp k with k|k
  .exact r.trk a k
  .have:a=p:=by simpa using k
   subst this;exact v
def u9(f v:EV):EE:=λL S=>bI (f L S) λk x=>bI (v L x) λy h=>if eD k=true then some (.ref h.length,h++[.dtn [k] [.p y]]) else none
theorem JO{X:Cx}{N:Pos}{ke ve:Expr}{fk fv:EV}(hu:X.A.units+9 < cLine)(hk:Y X ke (tV X.K fk))(hv:Y X ve (tV X.K fv)):Y X (.Dict [some ke] [ve] N) (tE X.K (u9 fk fv)):=by
 intro M s J H Q I ⟨F,m,L,S,d,S',r,l,q,k⟩;obtain⟨e,G,e1,q⟩:=ah q;obtain⟨y,S2,e2,q⟩:=ah q;split at q;case isFalse=>cases q
 rename_i g;cases q;have i:H s.heap.objs.size=none:=I.h.fresh (ag _);have I1:=I.laid (a:=s.heap.objs.size) (o:=.dN []) (h':=s.heap.push { cls:=.type "dict",data:=.dict #[] }) (t':=s.toks) (fun _ _ q=>aO _ q) (ag _) (FD s.heap I.big);refine wpAny_Dict_any rfl rfl (by simp) (by simp) (pairTrees_cons_walk (cF (hk M _ J _ (fun v j=>∃w P,Stp F m (bO H s.heap.objs.size (.dN [])) w P j/\Rel X.K w j P G/\RP X.K w j e v) I1 ⟨F,m,L,S,e,G,r.new i,l.mono (dY i),e1,fun v w P j s2 Z p2=>⟨w,P,s2,Z,p2⟩⟩) fun ku s2 ⟨kv,j,I2,rk,w,P,B,Z,pk⟩=>
  cF (hv M s2 J j (λv n=>∃h f,Stp w P j h f n/\Rel X.K h n f S2/\RP X.K h n y v) I2 ⟨w,P,L,G,y,S2,Z,(l.mono (dY i)).mono B,e2,λv h f n s3 C p3=>⟨h,f,s3,C,p3⟩⟩) λD s3 ⟨vv,n,E,rv,h,f,qo,C,pv⟩=>pairTrees_nil_walk ?_))
 have t:=B.trans qo;have K:s.heap.objs.size ∉ m:=r.fresh_m i;have c:n s.heap.objs.size=some (.dN []):=t.oth _ _ aD K;have W:¬h s.heap.objs.size:=λz=>by
  rcases t.nf _ z with z|z|z
  .exact r.fresh_F i z
  .rw [aD]at z;cases z
  .exact K z
 have nm:s.heap.objs.size ∉ f:=λz=>by
  rcases t.nm _ z with z|z
  .exact K z
  .rw [aD]at z;cases z
 have nt:∀zs,n s.heap.objs.size≠some (.tup zs):=λzs z=>by rw[c]at z;cases z
 have nc:∀x u,n s.heap.objs.size≠some (.frz x (.own u)):=λx u z=>by rw[c]at z;cases z
 have A:RP X.K h n e kv:=RP.mono qo pk;obtain⟨b,T,ky⟩:=qG E g A;subst T;cases (show ku=Value.ref b from rk);obtain⟨z,hd,xs,rel,dd⟩:=FC E.h c (λp hp=>nomatch hp);cases rel;show wpAny _ _ (storeAll s.heap.objs.size [(Value.ref b,D)]) _ _ _;have es:storeAll s.heap.objs.size [(Value.ref b,D)]=(do dictSet s.heap.objs.size (Value.ref b) D;pure PUnit.unit):=by unfold storeAll;simp
 rw[es];refine ab (AI (knd:=Nk.nest X.p X.w) (hsz:=bX _) (show(X.A).units+8 < cLine by lia) ky dd λh' R hs=>al ?_);have kb:Kp h f n h f (bO n s.heap.objs.size (.dN [(pd e,.ref b,vv)])):=Kp.bump W nt nc;have st:Stp F m H h f (bO n s.heap.objs.size (.dN [(pd e,.ref b,vv)])):=((dY i).trans t).bump i;have ob:RO X.K h (bO n s.heap.objs.size (.dN [(pd e,.ref b,vv)])) (f++[s.heap.objs.size]) s.heap.objs.size (.dtn [e] [.p y]):=
  ⟨_,aD,rfl,⟨_,_,rfl,RP.kp kb A,rfl⟩,⟨_,_,rfl,RP.kp kb pv,rfl⟩⟩
 obtain⟨a1,a2⟩:=Ew st (C.bump W nm nt nc) i W nm (by rw[aD];exact λz=>nomatch z) ob;obtain⟨q,V,ep,hq,h2,h3,h4,_,h5⟩:=R;refine⟨.ref s.heap.objs.size,_,mW (N:=.dN [(pd e,.ref b,vv)]) E (by rw[c];exact True.intro) hs ⟨q,hq⟩ ⟨show 1≤sizeLine by decide,hd,[(pd e,b,D)],.cons ⟨rfl,rfl,rv⟩ .nil,q,V,ep,hq,h2,h3,h4,h5⟩,rfl,k _ h _ _ a1 a2 ⟨_,rfl,?_⟩⟩;rw[<- C.len,bH (ag _)];simp
section
variable{X:Cx}{u:Scope}{I:LS}{L:List Nat}{n:Nat}
theorem JC(i:Nat)(hN:X.N.Nodup)(h:BlockOk X u I L n)(w:X.c=true)
  (W:re X tg iter f L n g fc fe) (hg:∀s H C y,PG (inn X u I s H C y) tg (gT X.K g)) (hc:∀s H C y,PIfs (inn X u I s H C y) z fc) (he:∀s H C y,Y (inn X u I s H C y) t (tV X.K fe))
  (o:closureFor u X.e=pure (lL u X.e)) (Z:swapsWith (.ListComp t [⟨tg,iter,z,0⟩] u N) (some (.Name x px)) T.line X.e=pure true:=by rfl)
  (hs:∀x,foldedSetIterable iter X.e x=pure x:=by intro _;rfl) (R:X.N[i]? = some x:=by rfl) (hx:Loc X.e.scope x:=by first|exact Or.inl rfl|exact Or.inr rfl)
  (hf:X.fn x=true\/X.e.scope.names.lookup x=some .local:=by first|exact .inl rfl|exact .inr rfl|assumption) :
  PS X (.Assign [.Name x px] (.ListComp t [⟨tg,iter,z,0⟩] u N) T) (kl X.K (aC i (oy f))):=by
 intro M s J H D b ⟨F,m,c,S,fl,L',S',r,l,q,k⟩;obtain⟨d,S1,e1,q⟩:=ah q;cases q;obtain⟨v,S2,e2,e3⟩:=ah e1;rw[C3 _ _ _ _ Z];refine ab (sW (ab ?_));show wpAny _ _ (do let _ <- comprehension (.ListComp t [⟨tg,iter,z,0⟩] u N) u X.e _ (newList []) false (eval iter X.e) (some (assign (.Name x px) X.e))) _ _ s;obtain⟨wi,hi,W⟩:=W;obtain⟨ok,vs,S3,ds,rfl,P,hw,e4⟩:=W J H F m c S v _ r l e2;cases e3;refine ab (cA (k7 (use:=some (assign (.Name x px) X.e)) (Q:=λ_ s'=>SP X M D .next s') h w hi hg hc he o hs b r l hw P e4 λp B G j sx C xs I' st0 r0 f hC h0 h1 h2 h3 hz=>?_) (λ_ s' hq=>al (al hq)) λ_ _ e=>e);obtain⟨mC,V⟩:=hz;obtain⟨st,r'⟩:=wK st0 r0 f;have rp:RD X.K B j (G++[p]) (.ref S2.length) (.ref p):=⟨p,rfl,by rw[<- r0.len,bH (ag _)];simp⟩;refine xc (nE I' hN R hx (v:=.ref p) rfl (λs' E A=>?_) hf);refine⟨mC,?_,λh' sb=>⟨_,j,E.letGo sb hC h0 h1 h2 h3,k _ _ (G++[p]) j st r' ((l.mono st).set (d:=.ref S2.length) rp i)⟩⟩;obtain⟨a,sbA,K⟩:=A;refine V.sameBut sbA ?_;rcases K with K|K
 .rw [K];exact h1
 .exact aI (h2 x a K)
end
end Ev
namespace Ev
open PySem PySem.Spec PyProof.Rows L2
def cG(g:GF)(p:List P):Option P:=match g (p.map .p) [] with
 |some (d,S)=>(toP 9 d S).map (·.1)
 |none=>none
@[simp] noncomputable def k_:Option (Fl×Lc×U)->Option (D×U)
 |some (.rt d,_,S)=>some (d,S)
 |some (.nx,_,S)=>some (.p .non,S)
 |_=>none
def mP(p n:Nat)(b:ES):GF:=λd S=>if d.length=p then k_ (b (d.map some++List.replicate (n-d.length) none) S) else none
theorem Rel.nil{K:FG}{F:Aa}{H:Hp}(f:∀a,F a->H a≠none):Rel K F H [] []:=⟨rfl,by simp,by simp,by simp,by simp,f⟩
variable{K:FG}{H:Hp}
theorem qu(h:OP K (cG g) A H a s):nG K g A H a s:=by
 obtain⟨F,f,d,t,r,q,k⟩:=h;unfold cG at q;cases e:g (f.map .p) [] with
 |none=>rw[e]at q;cases q
 |some z=>
  obtain⟨n,S⟩:=z;rw[e]at q;dsimp only at q;cases x:toP 9 n S with
  |none=>rw[x]at q;cases q
  |some y=>obtain⟨p,P⟩:=y;rw[x]at q;cases q;refine⟨F,[],f.map .p,[],n,S,.nil t,cV.ofP r,e,λv o B c j w i=>?_⟩;obtain⟨b,l,u,_,m⟩:=nD 9 x w i;exact k v b c ((j.trans l).toGrow u.ft) m
theorem FnOk.pure(G:FnOk a w K m base oF k f d p (nG K g)):FnOk a w K m base oF k f d p (OP K (cG g)):=
 FnOk.imp G λ_ _ _ _ h=>qu h
theorem cV.toSt(r:cV K F H m s k):RL K F H m (L2.start N k) (s.map some++List.replicate (N.length-s.length) none):=by
 have l:=r.length;refine⟨by unfold L2.start;simp[l],λi d e=>?_⟩;by_cases h:i < s.length
 .rw [bL (by simpa using h),bY]at e;cases q:s[i]? with
  |none=>rw[q]at e;cases e
  |some v=>rw[q]at e;cases e;obtain⟨x,a,p⟩:=r.get q;refine⟨x,?_,p⟩;unfold L2.start;rw[bL (by simpa[<- l] using h),bY,a];rfl
 .rw [bH (by simpa using h),uf]at e;split at e<;>cases e
theorem Iw{P:Program}{w:World}{K:FG}{m:SV}{base:Heap}{x u:Str}{st:Stmt}{f:Addr}{n:FuncData}{N a:LS}{k:Nat}{e:Sp}(F:Fun K x u st f n)(S:FnScope N a (bj st))(len:∀v H Q E,e v H Q E->v.length=a.length)
  (b:∀(c:Value),iU K c u=true->∀(A:Around) (o:List Env) (s:Shared) (H:Hp) (v:List V) (Q:VK) (E:XK),Room k (A.deeper (envOfC u (bj st) s.heap.objs.size f c))->e v H Q E ->
   ∃t,nZ (wG oF P w K m base N u (bj st) f c A o s H E).nox (eX st) t/\t { nx:=λ_ r=>Q .non r,rt:=Q } (start N v) H):FnOk P w K m base oF (k+1) f n a e:=by
 obtain⟨B,C,z,kV,g,D,j,c,y,l,rfl,lk,d⟩:=F.ex;refine N_ lk d S len λA o s H v Q E i p=>?_;obtain⟨t,h,q⟩:=b c d A o s H v Q E i p;exact⟨t,h.nox,q⟩
theorem LD{P:Program}{w:World}{K:FG}{y:SV}{base:Heap}{x u:Str}{st:Stmt}{f:Addr}{i:FuncData}{N p:LS}{k:Nat}{b:ES}(F:Fun K x u st f i)(S:FnScope N p (bj st))
  (M:∀(c:Value),iU K c u=true->∀(A:Around) (o:List Env) (s:Shared) (H:Hp) (E:XK),Room k (A.deeper (envOfC u (bj st) s.heap.objs.size f c)) ->
   nZ (wG oF P w K y base N u (bj st) f c A o s H E).nox (eX st) (kl K b)):FnOk P w K y base oF (k+1) f i p (nG K (mP p.length N.length b)):=by
 refine Iw F S (λV H Q E h=>?_) (λc n A o s H V Q E R h=>⟨_,M c n A o s H E R,?_⟩)
 .obtain⟨F,m,a,S,d,G,C,r,q,k⟩:=h;rw[<- r.length];unfold mP at q;split at q
  .assumption
  .cases q
 .obtain⟨F,m,a,S,d,G,C,r,q,k⟩:=h;unfold mP at q;split at q
  .cases e:b (a.map some++List.replicate (N.length-a.length) none) S with
   |none=>rw[e]at q;cases q
   |some z=>
    obtain⟨l,L,I⟩:=z;rw[e]at q;refine⟨F,m,_,S,l,L,I,C,r.toSt,e,λW t j g D B Z=>?_⟩;cases l with
    |nx=>cases q;exact k .non t j g D B rfl
    |bk=>cases q
    |ct=>cases q
    |rt X=>intro v T;cases q;exact k v t j g D B T
  .cases q
theorem Fw{P:Program}{w:World}{K:FG}{g:SV}{base:Heap}{f:Addr}{x:FuncData}{p:LS}{k:Nat}:FnOk P w K g base oF k f x p (nG K λ_ _=>none):=by
 have n:∀v H Q E,¬nG K (λ_ _=>none) v H Q E:=λv H Q E h=>by obtain⟨F,m,b,S,d,e,_,_,q,_⟩:=h;cases q
 exact⟨λv H Q E h=>absurd h (n v H Q E),λA o s H a u v Q E _ _ _ _ h=>absurd h (n v H Q E)⟩
structure Tr where
 v:Option EV:=none
 e:Option EE:=none
 b:Option EB:=none
 w:Option EB:=none
def Tr.ofV(f:Option EV):Tr:=⟨f,f.map O,f.map λg=>bT (O g),f.map bV⟩
def Tr.ofC(f:Option EV):Tr:=⟨f,f.map O,f.map bV,f.map bV⟩
def Tr.ofE(f:Option EE):Tr:=⟨f.map vE,f,f.map bT,f.map λg=>bV (vE g)⟩
def Tr.ofB(b w:Option EB):Tr:=⟨w.map vB,w.map λg=>O (vB g),b,w⟩
structure Cn where
 N:LS
 own:LS
 deep:LS
 refs:LS
 ks:List (Str×NameKind)
 F:Str->Option GF
 G:Str->Option P
 A:Str->Str->Bool
 M:Str->Str->Option GF
 I:Str->Option GF
 L:Option GF
noncomputable def kx:LS->Str->Option Nat
 | [],_=>none
 |y::r,x=>if y=x then some 0 else (kx r x).map (·+1)
theorem qH:∀{N:LS}{x:Str}{i:Nat},kx N x=some i->N[i]? = some x
 | [],_,_,h=>by cases h
 |y::r,x,i,h=>by
  unfold kx at h;split at h
  .rename_i e;cases h;simp[e]
  .cases q:kx r x with
   |none=>rw[q]at h;cases h
   |some j=>rw[q]at h;cases h;simpa using qH q
theorem oj:∀{N:LS}{x:Str}{i:Nat},N.Nodup->N[i]? = some x->kx N x=some i
 | [],_,_,_,h=>by simp at h
 |y::r,x,0,_,h=>by
  have:y=x:=by simpa using h
  unfold kx;rw[ac this]
 |y::r,x,i+1,d,h=>by
  have a:r[i]? = some x:=by simpa using h
  have n:¬y=x:=λe=>by subst e;exact(bQ.mp d).1 (aZ a)
  unfold kx;rw[af n,oj (bQ.mp d).2 a];rfl
noncomputable def cM(s:List (Str×NameKind))(x:Str)(l:List NameKind):Bool:=match s.lookup x with
 |some k=>l.contains k
 |none=>false
noncomputable def iX(x:Str):Bool:=!(x == ("__debug__":Str)) && !(x == ("__classdict__":Str))
noncomputable def QF:LS:=["listed","_law_seen"]
noncomputable def LI:LS:=[]
def RB:Operator->Option (P->P->Option P)
 | .Add=>some mY
 | .Sub=>some LN
 | .Mult=>some mX
 | .FloorDiv=>some yn
 | .Mod=>some LR
 | .Pow=>some LP
 |_=>none
def Ms:CmpOp->Option (P->P->Option P)
 | .Lt=>some IF
 | .LtE=>some Oo
 | .Gt=>some Q3
 | .GtE=>some Q4
 |_=>none
def Ov:CmpOp->Option (D->D->U->Option P)
 | .Eq=>some Gg
 | .NotEq=>some CZ
 | .In=>some ww
 | .Is=>some vr
 | .IsNot=>some dw
 |_=>none
def FQ (n:Bool) (o:CmpOp):Option (D->D->U->Option P):=if n=true then (match o with
 | .NotIn=>some hY
 |_=>none) else Ov o
def ri:List (Option EV)->Option j_
 | []=>some aS
 |a::r=>a.bind λf=>(ri r).map λg=>aF f g
def B4:List (Option EE)->Option rW
 | []=>some fC
 |a::r=>a.bind λf=>(B4 r).map λg=>bB f g
def vH(o:BoolOp):List (Option EB)->Option EB
 | []=>none
 | [a]=>a
 |a::r=>a.bind λf=>(vH o r).map λg=>match o with | .And=>kG f g | .Or=>C0 f g
def P6(o:Option (Option EV)):Option EO:=match o with
 |none=>some j4
 |some a=>a.map i'
noncomputable def Fc(t:Str):Option String:=if t=("list":Str) then some "list" else if t=("bool":Str) then some "bool" else none
def FW(f:Str):Option (List P->Option P):=
 if f=("int":Str) then some lM else if f=("list":Str) then some iZ else if f=("tuple":Str) then some eY else if f=("abs":Str) then some oC else none
noncomputable def IN:LS:=["len","isinstance","int","bool","tuple","list","str","max","min","dict","range","abs","enumerate","sorted","all","any","sum","set","zip"]
noncomputable def sf(a s:List (Str×NameKind)):List (Str×NameKind):=a.map λ(n,k)=>if (k == .free && s.lookup n == some .cell) then (n,.cell) else (n,k)
def yv(j:Cn)(E:Scope)(o:LS)(Q:List Nat)(n:Nat):Bool:=
 decide (E.kind=.function) && E.names.all (λx=>x.2 != .cell) && E.names.all (λx=>x.2 != .local ||E.names.lookup x.1 == some .local)
  && E.names.all (λx=>x.2 != .free ||(E.names.lookup x.1 == some .free && (j.ks.lookup x.1 == some .cell ||j.ks.lookup x.1 == some .free)))
  && decide (j.N=o.take j.N.length) && decide (o.length=j.N.length+n)
  && E.names.all (λx=>x.2 != .local ||match kx j.N x.1 with|some i=>Q.contains i|none=>true)
def uU(j:Cn)(f g:Str):Bool:=decide (f=g) && cM j.ks f [.globalImplicit]
variable{B:Type}
noncomputable def lE:List B->Option B
 | [a]=>some a
 |_=>none
noncomputable def qf{B:Type}:List B->Option (B×B)
 | [a,b]=>some (a,b)
 |_=>none
theorem d4{B:Type}{l:List B}{a:B}(h:lE l=some a):l=[a]:=by
 unfold lE at h;split at h
 .cases h;rfl
 .cases h
theorem jJ{B:Type}{l:List B}{a b:B}(h:qf l=some (a,b)):l=[a,b]:=by
 unfold qf at h;split at h
 .cases h;rfl
 .cases h
theorem ao{B e:Type}{x:Option B}{f:B->Option e}{r:e}(h:x.bind f=some r):∃a,x=some a/\f a=some r:=by
 cases x with
 |none=>cases h
 |some a=>exact⟨a,rfl,h⟩
theorem az{B e:Type}{x:Option B}{f:B->e}{r:e}(h:x.map f=some r):∃a,x=some a/\r=f a:=by
 cases x with
 |none=>cases h
 |some a=>cases h;exact⟨a,rfl,rfl⟩
theorem IE{B:Type}{c:Prop}[Decidable c]{f:c->Option B}{x:B}(h:(if q:c then f q else none)=some x):c:=by
 by_cases q:c
 .exact q
 .rw [dif_neg q]at h;cases h
section
variable{e:Expr}
noncomputable def Gf(e:Expr):Option Str:=if h:e.ctorIdx=23 then Expr.Name.elim e h λx _=>some x else none
theorem nO{x:Str}(h:Gf e=some x):∃p,e=.Name x p:=by have c:=IE h;revert h;exact Expr.Name.elim e c λ_ p h=>by cases h;exact⟨p,rfl⟩
noncomputable def lg(e:Expr):Option (Ab):=if h:e.ctorIdx=25 then Expr.Tuple.elim e h λs _ _=>some s else none
theorem i6{s:Ab}(h:lg e=some s):∃c p,e=.Tuple s c p:=by have c:=IE h;revert h;exact Expr.Tuple.elim e c λ_ c p h=>by cases h;exact⟨c,p,rfl⟩
noncomputable def Fe(e:Expr):Option (Ab):=if h:e.ctorIdx=24 then Expr.List.elim e h λs _=>some s else none
theorem wq{s:Ab}(h:Fe e=some s):∃p,e=.List s p:=by have c:=IE h;revert h;exact Expr.List.elim e c λ_ p h=>by cases h;exact⟨p,rfl⟩
noncomputable def OE(e:Expr):Option (Expr×Str×Pos):=if h:e.ctorIdx=20 then Expr.Attribute.elim e h λo m p=>some (o,m,p) else none
theorem F7{o:Expr}{m:Str}{p:Pos}(h:OE e=some (o,m,p)):e=.Attribute o m p:=by have c:=IE h;revert h;exact Expr.Attribute.elim e c λ_ _ _ h=>by cases h;rfl
noncomputable def Qj(e:Expr):Option (Expr×Expr):=if h:e.ctorIdx=21 then Expr.Subscript.elim e h λo i _=>some (o,i) else none
theorem Kl{o i:Expr}(h:Qj e=some (o,i)):∃p,e=.Subscript o i p:=by have c:=IE h;revert h;exact Expr.Subscript.elim e c λ_ _ p h=>by cases h;exact⟨p,rfl⟩
noncomputable def Rp(e:Expr):Option (Option Expr×Option Expr×Option Expr):=if h:e.ctorIdx=26 then Expr.Slice.elim e h λi j k _=>some (i,j,k) else none
theorem Kj{i j k:Option Expr}(h:Rp e=some (i,j,k)):∃p,e=.Slice i j k p:=by have c:=IE h;revert h;exact Expr.Slice.elim e c λ_ _ _ p h=>by cases h;exact⟨p,rfl⟩
noncomputable def Q5(e:Expr):Option (Expr×Ab×Pos):=if h:e.ctorIdx=16 then Expr.Call.elim e h λf a k p=>if k.isEmpty=true then some (f,a,p) else none else none
theorem L0{f:Expr}{a:Ab}{p:Pos}(h:Q5 e=some (f,a,p)):e=.Call f a [] p:=by
 have c:=IE h;revert h;exact Expr.Call.elim e c λ_ _ k _ h=>by
  cases k with
  |nil=>cases h;rfl
  |cons _ _=>cases h
end
def sN(e:Expr):Option (Str×Ab):=(Q5 e).bind λz=>(Gf z.1).map λr=>(r,z.2.1)
theorem jr{e:Expr}{r:Str}{a:Ab}(h:sN e=some (r,a)):∃p c,e=.Call (.Name r p) a [] c:=by obtain⟨⟨f,s,c⟩,x,n⟩:=ao h;obtain⟨m,k,b⟩:=az n;obtain⟨p,rfl⟩:=nO k;cases b;exact⟨p,c,L0 x⟩
def RE(e:Expr):Option ((Expr×Str×Pos)×Ab×Pos):=(Q5 e).bind λz=>(OE z.1).map λr=>(r,z.2)
def Ji(j:Cn)(f:Str)(a:Expr):Option Expr:=(sN a).bind λz=>(lE z.2).bind λb=>if (decide (f=("list":Str)) && uU j z.1 "range")=true then some b else none
def Dw(j:Cn)(f:Str)(a:Expr):Option (Expr×Expr):=(sN a).bind λz=>(qf z.2).bind λb=>if (decide (f=("dict":Str)) && uU j z.1 "zip")=true then some b else none
def Hg(j:Cn)(T:Expr->Tr)(t e:Expr):Option j_:=(sN e).elim ((T e).v.map jc) λz=>if uU j z.1 "range"=true then (lE z.2).bind λa=>(T a).v.map iY
  else if uU j z.1 "enumerate"=true then (lE z.2).bind λa=>if (lg t).isSome=true then (T a).v.map lF else none
  else (T e).v.map jc
def J0(N:LS)(s:List (Str×NameKind))(k:List NameKind)(e:Expr):Option kc:=(Gf e).bind λx=>if cM s x k=true then (kx N x).map av else none
def DM(N:LS)(s:List (Str×NameKind))(k:List NameKind):Ab->Option (List kc)
 | []=>some []
 |e::r=>(J0 N s k e).bind λg=>(DM N s k r).map λh=>g::h
def Hf(N:LS)(s:List (Str×NameKind))(k:List NameKind)(e:Expr):Option kc:=(lg e).elim (J0 N s k e) λh=>(DM N s k h).map bF
def ik(e:Expr):LS:=((lg e).getD [e]).filterMap Gf
noncomputable def oQ(N:LS):LS->LS
 | []=>[]
 |t::r=>if (N.contains t ||(oQ N r).contains t)=true then oQ N r else t::oQ N r
def Q6(N:LS)(Q:LS):List Nat:=Q.filterMap λt=>kx N t
def iV(j:Cn)(T:Cn->Expr->Tr)(y t iter:Expr)(i:Ab)(E:Scope):Option EV:=
 if (yv j E (j.N++oQ j.N (ik t)) (Q6 j.N (ik t)) (oQ j.N (ik t)).length && decide (j.N++oQ j.N (ik t)).Nodup)=true then
  (Hf (j.N++oQ j.N (ik t)) (sf E.names j.ks) [.local] t).bind λg=>
   (match i with | []=>some gP | [c]=>(T ⟨j.N++oQ j.N (ik t),j.own.filter (λx=>!(ik t).contains x),[],j.refs,sf E.names j.ks,j.F,j.G,j.A,j.M,j.I,none⟩ c).b|_=>none).bind λc=>
   (T ⟨j.N++oQ j.N (ik t),j.own.filter (λx=>!(ik t).contains x),[],j.refs,sf E.names j.ks,j.F,j.G,j.A,j.M,j.I,none⟩ y).v.bind λe=>
   (Hg j (T j) t iter).map λh=>b8 h (Q6 j.N (ik t)) (oQ j.N (ik t)).length g c e
 else none
def wo(j:Cn):Nat->Expr->Bool
 |0,_=>false
 |n+1,e=>(Gf e).any (j.own.contains ·) ||(Qj e).any (λz=>wo j n z.1) ||(OE e).any (λz=>wo j n z.1) ||(RE e).any λz=>decide (z.1.2.1=("setdefault":Str)) && wo j n z.1.1
def Jb(a:Ab):Option Expr:=(qf a).bind λz=>(Fe z.2).bind λe=>if e.isEmpty=true then some z.1 else none
def x6(e:Expr):Bool:=[20,21,23].contains e.ctorIdx ||(RE e).isSome
def Lv(e:Expr):Bool:=(Gf e).any (QF.contains ·)
noncomputable def f_(e:Expr):Bool:=e.ctorIdx == 8
def Mh(j:Cn)(o:Option EE)(os:Expr)(m:Str)(s:List (Option EE))(p c:Pos):Tr:=
 if (x6 os && (p.endLine == c.line) && decide (s.length < 29))=true then .ofE (o.bind λx=>(B4 s).map λa=>dQ j.M x m a) else {}
def Le(j:Cn)(o:Expr)(m:Str)(n:Str)(a c:Pos):Bool:=decide (m=n) && wo j 4 o && x6 o && (a.endLine == c.line)
def Sd(a:Ab):Option (Expr×Str):=(qf a).bind λz=>(Gf z.2).map λt=>(z.1,t)
def Mu(s:List Comprehension):Option (Expr×Expr×Ab):=(lE s).bind λg=>if g.is_async=0 then some (g.target,g.iter,g.ifs) else none
def Rm(j:Cn)(T:Expr->Tr)(f:Str)(s:Ab):Tr:=if (cM j.ks f [.globalImplicit] && iX f && !s.isEmpty)=true then
  (j.I f).elim ((j.F f).elim
   ((lE s).elim
    ((Sd s).elim {} λz=>if (decide (f=("isinstance":Str)) && cM j.ks z.2 [.globalImplicit])=true then (Fc z.2).elim {} (λt=>.ofV ((T z.1).e.map λx=>r_ t x)) else {})
    λa=>if f=("len":Str) then .ofV ((T a).e.map eG) else if f=("sorted":Str) then .ofV ((T a).e.map DF) else
     (Ji j f a).elim ((Dw j f a).elim (.ofV ((FW f).bind λg=>(ri [(T a).v]).map λx=>cL g x)) λz=>.ofE ((T z.1).v.bind λx=>(T z.2).v.map λy=>yj x y)) λb=>.ofV ((T b).v.map MZ))
   λg=>if j.refs.contains f=true then .ofV ((B4 (s.map λx=>(T x).e)).map λa=>fx g a) else .ofV ((ri (s.map λx=>(T x).v)).map λa=>cL (cG g) a))
  λg=>.ofE ((B4 (s.map λx=>(T x).e)).map λa=>qU g f a)
 else if (cM j.ks f [.local] && iX f)=true then (lE s).elim {} λa=>.ofV (j.L.bind λg=>(kx j.N f).bind λi=>(T a).v.map λx=>qd g i x) else {}
def Rn(j:Cn)(T:Expr->Tr)(o:Expr)(m:Str)(p:Pos)(s:Ab)(c:Pos):Tr:=(lE s).elim
  (if (Le j o m "clear" p c && s.isEmpty)=true then .ofE ((T o).e.map u_) else if (decide (m=("get":Str)) && x6 o && (p.endLine == c.line))=true then (qf s).elim {} (fun z=>.ofV ((T o).v.bind fun x=>(T z.1).v.bind fun y=>(T z.2).v.map fun z=>DG x y z)) else
   (Jb s).elim (Mh j (T o).e o m (s.map λx=>(T x).e) p c) λa=>if Le j o m "setdefault" p c=true then .ofE ((T o).e.bind λx=>(T a).v.map λy=>mU x y (dE aS)) else Mh j (T o).e o m (s.map λx=>(T x).e) p c)
  λa=>if Le j o m "append" p c=true then .ofE ((T o).e.bind λx=>(T a).e.map λy=>bM x y) else
   if Le j o m "extend" p c=true then .ofE ((T o).e.bind λx=>(T a).v.map λy=>fQ x y) else
   if (decide (m=("index":Str)) && x6 o && (p.endLine == c.line))=true then .ofV ((T o).v.bind λx=>(T a).v.map λy=>xx x y) else
   (lg a).elim (Mh j (T o).e o m (s.map λx=>(T x).e) p c) λe=>if Le j o m "get" p c=true then .ofE ((T o).e.bind λx=>(ri (e.map λz=>(T z).v)).map λy=>sF x y) else Mh j (T o).e o m (s.map λx=>(T x).e) p c
def RZ(j:Cn)(T:Expr->Tr)(d:Cn->Expr->Tr)(e:Expr):Tr:=match e with
  | .Constant c _ _=>match c with
   | .int i=>.ofV (some (vC (.int i)))
   | .bool i=>.ofV (some (vC (.bl i)))
   | .none=>.ofV (some (vC .non))
   | .str i=>.ofV (some (vC (.str i)))
   |_=>{}
  | .Name x _=>if (cM j.ks x [.local,.cell,.free] && iX x)=true then .ofE ((kx j.N x).map ak) else
    if (cM j.ks x [.globalImplicit] && iX x)=true then .ofV ((j.G x).bind λv=>if Fg v=true then none else some (vC v)) else {}
  | .BinOp a p b _=>.ofV ((RB p).bind λg=>(T a).v.bind λx=>(T b).v.map λh=>kh g x h)
  | .UnaryOp p a _=>match p with
   | .USub=>.ofV ((T a).v.map (MY CG))
   | .Not=>.ofB ((T a).b.map wT) ((T a).w.map wT)
   |_=>{}
  | .BoolOp p s _=>.ofB (vH p (s.map λx=>(T x).b)) (vH p (s.map λx=>(T x).w))
  | .Compare a n r _=>(lE n).elim (.ofC ((qf n).bind λo=>(qf r).bind λz=>(Ms o.1).bind λg=>(Ms o.2).bind λu=>(T a).v.bind λx=>(T z.1).v.bind λh=>(T z.2).v.map λz=>nC g u x h z))
    λp=>(lE r).elim {} λb=>(Ms p).elim (.ofC ((FQ (Lv b) p).bind λg=>(T a).e.bind λx=>(T b).e.map λh=>dF g x h)) λg=>.ofC ((T a).v.bind λx=>(T b).v.map λh=>kh g x h)
  | .IfExp c a b _=>{ Tr.ofV ((T c).b.bind λq=>(T a).v.bind λx=>(T b).v.map λh=>M0 q x h) with b:=none }
  | .Tuple s _ _=>.ofV ((ri (s.map λx=>(T x).v)).map aL)
  | .List s _=>.ofV ((ri (s.map λx=>(T x).v)).map bu)
  | .Dict k H _=>if (k.isEmpty && H.isEmpty)=true then { e:=some ou,v:=some (vE ou) } else {}
  | .Subscript a i _=>(Rp i).elim (if wo j 4 a=true then (lg i).elim (.ofE ((T a).e.bind λx=>(T i).v.map λh=>mV x h)) λs=>.ofE ((T a).e.bind λx=>(ri (s.map λz=>(T z).v)).map λh=>wF x h) else .ofV ((T a).v.bind λx=>(T i).v.map λh=>kh oP x h))
    λz=>if z.2.2.isSome=true then {} else Tr.ofV ((T a).v.bind λx=>(P6 (z.1.map λh=>(T h).v)).bind λh=>(P6 (z.2.1.map λz=>(T z).v)).map λz=>qc x h z)
  | .Call t m k w=>if k.isEmpty=true then (Gf t).elim ((OE t).elim {} λz=>Rn j T z.1 z.2.1 z.2.2 m w) (λf=>Rm j T f m) else {}
  | .Attribute o f _=>if x6 o=true then .ofE ((T o).e.map λx=>dR j.A x f) else {}
  | .ListComp y l E _=>(Mu l).elim {} λz=>.ofV (iV j d y z.1 z.2.1 z.2.2 E)
  |_=>{}
def tr(j:Cn):Nat->Expr->Tr
 |0,_=>{}
 |n+1,e=>RZ j (λx=>tr j n x) (λh x=>tr h n x) e
def Lk(e:Expr):Bool:=match e with
 | .Lambda ⟨[],[⟨x,none,_⟩],none,[],[],none,[]⟩ (.Call (.Name g _) [.Name r _,.Name y _] [] _) sc p=>decide (x=Str.ofString "standing") && decide (g=Str.ofString "ends_on") && decide (r=Str.ofString "board") && decide (y=Str.ofString "standing") && decide (sc=oK) && decide (p=uP)
 |_=>false
theorem Ih(h:Lk e=true):∃p x a s n,e=.Lambda (wj p) (uQ x a s n) oK uP:=by
 unfold Lk at h;split at h
 .simp only[ar,tT]at h;obtain⟨⟨⟨⟨⟨rfl,rfl⟩,rfl⟩,rfl⟩,rfl⟩,rfl⟩:=h;exact⟨_,_,_,_,_,rfl⟩
 .cases h
def Ll(j:Cn)(a:Ab):Option Expr:=(qf a).bind λz=>if (Lk z.2 && j.deep.contains (Str.ofString "<lambda>") && cM j.ks (Str.ofString "board") [.cell])=true then some z.1 else none
def M5(j:Cn)(n _k:Nat)(e:Expr):Option EE:=(sN e).elim (tr j n e).e λz=>if (cM j.ks z.1 [.globalImplicit] && iX z.1 && !z.2.isEmpty && j.deep.contains z.1)=true then
   (j.F z.1).elim (tr j n e).e λg=>(Ll j z.2).elim ((B4 (z.2.map λx=>(tr j n x).e)).map λa=>gK g a) λa=>(kx j.N (Str.ofString "board")).bind λi=>(tr j n a).v.map λx=>va g i x
  else (tr j n e).e
def OO(j:Cn)(n k:Nat)(e:Expr):Option EE:=M5 j n k e
structure XOk(Γ:Cn)(X:Cx):Prop where
 hN:X.N=Γ.N
 nd:X.N.Nodup
 ks:X.e.scope.names=Γ.ks
 kd:X.e.scope.kind=.function
 calm:X.c=true
 hu:X.A.units+64 < cLine
 fns:∀x g,Γ.F x=some g->∃k f fd ps,FnOk X.p X.w X.K X.g X.b oF k f fd ps (nG X.K g)/\Room k X.A/\X.g x=some (.ref f)/\dH X.K (.ref f)=true/\Binds X.K fd ps []
 blt:∀x ∈ IN,X.g x=none
 glb:∀x v,Γ.G x=some v->np X.w X.K X.g x v
 attrs:Pq X.K Γ.A
 meths:Pn X Γ.M
 mks:∀c g,Γ.I c=some g->∃C k f fd ps,j' X.K c C/\X.g c=some (.ref C)/\Mk X.K C f/\FnOk X.p X.w X.K X.g X.b oF k f fd ps (nG X.K g)/\Room (k+1) X.A/\Binds X.K fd ps (if LI.contains c=true then [.none] else [])
 lam:Γ.deep.contains (Str.ofString "<lambda>")=true->Jx X/\∀x,X.fn x=true
 lmf:∀g,Γ.L=some g->∃k f fd ps,FnOk X.p X.w X.K X.g X.b oF k f fd ps (nG X.K g)/\Room (k+1) X.A/\X.g "ends_on"=some (.ref f)/\dH X.K (.ref f)=true/\Binds X.K fd ps []
structure Good(X:Cx)(ex:Expr)(t:Tr):Prop where
 v:∀f,t.v=some f->Y X ex (tV X.K f)
 e:∀f,t.e=some f->Y X ex (tE X.K f)
 b:∀f,t.b=some f->PT X ex (tQ X.K f)
 w:∀f,t.w=some f->Y X ex (tV X.K (vB f))
section
variable{X:Cx}{e:Expr}
theorem Good.no:Good X e {}:=⟨λ_ h=>(by cases h),λ_ h=>(by cases h),λ_ h=>(by cases h),λ_ h=>(by cases h)⟩
theorem Good.el{B:Type}{o:Option B}{b:Tr}{f:B->Tr}(h:∀a,o=some a->Good X e (f a))(x:o=none->Good X e b):Good X e (o.elim b f):=by
 cases o with
 |none=>exact x rfl
 |some a=>exact h a rfl
theorem Good.ite{c:Prop}[Decidable c]{a b:Tr}(h:c->Good X e a)(x:Good X e b):Good X e (if c then a else b):=by
 by_cases q:c
 .rw [ac q];exact h q
 .rw [af q];exact x
def Gb(e:Expr):Prop:=∀env w,isTrue e env w=(do let v <- w;standAt e.pos;holding [v] (truthy v))
theorem Good.ofV{t:Option EV}(h:∀f,t=some f->Y X e (tV X.K f))(p:Gb e):Good X e (.ofV t) where
 v:=h
 e:=λf q=>by
  cases t with
  |none=>cases q
  |some g=>cases q;exact Me (h _ rfl)
 b:=λf q=>by
  cases t with
  |none=>cases q
  |some g=>cases q;exact yT (Me (h _ rfl)) (p _)
 w:=λf q=>by
  cases t with
  |none=>cases q
  |some g=>cases q;exact AR (h _ rfl)
theorem Good.ofC{t:Option EV}(h:∀f,t=some f->Y X e (tV X.K f))(x:∀f,t=some f->PT X e (tQ X.K (bV f))):Good X e (.ofC t) where
 v:=h
 e:=λf q=>by
  cases t with
  |none=>cases q
  |some g=>cases q;exact Me (h _ rfl)
 b:=λf q=>by
  cases t with
  |none=>cases q
  |some g=>cases q;exact x _ rfl
 w:=λf q=>by
  cases t with
  |none=>cases q
  |some g=>cases q;exact AR (h _ rfl)
theorem Good.ofE{t:Option EE}(h:∀f,t=some f->Y X e (tE X.K f))(p:Gb e):Good X e (.ofE t) where
 v:=λf q=>by
  cases t with
  |none=>cases q
  |some g=>cases q;exact PD (h _ rfl)
 e:=h
 b:=λf q=>by
  cases t with
  |none=>cases q
  |some g=>cases q;exact yT (h _ rfl) (p _)
 w:=λf q=>by
  cases t with
  |none=>cases q
  |some g=>cases q;exact AR (PD (h _ rfl))
theorem Good.ofB{b w:Option EB}(h:∀f,b=some f->PT X e (tQ X.K f))(hw:∀f,w=some f->Y X e (tV X.K (vB f))):Good X e (.ofB b w) where
 v:=λf q=>by
  cases w with
  |none=>cases q
  |some g=>cases q;exact hw _ rfl
 e:=λf q=>by
  cases w with
  |none=>cases q
  |some g=>cases q;exact Me (hw _ rfl)
 b:=h
 w:=hw
end
theorem jg{B x:Type}{o:Option B}{b r:x}{f:B->x}(h:o.elim b f=r):(∃a,o=some a/\f a=r)\/(o=none/\b=r):=by
 cases o with
 |none=>exact .inr ⟨rfl,h⟩
 |some a=>exact .inl ⟨a,rfl,h⟩
def fV(e:Expr):Prop:=∀s env,starEach (e::s) env=(false,eval e env)::starEach s env
structure RdE(e:Expr):Prop where
 st:fV e
 ix:nl e
 mr:∀op,behindInMarks op e=false
 ms:∀op op' b,lastMarks [op,op'] [b,e]=false
 ps:q_ e
 sw:f_ e=false->∀t l env,swapsWith e t l env=pure false
 fs:∀env x,foldedSetIterable e env x=pure x
theorem rd_of{j:Cn}{n:Nat}{e:Expr}(h:(tr j n e).v.isSome=true\/(tr j n e).e.isSome=true):RdE e:=by
 cases n with
 |zero=>rcases h with h|h<;>cases h
 |succ n=>cases e<;>first|(rcases h with h|h<;>cases h;done)|exact⟨λ_ _=>rfl,λ_ _=>rfl,λ_=>rfl,λ_ _ _=>rfl,λ_ _ _ _=>rfl,λc _ _ _=>(by first|rfl|cases c),λ_ _=>rfl⟩
theorem hX{j:Cn}{n:Nat}{e:Expr}{f:EV}(h:(tr j n e).v=some f):RdE e:=rd_of (.inl (by rw[h];rfl))
theorem qA{j:Cn}{n:Nat}{e:Expr}{f:EE}(h:(tr j n e).e=some f):RdE e:=rd_of (.inr (by rw[h];rfl))
variable{env:Env}{u:Pos}
theorem jZ(h:∀e ∈ s,fV e):(backTo u (starEach s env)).any (·.1)=false:=by
 induction s with
 |nil=>rfl
 |cons e s i=>
  rw[h e aH s env];have:=i λx a=>h x (aG _ a)
  unfold backTo at this ⊢;rw[aA,du,this];rfl
section
variable{j:Cn}{X:Cx}(h:XOk j X)
include h
theorem XOk.gl(q:cM j.ks x [.globalImplicit]=true):Gl X x:=by
 unfold Gl Env.kindOf;rw[h.ks];unfold cM at q;cases e:j.ks.lookup x with
 |none=>rw[e]at q;cases q
 |some k=>rw[e]at q;cases k<;>first|rfl|cases q
theorem XOk.vis(q:cM j.ks x [.local,.cell,.free]=true):IU X.e.scope x:=by
 unfold IU;rw[h.ks];unfold cM at q;cases e:j.ks.lookup x with
 |none=>rw[e]at q;cases q
 |some k=>rw[e]at q;cases k<;>first|exact .inl rfl|exact .inr (.inl rfl)|exact .inr (.inr rfl)|cases q
theorem XOk.loc(q:cM j.ks x [.local,.cell]=true):L2.Loc X.e.scope x:=by
 unfold L2.Loc;rw[h.ks];unfold cM at q;cases e:j.ks.lookup x with
 |none=>rw[e]at q;cases q
 |some k=>rw[e]at q;cases k<;>first|exact .inl rfl|exact .inr rfl|cases q
theorem XOk.local(q:cM j.ks x [.local]=true):X.e.scope.names.lookup x=some .local:=by
 rw[h.ks];unfold cM at q;cases e:j.ks.lookup x with
 |none=>rw[e]at q;cases q
 |some k=>rw[e]at q;cases k<;>first|rfl|cases q
omit h in
theorem dA{x:Str}(q:iX x=true):(x == ("__debug__":Str))=false/\(x == ("__classdict__":Str))=false:=by unfold iX at q;rw[ar]at q;exact⟨by simpa using q.1,by simpa using q.2⟩
theorem XOk.get(q:kx j.N x=some i):X.N[i]? = some x:=by rw[h.hN];exact qH q
omit h in
theorem hV{j:Cn}{n:Nat}:∀{s:Ab}{k:j_},(∀e ∈ s,Good X e (tr j n e))->ri (s.map λx=>(tr j n x).v)=some k->PA X s (rh X.K k)/\∀e ∈ s,fV e
 | [],k,_,q=>by cases q;exact⟨IS,λ_ z=>by cases z⟩
 |e::s,k,g,q=>by
  obtain⟨f,b,p⟩:=ao q;obtain⟨r,v,rfl⟩:=az p;obtain⟨m,t⟩:=hV (λx a=>g x (aG _ a)) v;have b:(tr j n e).v=some f:=b;have c:fV e:=(hX b).st;refine⟨Ga ((g e aH).v f b) m (c _ _),λx a=>?_⟩;rcases aN.mp a with a|a
  .subst a;exact c
  .exact t x a
omit h in
theorem mE{j:Cn}{n:Nat}:∀{s:Ab}{k:rW},(∀e ∈ s,Good X e (tr j n e))->B4 (s.map λx=>(tr j n x).e)=some k->PA X s (B5 X.K k)/\∀e ∈ s,fV e
 | [],k,_,q=>by cases q;exact⟨Oh,λ_ z=>by cases z⟩
 |e::s,k,g,q=>by
  obtain⟨f,b,p⟩:=ao q;obtain⟨r,v,rfl⟩:=az p;obtain⟨m,t⟩:=mE (λx a=>g x (aG _ a)) v;have b:(tr j n e).e=some f:=b;have c:fV e:=(qA b).st;refine⟨LJ ((g e aH).e f b) m (c _ _),λx a=>?_⟩;rcases aN.mp a with a|a
  .subst a;exact c
  .exact t x a
omit h in
theorem vF{o:BoolOp}{u:Pos}{j:Cn}{n:Nat}:∀{s:Ab}{f:EB},(∀e ∈ s,Good X e (tr j n e))->vH o (s.map λx=>(tr j n x).b)=some f->PW X (.BoolOp o s u) (tQ X.K f)
 | [],f,_,q=>by cases q
 | [a],f,g,q=>by
  cases o with
  |And=>exact MJ ((g a aH).b f q)
  |Or=>exact Py ((g a aH).b f q)
 |a::b::s,f,g,q=>by
  obtain⟨x,k,m⟩:=ao q;obtain⟨r,t,rfl⟩:=az m;have i:=vF (s:=b::s) (u:=u) (λx c=>g x (aG _ c)) t;cases o with
  |And=>exact PC ((g a aH).b x k) i
  |Or=>exact RR ((g a aH).b x k) i
omit h in
theorem vG{o:BoolOp}{u:Pos}{j:Cn}{n:Nat}:∀{s:Ab}{f:EB},(∀e ∈ s,Good X e (tr j n e))->vH o (s.map λx=>(tr j n x).w)=some f->Y X (.BoolOp o s u) (tV X.K (vB f))
 | [],f,_,q=>by cases q
 | [a],f,g,q=>MV ((g a aH).w f q)
 |a::b::s,f,g,q=>by
  obtain⟨x,k,m⟩:=ao q;obtain⟨r,t,rfl⟩:=az m;have i:=vG (s:=b::s) (u:=u) (λx c=>g x (aG _ c)) t;cases o with
  |And=>exact P1 ((g a aH).w x k) i
  |Or=>exact RS ((g a aH).w x k) i
omit h in
theorem DL{j:Cn}{n:Nat}{o:Option Expr}{f:EO}(g:∀e,Good X e (tr j n e))(q:P6 (o.map λy=>(tr j n y).v)=some f):PO X o (tO X.K f):=by
 cases o with
 |none=>cases q;exact La
 |some e=>obtain⟨x,a,rfl⟩:=az (show((tr j n e).v).map i'=some f from q);exact K' ((g e).v x a)
theorem L3{o:Operator}{g:P->P->Option P}(q:RB o=some g):oS X (binaryOp o) g:=by cases o<;>first|(cases q;exact K5)|(cases q;exact NC)|(cases q;exact K4)|(cases q;exact HU)|(cases q;exact NG)|(cases q;exact ND)|cases q
omit h in
theorem nU{o:CmpOp}{g:P->P->Option P}(q:Ms o=some g):oS X (compareOp o) g:=by cases o<;>first|(cases q;exact Qy)|(cases q;exact Qz)|(cases q;exact QA)|(cases q;exact QB)|cases q
theorem IH{o:CmpOp}{g:D->D->U->Option P}(q:Ov o=some g):i4 X (compareOp o) (rE X.K g):=by cases o<;>first|(cases q;exact NL h.hu)|(cases q;exact NE h.hu)|(cases q;exact NJ h.hu)|(cases q;exact NH)|(cases q;exact EC)|cases q
theorem wI(q:FQ k p=some g):i4 X (compareOp p) (rE X.K g):=by
 cases k
 .exact IH h q
 .cases p<;>first|(cases q;exact EA h.hu)|cases q
theorem IK{f:Str}{g:GF}{a:Expr}{s:Ab}{x:j_}{b u:Pos}(t:j.F f=some g)(hk:cM j.ks f [.globalImplicit]=true)(v:iX f=true)(c:PA X (a::s) (rh X.K x))(n:∀e ∈ a::s,fV e) :
  Y X (.Call (.Name f b) (a::s) [] u) (tV X.K (cL (cG g) x)):=by
 obtain⟨k,w,i,l,G,d,q,p,m⟩:=h.fns f g t;exact MU (FnOk.pure G) d (h.gl hk) q p m c (dA v).1 (n a aH _ _) (jZ λe r=>n e (aG _ r))
theorem wQ{f:Str}{g:GF}{a:Expr}{s:Ab}{x:rW}{c u:Pos}(d:j.F f=some g)(hk:cM j.ks f [.globalImplicit]=true)(q:iX f=true)(m:PA X (a::s) (B5 X.K x))(n:∀e ∈ a::s,fV e) :
  Y X (.Call (.Name f c) (a::s) [] u) (tV X.K (fx g x))/\Y X (.Call (.Name f c) (a::s) [] u) (tE X.K (gK g x)):=by
 obtain⟨k,w,i,l,G,v,t,p,r⟩:=h.fns f g d;exact⟨G5 G v (h.gl hk) t p r m (dA q).1 (n a aH _ _) (jZ fun e b=>n e (aG _ b)),
  JS G v (h.gl hk) t p r m (dA q).1 (n a aH _ _) (jZ λe b=>n e (aG _ b))⟩
theorem L4{f:Str}{g:List P->Option P}{a:Expr}{n:Ab}{b:j_}{m u:Pos}(x:FW f=some g)(hk:cM j.ks f [.globalImplicit]=true)(k:PA X (a::n) (rh X.K b))(c:∀e ∈ a::n,fV e) :
  Y X (.Call (.Name f m) (a::n) [] u) (tV X.K (cL g b)):=by
 have s:=c a aH n X.e;have p:=jZ (env:=X.e) (u:=u) λe s=>c e (aG _ s);unfold FW at x;split at x
 .rename_i e;subst e;cases x;exact JH (h.gl hk) (h.blt _ (by decide)) k s p
 split at x
 .rename_i e;subst e;cases x;exact JG (h.gl hk) (h.blt _ (by decide)) k s p
 split at x
 .rename_i e;subst e;cases x;exact G3 (h.gl hk) (h.blt _ (by decide)) k s p
 split at x
 .rename_i e;subst e;cases x;exact MM (h.gl hk) (h.blt _ (by decide)) k s p
 .cases x
theorem Lu{t:Str}{T:String}{a:Expr}{f:EE}{b p u:Pos}(x:Fc t=some T)(hk:cM j.ks ("isinstance":Str) [.globalImplicit]=true)(k:cM j.ks t [.globalImplicit]=true)(s:Y X a (tE X.K f))(c:fV a) :
  Y X (.Call (.Name "isinstance" b) [a,.Name t p] [] u) (tV X.K (r_ T f)):=by
 have n:starEach [a,.Name t p] X.e=[(false,eval a X.e),(false,eval (.Name t p) X.e)]:=by rw[c];rfl
 have m:=h.blt ("isinstance":Str) (by decide);unfold Fc at x;split at x
 .rename_i e;subst e;cases x;exact IY (.inl rfl) (h.gl hk) m (h.gl k) (h.blt _ (by decide)) tG s (by decide) (by decide) n
 split at x
 .rename_i e;subst e;cases x;exact IY (.inr rfl) (h.gl hk) m (h.gl k) (h.blt _ (by decide)) GR s (by decide) (by decide) n
 .cases x
omit h in
theorem mM{f g:Str}(q:uU j f g=true):f=g/\cM j.ks f [.globalImplicit]=true:=by unfold uU at q;rw[ar]at q;exact⟨aJ q.1,q.2⟩
theorem Jj{n:Nat}{m e:Expr}{f:j_}(g:∀x,Good X x (tr j n x))(q:Hg j (λx=>tr j n x) m e=some f):PI X m e (tI X.K f):=by
 have plain:((tr j n e).v.map jc=some f)->PI X m e (tI X.K f):=λq=>by obtain⟨x,s,rfl⟩:=az q;exact iS ((g e).v x s)
 have d:=jg q;clear q;rcases d with ⟨⟨i,v⟩,z,q⟩|⟨_,q⟩
 .obtain⟨l,u,rfl⟩:=jr z;dsimp only at q;split at q
  .rename_i r;obtain⟨rfl,r⟩:=mM r;obtain⟨a,b,k⟩:=ao q;clear q;cases d4 b;obtain⟨x,s,rfl⟩:=az k;exact Si (h.gl r) (h.blt ("range":Str) (by decide)) ((g a).v x s) ((hX s).st _ _)
  .split at q
   .rename_i r;obtain⟨rfl,r⟩:=mM r;obtain⟨a,b,k⟩:=ao q;clear q;cases d4 b;split at k
    .rename_i t;obtain⟨x,s,rfl⟩:=az k;obtain⟨w,t⟩:=tD.mp t;obtain⟨c,p,rfl⟩:=i6 t;exact Sj (h.gl r) (h.blt ("enumerate":Str) (by decide)) ((g a).v x s) ((hX s).st _ _)
    .cases k
   .exact plain q
 .exact plain q
omit h in
theorem BS{f:Str}{a b c:Expr}(q:Dw j f a=some (b,c)):f="dict"/\∃r p x,a=.Call (.Name r p) [b,c] [] x/\uU j r "zip"=true:=by
 obtain⟨⟨r,m⟩,z,n⟩:=ao q;obtain⟨⟨t,v⟩,k,s⟩:=ao n;clear q n;obtain⟨p,x,rfl⟩:=jr z;cases jJ k;split at s
 .rename_i e;cases s;simp only[ar]at e;exact⟨aJ e.1,r,p,x,rfl,e.2⟩
 .cases s
omit h in
theorem EU{f:Str}{a b:Expr}(q:Ji j f a=some b):f="list"/\∃r p c,a=.Call (.Name r p) [b] [] c/\uU j r "range"=true:=by
 obtain⟨⟨r,m⟩,z,s⟩:=ao q;obtain⟨t,k,e⟩:=ao s;clear q s;obtain⟨p,n,rfl⟩:=jr z;cases d4 k;split at e
 .rename_i x;cases e;simp only[ar]at x;exact⟨aJ x.1,r,p,n,rfl,x.2⟩
 .cases e
omit h in
theorem wn{n:Nat}{t e:Expr}{f:j_}(q:Hg j (λx=>tr j n x) t e=some f)(env:Env)(x:Value):foldedSetIterable e env x=pure x:=by
 have s:=jg q;clear q;rcases s with ⟨⟨b,a⟩,z,q⟩|⟨_,q⟩
 .obtain⟨p,u,rfl⟩:=jr z;rfl
 .obtain⟨x,k,rfl⟩:=az q;exact(hX k).fs _ _
theorem FX(q:yv j E o Q n=true):BlockOk X E o Q n:=by
 unfold yv at q;simp only[ar]at q;obtain⟨⟨⟨⟨⟨⟨f,b⟩,c⟩,m⟩,r⟩,p⟩,v⟩:=q;have s:j.N=o.take j.N.length:=aJ r;refine⟨aJ f,λx a=>?_,λx a l=>?_,λx a l=>?_,?_,?_,λx a l i k=>?_⟩
 .simpa using a_.mp b x a
 .have:=a_.mp c x a;rw[l]at this;simpa using this
 .have:=a_.mp m x a;rw[l]at this;have t:E.names.lookup x.1=some .free/\(j.ks.lookup x.1=some .cell\/j.ks.lookup x.1=some .free):=by simpa using this
  refine⟨t.1,?_⟩;unfold Env.kindOf;rw[h.ks];exact t.2
 .rw [h.hN];exact s
 .rw [h.hN];exact aJ p
 .have:=a_.mp v x a;rw[l]at this;have e:kx j.N x.1=some i:=oj (by rw[<- h.hN];exact h.nd) (by rw[<- h.hN];exact k);rw[e]at this;simpa using this
end
theorem Jg{X:Cx}{N:LS}{s:List (Str×NameKind)}{k:List NameKind}{e:Expr}{g:kc}(f:X.N=N)(d:X.N.Nodup)(hk:∀x,cM s x k=true->L2.Loc X.e.scope x/\(X.fn x=true\/X.e.scope.names.lookup x=some .local))(q:J0 N s k e=some g):∃x p,e=.Name x p/\PG X (.Name x p) (gT X.K g):=by
 obtain⟨x,b,h⟩:=ao q;clear q;obtain⟨p,rfl⟩:=nO b;split at h
 .rename_i c;obtain⟨i,m,rfl⟩:=az h;obtain⟨a,n⟩:=hk _ c;exact⟨x,p,rfl,LB i d (by rw[f];exact qH m) a n⟩
 .cases h
theorem tg_ok{X:Cx}{N:LS}{n:List (Str×NameKind)}{k:List NameKind}{e:Expr}{g:kc}(t:X.c=true)(b:X.N=N)(d:X.N.Nodup)(hk:∀x,cM n x k=true->L2.Loc X.e.scope x/\(X.fn x=true\/X.e.scope.names.lookup x=some .local))(q:Hf N n k e=some g):PG X e (gT X.K g):=by
 have all:∀{s:Ab}{h:List kc},DM N n k s=some h->GsOk X s h:=by
  intro s;induction s with
  |nil=>intro h q;cases q;exact .nil
  |cons e s i=>intro h q;obtain⟨g,f,m⟩:=ao q;obtain⟨r,w,rfl⟩:=az m;clear q m;obtain⟨x,p,rfl,a⟩:=Jg b d hk f;exact .cons a (i w)
 have v:=jg q;clear q;rcases v with ⟨s,z,q⟩|⟨_,q⟩
 .obtain⟨c,p,rfl⟩:=i6 z;obtain⟨h,f,rfl⟩:=az q;exact Lz t (all f)
 .obtain⟨x,p,rfl,a⟩:=Jg b d hk q;exact a
variable{E:Scope}
theorem D8(hk:env.scope.kind=.function):(relabel E env).names=sf E.names env.scope.names:=by unfold relabel sf Env.kindOf;rw[hk];simp
variable{j:Cn}{X:Cx}{o:LS}{Q:List Nat}{n:Nat}
theorem XOk.inn(h:XOk j X)(B:BlockOk X E o Q n)(d:o.Nodup)(s:Shared)(H:Hp)(C:Addr)(f:List Addr) :
  XOk ⟨o,[],[],j.refs,sf E.names j.ks,j.F,j.G,j.A,j.M,j.I,none⟩ (Ev.inn X E o s H C f) where
 hN:=rfl
 nd:=d
 ks:=by show(relabel E X.e).names=_;rw[D8 h.kd,h.ks]
 kd:=B.kind
 calm:=h.calm
 hu:=h.hu
 fns:=h.fns
 blt:=h.blt
 glb:=h.glb
 attrs:=h.attrs
 meths:=h.meths
 mks:=h.mks
 lam:=λz=>by cases z
 lmf:=λg z=>by cases z
theorem jT(B:BlockOk X E o Q n)(I:Inv X m J H s):closureFor E X.e=pure (lL E X.e):=by
 have all:∀x ∈ E.names,x.2=.free->∃c,X.e.cells.lookup x.1=some c:=λx v h=>I.o.has x.1 (B.fr x v h).2;unfold closureFor lL;have f:∀(l:List (Str×NameKind))(a:List (Str×Addr)),(∀x ∈ l,x.2=.free->∃c,X.e.cells.lookup x.1=some c) ->
   (forIn l a fun (x:Str×NameKind) (r:List (Str×Addr))=>(do
    if x.2 == .free then do
     let c <- cellOf X.e x.1
     pure (ForInStep.yield ((x.1,c)::r))
    else pure (ForInStep.yield r):Sem (ForInStep (List (Str×Addr)))))=pure ((((l.filter λx=>x.2 == .free).map λx=>(x.1,(X.e.cells.lookup x.1).getD 0)).reverse)++a):=by
  intro l;induction l with
  |nil=>intro a _;rfl
  |cons x l i=>
   intro a h;rw[iD];by_cases hk:(x.2 == NameKind.free)=true
   .obtain⟨c,b⟩:=h x aH (by simpa using hk);rw[ac hk,ue (p:=λ(x:Str×NameKind)=>x.2 == .free) hk,aA,List.reverse_cons,eS];have q:cellOf X.e x.1=pure c:=by unfold cellOf;rw[b]
    rw[q,b];show(forIn l ((x.1,c)::a) _:Sem _)=_;rw[i ((x.1,c)::a) λy e=>h y (aG _ e)];rfl
   .rw [af hk,ud (p:=λ(x:Str×NameKind)=>x.2 == .free) hk];show(forIn l a _:Sem _)=_;rw[i a λy e=>h y (aG _ e)]
 have k:=f E.names [] all;rw [cZ] at k;show (Bind.bind (forIn E.names [] fun (x:Str×NameKind) (r:List (Str×Addr))=>(do
    if x.2 == .free then do
     let c <- cellOf X.e x.1
     pure (ForInStep.yield ((x.1,c)::r))
    else pure (ForInStep.yield r):Sem (ForInStep (List (Str×Addr))))) λt=>pure t:Sem (List (Str×Addr)))=_
 rw[k];rfl
def nq(n:Nat):Prop:=∀(j:Cn)(X:Cx),XOk j X->∀e,Good X e (tr j n e)
theorem XOk.own(h:XOk j X)(o:LS):XOk ⟨j.N,o,j.deep,j.refs,j.ks,j.F,j.G,j.A,j.M,j.I,j.L⟩ X:=⟨h.hN,h.nd,h.ks,h.kd,h.calm,h.hu,h.fns,h.blt,h.glb,h.attrs,h.meths,h.mks,h.lam,h.lmf⟩
theorem kB{j:Cn}{X:Cx}(h:XOk j X){n:Nat}(G:nq n){y t iter:Expr}{k:Ab}{E:Scope}{f:EV}(q:iV j (λd x=>tr d n x) y t iter k E=some f) :
  ∃o Q m g w u,BlockOk X E o Q m/\re X t iter f Q m g w u/\(∀s H C p,PG (inn X E o s H C p) t (gT X.K g))/\(∀s H C p,PIfs (inn X E o s H C p) k w)/\(∀s H C p,Y (inn X E o s H C p) y (tV X.K u)) /\
   ∀x,foldedSetIterable iter X.e x=pure x:=by
 unfold iV at q;generalize N:j.N++oQ j.N (ik t)=o at q;generalize K:Q6 j.N (ik t)=Q at q;generalize D:(oQ j.N (ik t)).length=m at q;split at q
 .rename_i b;rw[ar]at b;obtain⟨l,P,q⟩:=ao q;obtain⟨c,v,q⟩:=ao q;obtain⟨e,A,q⟩:=ao q;have B:BlockOk X E o Q m:=FX h b.1;have S:o.Nodup:=aJ b.2;have i:=λs H C p=>(h.inn B S s H C p).own (j.own.filter (λx=>!(ik t).contains x))
  have W:re X t iter f Q m l c e/\∀x,foldedSetIterable iter X.e x=pure x:=by
   .obtain⟨I,F,rfl⟩:=az q;exact⟨Ow (Jj h (G j X h) F),λx=>wn F _ x⟩
  refine⟨o,Q,m,l,c,e,B,W.1,λs H C p=>?_,λs H C p=>?_,λs H C p=>?_,W.2⟩
  .exact tg_ok h.calm rfl S (λx z=>⟨.inl ((i s H C p).local z),.inr ((i s H C p).local z)⟩) P
  .cases k with
   |nil=>cases v;exact PIfs.none
   |cons a r=>
    cases r with
    |nil=>exact PIfs.one ((G _ _ (i s H C p) a).b c v)
    |cons _ _=>cases v
  .exact (G _ _ (i s H C p) y).v e A
 .cases q
theorem wJ{j:Cn}{X:Cx}(h:XOk j X){n:Nat}(G:nq n){y t iter:Expr}{k:Ab}{E:Scope}{u:Pos}{f:EV}(q:iV j (λr x=>tr r n x) y t iter k E=some f) :
  Y X (.ListComp y [⟨t,iter,k,0⟩] E u) (tV X.K f)/\∀(i:Nat){x:Str}{c e:Pos},X.N.Nodup->swapsWith (.ListComp y [⟨t,iter,k,0⟩] E u) (some (.Name x c)) e.line X.e=pure true->X.N[i]? = some x->L2.Loc X.e.scope x->(X.fn x=true\/X.e.scope.names.lookup x=some .local) ->
   PS X (.Assign [.Name x c] (.ListComp y [⟨t,iter,k,0⟩] E u) e) (kl X.K (aC i (O f))):=by
 obtain⟨o,Q,m,P,F,K,B,W,v,d,w,g⟩:=kB h G q;exact⟨λp s J H a I q=>MS B h.calm W v d w (jT B I) g p s J H a I q,λi x c e N S b z l p s J H D I q=>MG i N B h.calm W v d w (jT B I) S g b z l p s J H D I q⟩
variable{y:Expr}{f:EV}
theorem sK(h:XOk j X)(G:nq n)(q:iV j (λe x=>tr e n x) y t iter i E=some f):Y X (.ListComp y [⟨t,iter,i,0⟩] E u) (tE X.K (oy f)):=by obtain⟨o,Q,m,g,v,d,B,W,k,b,c,r⟩:=kB h G q;exact λp s J H a I q=>JP B h.calm W k b c (jT B I) r p s J H a I q
variable{x:Str}
theorem CL(h:XOk j X)(G:nq n)(q:iV j (λb x=>tr b n x) y t iter a E=some f)(i:Nat)(z:swapsWith (.ListComp y [⟨t,iter,a,0⟩] E u) (some (.Name x l)) k.line X.e=pure true)
  (e:X.N[i]? = some x) (r:L2.Loc X.e.scope x) (c:X.fn x=true\/X.e.scope.names.lookup x=some .local):PS X (.Assign [.Name x l] (.ListComp y [⟨t,iter,a,0⟩] E u) k) (kl X.K (aC i (oy f))):=by
 obtain⟨o,Q,m,K,S,F,B,W,v,d,w,g⟩:=kB h G q;exact λp s J H D I q=>JC i h.nd B h.calm W v d w (jT B I) z g e r c p s J H D I q
theorem DZ{s:Ab}{a:Expr}(h:Jb s=some a):∃p,s=[a,.List [] p]:=by
 obtain⟨⟨c,b⟩,e,f⟩:=ao h;obtain⟨m,n,x⟩:=ao f;obtain⟨p,rfl⟩:=wq n;split at x
 .rename_i k;cases x;cases l_.mp k;exact⟨p,jJ e⟩
 .cases x
theorem qE{j:Cn}{o:Expr}{m n:Str}{a c:Pos}(h:Le j o m n a c=true):m=n/\x6 o=true/\(a.endLine == c.line)=true:=by unfold Le at h;simp only[ar]at h;exact⟨aJ h.1.1.1,h.1.2,h.2⟩
theorem cT{o:Expr}{x:Str}{env:Env}(h:x6 o=true):attributeBase o x env (eval o env)=eval o env:=by
 cases o with
 |Call f a k p=>
  cases f with
  |Name x q=>cases k<;>cases h
  |_=>rfl
 |_=>rfl
theorem Iy(h:∀e ∈ a,fV e)(l:a.length < 29):methodCallForm (a.length+([]:List Keyword).length) (backTo u (starEach a env)) (backToKw u (keywordEach [] env))=true:=by
 unfold methodCallForm;have s:=jZ (env:=env) (u:=u) h;have n:(backTo u (starEach a env)).all (λx=>!x.1)=true:=by
  rw[a_];intro x f;cases b:x.1 with
  |false=>rfl
  |true=>have:(backTo u (starEach a env)).any (·.1)=true:=ph.mpr ⟨x,f,b⟩;rw[s]at this;cases this
 rw[n];have k:(backToKw u (keywordEach [] env))=[]:=rfl;rw[k];simp;lia
theorem ux{j:Cn}{X:Cx}(h:XOk j X){n:Nat}(g:∀x,Good X x (tr j n x)){o:Expr}{m:Str}{r:Ab}{p k:Pos}:Good X (.Call (.Attribute o m p) r [] k) (Mh j (tr j n o).e o m (r.map λx=>(tr j n x).e) p k):=by
 unfold Mh;split
 .rename_i c;simp only[ar]at c;have l:r.length < 29:=by have:=aJ c.2;rwa [aQ]at this
  refine .ofE (λf q=>?_) λ_ _=>rfl;obtain⟨x,t,q⟩:=ao q;obtain⟨a,v,rfl⟩:=az q;obtain⟨d,s⟩:=mE (λe _=>g e) v;have b:=Lf (o:=o) (y:=m) (j:=p) (N:=k) (u:=r) (v:=X.e) (cT c.1.1) (Iy s l) c.1.2;cases r with
  |nil=>cases v;exact JJ h.meths ((g o).e x t) b
  |cons e i=>exact MO h.meths ((g o).e x t) d (s e aH _ _) (jZ λy w=>s y (aG _ w)) b
 .exact .no
theorem H_{j:Cn}{X:Cx}(h:XOk j X){f:Str}{g:GF}{a:Expr}{s:Ab}{x:rW}{p u:Pos}(t:j.I f=some g)(hk:cM j.ks f [.globalImplicit]=true)(v:iX f=true)(c:PA X (a::s) (B5 X.K x))(n:∀e ∈ a::s,fV e) :
  Y X (.Call (.Name f p) (a::s) [] u) (tE X.K (qU g f x)):=by
 obtain⟨C,k,l,y,z,b,q,mk,G,d,m⟩:=h.mks f g t;have w:=n a aH s X.e;have i:=jZ (env:=X.e) (u:=u) λe r=>n e (aG _ r);exact MP mk G d (h.gl hk) q b m c (dA v).1 w i
theorem yq{g:List Comprehension}{t iter:Expr}{i:Ab}(h:Mu g=some (t,iter,i)):g=[⟨t,iter,i,0⟩]:=by
 obtain⟨⟨a,b,c,d⟩,x,p⟩:=ao h;split at p
 .rename_i hd;cases p;cases (show d=0 from hd);exact d4 x
 .cases p
section
variable{j:Cn}{X:Cx}(h:XOk j X){n:Nat}(g:∀x,Good X x (tr j n x))
include h g
theorem J2{f:Str}{z:Ab}{I D:Pos}:Good X (.Call (.Name f I) z [] D) (Rm j (λx=>tr j n x) f z):=by
 refine .ite (λs=>?_) (.ite (λs=>.el (λa u=>?_) λ_=>.no) .no);rotate_left
 .rw [ar]at s;cases d4 u;refine .ofV (λf2 q=>?_) λ_ _=>rfl;obtain⟨M,q0,q⟩:=ao q;obtain⟨i,m,q⟩:=ao q;obtain⟨x,p,rfl⟩:=az q;obtain⟨k,fe,fd,ps,G,v,N,hk,l⟩:=h.lmf M q0;have Q:IU X.e.scope f:=by
   unfold IU;rw[h.ks];have s:=s.1;unfold cM at s;split at s
   .rename_i R E;rw[E];cases R<;>first|exact .inl rfl|cases s
   .cases s
  exact JU G v N hk l (MN i (h.get m) Q (dA s.2).1 (dA s.2).2) ((g _).v x p) ((hX p).st _ _)
 simp only[ar,mn]at s;cases z with
 |nil=>cases s.2
 |cons a z=>
 refine .el (λL H=>?_) λ_=>.el (λL H=>.ite (λ_=>?_) ?_) λ_=>.el (λP u=>?_) λ_=>.el (λ⟨P,t⟩ u=>?_) λ_=>.no
 .refine .ofE (λf q=>?_) λ_ _=>rfl;obtain⟨x,m,rfl⟩:=az q;obtain⟨d,w⟩:=mE (λe _=>g e) m;exact H_ h H s.1.1 s.1.2 d w
 .refine .ofV (λf q=>?_) λ_ _=>rfl;obtain⟨x,m,rfl⟩:=az q;obtain⟨d,w⟩:=mE (λe _=>g e) m;exact(wQ h H s.1.1 s.1.2 d w).1
 .refine .ofV (λf q=>?_) λ_ _=>rfl;obtain⟨x,m,rfl⟩:=az q;obtain⟨d,w⟩:=hV (λe _=>g e) m;exact IK h H s.1.1 s.1.2 d w
 .cases d4 u;refine .ite (λF=>?_) (.ite (λF=>?_) (.el (λb l=>?_) λ_=>.el (λ⟨b,c⟩ l=>?_) λ_=>?_))
  .subst F;refine .ofV (λf q=>?_) λ_ _=>rfl
   obtain⟨x,m,rfl⟩:=az q;exact PU (h.gl s.1.1) (h.blt _ (by decide)) ((g _).e x m) ((qA m).st _ _)
  .subst F;refine .ofV (λf q=>?_) λ_ _=>rfl
   obtain⟨x,m,rfl⟩:=az q;exact DC (h.gl s.1.1) (h.blt _ (by decide)) ((g _).e x m) ((qA m).st _ _)
  .obtain⟨rfl,r,Z,C,rfl,v⟩:=EU l;refine .ofV (λf q=>?_) λ_ _=>rfl;obtain⟨x,m,rfl⟩:=az q;obtain⟨rfl,v⟩:=mM v;exact G4 h.calm (h.gl s.1.1) (h.blt _ (by decide)) (h.gl v) (h.blt _ (by decide)) ((g _).v x m) ((hX m).st _ _)
  .obtain⟨rfl,r,Z,C,rfl,v⟩:=BS l;refine .ofE (λf q=>?_) λ_ _=>rfl;obtain⟨x,m,q⟩:=ao q;obtain⟨y,p,rfl⟩:=az q;obtain⟨rfl,v⟩:=mM v;have K:starEach [c] X.e=[(false,eval c X.e)]:=(hX p).st _ _;exact JL h.calm (h.gl s.1.1) (h.blt _ (by decide)) (h.gl v) (h.blt _ (by decide)) ((g _).v x m) ((g _).v y p) (by rw[(hX m).st,K]) K GY
  .refine .ofV (λf q=>?_) λ_ _=>rfl;obtain⟨o,m,q⟩:=ao q;obtain⟨x,p,rfl⟩:=az q;obtain⟨d,w⟩:=hV (s:=[a]) (λe _=>g e) p;exact L4 h m s.1.1 d w
 .refine .ite (λS=>?_) .no;rw[ar]at S;cases aJ S.1;obtain⟨⟨d,w⟩,A,V⟩:=ao u;obtain⟨t',B,W⟩:=az V;cases W;obtain⟨tp,rfl⟩:=nO B;cases jJ A;refine .el (λT m=>?_) λ_=>.no;refine .ofV (λf q=>?_) λ_ _=>rfl;obtain⟨x,p,rfl⟩:=az q;exact Lu h m s.1.1 S.2 ((g _).e x p) (qA p).st
theorem J8{o:Expr}{m:Str}{w:Ab}{u i:Pos}:Good X (.Call (.Attribute o m u) w [] i) (Rn j (λx=>tr j n x) o m u w i):=by
 have l:X.A.units+1 < cLine:=by have:=h.hu;lia
 refine .el (λa d=>?_) λ_=>?_
 .cases d4 d;refine .ite (λs=>?_) (.ite (λs=>?_) (.ite (λs=>?_) (.el (λA K=>.ite (λs=>?_) (ux h g)) λ_=>ux h g)))
  .obtain⟨rfl,t,v⟩:=qE s;refine .ofE (λf q=>?_) λ_ _=>rfl;obtain⟨x,r,q⟩:=ao q;obtain⟨y,k,rfl⟩:=az q;exact G8 ((g _).e x r) ((g _).e y k) ((qA k).st _ _) (cT t) v
  .obtain⟨rfl,t,v⟩:=qE s;refine .ofE (λf q=>?_) λ_ _=>rfl;obtain⟨x,r,q⟩:=ao q;obtain⟨y,k,rfl⟩:=az q;exact G7 ((g _).e x r) ((g _).v y k) ((hX k).st _ _) (cT t) v
  .simp only[ar]at s;cases aJ s.1.1;refine .ofV (λf q=>?_) λ_ _=>rfl;obtain⟨x,r,q⟩:=ao q;obtain⟨y,k,rfl⟩:=az q;exact JK h.hu ((g _).v x r) ((g _).v y k) ((hX k).st _ _) (cT s.1.2) s.2
  .obtain⟨c,p,rfl⟩:=i6 K;obtain⟨rfl,t,v⟩:=qE s;refine .ofE (λf q=>?_) λ_ _=>rfl;obtain⟨x,r,q⟩:=ao q;obtain⟨y,k,rfl⟩:=az q;exact MR l ((g _).e x r) (hV (λe _=>g e) k).1 ⟨cT t,rfl,v,rfl⟩
 .refine .ite (λs=>?_) (.ite (λs=>.el (λ⟨a,b⟩ d=>?_) λ_=>.no) (.el (λa d=>.ite (λs=>?_) (ux h g)) λ_=>ux h g))
  .rw [ar]at s;obtain⟨rfl,t,v⟩:=qE s.1;cases w with
   |cons _ _=>cases s.2
   |nil=>refine .ofE (λf q=>?_) λ_ _=>rfl;obtain⟨x,r,rfl⟩:=az q;exact JQ ((g _).e x r) (cT t) v
  .simp only[ar]at s;cases aJ s.1.1;cases jJ d;refine .ofV (λf q=>?_) λ_ _=>rfl;obtain⟨x,r,q⟩:=ao q;obtain⟨y,k,q⟩:=ao q;obtain⟨z,S,rfl⟩:=az q;have P:starEach [b] X.e=[(false,eval b X.e)]:=(hX S).st _ _;have F:starEach [a,b] X.e=[(false,eval a X.e),(false,eval b X.e)]:=by rw[(hX k).st,P]
   exact JI l ((g _).v x r) ((g _).v y k) ((g _).v z S) ⟨cT s.1.2,by rw[F];rfl,s.2,by rw[F];rfl⟩
  .obtain⟨p,rfl⟩:=DZ d;obtain⟨rfl,t,v⟩:=qE s;refine .ofE (λf q=>?_) λ_ _=>rfl;obtain⟨x,r,q⟩:=ao q;obtain⟨y,k,rfl⟩:=az q;have H:=(hX k).st;exact G6 ((g _).e x r) ((g _).v y k) (IZ IS) ⟨cT t,by rw[H];rfl,v,by rw[H];rfl⟩
end
theorem mD:∀n,nq n
 |0=>λj X h e=>Good.no
 |n+1=>by
  have G:=mD n;intro j X h e;have g:=G j X h;cases e with
  |Constant c k p=>
   cases c with
   |int i=>exact .ofV (λf q=>by cases q;exact PY) λ_ _=>rfl
   |bool i=>exact .ofV (λf q=>by cases q;exact RW) λ_ _=>rfl
   |none=>exact .ofV (λf q=>by cases q;exact PM) λ_ _=>rfl
   |str i=>exact .ofV (λf q=>by cases q;exact PH) λ_ _=>rfl
   |_=>exact .no
  |Name x p=>
   refine .ite (λw=>?_) (.ite (λw=>?_) .no)
   .rw [ar]at w;refine .ofE (λf q=>?_) λ_ _=>rfl;obtain⟨i,r,rfl⟩:=az q;exact MN i (h.get r) (h.vis w.1) (dA w.2).1 (dA w.2).2
   .rw [ar]at w;refine .ofV (λf q=>?_) λ_ _=>rfl;obtain⟨v,r,q⟩:=ao q;split at q
    .cases q
    .rename_i hd;cases q;exact MQ (h.gl w.1) ((h.glb _ v r).1 (by simpa using hd)) (dA w.2).1
  |BinOp a l b p=>refine .ofV (λf q=>?_) λ_ _=>rfl;obtain⟨o,r,q⟩:=ao q;obtain⟨x,t,q⟩:=ao q;obtain⟨s,d,rfl⟩:=az q;exact RT (L3 h r) ((g _).v x t) ((g _).v s d)
  |UnaryOp l a p=>
   cases l with
   |USub=>refine .ofV (λf q=>?_) λ_ _=>rfl;obtain⟨x,r,rfl⟩:=az q;exact PP ((g _).v x r)
   |Not=>
    refine .ofB (λf q=>?_) λf q=>?_
    .obtain⟨x,r,rfl⟩:=az q;exact Pz ((g _).b x r)
    .obtain⟨x,r,rfl⟩:=az q;exact PK ((g _).w x r)
   |_=>exact .no
  |BoolOp l K p=>exact .ofB (λf q=>(vF (λe _=>g e) q).pt) λf q=>vG (λe _=>g e) q
  |Compare a H F p=>
   refine .el (λl A=>?_) λ_=>?_
   .cases d4 A;refine .el (λb Q=>?_) λ_=>.no
    cases d4 Q;refine .el (λP r=>?_) λ_=>?_
    .have u:∀f,((tr j n a).v.bind λx=>(tr j n b).v.map λs=>kh P x s)=some f->Y X (.Compare a [l] [b] p) (tV X.K f)/\PT X (.Compare a [l] [b] p) (tQ X.K (bV f)):=λf q=>by
      obtain⟨x,t,q⟩:=ao q;obtain⟨s,d,rfl⟩:=az q;exact⟨P0 (nU r) ((g _).v x t) ((g _).v s d) ((hX d).mr _),PB (nU r) ((g _).v x t) ((g _).v s d) ((hX d).mr _)⟩
     exact .ofC (λf q=>(u f q).1) λf q=>(u f q).2
    .have u:∀f,((FQ (Lv b) l).bind λg=>(tr j n a).e.bind λx=>(tr j n b).e.map λs=>dF g x s)=some f->Y X (.Compare a [l] [b] p) (tV X.K f)/\PT X (.Compare a [l] [b] p) (tQ X.K (bV f)):=λf q=>by
      obtain⟨o,r,q⟩:=ao q;obtain⟨x,t,q⟩:=ao q;obtain⟨s,d,rfl⟩:=az q;exact⟨MT (wI h r) ((g _).e x t) ((g _).e s d) ((qA d).mr _),MH (wI h r) ((g _).e x t) ((g _).e s d) ((qA d).mr _)⟩
     exact .ofC (λf q=>(u f q).1) λf q=>(u f q).2
   .have u:∀f,((qf H).bind λo=>(qf F).bind λz=>(Ms o.1).bind λg=>(Ms o.2).bind λP=>(tr j n a).v.bind λx=>(tr j n z.1).v.bind λs=>(tr j n z.2).v.map λz=>nC g P x s z)=some f->Y X (.Compare a H F p) (tV X.K f)/\PT X (.Compare a H F p) (tQ X.K (bV f)):=λf q=>by
     obtain⟨⟨o1,o2⟩,L,D⟩:=ao q;obtain⟨⟨b,c⟩,M,p1⟩:=ao D;clear q D;cases jJ L;cases jJ M;obtain⟨o,r,q⟩:=ao p1;obtain⟨o',t,q⟩:=ao q;obtain⟨x,d,q⟩:=ao q;obtain⟨s,I,q⟩:=ao q;obtain⟨z,S,rfl⟩:=az q;exact⟨JR (nU r) (nU t) ((g _).v x d) ((g _).v s I) ((g _).v z S) ((hX S).ms _ _ _),JD (nU r) (nU t) ((g _).v x d) ((g _).v s I) ((g _).v z S) ((hX S).ms _ _ _)⟩
    exact .ofC (λf q=>(u f q).1) λf q=>(u f q).2
  |IfExp c a b p=>
   have C:∀f,((tr j n c).b.bind λq=>(tr j n a).v.bind λx=>(tr j n b).v.map λs=>M0 q x s)=some f->Y X (.IfExp c a b p) (tV X.K f):=λf q=>by obtain⟨o,r,q⟩:=ao q;obtain⟨x,t,q⟩:=ao q;obtain⟨s,d,rfl⟩:=az q;exact RV ((g _).b o r) ((g _).v x t) ((g _).v s d)
   refine⟨C,λf q=>?_,λf q=>(by cases q),λf q=>?_⟩
   .obtain⟨x,r,rfl⟩:=az (show tB O _=some f from q);exact Me (C _ r)
   .obtain⟨x,r,rfl⟩:=az (show tB bV _=some f from q);exact AR (C _ r)
  |Tuple K c p=>refine .ofV (λf q=>?_) λ_ _=>rfl;obtain⟨x,r,rfl⟩:=az q;exact PF (hV (λe _=>g e) r).1
  |List K p=>refine .ofV (λf q=>?_) λ_ _=>rfl;obtain⟨x,r,rfl⟩:=az q;exact PQ (hV (λe _=>g e) r).1
  |Dict Z vs p=>refine .ite (λw=>?_) .no;rw[ar]at w;cases l_.mp w.1;cases l_.mp w.2;exact⟨λf q=>(by cases q;exact PD DD),λf q=>(by cases q;exact DD),λf q=>(by cases q),λf q=>(by cases q)⟩
  |Subscript a i p=>
   have B:X.A.units+1 < cLine:=by have:=h.hu;lia
   refine .el (λ⟨lo,hi,st⟩ T=>?_) λ_=>.ite (λ_=>.el (λK N=>?_) λ_=>?_) ?_
   .obtain⟨p,rfl⟩:=Kj T;cases st with
    |some _=>exact .no
    |none=>
     refine .ite (λ_=>.no) (.ofV (λf q=>?_) λ_ _=>rfl)
     .obtain⟨x,r,q⟩:=ao q;obtain⟨s,t,q⟩:=ao q;obtain⟨z,d,rfl⟩:=az q;exact PJ ((g _).v x r) (DL g t) (DL g d)
   .obtain⟨c,p,rfl⟩:=i6 N;refine .ofE (λf q=>?_) λ_ _=>rfl;obtain⟨x,r,q⟩:=ao q;obtain⟨s,t,rfl⟩:=az q;exact PV B ((g _).e x r) (hV (λe _=>g e) t).1 λ_ _=>rfl
   .refine .ofE (λf q=>?_) λ_ _=>rfl;obtain⟨x,r,q⟩:=ao q;obtain⟨s,t,rfl⟩:=az q;exact PX B ((g _).e x r) ((g _).v s t) (hX t).ix
   .refine .ofV (λf q=>?_) λ_ _=>rfl;obtain⟨x,r,q⟩:=ao q;obtain⟨s,t,rfl⟩:=az q;exact RU B ((g _).v x r) ((g _).v s t) (hX t).ix
  |Call fn as Z cp=>
   refine .ite (λhk=>?_) .no;cases l_.mp hk;refine .el (λf R=>?_) λ_=>.el (λ⟨o,m,ap⟩ A=>?_) λ_=>.no
   .obtain⟨fp,rfl⟩:=nO R;exact J2 h g
   .cases F7 A;exact J8 h g
  |Attribute o f p=>refine .ite (λw=>?_) .no;refine .ofE (λf q=>?_) λ_ _=>rfl;obtain⟨x,r,rfl⟩:=az q;exact PZ h.attrs ((g _).e x r) (cT w)
  |ListComp y gs E p=>refine .el (λ⟨tg,iter,W⟩ V=>?_) λ_=>.no;cases yq V;exact .ofV (λf q=>(wJ h G q).1) λ_ _=>rfl
  |_=>exact .no
theorem AY{j:Cn}{X:Cx}(h:XOk j X){n k:Nat}{e:Expr}{f:EE}(q:M5 j n k e=some f):Y X e (tE X.K f)/\(f_ e=false->∀t l env,swapsWith e t l env=pure false)/\fV e:=by
 have g:=mD n j X h;have v:∀{e},(tr j n e).e=some f->Y X e (tE X.K f)/\(f_ e=false->∀t l env,swapsWith e t l env=pure false)/\fV e:=λq=>⟨(g _).e f q,(qA q).sw,(qA q).st⟩;have I:=jg q;clear q;rcases I with ⟨⟨Q,r⟩,z,q⟩|⟨_,q⟩
 .obtain⟨T,N,rfl⟩:=jr z;dsimp only at q;split at q
  .rename_i c;simp only[ar,mn]at c;rcases jg q with ⟨F,w,q⟩|⟨_,q⟩
   .refine⟨?_,(λ_ _ _ _=>rfl),λ_ _=>rfl⟩;cases r with
    |nil=>cases c.1.2
    |cons a L=>
     rcases jg q with ⟨b,A,d⟩|⟨_,q⟩
     .obtain⟨⟨M,V⟩,H,p⟩:=ao A;split at p
      .rename_i y;cases p;simp only[ar]at y;cases jJ H;obtain⟨p,W,Z,p4,p5,rfl⟩:=Ih y.1.1;obtain⟨i,qi,d⟩:=ao d;obtain⟨x,s,rfl⟩:=az d;obtain⟨k,f,R,ps,G,C,B,hk,P⟩:=h.fns _ F w;obtain⟨E,m⟩:=h.lam y.1.2;have K:X.e.scope.names.lookup (Str.ofString "board")=some .cell:=by
        rw[h.ks];have z:=y.2;unfold cM at z;split at z
        .rename_i D S;rw[S];cases D<;>first|rfl|cases z
        .cases z
       exact JT G C (h.gl c.1.1.1) B hk P E (h.get qi) K (m _) ((g _).v x s) (dA c.1.1.2).1 ((hX s).st _ _)
      .cases p
     .obtain⟨x,s,rfl⟩:=az q;obtain⟨u,o⟩:=mE (λe _=>g e) s;exact(wQ h w c.1.1.1 c.1.1.2 u o).2
   .exact v q
  .exact v q
 .exact v q
theorem qh{j:Cn}{X:Cx}(h:XOk j X){n k:Nat}{e:Expr}{f:EE}(q:OO j n k e=some f):Y X e (tE X.K f)/\(f_ e=false->∀t l env,swapsWith e t l env=pure false):=⟨(AY h q).1,(AY h q).2.1⟩
def vL(T:Stmt->Option ES):List Stmt->Option ES
 | []=>some fY
 | [s]=>T s
 |s::r=>(T s).bind λf=>(vL T r).map λg=>ai f g
noncomputable def NY(e:Expr):Option Unit:=if h:e.ctorIdx=6 then Expr.Dict.elim e h λk v _=>if (k.isEmpty && v.isEmpty)=true then some () else none else none
theorem Ir{e:Expr}{u:Unit}(h:NY e=some u):∃p,e=.Dict [] [] p:=by
 have c:=IE h;revert h;exact Expr.Dict.elim e c λk v p h=>by
  cases k with
  |cons _ _=>cases h
  |nil=>
   cases v with
   |cons _ _=>cases h
   |nil=>exact⟨p,rfl⟩
def NX(e:Expr):Option (Expr×Expr):=if h:e.ctorIdx=6 then Expr.Dict.elim e h λs x _=>(lE s).bind λk=>k.bind λk=>(lE x).map λv=>(k,v) else none
theorem Iq(h:NX e=some (k,v)):∃p,e=.Dict [some k] [v] p:=by
 have c:=IE h;revert h;exact Expr.Dict.elim e c λb r p h=>by obtain⟨n,x,h⟩:=ao h;obtain⟨f,a,h⟩:=ao h;obtain⟨m,s,h⟩:=az h;cases h;cases d4 x;cases d4 s;cases (show n=some k from a);exact⟨p,rfl⟩
def Sy(j:Cn)(e:Expr):Option Expr:=(sN e).bind λz=>(lE z.2).bind λa=>if uU j z.1 "dict"=true then some a else none
def Rl(j:Cn)(n:Nat)(t v:Expr):Option ES:=
 (Gf t).elim ((Qj t).elim ((OE t).elim (if f_ v=true then none else (lg t).bind fun _=>if (lg v).isSome=true then none else (Hf j.N j.ks [.local,.cell] t).bind fun g=>(tr j n v).v.map fun z=>xJ g z)
   λz=>if ((NY v).isSome && j.deep.contains z.2.1)=true then (tr j n z.1).e.map λx=>n0 j.A x z.2.1 yk else (tr j n z.1).e.bind λx=>(OO j n 5 v).map λy=>n0 j.A x z.2.1 y)
  λz=>if f_ v=true then none else (tr j n z.1).e.bind λx=>(tr j n v).v.bind λw=>if Lv z.1=true then (tr j n z.2).v.map λy=>se x y w else (lg z.2).elim ((tr j n z.2).v.map λy=>i8 x y w) λe=>(ri (e.map λz=>(tr j n z).v)).map λy=>D0 x y w)
 λx=>if cM j.ks x [.local,.cell]=true then (kx j.N x).bind λi=>(if QF.contains x=true then Sy j v else none).elim ((if QF.contains x=true then NX v else none).elim (if (j.deep.contains x && !f_ v)=true then (OO j n 5 v).map (aC i) else (if j.own.contains x=true then Fe v else none).elim (if (j.own.contains x && f_ v)=true then (tr j n v).v.map λf=>aC i (oy f) else (tr j n v).e.map (aC i)) λe=>(ri (e.map λy=>(tr j n y).v)).map λa=>aC i (dE a)) λz=>(tr j n z.1).v.bind λx=>(tr j n z.2).v.map λy=>aC i (u9 x y)) λa=>(tr j n a).v.map λf=>aC i (u7 f)
  else none
def P5(j:Cn)(n:Nat)(e:Expr):Option ES:=if f_ e=true then (tr j n e).v.map λf=>be (oy f) else
 (OO j n 5 e).map be
def JY(j:Cn):Nat->Stmt->Option ES
 |0,_=>none
 |n+1,st=>match st with
  | .Assign Q v _=>(lE Q).bind λt=>Rl j n t v
  | .Return r _=>r.bind λe=>if j.own.contains ("return":Str)=true then P5 j n e else (tr j n e).e.map be
  | .AugAssign t p v _=>(Gf t).bind λx=>if (cM j.ks x [.local,.cell] && decide (p.ctorIdx=Operator.Add.ctorIdx))=true then (kx j.N x).bind λi=>(tr j n v).v.map (D2 i) else none
  | .Raise ..=>some uF
  | .Expr e _=>if f_ e=true then none else (tr j n e).e.map b9
  | .If c a b _=>(tr j n c).b.bind λq=>(vL (JY j n) a).bind λx=>(vL (JY j n) b).map λy=>dG q x y
  | .While c o l _=>if l.isEmpty=false then none else (tr j n c).b.bind λq=>(vL (JY j n) o).map λb=>nH 1000 q b
  | .For h iter o l _=>if l.isEmpty=false then none else (Hf j.N j.ks [.local,.cell] h).bind λg=>(Hg j (λy=>tr j n y) h iter).bind λs=>(vL (JY j n) o).map λb=>cw s g b
  |_=>none
theorem EF{e:Ab}{c:Nat}{p:Pos}{v:Expr}{env:Env}(h:¬(lg v).isSome=true):swappedStores [.Tuple e c p] v env=pure none:=by cases v<;>first|rfl|exact absurd rfl h
theorem He{j:Cn}{n:Nat}{y:Expr}{g:List Comprehension}{E:Scope}{u:Pos}{f:EE}(h:(tr j n (.ListComp y g E u)).e=some f) :
  ∃k t iter i s,n=k+1/\g=[⟨t,iter,i,0⟩]/\iV j (λa x=>tr a k x) y t iter i E=some s/\f=O s:=by
 cases n with
 |zero=>cases h
 |succ n=>
  replace h:((Mu g).elim {} λz=>Tr.ofV (iV j (λa x=>tr a n x) y z.1 z.2.1 z.2.2 E)).e=some f:=h;cases e:Mu g with
  |none=>rw[e]at h;cases h
  |some z=>rw[e]at h;obtain⟨x,q,rfl⟩:=az (show tB O _=some f from h);exact⟨n,_,_,_,x,rfl,yq e,q,rfl⟩
theorem kX{X:Cx}{T:Stmt->Option ES}(h:∀st f,T st=some f->PS X st (kl X.K f)):∀{a:List Stmt}{f:ES},vL T a=some f->nZ X a (kl X.K f)
 | [],f,q=>by cases q;exact Pu
 | [s],f,q=>Pt (h s f q)
 |s::t::r,f,q=>by obtain⟨x,e,q⟩:=ao q;obtain⟨y,n,rfl⟩:=az q;exact MF (h s x e) (kX h n)
theorem vK(h:(tr j n (.ListComp y s E u)).v=some f) :
  ∃k t iter i,n=k+1/\s=[⟨t,iter,i,0⟩]/\iV j (λa x=>tr a k x) y t iter i E=some f:=by
 cases n with
 |zero=>cases h
 |succ n=>
  replace h:((Mu s).elim {} λz=>Tr.ofV (iV j (λa x=>tr a n x) y z.1 z.2.1 z.2.2 E)).v=some f:=h;cases e:Mu s with
  |none=>rw[e]at h;cases h
  |some z=>rw[e]at h;exact⟨n,_,_,_,rfl,yq e,h⟩
theorem JZ{j:Cn}{X:Cx}(h:XOk j X){n:Nat}{e:Expr}{p:Pos}{f:ES}(q:P5 j n e=some f):PS X (.Return (some e) p) (kl X.K f):=by
 have g:=mD n j X h;unfold P5 at q;split at q
 .rename_i l;have c:e.ctorIdx=8:=eq_of_beq l;obtain⟨m,s,rfl⟩:=az q;clear q l;revert s;refine Expr.ListComp.elim e c λa r c d s=>?_
  obtain⟨k,t,iter,i,rfl,rfl,b⟩:=vK s;exact JA (sK h (mD k) b)
 .obtain⟨x,s,rfl⟩:=az q;exact JA (qh h s).1
theorem J1{j:Cn}{X:Cx}(h:XOk j X)(H:∀x,X.fn x=true){n:Nat}{t l:Expr}{Q:Pos}{f:ES}(q:Rl j n t l=some f):PS X (.Assign [t] l Q) (kl X.K f):=by
 have g:=mD n j X h;have R:X.A.units+1 < cLine:=by have:=h.hu;lia
 rcases jg q with ⟨x,hx,B⟩|⟨_,B⟩
 .clear q;obtain⟨N,rfl⟩:=nO hx;split at B
  .rename_i hk;obtain⟨i,qi,q⟩:=ao B;have qq:=jg q;clear q B;rcases qq with ⟨a,E,q⟩|⟨_,B⟩
   .split at E
    .obtain⟨⟨r,as⟩,b1,K⟩:=ao E;obtain⟨a',b2,K⟩:=ao K;clear E;obtain⟨fp,cp,rfl⟩:=jr b1;cases d4 b2;split at K
     .rename_i W;cases K;obtain⟨rfl,W⟩:=mM W;obtain⟨z,m,rfl⟩:=az q;exact xt i h.nd (JN h.calm (by have:=h.hu;lia) (h.gl W) (h.blt ("dict":Str) (by decide)) ((g _).v z m) ((hX m).st _ _)) (h.get qi) (h.loc hk) rfl (.inl (H x))
     .cases K
    .cases E
   have qq:=jg B;clear B;rcases qq with ⟨⟨a,b⟩,E,q⟩|⟨_,q⟩
   .split at E
    .obtain⟨p,rfl⟩:=Iq E;obtain⟨y,m,q⟩:=ao q;obtain⟨z,S,rfl⟩:=az q;exact xt i h.nd (JO (by have:=h.hu;lia) ((g _).v y m) ((g _).v z S)) (h.get qi) (h.loc hk) rfl (.inl (H x))
    .cases E
   split at q
   .rename_i hd;rw[ar]at hd;obtain⟨V,m,rfl⟩:=az q;exact xt i h.nd (qh h m).1 (h.get qi) (h.loc hk) ((qh h m).2 (by simpa using hd.2) _ _ _) (.inl (H x))
   .rcases jg q with ⟨T,D,q⟩|⟨_,q⟩
    .split at D
     .obtain⟨a,m,rfl⟩:=az q;obtain⟨p,rfl⟩:=wq D;exact xt i h.nd (IZ (hV (λe _=>g e) m).1) (h.get qi) (h.loc hk) rfl (.inl (H x))
     .cases D
    split at q
    .rename_i P;rw[ar]at P;have P:=P.2;obtain⟨V,m,rfl⟩:=az q;have c:l.ctorIdx=8:=eq_of_beq P;clear q P;revert m;refine Expr.ListComp.elim l c λa gs c d m=>?_
     obtain⟨k,M,iter,F,rfl,rfl,S⟩:=vK m;have A:swapsWith (.ListComp a [⟨M,iter,F,0⟩] c d) (some (.Name x N)) Q.line X.e=pure (X.e.blockKind == .function && X.e.kindOf x == some .local && N.line == (Expr.ListComp a [⟨M,iter,F,0⟩] c d).pos.line
       && !(c.names.any λ(n,k)=>n == x && (k == .local ||k == .cell))):=rfl
     revert A;generalize (X.e.blockKind == .function && X.e.kindOf x == some .local && N.line == (Expr.ListComp a [⟨M,iter,F,0⟩] c d).pos.line && !(c.names.any λ(n,k)=>n == x && (k == .local ||k == .cell)))=b;intro A;cases b with
     |true=>exact CL h (mD k) S i A (h.get qi) (h.loc hk) (.inl (H x))
     |false=>exact xt i h.nd (sK h (mD k) S) (h.get qi) (h.loc hk) A (.inl (H x))
    .obtain⟨V,m,rfl⟩:=az q;cases P:f_ l with
     |false=>exact xt i h.nd ((g l).e V m) (h.get qi) (h.loc hk) ((qA m).sw P _ _ _) (.inl (H x))
     |true=>
      have c:l.ctorIdx=8:=eq_of_beq P;clear q P;revert m;refine Expr.ListComp.elim l c fun a gs c d m=>?_;obtain⟨k,M,iter,F,f',rfl,rfl,S,rfl⟩:=He m;have cu:=wJ (u:=d) h (mD k) S;have A:swapsWith (.ListComp a [⟨M,iter,F,0⟩] c d) (some (.Name x N)) Q.line X.e=pure (X.e.blockKind == .function && X.e.kindOf x == some .local && N.line == (Expr.ListComp a [⟨M,iter,F,0⟩] c d).pos.line
       && !(c.names.any λ(n,k)=>n == x && (k == .local ||k == .cell))):=rfl
      revert A;generalize (X.e.blockKind == .function && X.e.kindOf x == some .local && N.line == (Expr.ListComp a [⟨M,iter,F,0⟩] c d).pos.line && !(c.names.any λ(n,k)=>n == x && (k == .local ||k == .cell)))=b;intro A;cases b with
      |true=>exact cu.2 i h.nd A (h.get qi) (h.loc hk) (.inl (H x))
      |false=>exact xt i h.nd (Me cu.1) (h.get qi) (h.loc hk) A (.inl (H x))
  .cases B
 rcases jg B with ⟨⟨o,i⟩,hz,K⟩|⟨_,K⟩
 .clear q B;obtain⟨p,rfl⟩:=Kl hz;split at K
  .cases K
  rename_i I;obtain⟨x,m,C⟩:=ao K;obtain⟨w,L,G⟩:=ao C;have A:=(hX L).sw (by simpa using I);clear K C;split at G
  .obtain⟨y,S,rfl⟩:=az G;exact MA (by have:=h.hu;lia) ((g o).e x m) ((g i).v y S) ((g l).v w L) (A _ _ _)
  have q0:=jg G;clear G;rcases q0 with ⟨T,et,q⟩|⟨_,q⟩
  .obtain⟨c,p,rfl⟩:=i6 et;obtain⟨y,S,rfl⟩:=az q;exact Mz R ((g o).e x m) (hV (λe _=>g e) S).1 ((g l).v w L) (A _ _ _)
  .obtain⟨y,S,rfl⟩:=az q;exact MC R ((g o).e x m) ((g i).v y S) ((g l).v w L) (A _ _ _) rfl (hX S).ps
 rcases jg K with ⟨⟨o,f,ap⟩,hz,C⟩|⟨_,C⟩
 .clear q B K;cases F7 hz;split at C
  .rename_i hd;rw[ar]at hd;obtain⟨s,R⟩:=tD.mp hd.1;obtain⟨p,rfl⟩:=Ir R;obtain⟨x,m,rfl⟩:=az C;exact MD h.attrs ((g o).e x m) JM rfl
  obtain⟨x,m,q⟩:=ao C;obtain⟨z,S,rfl⟩:=az q;refine MD h.attrs ((g o).e x m) (qh h S).1 ?_;cases P:f_ l with
  |false=>exact(qh h S).2 P _ _ _
  |true=>have c:l.ctorIdx=8:=eq_of_beq P;clear q S C P;exact Expr.ListComp.elim (motive_1:=λv=>swapsWith v (some (.Attribute o f ap)) Q.line X.e=pure false) l c λ_ _ _ _=>rfl
 .clear q B K;split at C
  .cases C
  rename_i I;obtain⟨T,D,G⟩:=ao C;clear C;obtain⟨c,p,rfl⟩:=i6 D;split at G
  .cases G
  .rename_i Z;obtain⟨gg,m,q⟩:=ao G;obtain⟨z,L,rfl⟩:=az q;exact Pr ((g l).v z L) (tg_ok h.calm h.hN h.nd (λx hx=>⟨h.loc hx,.inl (H x)⟩) m) (show swapsWith l (some (.Tuple T c p)) Q.line X.e=pure false from(hX L).sw (by simpa using I) _ _ _) (EF Z) rfl
theorem DK{j:Cn}{X:Cx}(h:XOk j X)(k:∀x,X.fn x=true)(S:PassesOwn (model X.p X.w) X.A X.e X.xe):∀n (st:Stmt) (f:ES),JY j n st=some f->PS X st (kl X.K f)
 |0,st,f,q=>by cases q
 |n+1,st,f,q=>by
  have u:=DK h k S n;have g:=mD n j X h;cases st with
  |Assign Q v I=>obtain⟨t,d,m⟩:=ao q;clear q;cases d4 d;exact J1 h k m
  |Return r p=>
   obtain⟨e,d,m⟩:=ao q;cases (show r=some e from d);clear q d;split at m
   .exact JZ h m
   .obtain⟨x,s,rfl⟩:=az m;exact JA ((g _).e x s)
  |AugAssign t P v p=>
   obtain⟨x,d,m⟩:=ao q;clear q;obtain⟨G,rfl⟩:=nO d;split at m
   .rename_i z;rw[ar]at z;obtain⟨i,qi,A⟩:=ao m;obtain⟨F,s,rfl⟩:=az A;cases P with
    |Add=>exact Px i h.nd ((g _).v F s) (h.get qi) (h.loc z.1) (.inl (k x))
    |_=>cases aJ z.2
   .cases m
  |Raise a b p=>cases q;exact JB
  |Expr e p=>
   replace q:(if f_ e=true then none else (tr j n e).e.map b9)=some f:=q;split at q
   .cases q
   .rename_i H;obtain⟨x,s,rfl⟩:=az q;exact ME ((g _).e x s) ((qA s).sw (by simpa using H) _ _ _)
  |If c a b p=>obtain⟨c,s,q⟩:=ao q;obtain⟨x,w,q⟩:=ao q;obtain⟨y,C,rfl⟩:=az q;exact RQ ((g _).b c s) (kX u w) (kX u C)
  |While c o l p=>
   cases l with
   |cons _ _=>cases q
   |nil=>obtain⟨c,s,q⟩:=ao q;obtain⟨b,w,rfl⟩:=az q;exact Jz S ((g _).b c s) (kX u w)
  |For L iter o l p=>
   cases l with
   |cons _ _=>cases q
   |nil=>obtain⟨D,B,q⟩:=ao q;obtain⟨E,s,q⟩:=ao q;obtain⟨b,w,rfl⟩:=az q;exact Pw S h.calm (Jj h g s) (tg_ok h.calm h.hN h.nd (λx K=>⟨h.loc K,.inl (k x)⟩) B) (kX u w) λx=>wn s _ x
  |_=>cases q
structure Df where
 name:Str
 short:Str
 cls:Str
 st:Stmt
 N:LS
 ps:LS
 own:LS
 deep:LS
 refs:LS
noncomputable abbrev At:=List (Str×LS)
noncomputable def aT(T:At)(c f:Str):Bool:=T.any λx=>decide (x.1=c) && x.2.contains f
noncomputable def fT(D:List Df)(h:Str->GF)(x:Str):Option GF:=if (D.any λd=>decide (d.name=x) && d.cls.cps.isEmpty)=true then some (h x) else none
noncomputable def O2(c m:Str)(d:Df):Bool:=decide (d.cls=c) && decide (d.short=m) && !d.cls.cps.isEmpty
def mT(D:List Df)(h:Str->GF)(c m:Str):Option GF:=if m=("__init__":Str) then none else (D.find? (O2 c m)).map λd=>h d.name
def QP(D:List Df)(h:Str->GF)(c:Str):Option GF:=(D.find? (O2 c "__init__")).map λd=>h d.name
noncomputable abbrev P3:=(Str->GF)×(Str->Option GF)×Option GF
def QU(G:Str->Option P)(T:At)(D:List Df)(p:P3)(d:Df):Cn:=⟨d.N,d.own,d.deep,d.refs,(bj d.st).names,fT D p.1,G,aT T,mT D p.1,p.2.1,p.2.2⟩
def vl(G:Str->Option P)(T:At)(D:List Df)(p:P3)(d:Df):ES:=(vL (JY (QU G T D p d) 60) (eX d.st)).getD uF
noncomputable def stays(n:Nat)(x:Str):Bool:=(decide (x=("ends_on":Str)) && o8 14 n) ||((decide (x=("hand_ends":Str)) ||decide (x=("flaw_ends":Str))) && o8 13 n)
def nY(G:Str->Option P)(T:At)(D:List Df):Nat->P3
 |0=>(λ_ _ _=>none,λ_=>none,none)
 | n+1=>(fun x=>cond (stays n x) ((nY G T D n).1 x) (match D.find? fun d=>decide (d.name=x) with
  |some d=>mP d.ps.length d.N.length (vl G T D (nY G T D n) d)
  |none=>λ_ _=>none),QP D (nY G T D n).1,fT D (nY G T D n).1 "ends_on")
noncomputable def IV(G:Str->Option P)(T:At)(D:List Df)(n:Nat):Str->GF:=(nY G T D n).1
theorem Ca{G:Str->Option P}{T:At}{D:List Df}{n:Nat}{x:Str}(h:stays n x=true):IV G T D (n+1) x=IV G T D n x:=by show cond (stays n x) _ _=_;rw[h];rfl
theorem cond_ok{B:Type}{c:Bool}{a b:B}{p:B->Prop}(h:p b)(x:p a):p (cond c a b):=by cases c<;>assumption
def OR(d:Df):Bool:=decide ((bj d.st).kind=.function) && !(bj d.st).isCoroutine && !(bj d.st).isGenerator && decide d.N.Nodup && decide (d.N.take d.ps.length=d.ps)
 && d.ps.all (λx=>(bj d.st).names.lookup x == some .local ||(bj d.st).names.lookup x == some .cell) && (bj d.st).names.all (λy=>y.2 != .free)
theorem Kk{d:Df}(h:OR d=true):FnScope d.N d.ps (bj d.st):=by
 unfold OR at h;simp only[ar]at h;obtain⟨⟨⟨⟨⟨⟨a,e⟩,s⟩,n⟩,k⟩,f⟩,b⟩:=h;refine⟨aJ a,by simpa using e,by simpa using s,aJ n,aJ k,λx c=>?_,λy m=>?_⟩
 .have:=a_.mp f x c;simpa using this
 .have:=a_.mp b y m;simpa using this
structure DOk(K:FG)(mg:SV)(d:Df)(f:Addr)(fd:FuncData):Prop where
 fn:Fun K d.short d.name d.st f fd
 bd:Binds K fd d.ps []
 pl:d.cls.cps.isEmpty=true->∃kV doc pm an cdv ct,fd=iT d.short d.name (hZ d.st) (eX d.st) (bj d.st) .none kV doc pm an cdv ct
 bn:d.short=("__init__":Str)->LI.contains d.cls=true->Binds K fd d.ps [.none]
 gl:d.cls.cps.isEmpty=true->mg d.name=some (.ref f)
 cl:d.cls.cps.isEmpty=false->∃C,j' K d.cls C/\mg d.cls=some (.ref C)/\Cls K C/\(d.short=("__init__":Str)->Mk K C f)/\(d.short≠("__init__":Str)->Meth K C d.short f)
def uT(o:Obj):Bool:=match o.data with
 | .fields v=>(match v.toList with|_::.str n _::_=>n == E6|_=>false)
 |_=>false
def Bo(K:FG):Bool:=K.all λp=>!uT p.2 ||(match DP p with|some P=>xn K p.1 P|none=>false)
theorem E5(h:Bo K=true)(x:iU K d E6=true):∃c P,d=.ref c/\xn K c P=true/\P ∈ cf K:=by
 unfold iU at x;split at x
 .rename_i c;split at x
  .rename_i l i v n hk;have m:=Dq hk;have a:=a_.mp h _ m;have e:uT ⟨l,i,.fields v,n⟩=true:=x;rw[e]at a;simp only[ml,kT]at a;split at a
   .rename_i P s;exact⟨c,P,rfl,a,kP.mpr ⟨_,m,s⟩⟩
   .cases a
  .cases x
 .cases x
structure TOk(w:World)(G:Str->Option P)(T:At)(D:List Df)(K:FG)(mg:SV):Prop where
 fn:∀d ∈ D,∃f fd,DOk K mg d f fd
 sc:D.all OR=true
 un:(D.map (·.name)).Nodup
 z:∀x ∈ IN,mg x=none
 gl:∀x v,G x=some v->np w K mg x v
 at':Pq K (aT T)
 lam:Bo K=true
 lm:∀d ∈ D,d.deep.contains (Str.ofString "<lambda>")=true->d.name=E6
theorem qQ:∀{D:List Df}{d:Df},(D.map (·.name)).Nodup->d ∈ D->(D.find? λe=>decide (e.name=d.name))=some d
 | [],_,_,h=>by cases h
 |a::r,d,x,h=>by
  rw[aA,bQ]at x;rcases aN.mp h with h|h
  .subst h;simp
  .have n:¬a.name=d.name:=λz=>x.1 (by rw[z];exact aY.mpr ⟨d,h,rfl⟩);rw[List.find?_cons_of_neg (by simpa using n)];exact qQ x.2 h
theorem wV{D:List Df}{x:Str}{a:Str->GF}{g:GF}(h:fT D a x=some g):∃d ∈ D,d.name=x/\d.cls.cps.isEmpty=true/\g=a x:=by
 unfold fT at h;split at h
 .rename_i c;cases h;obtain⟨d,hd,e⟩:=ph.mp c;rw[ar]at e;exact⟨d,hd,aJ e.1,e.2,rfl⟩
 .cases h
theorem Fd(h:O2 c m d=true):d.cls=c/\d.short=m/\d.cls.cps.isEmpty=false:=by unfold O2 at h;simp only[ar]at h;exact⟨aJ h.1.1,aJ h.1.2,by simpa using h.2⟩
theorem F9{D:List Df}{x:Str->GF}{c m:Str}{g:GF}(h:mT D x c m=some g):m≠("__init__":Str)/\∃d ∈ D,d.cls=c/\d.short=m/\d.cls.cps.isEmpty=false/\g=x d.name:=by
 unfold mT at h;split at h
 .cases h
 .rename_i n;obtain⟨d,q,rfl⟩:=az h;obtain⟨a,e,s⟩:=Fd (zK q);exact⟨n,d,z_ q,a,e,s,rfl⟩
theorem F_{D:List Df}{x:Str->GF}{c:Str}{g:GF}(h:QP D x c=some g):∃d ∈ D,d.cls=c/\d.short=("__init__":Str)/\d.cls.cps.isEmpty=false/\g=x d.name:=by unfold QP at h;obtain⟨d,q,rfl⟩:=az h;obtain⟨a,e,s⟩:=Fd (zK q);exact⟨d,z_ q,a,e,s,rfl⟩
theorem BB {G:Str->Option P}{T:At}{D:List Df}{Pg:Program}{w:World}{K:FG}{mg:SV}{base:Heap} (Tk:TOk w G T D K mg):∀n,(∀d ∈ D,
  ∀f fd,Fun K d.short d.name d.st f fd->FnOk Pg w K mg base oF n f fd d.ps (nG K (IV G T D n d.name))) /\
  (∀c g,(nY G T D n).2.1 c=some g->∃m,n=m+1/\∃C f fd ps,j' K c C/\mg c=some (.ref C)/\Mk K C f/\FnOk Pg w K mg base oF m f fd ps (nG K g)/\Binds K fd ps (if LI.contains c=true then [.none] else [])) /\
  ∀g,(nY G T D n).2.2=some g->∃m,n=m+1/\∃f fd ps,FnOk Pg w K mg base oF m f fd ps (nG K g)/\mg "ends_on"=some (.ref f)/\dH K (.ref f)=true/\Binds K fd ps []
 |0=>⟨λd hd f fd hF=>Fw,λc g h=>(by cases (show(none:Option GF)=some g from h)),λg h=>(by cases (show(none:Option GF)=some g from h))⟩
 |n+1=>by
  have ih:=BB (Pg:=Pg) (w:=w) (base:=base) Tk n;refine⟨λd hd f fd hF=>?_,λc g h=>?_,λg h=>?_⟩
  .have e:IV G T D (n+1) d.name=cond (stays n d.name) (IV G T D n d.name) (mP d.ps.length d.N.length (vl G T D (nY G T D n) d)):=by
    show cond _ _ (match D.find? λd'=>decide (d'.name=d.name) with|some d=>mP d.ps.length d.N.length (vl G T D (nY G T D n) d)|none=>λ_ _=>none)=_;rw[qQ Tk.un hd];rfl
   rw[e];have hsc:=Kk (a_.mp Tk.sc d hd);have XO:∀(cdv:Value),iU K cdv d.name=true->∀(A:Around)(outer:List Env)(s:Shared)(H:Hp)(E':XK),Room n (A.deeper (envOfC d.name (bj d.st) s.heap.objs.size f cdv)) ->
     XOk (QU G T D (nY G T D n) d) (wG oF Pg w K mg base d.N d.name (bj d.st) f cdv A outer s H E').nox:=fun cdv hcd A outer s H E' hr=>{
    hN:=rfl
    nd:=hsc.nd
    ks:=rfl
    kd:=hsc.kind
    calm:=rfl
    hu:=by have:=hr.un;show(A.deeper (envOfC d.name (bj d.st) s.heap.objs.size f cdv)).units+64 < _;lia
    fns:=λx g hg=>by obtain⟨d',hd',hn,hc,rfl⟩:=wV hg;obtain⟨f',fd',h1⟩:=Tk.fn d' hd';subst hn;exact⟨n,f',fd',d'.ps,(ih.1 d' hd' f' fd' h1.fn),hr,h1.gl hc,h1.fn.kp,h1.bd⟩
    blt:=Tk.z
    glb:=Tk.gl
    attrs:=Tk.at'
    meths:=λc m g hg=>by obtain⟨hm,d',hd',rfl,rfl,hc,rfl⟩:=F9 hg;obtain⟨f',fd',h1⟩:=Tk.fn d' hd';obtain⟨C,c1,c2,c3,c4,c5⟩:=h1.cl hc;exact⟨C,n,f',fd',d'.ps,c1,c3,c5 hm,(ih.1 d' hd' f' fd' h1.fn),hr,h1.bd⟩
    mks:=λc g hg=>by obtain⟨m,rfl,C,f',fd',ps,c1,c2,c3,c4,c5⟩:=ih.2.1 c g hg;exact⟨C,m,f',fd',ps,c1,c2,c3,c4,hr,c5⟩
    lam:=λz=>by have hn:=Tk.lm d hd z;rw[hn]at hcd;obtain⟨c,P,e1,e2,e3⟩:=E5 Tk.lam hcd;exact⟨⟨by show d.name++Str.ofString ".<locals>."++Str.ofString "<lambda>"=xZ;rw[hn];decide,c,P,e1,e2,e3⟩,λ_=>rfl⟩
    lmf:=λg hg=>by obtain⟨m,rfl,f',fd',ps,c1,c2,c3,c4⟩:=ih.2.2 g hg;exact⟨m,f',fd',ps,c1,hr,c2,c3,c4⟩ }
   refine cond_ok (p:=λg=>FnOk Pg w K mg base oF (n+1) f fd d.ps (nG K g)) (LD (N:=d.N) hF hsc λcdv hcd A outer s H E' hr=>?_) ((ih.1 d hd f fd hF).mono (iA n));have X:=XO cdv hcd A outer s H E' hr;unfold vl;cases q:vL (JY (QU G T D (nY G T D n) d) 60) (eX d.st) with
   |none=>exact B'.imp' λD J H hz=>by obtain⟨F,m,L,S,fl,L',S',r,l,q,k⟩:=hz;cases q
   |some b=>exact kX (λst f q=>DK X (λ_=>rfl) PassesOwn.never 60 st f q) q
  .obtain⟨d,hd,rfl,hs,hc,rfl⟩:=F_ (x:=(nY G T D n).1) h;obtain⟨f,fd,h1⟩:=Tk.fn d hd;obtain⟨C,c1,c2,c3,c4,c5⟩:=h1.cl hc;refine⟨n,rfl,C,f,fd,d.ps,c1,c2,c4 hs,(ih.1 d hd f fd h1.fn),?_⟩;by_cases hn:LI.contains d.cls=true
   .rw [ac hn];exact h1.bn hs hn
   .rw [af hn];exact h1.bd
  .obtain⟨d',hd',hn,hc,rfl⟩:=wV (show fT D (nY G T D n).1 "ends_on"=some g from h);obtain⟨f',fd',h1⟩:=Tk.fn d' hd';have e:=ih.1 d' hd' f' fd' h1.fn;have e2:=h1.gl hc;rw[hn]at e e2;exact⟨n,rfl,f',fd',d'.ps,e,e2,h1.fn.kp,h1.bd⟩
theorem wr:∀s:List Int,b7 K F H (s.map .int) (s.map V.int)
 | []=>rfl
 |n::r=>⟨_,_,rfl,rfl,wr r⟩
theorem Lj{K:FG}{H:Hp}{a:Addr}{n:List Int}{g:GF}{E:XK}(e:CV H)(S:iy K H a (n.map V.int))(h:cG g [.ro (n.map .int)]=some (.bl true)):nG K g [.ref a] H (λv _=>v=.bl true) E:=by
 refine qu ⟨λb=>b=a/\H a≠none,[.ro (n.map .int)],.bl true,λb x=>(by rw[x.1];exact x.2),⟨_,_,rfl,⟨a,_,rfl,?_,wr n⟩,rfl⟩,h,λv F k _ r=>r⟩;rcases S with S|S
 .rcases e a with z|z|⟨o,f,z⟩
  .rcases S with S|⟨o,S⟩<;>rw[z]at S<;>cases S
  .rcases S with S|⟨o,S⟩<;>rw[z]at S<;>cases S
  .rcases S with S|⟨s,S⟩
   .rw [z]at S;cases S
   .exact .inl ⟨⟨rfl,by rw[z];exact λq=>nomatch q⟩,s,S⟩
 .exact .inr (.inr S)
open PySem L2
section
variable(L:Lc)(S:U)
@[simp] theorem O_(i:Nat):ak i L S=match L[i]? with|some (some d)=>some (d,S)|_=>none:=rfl
@[simp] theorem G_(r:EE):eG r L S=bI (r L S) λd h=>match dO d h with|some n=>some (.int (n:Int),h)|none=>none:=by
 unfold eG;cases r L S with
 |none=>rfl
 |some z=>obtain⟨d,h⟩:=z;rw[am,am];cases dO d h<;>rfl
@[simp] theorem O5(i:Nat)(v:P):av i v L=some (L.set i (some (.p v))):=rfl
end
@[simp] theorem qR(x:List B):(few x=true)=(x.length≤1000000):=by unfold few;simp
@[simp] theorem mZ(n:Nat):(iq n=true)=(n≤1000000):=by unfold iq;simp
theorem bC{B:Type}{s:List B}{i:Int}{x:B}(a:0≤i)(h:s[i.toNat]? = some x):L2.atI s i=some x:=by have l:=(bw.mp h).1;unfold L2.atI L2.CY;rw[ac a,ac (by lia)];exact h
@[simp] theorem OD(x:B)(s:List B):L2.atI (x::s) 0=some x:=bC (by lia) rfl
@[simp] theorem Pl(x y:B)(s:List B):L2.atI (x::y::s) 1=some y:=bC (by lia) rfl
@[simp] theorem Pk(x y z:B)(s:List B):L2.atI (x::y::z::s) 2=some z:=bC (by lia) rfl
@[simp] theorem Mv(x y z w:B)(s:List B):L2.atI (x::y::z::w::s) 3=some w:=bC (by lia) rfl
@[simp] theorem Pd(x:List P)(i:Int):oP (.tup x) (.int i)=L2.atI x i:=rfl
@[simp] theorem Pe(x:List P)(i:Int):oP (.lst x) (.int i)=L2.atI x i:=rfl
@[simp] theorem Q2(x:List P)(i:Int):oP (.ro x) (.int i)=L2.atI x i:=rfl
@[simp] theorem Pf(k:List b0)(v:List P)(x:Str):oP (.dct k v) (.str x)=bW (.inr x) k v:=rfl
@[simp] theorem Oq(i j:Int):CJ (.int i) (.int j)=some (.bl (decide (i=j))):=rfl
@[simp] theorem Op(i j:Str):CJ (.str i) (.str j)=some (.bl (decide (i=j))):=rfl
@[simp] theorem Pj(i j:Bool):CJ (.bl i) (.bl j)=some (.bl (decide (i=j))):=rfl
@[simp] theorem Pc(i j:Int):LQ (.int i) (.int j)=some (.bl (!decide (i=j))):=rfl
@[simp] theorem Pb(i j:Str):LQ (.str i) (.str j)=some (.bl (!decide (i=j))):=rfl
@[simp] theorem Q0(i j:Bool):LQ (.bl i) (.bl j)=some (.bl (!decide (i=j))):=rfl
@[simp] theorem Ot(i j:Int):vg (.int i) (.int j)=some (.int (i+j)):=rfl
@[simp] theorem Om(i j:Int):vd (.int i) (.int j)=if f6 i j=true then some (.int (i * j)) else none:=rfl
@[simp] theorem Mm(x:List P)(n:Int):mX (.tup x) (.int n)=if (iq (x.length * n.toNat) && decide (n.natAbs < 1000000))=true then some (.tup (List.replicate n.toNat x).flatten) else none:=rfl
@[simp] theorem Mn(x:Str)(n:Int):mX (.str x) (.int n)=vd (.str x) (.int n):=rfl
@[simp] theorem Ol(i:Int):CG (.int i)=some (.int (-i)):=rfl
theorem aU(a n:Nat)(b:ES)(s:List P):cG (mP a n b) s=if s.length=a then match b (s.map (λp=>some (.p p))++List.replicate (n-s.length) none) [] with
 |some (.rt d,_,S)=>(toP 9 d S).map (·.1)
 |some (.nx,_,_)=>some .non
 |_=>none else none:=by
 unfold cG mP;rw[aQ,kO];by_cases h:s.length=a
 .rw [ac h,ac h];show (match k_ (b (s.map (fun p=>some (D.p p))++List.replicate (n-s.length) none) []) with
   |some (d,S)=>(toP 9 d S).map (λ(x:P×U)=>x.1)
   |none=>none)=_
  cases b (s.map (λp=>some (D.p p))++List.replicate (n-s.length) none) [] with
  |none=>rfl
  |some z=>obtain⟨f,L,S⟩:=z;cases f<;>simp[k_]
 .rw [af h,af h]
theorem cz{g:kc}{b:ES}{v:P}{r:List P}{L h L2:Lc}{S x:U}(a:g v L=some h)(e:b h S=some (.nx,L2,x)):b_ g b (v::r) L S=b_ g b r L2 x:=by simp[b_,a,e]
theorem wz{g:kc}{b:ES}{v:P}{r:List P}{L h L2:Lc}{S x:U}{d:D}(a:g v L=some h)(e:b h S=some (.rt d,L2,x)):b_ g b (v::r) L S=some (.rt d,L2,x):=by simp[b_,a,e]
section
variable(L:Lc)(S:U)
@[simp] theorem Il(a:EV):iY a L S=bI (a L S) λx h=>match x with | .int n=>if (decide (n.natAbs < 1000000))=true then some (intsFrom 0 n.toNat,h) else none|_=>none:=by
 unfold iY;cases a L S with
 |none=>rfl
 |some z=>obtain⟨x,h⟩:=z;cases x<;>first|rfl|simp
@[simp] theorem N8(g:List kc)(v:List P):bF g (.tup v) L=qN g v L:=rfl
@[simp] theorem N7:qN [] [] L=some L:=rfl
@[simp] theorem Ml(g:kc)(s:List kc)(v:P)(h:List P):qN (g::s) (v::h) L=match g v L with|some a=>qN s h a|none=>none:=rfl
@[simp] theorem P4(v:P):Hd (.p v) S=xB v:=rfl
@[simp] theorem ON(b:Bool):xB (.bl b)=some b:=rfl
@[simp] theorem M4(i:Int):xB (.int i)=some (i != 0):=rfl
@[simp] theorem Rx(x y:P):Gg (.p x) (.p y) S=(IB x y).map .bl:=rfl
@[simp] theorem Rw(x y:P):CZ (.p x) (.p y) S=(CW x y).map .bl:=rfl
end
@[simp] theorem O8(i j:Int):IB (.int i) (.int j)=some (decide (i=j)):=rfl
@[simp] theorem O7(i j:Str):IB (.str i) (.str j)=some (decide (i=j)):=rfl
@[simp] theorem QY(i j:Bool):IB (.bl i) (.bl j)=some (decide (i=j)):=rfl
@[simp] theorem OZ(i j:Int):CW (.int i) (.int j)=some (!decide (i=j)):=rfl
@[simp] theorem OY(i j:Str):CW (.str i) (.str j)=some (!decide (i=j)):=rfl
@[simp] theorem QG(i j:Bool):CW (.bl i) (.bl j)=some (!decide (i=j)):=rfl
@[simp] theorem Mr(i j:Int):mY (.int i) (.int j)=some (.int (i+j)):=rfl
@[simp] theorem Mp(x y:Str):mY (.str x) (.str y)=vg (.str x) (.str y):=rfl
@[simp] theorem Mq(x y:List P):mY (.lst x) (.lst y)=if iq (x.length+y.length)=true then some (.lst (x++y)) else none:=rfl
@[simp] theorem Mo(i j:Int):mX (.int i) (.int j)=if f6 i j=true then some (.int (i * j)) else none:=rfl
@[simp] theorem CI(x:List P)(n:Int):mX (.lst x) (.int n)=if (iq (x.length * n.toNat) && decide (n.natAbs < 1000000))=true then some (.lst (List.replicate n.toNat x).flatten) else none:=rfl
theorem v9(h:cE 20 v=true):CW v v=some false:=by
 unfold CW;have e:eA (pd v) (pd v)=true:=zH _ (fM 20 v h).1;cases q:LQ v v with
 |none=>simp[h,e]
 |some z=>
  cases v with
  |int i=>cases q;simp
  |str i=>cases q;simp
  |bl i=>cases q;simp
  |non=>cases q
  |tup _=>cases q
  |lst _=>cases q
  |ro _=>cases q
  |dct _ _=>cases h
theorem Bz(h:cE 20 (.lst s)=true):IB (.lst s) (.lst [])=some s.isEmpty:=by unfold IB;have e:cE 20 (.lst [])=true:=rfl;show(if (cE 20 (.lst s) && cE 20 (.lst []))=true then some (eA (pd (.lst s)) (pd (.lst []))) else none)=_;rw[h,e];cases s<;>rfl
theorem mJ(h:cE 20 (.lst s)=true):CW (.lst s) (.lst [])=some (!s.isEmpty):=by unfold CW;have e:cE 20 (.lst [])=true:=rfl;show(if (cE 20 (.lst s) && cE 20 (.lst []))=true then some (!PyData.eqv (pd (.lst s)) (pd (.lst []))) else none)=_;rw[h,e];cases s<;>rfl
section
variable{L:Lc}{S:U}
@[simp high] theorem Sx(d:D):ak 0 (some d::L) S=some (d,S):=rfl
@[simp high] theorem Sw(a:Option D)(i:Nat):ak (i+1) (a::L) S=ak i L S:=rfl
@[simp ↓ high] theorem Su(x y:a):(if few ([]:List B)=true then x else y)=x:=rfl
@[simp ↓ high] theorem Ss(a:B)(x y:s):(if few ([a]:List B)=true then x else y)=x:=rfl
@[simp ↓ high] theorem Sr(a h:B)(x y:s):(if few ([a,h]:List B)=true then x else y)=x:=rfl
@[simp ↓ high] theorem Sq(a h e:B)(x y:s):(if few ([a,h,e]:List B)=true then x else y)=x:=rfl
@[simp ↓ high] theorem So(a h e s:B)(x y:k):(if few ([a,h,e,s]:List B)=true then x else y)=x:=rfl
@[simp ↓ high] theorem Sn(a h e s n:B)(x y:k):(if few ([a,h,e,s,n]:List B)=true then x else y)=x:=rfl
@[simp ↓ high] theorem Sm(a h e s n k:B)(x y:b):(if few ([a,h,e,s,n,k]:List B)=true then x else y)=x:=rfl
@[simp ↓ high] theorem Sl(a h e s n k f:B)(x y:b):(if few ([a,h,e,s,n,k,f]:List B)=true then x else y)=x:=rfl
@[simp high] theorem SA(v:P)(S:U):toP 9 (.p v) S=some (v,S):=rfl
@[simp ↓ high] theorem RC(x:Option (B×U))(f:B->U->Option s):bI x f=match x with|some (a,S)=>f a S|none=>none:=rfl
@[simp ↓ high] theorem Sf(x y:a):(if true=true then x else y)=x:=rfl
@[simp ↓ high] theorem Sg(x y:a):(if false=true then x else y)=y:=rfl
end
@[simp] theorem Qw(a b:String):(Str.ofString a=Str.ofString b)=(a=b):=by rw[yG,yG];exact propext ⟨λh=>String.toList_inj.mp ((zR λ_ _=>Char.toNat_inj.mp).mp (by simpa using h)),λh=>by rw[h]⟩
end Ev
set_option tactic.hygienic false
namespace My
open PySem L2 Ev
noncomputable abbrev qp(x:P):Option D:=some (.p x)
noncomputable abbrev qi(x:Int):Option D:=some (.p (.int x))
noncomputable abbrev qs(x:Str):Option D:=some (.p (.str x))
noncomputable abbrev ql(x:List P):Option D:=some (.p (.lst x))
noncomputable abbrev qt(x:List P):Option D:=some (.p (.tup x))
noncomputable abbrev qr(x:Nat):Option D:=some (.ref x)
@[simp] abbrev vv(k:Nat):EV:=vE (ak k)
@[simp] abbrev vi(i:Int):EV:=vC (.int i)
@[simp] abbrev vt(x:Str):EV:=vC (.str x)
@[simp] abbrev v1(a:EV):j_:=aF a aS
@[simp] abbrev v2(a b:EV):j_:=aF a (aF b aS)
@[simp] abbrev v3(a b c:EV):j_:=aF a (aF b (aF c aS))
@[simp] abbrev v4(a b c d:EV):j_:=aF a (aF b (aF c (aF d aS)))
@[simp] abbrev v5(a b c d e:EV):j_:=aF a (aF b (aF c (aF d (aF e aS))))
@[simp] abbrev v6(a b c d e f:EV):j_:=aF a (aF b (aF c (aF d (aF e (aF f aS)))))
@[simp] abbrev v7(a b c d e f g:EV):j_:=aF a (aF b (aF c (aF d (aF e (aF f (aF g aS))))))
@[simp] abbrev v8(a b c d e f g h:EV):j_:=aF a (aF b (aF c (aF d (aF e (aF f (aF g (aF h aS)))))))
@[simp] abbrev JF(a:EE):rW:=bB a fC
@[simp] abbrev Md(a b:EE):rW:=bB a (bB b fC)
@[simp] abbrev Mc(a b c:EE):rW:=bB a (bB b (bB c fC))
@[simp] abbrev Rk(a b c d:EE):rW:=bB a (bB b (bB c (bB d fC)))
@[simp] abbrev JE(a b c d e:EE):rW:=bB a (bB b (bB c (bB d (bB e fC))))
@[simp] abbrev Rj(a b c d e f:EE):rW:=bB a (bB b (bB c (bB d (bB e (bB f fC)))))
@[simp] abbrev bt(a b:EE):EB:=bV (dF Gg a b)
@[simp] abbrev j3(a b:EE):EB:=bV (dF CZ a b)
@[simp] abbrev aM:EV->EV->EV:=kh yn
@[simp] abbrev DB:EV->EV->EV:=kh Q4
@[simp] abbrev Dz:EV->EV->EV:=kh LP
@[simp] abbrev uq:EV->EV->EV:=kh LN
@[simp] abbrev aK:EV->EV->EV:=kh LR
@[simp] abbrev de:EV->EV->EV:=kh mX
@[simp] abbrev aR:EV->EV->EV:=kh mY
@[simp] abbrev AO:EV->EV->EV:=kh IF
@[simp] abbrev ae:EV->EV->EV:=kh oP
@[simp] abbrev DA:EV->EV->EV:=kh Q3
@[simp] abbrev MK:EV->EV->EV:=kh Oo
@[simp] abbrev cx(g:GF):j_->EV:=cL (cG g)
@[simp] abbrev bZ:EV:=vE (ak 0)
@[simp] abbrev dU:EV:=vE (ak 1)
@[simp] abbrev fX:EV:=vE (ak 3)
@[simp] abbrev pF:EV:=vE (ak 5)
@[simp] abbrev mx:EV:=vE (ak 7)
@[simp] abbrev kg:EV:=vE (ak 4)
@[simp] abbrev k8:EV:=vE (ak 6)
@[simp] abbrev uo:EV:=vE (ak 8)
@[simp] abbrev fZ:EV:=vE (ak 2)
@[simp] abbrev nA:EV:=vE (ak 10)
@[simp] abbrev mw:EV:=vE (ak 9)
@[simp] abbrev k9:EV:=vE (ak 11)
@[simp] abbrev dh:EV:=vC (.int 1)
@[simp] abbrev fW:EV:=vC (.int 2)
@[simp] abbrev eB:EV:=vC (.int 0)
@[simp] abbrev rY:EV:=vC (.int 4)
@[simp] abbrev g_:EV:=vC (.int 3)
@[simp] abbrev ur:EV:=vC (.int 5)
@[simp] abbrev fJ:EE:=ak 0
@[simp] abbrev jH:EE:=ak 2
@[simp] abbrev ka:EE:=ak 1
@[simp] abbrev BU:EE:=ak 3
@[simp] abbrev AQ:EE:=ak 4
@[simp] abbrev oG:EE:=ak 10
noncomputable def Ja(i:Nat):Stmt:=PySem.Challenge.pw_roadsall_k40_all_that_can_come.main.body.getD i (.Pass ⟨0,0,0,0⟩)
noncomputable def Gv(x:Str):Option P:=if x=("HIGHEST_LETTER":Str) then some (.int 999) else if x=("MOST_STANDINGS":Str) then some (.int 2000) else if x=("NOBODY":Str) then some (.int (-1)) else none
noncomputable def OS:LS:=["flaw_ends","Board.family_of","Board.hands_beside","takeable","targets_of","posted","sendings","step_ends","hand_ends","ends_on","Board.__init__"]
def QJ(st:Stmt):LS:=((bj st).names.filter λx=>[NameKind.local,.cell].contains x.2).map (·.1)
def QH(x:Str)(t k:Nat)(N o d:LS):Df:=⟨x,x,"",Ja t,N,N.take k,o,d,OS⟩
def j5(x:Str)(t k:Nat)(o d:LS:=[]):Df:=QH x t k (QJ (Ja t)) o d
def pJ:Df:=j5 "law" 48 1 ["_law_due","_law_found","_law_seen"] ["_law_found","comings"]
noncomputable def Att:At:=[("Board",["families","homes","members","pairs","places"])]
def Mx:List Df:=[j5 "_law_mix" 38 2,j5 "_law_cell_at" 37 2,j5 "_law_roads" 44 2 ["_law_roads_here"],j5 "_law_name" 39 2,j5 "_law_cells" 40 2 ["_law_cells_here"],j5 "_law_rooms" 43 2,j5 "_law_sum" 41 2,j5 "_law_sends" 45 5 ["_law_sends_here"],j5 "_law_condition" 42 2,j5 "_law_step" 46 6 ["_law_changes"],QH "_law_plan" 47 2 ["_law_script","_law_most","_law_many","_law_names","_law_roads_here","_law_families","_law_k","_law_family","_law_crew","_law_cells_here","_law_rooms_here","_law_whos","_law_steps","_law_j","_law_place","_law_drawn","_law_wishes","_law_still","_law_when","_law_step_here"] ["_law_families","_law_steps","_law_wishes"] [],j5 "families_of" 11 1 ["homes"],j5 "pairs_of" 12 1 ["pairs"],j5 "begin" 13 1 ["hands"],j5 "has_flaw" 27 3,j5 "unlike_spots" 19 2,j5 "replaced" 30 3,j5 "without" 29 2,j5 "flawed" 28 3,j5 "flaw_ends" 26 3 ["board","ends"],j5 "values_of" 17 2,j5 "compared" 6 3,j5 "value_of" 4 2,j5 "holds" 5 2,j5 "takeable" 18 4 ["board","found"],j5 "cells_behind" 21 4 ["given","numbers"],j5 "whos_behind" 22 4,j5 "targets_of" 24 5 ["board"],j5 "posted" 25 5 ["board"],j5 "sendings" 23 6 ["board","further"],j5 "step_ends" 20 5 ["board","ends","values"] ["values","values_of"],j5 "hand_ends" 16 3 ["board","ends"],j5 "ends_on" 15 2 ["board","ends"],j5 "ends_from" 14 2 ["return"] ["ends_on"],j5 "rows_from" 35 2 ["listed","rows"],j5 "coming_rows" 34 1 ["board","return"] ["<lambda>","rows_from"],j5 "comings" 33 1 ["return"],pJ]
def RF:List Df:=[⟨"Board.family_of","family_of","Board",(L2.k4 (Ja 10) 1),["self","hand"],["self","hand"],["self"],[],OS⟩,⟨"Board.hands_beside","hands_beside","Board",(L2.k4 (Ja 10) 2),["self","hand","name"],["self","hand","name"],["self"],[],OS⟩,⟨"Board.__init__","__init__","Board",(L2.k4 (Ja 10) 0),["self","plan","place","pair","hand"],["self","plan"],["self"],["families_of","pairs_of","places","self"],OS⟩]
noncomputable def Tb:List Df:=Mx++RF
noncomputable def Ph(n:Nat):Str->GF:=IV Gv Att Tb n
abbrev EQ(x:Str)(a b:Nat)(f:(Str->GF)->ES):Prop:=∀n,Ph (n+2) x=mP a b (f (Ph (n+1)))
def ir(h:Str->GF):ES:=(aC 0 (O (aM bZ (vi 2147483648))))
def kC (h:Str->GF):ES:=(ai (dG (bV (DB bZ (Dz (vi 10) (vi 12)))) (ai (aC 0 (O (uq (aM bZ (Dz (vi 10) (vi 12))) dh)))
  (ai (cw (iY (aK dU (vi 61))) (av 2) (ir h))
  (be (O (aK bZ (vi 2147483648)))))) fY)
  (ai (aC 3 (O (aK (de (aR (aR (aK bZ (vi 1000003)) (de (de dU dU) (vi 7919))) dU) (vi 48271)) (vi 2147483629))))
  (ai (aC 3 (O (aK (de fX fX) (vi 2147483587))))
  (be (O (aM (aK (de fX (aR fX fW)) (vi 2147483579)) (vi 7)))))))
theorem oq:EQ "_law_mix" 2 4 kC:=λ_=>by kernel_rfl
def gN (h:Str->GF):ES:=(ai (dG (bV (AO dU (eG fJ))) (be (O (ae bZ dU))) fY)
  (be (O eB)))
theorem j7:EQ "_law_cell_at" 2 2 gN:=λ_=>by kernel_rfl
def d_ (h:Str->GF):ES:=(ai (aC 7 (O (cx (h "_law_mix") (v2 (cx (h "_law_cell_at") (v2 bZ rY)) (aR (de g_ fX) pF)))))
  (dG (bV (DA (aK mx rY) eB)) (ai (aC 8 (O (ae (bu (v2 (vt "row") (vt "heap"))) (aK (aM mx rY) fW))))
  (b9 (bM jH (O (aL (v6 kg k8 uo dh (dF Gg (O (aK (aM mx (vi 16)) g_)) (O dh)) (dF Gg (O (aK (aM mx (vi 48)) g_)) (O dh)))))))) fY))
def gc(h:Str->GF):ES:=(cw (lF dU) (bF [av 5,av 6]) (d_ h))
def lx (h:Str->GF):ES:=(ai (aC 2 (dE aS))
  (ai (cw (lF dU) (bF [av 3,av 4]) (gc h))
  (be jH)))
theorem rM:EQ "_law_roads" 2 9 lx:=λ_=>by kernel_rfl
def nh (h:Str->GF):ES:=(ai (aC 2 (O (cx (h "_law_mix") (v2 (cx (h "_law_cell_at") (v2 bZ dh)) dU))))
  (be (O (aR (de (ae (vt "abcdefghijklmnop") dU) (aR dh (aK fZ rY))) (ae (vt "xyz") (aK (aM fZ rY) g_))))))
theorem u5:EQ "_law_name" 2 3 nh:=λ_=>by kernel_rfl
def gf (h:Str->GF):ES:=(ai (aC 4 (O (cx (h "_law_mix") (v2 (cx (h "_law_cell_at") (v2 bZ (aR fW dU))) (aR fW fX)))))
  (ai (aC 5 (O (ae (bu (v4 eB eB (MY CG dh) ur)) (aK kg rY))))
  (ai (aC 6 (O (aR pF (ae (bu (v4 dh dh eB dh)) (aK (aM kg rY) rY)))))
  (b9 (bM jH (O (aL (v4 (cx (h "_law_name") (v2 bZ (aR fW fX))) pF k8 (aR pF (aK (aM kg (vi 16)) (aR (uq k8 pF) dh)))))))))))
def ly (h:Str->GF):ES:=(ai (aC 2 (dE aS))
  (ai (cw (iY (aK (cx (h "_law_mix") (v2 (cx (h "_law_cell_at") (v2 bZ (aR fW dU))) dh)) fW)) (av 3) (gf h))
  (be jH)))
theorem rN:EQ "_law_cells" 2 7 ly:=λ_=>by kernel_rfl
def lw (h:Str->GF):ES:=(ai (aC 2 (O (aR dh (aK (cx (h "_law_mix") (v2 (cx (h "_law_cell_at") (v2 bZ (aR fW dU))) (vi 9))) fW))))
  (be (O (b8 (iY fZ) [] 1 (av 3) gP (cx (h "_law_name") (v2 bZ (aR rY fX)))))))
theorem rL:EQ "_law_rooms" 2 3 lw:=λ_=>by kernel_rfl
def dS (h:Str->GF):ES:=(ai (dG (C0 (bt ka (O (bu aS))) (bt (O (aK bZ ur)) (O eB))) (be (O (aL (v2 (vt "number") (aK (aM bZ ur) g_))))) fY)
  (ai (aC 2 (O (aL (v2 (vt "name") (ae dU (aK (aM bZ ur) (eG ka)))))))
  (ai (dG (bt (O (aK bZ ur)) (O dh)) (be jH) fY)
  (ai (dG (bt (O (aK bZ ur)) (O fW)) (be (O (aL (v3 (vt "plus") fZ (aL (v2 (vt "number") (aK (aM bZ (vi 20)) g_))))))) fY)
  (ai (dG (bt (O (aK bZ ur)) (O g_)) (be (O (aL (v3 (vt "minus") (aL (v3 (vt "times") fZ (aL (v2 (vt "number") (aK (aM bZ (vi 20)) g_))))) (aL (v2 (vt "number") (aK (aM bZ (vi 60)) fW))))))) fY)
  (be (O (aL (v3 (vt "minus") (aL (v2 (vt "number") dh)) fZ)))))))))
theorem fB:EQ "_law_sum" 2 3 dS:=λ_=>by kernel_rfl
def d9 (h:Str->GF):ES:=(ai (aC 8 (O (aM bZ fW)))
  (ai (aC 9 (O (cx (h "_law_sum") (v2 (aK (aM uo (vi 12)) (vi 300)) fZ))))
  (ai (aC 10 (O (ae (bu (v2 (vt "ma") (vt "mb"))) (de (aK uo fW) (aK (aM uo (vi 2000)) fW)))))
  (dG (kG (j3 BU (O (bu aS))) (bt (O (aK (aM uo fW) g_)) (O dh))) (b9 (bM (ak 6) (O (aL (v4 nA mw (vt "who") (ae fX eB)))))) (dG (j3 (ak 5) (O (bu aS))) (b9 (bM (ak 6) (O (aL (v4 nA mw (ae (bu (v2 (vt "all") (vt "any"))) (aK (aM uo (vi 6)) fW)) (ae pF (aK (aM uo g_) (eG (ak 5))))))))) fY)))))
def lv (h:Str->GF):ES:=(ai (aC 5 (O (b8 (jc kg) [] 1 (av 11) (bt (O (ae k9 eB)) ka) (ae k9 dh))))
  (ai (aC 6 (dE aS))
  (ai (cw (iY (aK bZ fW)) (av 7) (d9 h))
  (be (ak 6)))))
theorem rK:EQ "_law_sends" 5 11 lv:=λ_=>by kernel_rfl
def cm (h:Str->GF):ES:=(ai (dG (C0 (bt ka (O (bu aS))) (bV (AO (aK bZ ur) fW))) (be (O (aL (v1 (vt "true"))))) fY)
  (ai (aC 2 (O (ae (bu (v6 (vt "=") (vt "!=") (vt "<") (vt "<=") (vt ">") (vt ">="))) (aK (aM bZ ur) (vi 6)))))
  (ai (aC 3 (O (aL (v4 (vt "is") fZ (aL (v2 (vt "name") (ae dU (aK (aM bZ (vi 30)) (eG ka))))) (cx (h "_law_sum") (v2 (aM bZ (vi 90)) dU))))))
  (ai (dG (bt (O (aK bZ ur)) (O fW)) (be (O (aL (v2 (vt "not") fX)))) fY)
  (ai (dG (bt (O (aK bZ ur)) (O g_)) (be (O (aL (v3 (vt "or") fX (aL (v3 (vt "and") (aL (v1 (vt "true"))) (aL (v4 (vt "is") (vt "=") (aL (v2 (vt "number") dh)) (aL (v2 (vt "name") (ae dU eB))))))))))) fY)
  (be BU))))))
theorem cR:EQ "_law_condition" 2 4 cm:=λ_=>by kernel_rfl
def fj (h:Str->GF):ES:=(dG (kG (j3 (ak 7) (O (bu aS))) (bt (O (aK (ae bZ eB) g_)) (O dh))) (ai (aC 11 (O (vt "")))
  (ai (dG (kG (j3 (ak 6) (O (bu aS))) (bt (O (aK (aM (ae bZ eB) g_) fW)) (O dh))) (ai (aC 11 (O (ae k8 (MY CG dh))))
  (aC 9 (O (qc k8 j4 (i' (MY CG dh)))))) fY)
  (ai (aC 12 (O (vt "")))
  (ai (dG (kG (j3 AQ (O (bu aS))) (bt (O (aK (aM (ae bZ eB) (vi 6)) fW)) (O dh))) (aC 12 (O (ae kg eB))) fY)
  (ai (aC 8 (O (aL (v4 (ae (bu (v2 (vt "ma") (vt "mb"))) (aK (aM (ae bZ eB) (vi 12)) fW)) (ae mx (aK (aM (ae bZ eB) (vi 24)) (eG (ak 7)))) k9 (vv 12)))))
  (aC 10 (O (bu (v1 (vt "it")))))))))) fY)
def fh(h:Str->GF):ES:=(dG (bt (O (aK (aM (ae bZ dh) (ae (bu (v2 dh (vi 1000))) (vv 14))) fW)) (O dh)) (b9 (bM (ak 13) (O (aL (v2 (vv 15) (cx (h "_law_sum") (v2 (aK (aM (ae bZ dh) (ae (bu (v2 fW (vi 2000))) (vv 14))) (vi 300)) (aR k8 nA)))))))) fY)
def ng (h:Str->GF):ES:=(ai (aC 6 (O (b8 (jc fX) [] 1 (av 18) gP (ae (vv 18) eB))))
  (ai (aC 7 (O (b8 (jc pF) [] 1 (av 18) (bt (O (ae (vv 18) dh)) ka) (ae (vv 18) eB))))
  (ai (aC 8 (O (vC (.non))))
  (ai (aC 9 (O (cL iZ (v1 k8))))
  (ai (aC 10 (O (bu aS)))
  (ai (fj h)
  (ai (aC 13 (dE aS))
  (ai (cw (lF mw) (bF [av 14,av 15]) (fh h))
  (ai (aC 16 (O (cx (h "_law_sends") (v5 (ae bZ fW) dU k8 kg pF))))
  (ai (aC 17 (O (cx (h "_law_condition") (v2 (aK (ae bZ g_) (vi 27000)) k8))))
  (be (O (aL (v6 (ae fZ (aK (aM (ae bZ g_) (vi 27000)) (eG jH))) (vv 17) uo (vv 13) (vv 16) (ae fZ (aK (aM (ae bZ g_) (vi 81000)) (eG jH)))))))))))))))))
theorem u3:EQ "_law_step" 6 18 ng:=λ_=>by kernel_rfl
def fw (h:Str->GF):ES:=(ai (aC 14 (O (aR ur (de rY (aR (de g_ k8) (vv 13))))))
  (ai (aC 15 (O (b8 (iY rY) [] 1 (av 20) gP (cx (h "_law_mix") (v2 (cx (h "_law_cell_at") (v2 bZ (aR (vv 14) (vv 20)))) (vi 11))))))
  (b9 (bM (ak 12) (O (aR (aL (v1 (cx (h "_law_name") (v2 bZ (aR (vi 11) (vv 13)))))) (cx (h "_law_step") (v6 (vv 15) mx nA mw k9 kg))))))))
def fq (h:Str->GF):ES:=(ai (aC 8 (O (ae (bu (v2 (aR dh (aK (aM (cx (h "_law_cell_at") (v2 bZ eB)) fW) fW)) dh)) (uq fZ dh))))
  (ai (aC 9 (O (cx (h "_law_cells") (v2 bZ k8))))
  (ai (aC 10 (O (cx (h "_law_rooms") (v2 bZ k8))))
  (ai (aC 11 (O (de (bu (v1 (cx (h "_law_name") (v2 bZ (vi 10))))) (de (aK (cx (h "_law_mix") (v2 (cx (h "_law_cell_at") (v2 bZ (aR fW k8))) (vi 8))) fW) (cL lM (v1 (dF Gg (O (eG oG)) (O dh))))))))
  (ai (aC 12 (dE aS))
  (ai (cw (iY (aR dh (aK (cx (h "_law_mix") (v2 (cx (h "_law_cell_at") (v2 bZ (aR fW k8))) (vi 7))) fW))) (av 13) (fw h))
  (b9 (bM (ak 5) (O (aL (v6 mx uo nA mw k9 (vv 12))))))))))))
def fm (h:Str->GF):ES:=(ai (aC 15 (O (cx (h "_law_mix") (v2 (cx (h "_law_cell_at") (v2 bZ rY)) (aR (vi 20) k8)))))
  (ai (aC 7 (mV (ak 5) (aK (vv 15) fZ)))
  (b9 (bM (ak 16) (O (aL (v3 (ae (bu (v2 (vt "weak") (vt "strong"))) (aK (aM (vv 15) fW) fW)) (ae mx eB) (ae (ae (ae mx ur) (aK (aM (vv 15) rY) (eG (O (ae mx ur))))) eB))))))))
def jV (h:Str->GF):ES:=(ai (aC 2 (O (aR dh (aK (cx (h "_law_cell_at") (v2 bZ eB)) fW))))
  (ai (aC 3 (O (b8 (iY fZ) [6] 0 (av 6) gP (cx (h "_law_name") (v2 bZ k8)))))
  (ai (aC 4 (O (cx (h "_law_roads") (v2 bZ fX))))
  (ai (aC 5 (dE aS))
  (ai (cw (lF fX) (bF [av 6,av 7]) (fq h))
  (ai (aC 16 (dE aS))
  (ai (dG (bt (O (aK (aM (cx (h "_law_cell_at") (v2 bZ eB)) (vi 64)) rY)) (O dh)) (ai (aC 17 (O (bu (v2 (aL (v4 (cx (h "_law_name") (v2 bZ (vi 12))) g_ g_ g_)) (aL (v4 (cx (h "_law_name") (v2 bZ (vi 13))) eB eB eB))))))
  (ai (aC 18 (O (ae (bu (v2 (aL (v1 (vt "true"))) (aL (v2 (vt "not") (aL (v1 (vt "true"))))))) (aK (aM (cx (h "_law_cell_at") (v2 bZ eB)) (vi 256)) fW))))
  (ai (aC 19 (O (aL (v7 (cx (h "_law_name") (v2 bZ (vi 14))) (cx (h "_law_name") (v2 bZ (vi 15))) (vv 18) (vC (.non)) (bu aS) (bu aS) (cx (h "_law_name") (v2 bZ (vi 15)))))))
  (b9 (bM (ak 5) (O (aL (v6 (cx (h "_law_name") (v2 bZ g_)) dh (bu (v1 (cx (h "_law_name") (v2 bZ (vi 15))))) (vv 17) (bu (v1 (cx (h "_law_name") (v2 bZ (vi 9))))) (bu (v1 (vv 19))))))))))) fY)
  (ai (cw (iY (aK (aM (cx (h "_law_cell_at") (v2 bZ eB)) (vi 20)) g_)) (av 6) (fm h))
  (be (O (aL (v3 pF kg (vv 16)))))))))))))
theorem u4:EQ "_law_plan" 2 20 jV:=λ_=>by kernel_rfl
def fy(h:Str->GF):ES:=(b9 (fQ ka (de (bu (v1 fZ)) (ae fX dh))))
def j9 (h:Str->GF):ES:=(ai (aC 1 (dE aS))
  (ai (cw (lF (ae bZ eB)) (bF [av 2,av 3]) (fy h))
  (be ka)))
theorem oN:EQ "families_of" 1 4 j9:=λ_=>by kernel_rfl
def fg (h:Str->GF):ES:=(dG (bt (ak 5) (O (ae fX eB))) (ai (aC 6 (O (b8 (iY (eG ka)) [] 1 (av 7) (kG (j3 (ak 7) AQ) (bt (O (ae dU mx)) (O (ae fX dh)))) mx)))
  (b9 (fQ jH (b8 (jc k8) [] 1 (av 7) gP (aL (v3 fX kg mx)))))) fY)
def j8(h:Str->GF):ES:=(cw (lF dU) (bF [av 4,av 5]) (fg h))
def na (h:Str->GF):ES:=(ai (aC 1 (O (b8 (jc (cx (h "families_of") (v1 bZ))) [] 1 (av 7) gP (ae (ae (ae bZ eB) mx) eB))))
  (ai (aC 2 (dE aS))
  (ai (cw (jc (ae bZ dh)) (av 3) (j8 h))
  (be jH))))
theorem u0:EQ "pairs_of" 1 7 na:=λ_=>by kernel_rfl
def jY (h:Str->GF):ES:=(ai (aC 3 (O (ae (ae (ae bZ eB) fZ) g_)))
  (ai (aC 4 (O (ae (ae (ae bZ eB) fZ) rY)))
  (b9 (bM ka (O (aL (v3 eB (cL eY (v1 (b8 (jc fX) [] 1 (av 5) gP (ae pF g_)))) (de (aL (v1 (vi (-1)))) (eG AQ)))))))))
def sU (h:Str->GF):ES:=(ai (aC 1 (dE aS))
  (ai (cw (jc (cx (h "families_of") (v1 bZ))) (av 2) (jY h))
  (be (O (aL (v2 (cL eY (v1 dU)) (de (aL (v1 (aL aS))) (eG (O (cx (h "pairs_of") (v1 bZ)))))))))))
theorem CB:EQ "begin" 1 5 sU:=λ_=>by kernel_rfl
def jX (h:Str->GF):ES:=(ai (dG (bt ka (O (vt "lose"))) (be (O (ae bZ rY))) fY)
  (be (O (vB (kG (bV (ae bZ ur)) (bV (AO (eG jH) (ae bZ g_))))))))
theorem mS:EQ "has_flaw" 3 3 jX:=λ_=>by kernel_rfl
def gb (h:Str->GF):ES:=(ai (aC 2 (O (MZ (eG ka))))
  (ai (dG (bt fJ (O (vt "row"))) (be jH) fY)
  (be (O (b8 (jc fZ) [] 1 (av 3) (bt (O (xx dU (ae dU fX))) BU) fX)))))
theorem ji:EQ "unlike_spots" 2 3 gb:=λ_=>by kernel_rfl
def m_(h:Str->GF):ES:=(be (O (aR (aR (qc bZ j4 (i' dU)) (aL (v1 fZ))) (qc bZ (i' (aR dU dh)) j4))))
theorem uZ:EQ "replaced" 3 3 m_:=λ_=>by kernel_rfl
def oD(h:Str->GF):ES:=(be (O (aR (qc bZ j4 (i' dU)) (qc bZ (i' (aR dU dh)) j4))))
theorem wC:EQ "without" 2 2 oD:=λ_=>by kernel_rfl
def qY (h:Str->GF):ES:=(ai (dG (bt fJ (O (vt "lose"))) (be (O (cx (h "without") (v2 dU fZ)))) fY)
  (be (O (aR (qc dU j4 (i' (aR fZ dh))) (qc dU (i' fZ) j4)))))
theorem yi:EQ "flawed" 3 3 qY:=λ_=>by kernel_rfl
def gh (h:Str->GF):ES:=(ai (aC 11 (O (cx (h "replaced") (v3 (ae dU dh) kg (cx (h "flawed") (v3 fZ mw nA))))))
  (b9 (bM BU (O (aL (v2 (aL (v4 fZ mx uo nA)) (aL (v2 (ae dU eB) k9))))))))
def ei (h:Str->GF):ES:=(ai (xJ (bF [av 6,av 7,av 8]) pF)
  (ai (aC 9 (O (ae (ae dU dh) kg)))
  (dG (bT (O (cx (h "has_flaw") (v3 k8 fZ mw)))) (cw (jc (cx (h "unlike_spots") (v2 (ae k8 fW) mw))) (av 10) (gh h)) fY)))
def gx (h:Str->GF):ES:=(ai (aC 3 (dE aS))
  (ai (cw (lF (vE (dR (aT Att) fJ "pairs"))) (bF [av 4,av 5]) (ei h))
  (be BU)))
theorem rQ:Ph 13 "flaw_ends"=mP 3 12 (gx (Ph 12)):=by kernel_rfl
def lc(h:Str->GF):ES:=(be (mV (dR (aT Att) fJ "families") (vE (mV (dR (aT Att) fJ "homes") dU))))
theorem gR:EQ "Board.family_of" 2 2 lc:=λ_=>by kernel_rfl
def lu(h:Str->GF):ES:=(be (yj (b8 (jc (ae bZ g_)) [] 1 (av 2) gP (ae fZ eB)) dU))
theorem rH:EQ "values_of" 2 2 lu:=λ_=>by kernel_rfl
def cS (h:Str->GF):ES:=(ai (dG (bt fJ (O (vt "="))) (be (O (dF Gg ka jH))) fY)
  (ai (dG (bt fJ (O (vt "!="))) (be (O (dF CZ ka jH))) fY)
  (ai (dG (bt fJ (O (vt "<"))) (be (O (AO dU fZ))) fY)
  (ai (dG (bt fJ (O (vt "<="))) (be (O (MK dU fZ))) fY)
  (ai (dG (bt fJ (O (vt ">"))) (be (O (DA dU fZ))) fY)
  (be (O (DB dU fZ))))))))
theorem u6:EQ "compared" 3 3 cS:=λ_=>by kernel_rfl
def d6 (h:Str->GF):ES:=(ai (aC 2 (O (ae bZ eB)))
  (ai (dG (bt jH (O (vt "number"))) (be (O (ae bZ dh))) fY)
  (ai (dG (bt jH (O (vt "name"))) (be (O (ae dU (ae bZ dh)))) fY)
  (ai (aC 3 (O (cx (h "value_of") (v2 (ae bZ dh) dU))))
  (ai (aC 4 (O (cx (h "value_of") (v2 (ae bZ fW) dU))))
  (ai (dG (bt jH (O (vt "plus"))) (be (O (aR fX kg))) fY)
  (ai (dG (bt jH (O (vt "minus"))) (be (O (uq fX kg))) fY)
  (be (O (de fX kg))))))))))
theorem fP:EQ "value_of" 2 5 d6:=λ_=>by kernel_rfl
def h_ (h:Str->GF):ES:=(ai (aC 2 (O (ae bZ eB)))
  (ai (dG (bt jH (O (vt "true"))) (be (O (vC (.bl true)))) fY)
  (ai (dG (bt jH (O (vt "not"))) (be (O (vB (wT (bV (cx (h "holds") (v2 (ae bZ dh) dU))))))) fY)
  (ai (dG (bt jH (O (vt "and"))) (be (O (vB (kG (bV (cx (h "holds") (v2 (ae bZ dh) dU))) (bV (cx (h "holds") (v2 (ae bZ fW) dU))))))) fY)
  (ai (dG (bt jH (O (vt "or"))) (be (O (vB (C0 (bV (cx (h "holds") (v2 (ae bZ dh) dU))) (bV (cx (h "holds") (v2 (ae bZ fW) dU))))))) fY)
  (be (O (cx (h "compared") (v3 (ae bZ dh) (cx (h "value_of") (v2 (ae bZ fW) dU)) (cx (h "value_of") (v2 (ae bZ g_) dU)))))))))))
theorem jj:EQ "holds" 2 3 h_:=λ_=>by kernel_rfl
def fU(h:Str->GF):ES:=(be (O (b8 (jc (vE (mV (dR (aT Att) fJ "members") fZ))) [] 1 (av 3) (j3 BU ka) fX)))
theorem jQ:EQ "Board.hands_beside" 3 3 fU:=λ_=>by kernel_rfl
def e_ (h:Str->GF):ES:=(ai (aC 6 (wF (dR (aT Att) fJ "places") (v2 pF fZ)))
  (ai (aC 7 (mV (mV (mV (dR (aT Att) fJ "pairs") k8) eB) fW))
  (ai (aC 8 (O (ae dU k8)))
  (ai (aC 9 (O (M0 (bt (ak 7) (O (vt "row"))) (qc (MZ (eG (ak 8))) j4 (i' dh)) (cx (h "unlike_spots") (v2 mx uo)))))
  (b9 (fQ AQ (b8 (jc mw) [] 1 (av 10) (bt (O (ae (ae uo nA) eB)) (O (ae fX eB))) (aL (v2 pF nA)))))))))
def jU (h:Str->GF):ES:=(ai (dG (bV (dF vr BU (O (vC (.non))))) (be (O (bu (v1 (vC (.non)))))) fY)
  (ai (aC 4 (dE aS))
  (ai (cw (jc (vE (dQ (mT Tb h) fJ "hands_beside" (Md jH (O (ae fX dh)))))) (av 5) (e_ h))
  (be AQ))))
theorem mR:EQ "takeable" 4 10 jU:=λ_=>by kernel_rfl
def gS(h:Str->GF):ES:=(i8 AQ pF (cx (h "value_of") (v2 k8 fX)))
def bf (h:Str->GF):ES:=(ai (aC 10 (O (DG kg (ae mw eB) (ae dU uo))))
  (ai (dG (kG (bV (dF ww (O (ae mw eB)) AQ)) (wT (bV (nC Oo Oo (ae mw dh) nA (ae mw fW))))) (be (O (vC (.non)))) fY)
  (b9 (bM (ak 7) oG))))
def gi (h:Str->GF):ES:=(ai (aC 4 ou)
  (ai (cw (jc (ae fZ rY)) (bF [av 5,av 6]) (gS h))
  (ai (dG (kG (bV (dF dw (O (ae fZ g_)) (O (vC (.non))))) (j3 (O (ae (ae fZ g_) fW)) (O (vt "")))) (i8 AQ (ae (ae fZ g_) fW) (ae fX (vt "it"))) fY)
  (ai (aC 7 (dE aS))
  (ai (cw (lF (ae bZ g_)) (bF [av 8,av 9]) (bf h))
  (be (O (cL eY (v1 mx)))))))))
theorem jk:EQ "cells_behind" 4 11 gi:=λ_=>by kernel_rfl
def eZ (h:Str->GF):ES:=(ai (dG (C0 (bV (dF vr jH (O (vC (.non))))) (bt (O (ae fZ g_)) (O (vt "")))) (be ka) fY)
  (be (O (cx (h "replaced") (v3 dU (xx (ae bZ rY) (ae fZ g_)) (ae fX eB))))))
theorem gJ:EQ "whos_behind" 4 4 eZ:=λ_=>by kernel_rfl
def fR (h:Str->GF):ES:=(ai (dG (bt jH (O (vt "who"))) (be (O (bu (v1 (aL (v2 (aL aS) (bu (v1 (ae kg (xx (ae (vE (dQ (mT Tb h) fJ "family_of" (JF ka))) rY) fX)))))))))) fY)
  (ai (aC 5 (dQ (mT Tb h) fJ "hands_beside" (Md ka BU)))
  (ai (dG (bt jH (O (vt "all"))) (be (O (bu (v1 (aL (v2 (aL aS) pF)))))) fY)
  (be (O (b8 (jc pF) [] 1 (av 6) gP (aL (v2 (aL (v1 k8)) (bu (v1 k8))))))))))
theorem ip:EQ "targets_of" 5 6 fR:=λ_=>by kernel_rfl
def gu (h:Str->GF):ES:=(ai (aC 6 (sF (dR (aT Att) fJ "places") (v2 fZ pF)))
  (ai (dG (C0 (bV (dF vr (ak 6) (O (vC (.non))))) (bV (DA (cL oC (v1 (ae kg dh))) (vi 999)))) (be (O (vC (.non)))) fY)
  (ai (aC 7 (mV (mV (dR (aT Att) fJ "pairs") k8) eB))
  (ai (dG (bV (DB (eG (O (ae dU k8))) (ae mx g_))) (be (O (vC (.non)))) fY)
  (ai (aC 8 (O (aR (ae dU k8) (aL (v1 kg)))))
  (ai (dG (bt (O (ae mx fW)) (O (vt "heap"))) (aC 8 (O (cL eY (v1 (DF (ak 8)))))) fY)
  (aC 1 (O (cx (h "replaced") (v3 dU k8 uo))))))))))
def lN (h:Str->GF):ES:=(ai (cw (jc fX) (av 5) (gu h))
  (be ka))
theorem qS:EQ "posted" 5 9 lN:=λ_=>by kernel_rfl
def gM (h:Str->GF):ES:=(ai (aC 17 (O (fx (h "posted") (JE fJ (ak 14) ka (ak 16) (ak 11)))))
  (dG (bV (dF dw (ak 17) (O (vC (.non))))) (b9 (bM (ak 12) (O (aL (v2 (aR (vv 13) (vv 15)) (vv 17)))))) fY))
def ff(h:Str->GF):ES:=(cw (jc (fx (h "targets_of") (JE fJ ka (ak 9) oG (ak 5)))) (bF [av 15,av 16]) (gM h))
def gL (h:Str->GF):ES:=(ai (aC 11 (O (aL (v2 mx (cx (h "value_of") (v2 uo fX))))))
  (ai (aC 12 (dE aS))
  (ai (cw (jc k8) (bF [av 13,av 14]) (ff h))
  (aC 6 (ak 12)))))
def m9 (h:Str->GF):ES:=(ai (aC 6 (O (bu (v1 (aL (v2 (aL aS) kg))))))
  (ai (cw (jc fZ) (bF [av 7,av 8,av 9,av 10]) (gL h))
  (be (ak 6))))
theorem uY:EQ "sendings" 6 18 m9:=λ_=>by kernel_rfl
def js(h:Str->GF):ES:=(b9 (bM (ak 13) (O (aL (v2 (aL (v5 (vt "step") fZ (ae fX eB) kg (vv 14))) (aL (v2 (vv 12) (vv 15))))))))
def eN (h:Str->GF):ES:=(ai (aC 5 (dQ (mT Tb h) fJ "family_of" (JF jH)))
  (ai (xJ (bF [av 6,av 7,av 8]) (ae (ae dU eB) fZ))
  (ai (aC 9 (O (ae dU dh)))
  (ai (aC 10 (gK (h "values_of") (Md (ak 5) (ak 7))))
  (ai (dG (bV (dF dw AQ (O (vC (.non))))) (ai (aC 11 (wF (dR (aT Att) fJ "places") (v2 (ae kg eB) fZ)))
  (ai (i8 oG (vt "it") (ae (ae (ae mw k9) (ae kg dh)) dh))
  (aC 9 (O (cx (h "replaced") (v3 mw k9 (cx (h "without") (v2 (ae mw k9) (ae kg dh))))))))) fY)
  (ai (aC 7 (O (cx (h "cells_behind") (v4 pF mx fX nA))))
  (ai (dG (bV (dF vr (ak 7) (O (vC (.non))))) (be (O (bu aS))) fY)
  (ai (aC 8 (O (cx (h "whos_behind") (v4 pF uo (ae fX g_) kg))))
  (ai (aC 12 (O (cx (h "replaced") (v3 (ae dU eB) fZ (aL (v3 (xx (ae pF fW) (ae fX (vi 6))) mx uo))))))
  (ai (aC 13 (dE aS))
  (ai (cw (jc (fx (h "sendings") (Rj fJ jH (O (ae fX ur)) oG (ak 9) (ak 8)))) (bF [av 14,av 15]) (js h))
  (be (ak 13)))))))))))))
theorem lp:EQ "step_ends" 5 16 eN:=λ_=>by kernel_rfl
def ju(h:Str->GF):ES:=(b9 (fQ (ak 8) (fx (h "step_ends") (JE fJ ka jH (ak 9) oG))))
def ee(h:Str->GF):ES:=(dG (kG (bt (O (ae mw dh)) (O (ae (ae fX fW) kg))) (bT (O (cx (h "holds") (v2 (ae mw fW) mx))))) (cw (jc (fx (h "takeable") (Rk fJ (O (ae dU dh)) jH (O (ae mw g_))))) (av 10) (ju h)) fY)
def gw (h:Str->GF):ES:=(ai (aC 3 (dQ (mT Tb h) fJ "family_of" (JF jH)))
  (ai (xJ (bF [av 4,av 5,av 6]) (ae (ae dU eB) fZ))
  (ai (aC 7 (O (cx (h "values_of") (v2 fX pF))))
  (ai (aC 8 (dE aS))
  (ai (cw (jc (ae fX ur)) (av 9) (ee h))
  (be (ak 8)))))))
theorem rO:Ph 13 "hand_ends"=mP 3 11 (gw (Ph 12)):=by kernel_rfl
def kD(h:Str->GF):ES:=(b9 (fQ jH (fx (h "hand_ends") (Mc fJ ka BU))))
def kE (h:Str->GF):ES:=(ai (aC 2 (dE aS))
  (ai (cw (iY (eG (dR (aT Att) fJ "homes"))) (av 3) (kD h))
  (ai (b9 (fQ jH (fx (h "flaw_ends") (Mc fJ ka (O (vt "lose"))))))
  (ai (b9 (fQ jH (fx (h "flaw_ends") (Mc fJ ka (O (vt "double"))))))
  (be jH)))))
theorem wD:Ph 14 "ends_on"=mP 2 4 (kE (Ph 13)):=by kernel_rfl
def cq(h:Str->GF):ES:=(b9 (bM (mU (dR (aT Att) (ak 0) "members") (kh oP (vE (dQ (mT Tb h) (ak 0) "family_of" (bB (ak 4) fC))) (vC (.int 0))) (dE aS)) (ak 4)))
def fS(h:Str->GF):ES:=(D0 (dR (aT Att) fJ "places") (v2 (ae fX dh) (ae fX fW)) fZ)
def iu (h:Str->GF):ES:=(ai (n0 (aT Att) fJ "families" (O (ae dU eB)))
  (ai (n0 (aT Att) fJ "homes" (gK (h "families_of") (JF ka)))
  (ai (n0 (aT Att) fJ "pairs" (gK (h "pairs_of") (JF ka)))
  (ai (n0 (aT Att) fJ "places" yk)
  (ai (cw (lF (vE (dR (aT Att) fJ "pairs"))) (bF [av 2,av 3]) (fS h))
  (ai (n0 (aT Att) fJ "members" ou)
  (cw (iY (eG (dR (aT Att) fJ "homes"))) (av 4) (cq h))))))))
theorem qT:EQ "Board.__init__" 2 5 iu:=λ_=>by kernel_rfl
def i3(x h:Str->GF):ES:=(be (gK (x "ends_on") (bB (qU (h "Board.__init__") "Board" (bB (ak 0) fC)) (bB (ak 1) fC))))
theorem rR(n:Nat):Ph (n+2) "ends_from"=mP 2 2 (i3 (Ph (n+1)) (Ph n)):=by kernel_rfl
def jt (h:Str->GF):ES:=(dG (bV (dF hY (ak 7) (ak 3))) (ai (dG (bV (dF Gg (O (eG (ak 2))) (O (vC (.int 2000))))) uF fY)
  (ai (se (ak 3) (vE (ak 7)) (vC (.bl true)))
  (b9 (bM (ak 2) (O (aL (aF (vE (ak 7)) (aF (vE (ak 4)) (aF (vE (ak 6)) aS))))))))) fY)
def d8(h:Str->GF):ES:=(jt h)
def d7 (x h:Str->GF):ES:=(ai (aC 5 (mV (mV (ak 2) (vE (ak 4))) (vC (.int 0))))
  (ai (cw (jc (qd (h "ends_on") 1 (vE (ak 5)))) (bF [av 6,av 7]) (d8 x))
  (D2 4 (vC (.int 1)))))
def i0 (x h:Str->GF):ES:=(ai (aC 2 (oy (b8 (jc (vE (ak 0))) [] 1 (av 8) gP (aL (aF (vE (ak 8)) (aF (vC (.non)) (aF (vC (.non)) aS)))))))
  (ai (aC 3 (u7 (b8 (jc (vE (ak 0))) [] 1 (av 8) gP (aL (aF (vE (ak 8)) (aF (vC (.bl true)) aS))))))
  (ai (aC 4 (O (vC (.int 0))))
  (ai (nH 1000 (bV (kh IF (vE (ak 4)) (eG (ak 2)))) (d7 x h))
  (be (ak 2))))))
theorem rJ(n:Nat):Ph (n+2) "rows_from"=mP 2 8 (i0 (Ph (n+1)) (Ph n)):=by kernel_rfl
def gO (h x:Str->GF):ES:=(ai (aC 1 (qU (x "Board.__init__") "Board" (bB (ak 0) fC)))
  (be (va (h "rows_from") 1 (bu (aF (cL (cG (h "begin")) (aF (vE (ak 0)) aS)) aS)))))
theorem oO(n:Nat):Ph (n+2) "coming_rows"=mP 1 2 (gO (Ph (n+1)) (Ph n)):=by kernel_rfl
def kF(h:Str->GF):ES:=(be (oy (b8 (jc (cL (cG (h "coming_rows")) (aF (vE (ak 0)) aS))) [] 1 (av 1) gP (kh oP (vE (ak 1)) (vC (.int 0))))))
theorem wE:EQ "comings" 1 1 kF:=λ_=>by kernel_rfl
def lP (h:Str->GF):ES:=(dG (bV (dF hY (ak 7) (ak 4))) (ai (se (ak 4) (vE (ak 7)) (vC (.bl true)))
  (b9 (bM (ak 3) (ak 7)))) fY)
def jW (h:Str->GF):ES:=(ai (cw (jc (cL (cG (h "ends_from")) (aF (vE (ak 1)) (aF (vE (mV (ak 3) (vE (ak 5)))) aS)))) (bF [av 6,av 7]) (lP h))
  (aC 5 (O (kh mY (vE (ak 5)) (vC (.int 1))))))
def lO (h:Str->GF):ES:=(ai (aC 9 (gK (h "comings") (bB (ak 2) fC)))
  (ai (dG (C0 (wT (bT (O (r_ "list" (ak 9))))) (C0 (bV (dF CZ (ak 9) (ak 3))) (bV (dF CZ (ak 2) (ak 1))))) (be (O (vC (.bl false)))) fY)
  (b9 (u_ (ak 9)))))
def pL (h:Str->GF):ES:=(ai (aC 1 (O (cL (cG (h "_law_plan")) (aF (vE (ak 0)) (aF (vC (.int 2)) aS)))))
  (ai (aC 2 (O (aL (aF (cL iZ (aF (kh oP (vE (ak 1)) (vC (.int 0))) aS)) (aF (cL iZ (aF (kh oP (vE (ak 1)) (vC (.int 1))) aS)) (aF (cL iZ (aF (kh oP (vE (ak 1)) (vC (.int 2))) aS)) aS))))))
  (ai (aC 3 (dE (aF (cL (cG (h "begin")) (aF (vE (ak 1)) aS)) aS)))
  (ai (aC 4 (u9 (vE (mV (ak 3) (vC (.int 0)))) (vC (.bl true))))
  (ai (aC 5 (O (vC (.int 0))))
  (ai (nH 1000 (bV (kh IF (vE (ak 5)) (eG (ak 3)))) (jW h))
  (ai (cw (iY (vC (.int 2))) (av 8) (lO h))
  (be (O (vC (.bl true)))))))))))
theorem ID:EQ "law" 1 10 pL:=λ_=>by kernel_rfl
variable{a:Type}{m:List a}{n:Nat}
theorem QK(h:m.length=n+1):∃a r,m=a::r/\r.length=n:=by
 cases m with
 |nil=>cases h
 |cons a r=>exact⟨a,r,rfl,Nat.succ.inj h⟩
theorem Rt(h:m.length=1):∃a,m=[a]:=by obtain⟨a,r,rfl,x⟩:=QK h;exact⟨a,by rw[g9 x]⟩
theorem O1(h:m.length=2):∃a b,m=[a,b]:=by obtain⟨a,r,rfl,x⟩:=QK h;obtain⟨b,rfl⟩:=Rt x;exact⟨a,b,rfl⟩
theorem R'(h:m.length=3):∃a b c,m=[a,b,c]:=by obtain⟨a,r,rfl,x⟩:=QK h;obtain⟨b,c,rfl⟩:=O1 x;exact⟨a,b,c,rfl⟩
theorem vA:∀{s:LS}{m:LV},s.Nodup->m.length=s.length->(s.filterMap λn=>((s.zip m).lookup n).map (n,·))=s.zip m/\∀n ∈ s,((s.zip m).lookup n).isNone=false
 | [],m,_,l=>by cases g9 l;simp
 |p::s,[],_,l=>by cases l
 |p::s,u::m,x,l=>by
  obtain⟨k,f⟩:=bQ.mp x;obtain⟨i,t⟩:=vA f (Nat.succ.inj l);have a:∀n ∈ s,(n == p)=false:=λn h=>beq_false_of_ne λz=>k (z ▸ h);refine⟨?_,λn r=>?_⟩
  .have c:∀{qs:LS},(∀n ∈ qs,(n == p)=false)->(qs.filterMap λn=>(((p,u)::s.zip m).lookup n).map (n,·))=qs.filterMap λn=>((s.zip m).lookup n).map (n,·):=λ{qs} h=>by
    induction qs with
    |nil=>rfl
    |cons q qs v=>rw[mh,mh,v λn x=>h n (aG _ x)];simp[fG,h q aH]
   rw[zS,List.filterMap_cons_some (b:=(p,u)) (by simp[List.lookup_cons_self]),c a,i]
  .rw [zS];by_cases e:n=p
   .subst e;simp[fG]
   .simp only[fG,beq_false_of_ne e];exact t n ((aN.mp r).resolve_left e)
noncomputable def xP(a:Arguments)(p:LS):Bool:=a.posonlyargs.isEmpty && a.kwonlyargs.isEmpty && a.vararg.isNone && a.kwarg.isNone && decide (a.args.map (·.arg)=p) && decide p.Nodup
theorem FY{f:FuncData}{p:LS}(h:xP f.params p=true)(hd:f.defaults=.none){m:LV}(l:m.length=p.length):bindArgs f ⟨m,[]⟩=pure (p.zip m):=by
 simp only[xP,ar,tT,l_,Option.isNone_iff_eq_none]at h;obtain⟨⟨⟨⟨⟨x,a⟩,e⟩,s⟩,k⟩,b⟩:=h;obtain⟨t,q⟩:=vA b l;have c:(p.filter λn=>((p.zip m).lookup n).isNone)=[]:=zY.mpr λn r=>by simp[q n r]
 have v:p.take p.length=p:=ma;have z:p.drop p.length=[]:=pj;unfold bindArgs;simp only[x,a,e,s,k,hd,dX,eR,cZ,l];simp[seqItems?,c,t,z];rfl
theorem sc:Tb.all OR=true:=by decide +kernel
theorem un:(Tb.map (·.name)).Nodup:=by decide +kernel
inductive Fn(K:FG)(x:Str)(st:Stmt):Prop
 |mk (f:Addr) (oc:Value) (od:Option Addr) (kV dc pm:Value) (an:Option Addr) (cd ct:Value) (sl:Array (OV)):pX K mainGlobals x=some (some (.ref f))->K.lookup f=some ⟨oc,od,.func (iT x x (hZ st) (eX st) (bj st) .none kV dc pm an cd ct),sl⟩->iU K cd x=true->dH K (.ref f)=true->Fn K x st
def K7(d:Df):Bool:=d.cls.cps.isEmpty && decide (d.short=d.name) && !LI.contains d.cls && xP (hZ d.st) d.ps
theorem QE:Mx.all K7=true:=by decide +kernel
structure Ck(K:FG)(x:Str)(C:Addr):Prop where
 ns:pX K mainGlobals x=some (some (.ref C))
 get:p6 K C Str.empty=true
 dct:uh K C=true
 ovr:xp K C=true
 set:dB K (.ref C) "__setattr__"=some (some (.builtin "object.__setattr__"))
 mak:xl K C=true
 kp:dH K (.ref C)=true
inductive Mt(K:FG)(C:Addr)(st:Stmt)(m q:Str)(dV:Value):Prop
 |mk (f:Addr) (oc:Value) (od:Option Addr) (kV dc pm:Value) (an:Option Addr) (cd ct:Value) (sl:Array (OV)):dB K (.ref C) m=some (some (.ref f))->tU K (.ref f)=true->K.lookup f=some ⟨oc,od,.func (iT m q (hZ st) (eX st) (bj st) dV kV dc pm an cd ct),sl⟩->iU K cd q=true->dH K (.ref f)=true->Mt K C st m q dV
section
variable{K:FG}{h:Heap}{b:SV}(X:K.In h)(G:h.Ns mainGlobals b)
include X G
theorem dk{d:Df}(H:Fn K d.name d.st)(p:K7 d=true):∃f s,DOk K b d f s:=by obtain⟨x,P,e,st,N,S,y,i,F⟩:=d;simp only[K7,ar,mn,tT]at p;obtain⟨⟨⟨n,rfl⟩,r⟩,t⟩:=p;obtain⟨f,o,j,kV,g,z,v,w,u,A,a,l,c,k⟩:=H;exact⟨_,_,⟨Fv l c k,.all λm q=>FY t rfl q,λ_=>⟨_,_,_,_,_,_,rfl⟩,λ_ (h:LI.contains e=true)=>absurd h (by rw[r];decide),λ_=>xj X G a,λ(h:e.cps.isEmpty=false)=>absurd h (by rw[n];decide)⟩⟩
theorem dm(c:Ck K x C)(M:Mt K C st e q r)(j:x.cps.isEmpty=false)
  (m:∀(kV o p:Value)(n:Option Addr)(d t:Value),Binds K (iT e q (hZ st) (eX st) (bj st) r kV o p n d t) u []/\(e=("__init__":Str)->LI.contains x=true->Binds K (iT e q (hZ st) (eX st) (bj st) r kV o p n d t) u [.none])):∃f i,DOk K b ⟨q,e,x,st,N,u,A,y,B⟩ f i:=by
 obtain⟨f,H,S,kV,s,p,n,h,t,F,a,w,l,g,k⟩:=M;have v:x.cps.isEmpty=true->False:=λz=>by rw[j]at z;cases z
 exact⟨_,_,⟨Fv l g k,(m kV s p n h t).1,λz=>(v z).elim,(m kV s p n h t).2,λz=>(v z).elim,λ_=>⟨C,c.ns,xj X G c.ns,⟨c.get,c.dct,c.ovr,c.set⟩,λz=>⟨c.mak,z ▸ a,w,c.kp⟩,λ_=>⟨a,w,k⟩⟩⟩⟩
end
def Gi(K:FG)(x:Str)(i:Int):Prop:=∃t,pX K mainGlobals x=some (some (.int i t))
variable{x:Str}
theorem Ft(X:K.In h)(G:h.Ns mainGlobals b){i:Int}(H:Gi K x i):np w K b x (.int i):=by obtain⟨t,a⟩:=H;exact .plain ⟨_,.int i,xj X G a,⟨_,rfl⟩,λ_ _=>rfl⟩ rfl
structure BoardOk(K:FG)(C:Addr):Prop where
 ck:Ck K "Board" C
 a_families:dB K (.ref C) "families"=some none
 a_homes:dB K (.ref C) "homes"=some none
 a_members:dB K (.ref C) "members"=some none
 a_pairs:dB K (.ref C) "pairs"=some none
 a_places:dB K (.ref C) "places"=some none
 m_Board_family_of:Mt K C (L2.k4 (Ja 10) 1) "family_of" "Board.family_of" .none
 m_Board_hands_beside:Mt K C (L2.k4 (Ja 10) 2) "hands_beside" "Board.hands_beside" .none
 m_Board_init:Mt K C (L2.k4 (Ja 10) 0) "__init__" "Board.__init__" .none
theorem Sa:(Tb.all λd=>!d.deep.contains (Str.ofString "<lambda>") ||decide (d.name=E6))=true:=by decide +kernel
set_option tactic.hygienic true in
theorem Hi(k:(PySem.W.kmHook K i e u).says w h)(l:Bo (K w.params)=true)(p:((cf (K w.params)).all λP=>u.contains P)=true) :
  ∀P ∈ cf (K w.params),h.get? P=some (p0 #[])/\∃c,pY h c P:=λP f=>by
 refine⟨PySem.W.km_tabs_of k P (by simpa using a_.mp p P f),?_⟩;obtain⟨⟨c,o⟩,m,x⟩:=kP.mp f;have a:=a_.mp l _ m;have b:uT o=true:=by
  unfold DP at x;split at x
  .rename_i v hd;split at x
   .rename_i q t g n j;split at x
    .rename_i r;unfold uT;have d:o.data=.fields v:=hd;rw[d];obtain⟨s⟩:=v;match s,n with
     |_::_::_,n=>cases (show _=_ from cc n);simpa using r
    .cases x
   .cases x
  .cases x
 rw[b]at a;simp only[ml,kT]at a;rw[x]at a;exact⟨c,Dm (PySem.W.km_in_of k) a⟩
open PySem.W in
theorem L6{w:World}{K:Frag}{h:Heap}{b:SV}(X:K.In h)(G:h.Ns mainGlobals b){C:Addr}(a:BoardOk K C)
  (i:∀d ∈ Mx,Fn K d.name d.st) (l:Bo K=true) (q:Gi K "MOST_STANDINGS" 2000)
  (g:Gi K "HIGHEST_LETTER" 999) (p:Gi K "NOBODY" (-1)) (z:∀x ∈ IN,nsIn K mainGlobals x=some none):TOk w Gv Att Tb K b:=by
 refine⟨λd hd=>?_,sc,un,λx k=>mg_none_of X G (z x k),λx v s=>?_,λc f u=>?_,l,λd hd j=>?_⟩
 .rcases bE.mp hd with hd|hd
  .exact dk X G (i d hd) (a_.mp QE d hd)
  simp only[RF,aN,db,cY]at hd;rcases hd with rfl|rfl|rfl;all_goals first
   |exact dm X G a.ck a.m_Board_family_of (by decide +kernel) λ_ _ _ _ _ _=>⟨.all λm l=>by obtain⟨_,_,rfl⟩:=O1 l;rfl,λh n=>by first|exact absurd h (by decide +kernel)|exact absurd n (by decide +kernel)⟩
   |exact dm X G a.ck a.m_Board_hands_beside (by decide +kernel) λ_ _ _ _ _ _=>⟨.all λm l=>by obtain⟨_,_,_,rfl⟩:=R' l;rfl,λh n=>by first|exact absurd h (by decide +kernel)|exact absurd n (by decide +kernel)⟩
   |exact dm X G a.ck a.m_Board_init (by decide +kernel) λ_ _ _ _ _ _=>⟨.all λm l=>by obtain⟨_,_,rfl⟩:=O1 l;rfl,λh n=>by first|exact absurd h (by decide +kernel)|exact absurd n (by decide +kernel)⟩
 .unfold Gv at s;by_cases e:x=("HIGHEST_LETTER":Str)
  .rw [ac e]at s;subst e;cases s;exact Ft X G g
  rw[af e]at s;clear e;by_cases e:x=("MOST_STANDINGS":Str)
  .rw [ac e]at s;subst e;cases s;exact Ft X G q
  rw[af e]at s;clear e;by_cases e:x=("NOBODY":Str)
  .rw [ac e]at s;subst e;cases s;exact Ft X G p
  rw[af e]at s;clear e;cases s
 .obtain⟨x,k,e⟩:=ph.mp u;rw[ar]at e;have t:=aJ e.1;have r:f ∈ x.2:=by simpa using e.2
  subst t;simp only[Att,aN,db,cY]at k;rcases k with rfl
  .simp only[aN,db,cY]at r;rcases r with rfl|rfl|rfl|rfl|rfl
   .exact⟨_,a.ck.ns,⟨a.ck.get,a.ck.dct,a.ck.ovr,a.ck.set⟩,a.a_families⟩
   .exact⟨_,a.ck.ns,⟨a.ck.get,a.ck.dct,a.ck.ovr,a.ck.set⟩,a.a_homes⟩
   .exact⟨_,a.ck.ns,⟨a.ck.get,a.ck.dct,a.ck.ovr,a.ck.set⟩,a.a_members⟩
   .exact⟨_,a.ck.ns,⟨a.ck.get,a.ck.dct,a.ck.ovr,a.ck.set⟩,a.a_pairs⟩
   .exact⟨_,a.ck.ns,⟨a.ck.get,a.ck.dct,a.ck.ovr,a.ck.set⟩,a.a_places⟩
 .have:=a_.mp Sa d hd;rw[j]at this;simpa using this
theorem log2_small{i:Int}(h:i.natAbs < 2 ^ 60):i.natAbs.log2 < 60:=by
 by_cases e:i.natAbs=0
 .rw [e];decide
 .exact (zp e).mpr h
theorem bK{i j:Int}(h:i.natAbs < 2 ^ 60)(x:j.natAbs < 2 ^ 60):f6 i j=true:=by unfold f6;have a:=log2_small h;have b:=log2_small x;exact gX (by lia)
theorem K8:∀(n:Nat)(v:P),cE n v=true->cE (n+1) v=true:=by
 intro n;induction n with
 |zero=>intro v h;cases v<;>first|rfl|exact h|cases h
 |succ n i=>
  intro v h;cases v with
  |tup s=>exact a_.mpr λx a=>i x (a_.mp h x a)
  |lst s=>exact a_.mpr λx a=>i x (a_.mp h x a)
  |ro s=>exact a_.mpr λx a=>i x (a_.mp h x a)
  |non=>rfl
  |bl _=>rfl
  |int _=>rfl
  |str _=>exact h
  |dct _ _=>cases h
variable{v:P}
theorem df(h:cE n v=true)(m:n≤e):cE e v=true:=by
 obtain⟨k,rfl⟩:=Nat.exists_eq_add_of_le m;clear m;induction k with
 |zero=>exact h
 |succ k i=>exact K8 _ _ i
def strOk(x:Str):Prop:=aW x=true
@[simp] theorem Be(n:Nat)(i:Int):cE n (.int i)=true:=by cases n<;>rfl
@[simp] theorem QD(n:Nat)(i:Bool):cE n (.bl i)=true:=by cases n<;>rfl
@[simp] theorem OW(n:Nat):cE n .non=true:=by cases n<;>rfl
@[simp] theorem uK(n:Nat)(x:Str):cE n (.str x)=aW x:=by cases n<;>rfl
@[simp] theorem OU(n:Nat)(s:List P):cE (n+1) (.tup s)=s.all (cE n):=rfl
@[simp] theorem OX(n:Nat)(s:List P):cE (n+1) (.lst s)=s.all (cE n):=rfl
theorem HW(h:∀x ∈ s,cE n x=true):cE (n+1) (.lst s)=true:=a_.mpr h
@[simp] theorem Bm(c:Nat):lT ⟨#[c]⟩=1:=rfl
theorem B7(h:strOk x)(a:strOk y):strOk (x++y):=by show(x.cps++y.cps).all (λc=>decide (c < 0x110000))=true;rw[Ag,ar];exact⟨h,a⟩
theorem B6(e:strOk x)(n:Nat):strOk (dI x n):=by
 have k:∀(n:Nat)(a:Array Nat),a.all (λc=>decide (c < 0x110000))=true->((List.replicate n x.cps).foldl (·++·) a).all (λc=>decide (c < 0x110000))=true:=by
  intro n;induction n with
  |zero=>intro a h;exact h
  |succ n i=>intro a h;rw[cD,fH];exact i _ (by rw[Ag,ar];exact⟨h,e⟩)
 exact k n #[] (by simp)
variable{k:Int}
theorem FK(f:strOk x)(a:0≤k)(s:k < x.length)(n:x.length≤1000000):∃c,strOk ⟨#[c]⟩/\oP (.str x) (.int k)=some (.str ⟨#[c]⟩):=by
 have l:k.toNat < x.cps.toList.length:=by simp only[mu];unfold lT at s;lia
 have h:k.toNat < x.cps.size:=by simpa using l
 refine⟨x.cps.toList[k.toNat],?_,?_⟩
 .have:=Array.all_eq_true.mp f k.toNat h;show(#[x.cps.toList[k.toNat]].all λc=>decide (c < 0x110000))=true;simpa using this
 .have e:L2.atI x.cps.toList k=some (x.cps.toList[k.toNat]):=bC a (by simp[h]);show(if iq x.length=true then (L2.atI x.cps.toList k).map λc=>P.str ⟨#[c]⟩ else none)=_;rw[ac (by simp only[mZ];exact n),e];rfl
theorem CK(h:x.length+y.length≤1000000):vg (.str x) (.str y)=some (.str (x++y)):=by show(if iq (x.length+y.length)=true then some (P.str (x++y)) else none)=_;rw[ac (by rw[mZ];exact h)]
variable{s:List a}
theorem iw(h:s≠[])(a:Int):∃x ∈ s,L2.atI s (a % (s.length:Int))=some x:=by
 have l:(0:Int) < (s.length:Int):=by cases s with|nil=>exact absurd rfl h|cons _ _=>simp
 have e:=gj a (Int.ne_of_gt l);have n:=iz a l;have hk:(a % (s.length:Int)).toNat < s.length:=by lia
 exact⟨s[(a % (s.length:Int)).toNat],gZ _,bC e (by simp[hk])⟩
theorem nW(h:0≤k)(a:k < (s.length:Int)):∃x ∈ s,L2.atI s k=some x:=by
 have hk:k.toNat < s.length:=by lia
 exact⟨s[k.toNat],gZ _,bC h (by simp[hk])⟩
theorem F6(h:s≠[]):∃x ∈ s,L2.atI s (-1)=some x:=by
 have l:0 < s.length:=zT.mpr h;refine⟨s[s.length-1],gZ _,?_⟩;unfold L2.atI L2.CY;rw[af (by lia),ac (by lia)];have e:(-1+(s.length:Int)).toNat=s.length-1:=by lia
 simp[e,l]
theorem dg{g:kc}{b:ES}{Inv:Nat->Lc->U->Prop}:∀{s:List P}{k:Nat}{L:Lc}{S:U},(∀i v L S,s[i]? = some v->Inv (k+i) L S->∃f L2 n,g v L=some f/\b f S=some (.nx,L2,n)/\Inv (k+i+1) L2 n)->Inv k L S ->
  ∃x a,b_ g b s L S=some (.nx,x,a)/\Inv (k+s.length) x a
 | [],k,L,S,_,h=>⟨L,S,rfl,h⟩
 |v::r,k,L,S,c,h=>by
  obtain⟨f,L2,n,m,t,d⟩:=c 0 v L S rfl h;obtain⟨x,a,p,u⟩:=dg (g:=g) (b:=b) (Inv:=Inv) (s:=r) (k:=k+1) (L:=L2) (S:=n) (λi w L S e q=>by have:=c (i+1) w L S (by simpa using e) (by rw[show k+(i+1)=k+1+i by lia];exact q);rwa [show k+(i+1)+1=k+1+i+1 by lia]at this) d
  exact⟨x,a,by rw[cz m t];exact p,by rw[aV,show k+(r.length+1)=k+1+r.length by lia];exact u⟩
theorem nV{g:kc}{c:EB}{e:EV}{Inv:Lc->Prop}{Q:P->Prop}{S:U}:∀{s:List P}{L:Lc},(∀v ∈ s,∀L,Inv L->∃x k,g v L=some x/\Inv x/\c x S=some (k,S)/\(k=true->∃y,e x S=some (y,S)/\Q y))->Inv L ->
  ∃a,bS g c e s L S=some (a,S)/\(∀y ∈ a,Q y)/\a.length≤s.length
 | [],L,_,h=>⟨[],rfl,λ_ z=>(by cases z),ag _⟩
 |v::r,L,t,h=>by
  obtain⟨x,k,n,i,f,d⟩:=t v aH L h;obtain⟨a,b,m,j⟩:=nV (s:=r) (L:=x) (λw hw=>t w (aG _ hw)) i;cases k with
  |false=>exact⟨a,by simp[bS,n,f,b],m,by simp;lia⟩
  |true=>obtain⟨y,p,q⟩:=d rfl;exact⟨y::a,by simp[bS,n,f,b,p],λz u=>(aN.mp u).elim (λe=>e ▸ q) (m z),by simp;lia⟩
theorem lK{g:kc}{e:EV}{Inv:Lc->Prop}{Q:P->Prop}{S:U}:∀{s:List P}{L:Lc},(∀v ∈ s,∀L,Inv L->∃x y,g v L=some x/\Inv x/\e x S=some (y,S)/\Q y)->Inv L ->
  ∃a,bS g gP e s L S=some (a,S)/\(∀y ∈ a,Q y)/\a.length=s.length
 | [],L,_,h=>⟨[],rfl,λ_ z=>(by cases z),rfl⟩
 |v::r,L,n,h=>by obtain⟨x,y,k,i,f,q⟩:=n v aH L h;obtain⟨a,b,c,m⟩:=lK (s:=r) (L:=x) (λw hw=>n w (aG _ hw)) i;exact⟨y::a,by simp[bS,k,f,b],λz t=>(aN.mp t).elim (λe=>e ▸ q) (c z),by simp[m]⟩
theorem cN{g:kc}{c:EB}{e:EV}{Inv:Lc->Prop}{S:U}{p:P->Bool}{f:P->P}:∀{s:List P}{L:Lc},(∀v ∈ s,∀L,Inv L->∃x,g v L=some x/\Inv x/\c x S=some (p v,S)/\(p v=true->e x S=some (f v,S)))->Inv L ->
  bS g c e s L S=some ((s.filter p).map f,S)
 | [],L,_,h=>rfl
 |v::r,L,m,h=>by
  obtain⟨x,n,i,a,t⟩:=m v aH L h;have b:=cN (s:=r) (L:=x) (λw hw=>m w (aG _ hw)) i;cases k:p v with
  |false=>rw[k]at a;simp[bS,n,a,b,k]
  |true=>rw[k]at a;simp[bS,n,a,b,k,t k]
theorem ints_get{lo:Int}{n i:Nat}{v:P}(h:(intsFrom lo n)[i]? = some v):v=.int (lo+i)/\i < n:=by
 unfold Ev.intsFrom at h;rw[bY]at h;cases e:(List.range n)[i]? with
 |none=>rw[e]at h;cases h
 |some j=>
  rw[e]at h;cases h;have:=bw.mp e
  obtain⟨x,a⟩:=this;simp at x a;subst a;exact⟨rfl,x⟩
theorem gC{lo:Int}{n:Nat}{v:P}(h:v ∈ intsFrom lo n):∃i:Nat,v=.int (lo+i)/\i < n:=by obtain⟨i,x,e⟩:=iG.mp h;exact⟨i,ints_get (by rw[bg x,e])⟩
theorem cJ(lo:Int)(n:Nat):(intsFrom lo n).length=n:=by simp[Ev.intsFrom]
theorem EM(n k:Str->GF)(s:List P):∀(a:Int)(p t q:Option D),∃(r:Int)(e:Option D),b_ (av 2) (ir n) s [qi a,p,t,q] []=some (.nx,[qi r,p,e,q],[]):=by
 induction s with
 |nil=>intro a p t q;exact⟨a,t,rfl⟩
 |cons x s i=>intro a p t q;obtain⟨r,e,h⟩:=i (a / 2147483648) p (qp x) q;exact⟨r,e,by simpa[b_,ir] using h⟩
theorem EL(a:Int){p:Int}(s:0≤p)(k:p < 1000):∃r:Int,0≤r/\cG (Ph (n+2) "_law_mix") [.int a,.int p]=some (.int r):=by
 by_cases h:(1000000000000:Int)≤a
 .obtain⟨r,i,e⟩:=EM (Ph (n+1)) (Ph n) (intsFrom 0 (p % 61).toNat) (a / 1000000000000-1) (qi p) none none;refine⟨r % 2147483648,gj _ (by decide),?_⟩;have c:(p % 61).natAbs < 1000000:=by lia
  rw[oq,aU];simp[kC,h,c,e]
 .have m:0≤p * p/\p * p≤1000000:=⟨Int.mul_nonneg s s,Int.le_trans (Int.mul_le_mul (yI k) (yI k) s (by decide)) (by decide)⟩;have v:f6 p p=true:=bK (by lia) (by lia);have d:f6 (p * p) 7919=true:=bK (by lia) (by decide);have w:f6 (a % 1000003+p * p * 7919+p) 48271=true:=bK (by lia) (by decide);generalize f:(a % 1000003+p * p * 7919+p) * 48271 % 2147483629=x;have t:0≤x/\x < 2147483629:=by subst f;exact⟨gj _ (by decide),iz _ (by decide)⟩
  have u:f6 x x=true:=bK (by lia) (by lia);generalize b:x * x % 2147483587=y;have q:0≤y/\y < 2147483587:=by subst b;exact⟨gj _ (by decide),iz _ (by decide)⟩
  have g:f6 y (y+2)=true:=bK (by lia) (by lia);refine⟨y * (y+2) % 2147483579 / 7,Int.ediv_nonneg (gj _ (by decide)) (by decide),?_⟩;rw[oq,aU];simp[kC,h,v,d,w,f,u,b,g]
noncomputable def gH(n:List Int):P:=.ro (n.map .int)
theorem BJ(s:List Int)(x:0≤k):∃r:Int,cG (Ph (n+2) "_law_cell_at") [gH s,.int k]=some (.int r):=by
 by_cases h:k < (s.length:Int)
 .have hk:k.toNat < s.length:=by lia
  refine⟨s[k.toNat],?_⟩;have e:L2.atI (s.map P.int) k=some (.int s[k.toNat]):=bC x (by simp[hk]);rw[j7,aU];simp[gN,gH,dO,fO,h,e]
 .refine⟨0,?_⟩;rw[j7,aU];simp[gN,gH,dO,fO,h]
inductive Drw(n:Nat)(ns:List Int)(k p:Int):Prop
 |mk (c r:Int):0≤r->cG (Ph (n+2) "_law_cell_at") [gH ns,.int k]=some (.int c)->cG (Ph (n+2) "_law_mix") [.int c,.int p]=some (.int r)->Drw n ns k p
theorem iN{n:Nat}(s:List Int){k p:Int}(x:0≤k)(a:0≤p)(f:p < 1000):Drw n s k p:=by obtain⟨c,e⟩:=BJ (n:=n) s x;obtain⟨r,b,h⟩:=EL (n:=n) c a f;exact⟨c,r,b,e,h⟩
theorem K6:strOk "xyz":=by unfold strOk;decide +kernel
theorem Bl:("xyz":Str).length=3:=by decide +kernel
theorem OF:∀k:Nat,k < 16->oP (.str "abcdefghijklmnop") (.int (k:Int))=some (.str ⟨#[97+k]⟩):=by
 intro k hk;have e:∀k:Nat,k < 16->L2.atI ((("abcdefghijklmnop":Str)).cps.toList) (k:Int)=some (97+k):=by decide +kernel
 show(if iq (("abcdefghijklmnop":Str)).length=true then (L2.atI ((("abcdefghijklmnop":Str)).cps.toList) (k:Int)).map λc=>P.str ⟨#[c]⟩ else none)=_;rw[e k hk,ac (by decide +kernel)];rfl
noncomputable def hd(x:Str):Option Nat:=x.cps[0]?
theorem Kn(c n:Nat)(x:Str):hd (dI ⟨#[c]⟩ (n+1)++x)=some c:=by
 have k:∀(n:Nat)(a:Array Nat),a[0]? = some c->((List.replicate n #[c]).foldl (·++·) a)[0]? = some c:=by
  intro n;induction n with
  |zero=>intro a h;exact h
  |succ n i=>intro a h;rw[cD,fH];refine i _ ?_;have s:0 < a.size:=(Ak.mp h).1;rw[Aj s];exact h
 have h:=k n (#[]++#[c]) (by simp);have s:0 < ((List.replicate n #[c]).foldl (·++·) (#[]++#[c])).size:=(Ak.mp h).1;show(((List.replicate (n+1) #[c]).foldl (·++·) #[])++x.cps)[0]? = some c;rw[cD,fH,Aj s];exact h
theorem kZ{n:Nat}(s:List Int){k:Nat}(r:k < 16):∃x:Str,strOk x/\hd x=some (97+k)/\cG (Ph (n+3) "_law_name") [gH s,.int (k:Int)]=some (.str x):=by
 obtain⟨c,a,t,e,b⟩:=iN (n:=n) s (k:=1) (p:=(k:Int)) (by lia) (by lia) (by lia);have u:=OF k r;obtain⟨d,h,f⟩:=FK (k:=a / 4 % 3) K6 (by lia) (by rw[Bl];lia) (by rw[Bl];lia);have hk:strOk ⟨#[97+k]⟩:=by show(#[97+k].all λc=>decide (c < 0x110000))=true;simp;lia
 have m:vd (.str ⟨#[97+k]⟩) (.int (1+a % 4))=some (.str (dI ⟨#[97+k]⟩ ((a % 4).toNat+1))):=by show(if (iq ((1+a % 4).toNat * 1) && decide ((1+a % 4).natAbs < 1000000))=true then some (P.str (dI ⟨#[97+k]⟩ (1+a % 4).toNat)) else none)=_;rw[ac (by rw[ar,mZ];exact⟨by lia,gX (by lia)⟩),show(1+a % 4).toNat=(a % 4).toNat+1 by lia]
 have z:=CK (x:=dI ⟨#[97+k]⟩ ((a % 4).toNat+1)) (y:=⟨#[d]⟩) (by rw[lh,Bm,Bm];lia);refine⟨dI ⟨#[97+k]⟩ ((a % 4).toNat+1)++⟨#[d]⟩,B7 (B6 hk _) h,Kn _ _ _,?_⟩;rw[u5,aU];simp[nh,e,b,u,f,m,z]
theorem aq(h:f L S=some (.nx,e,c)):ai f g L S=g e c:=by rw[ai,h]
theorem uW{c:EB}{x y:ES}{L:Lc}{S:U}(h:c L S=some (true,S)):dG c x y L S=x L S:=by rw[dG,h];rfl
theorem Br{c:EB}{x y:ES}{L:Lc}{S:U}(h:c L S=some (false,S)):dG c x y L S=y L S:=by rw[dG,h];rfl
theorem vO{A R:ES}{L:Lc}{S:U}{p:Lc->Prop}{G:AW->Prop}(h:∃x,p x/\A L S=some (.nx,x,S))(k:∀x,p x->G (R x S)):G (ai A R L S):=by obtain⟨x,a,e⟩:=h;rw[aq e];exact k x a
theorem QI(a:Int):∃r:Int,-1≤r/\r≤5/\L2.atI [P.int 0,.int 0,.int (-1),.int 5] (a % 4)=some (.int r):=by
 have h:a % 4=0\/a % 4=1\/a % 4=2\/a % 4=3:=by lia
 rcases h with h|h|h|h<;>rw[h]<;>simp
theorem N1(a:Int):∃r:Int,0≤r/\r≤1/\L2.atI [P.int 1,.int 1,.int 0,.int 1] (a % 4)=some (.int r):=by
 have h:a % 4=0\/a % 4=1\/a % 4=2\/a % 4=3:=by lia
 rcases h with h|h|h|h<;>rw[h]<;>simp
inductive isCel(v:P):Prop
 |mk (x:Str) (lo hi at':Int):strOk x->-1≤lo->lo≤at'->at'≤hi->(hi≤7/\hi≤lo+1/\hd x≠some 105)->v=.tup [.str x,.int lo,.int hi,.int at']->isCel v
noncomputable def qe:P->List P
 | .tup s=>s
 | .lst s=>s
 |_=>[]
def gF(v:P)(k:Nat):P:=(qe v)[k]?.getD .non
noncomputable def iv:P->Int
 | .int i=>i
 |_=>0
@[simp] theorem RX(s:List P):qe (.tup s)=s:=rfl
@[simp] theorem P2(s:List P):qe (.lst s)=s:=rfl
@[simp] theorem NQ(s:List P)(k:Nat):gF (.tup s) k=s[k]?.getD .non:=rfl
@[simp] theorem Sb(i:Int):iv (.int i)=i:=rfl
noncomputable def a9:P->Str
 | .tup (.str s::_)=>s
 |_=>""
def oE(v:List P):Prop:=(∀c ∈ v,isCel c)/\∃o,∀i c,v[i]? = some c->hd (a9 c)=some (o+i)
@[simp] theorem DO(v:List P):toP 9 (.ref 0) [.lst (v.map .p)]=some (.lst v,[.fz (.lst v)]):=fK rfl
theorem dM(s:List P)(v:P):s.map D.p++[.p v]=(s++[v]).map .p:=by simp
theorem eO{Q:P->Prop}{s:List P}{v:P}(h:∀x ∈ s,Q x)(e:Q v):∀x ∈ s++[v],Q x:=λx a=>(bE.mp a).elim (h x) λa=>by rw[cC.mp a];exact e
theorem wv{Q:Nat->P->Prop}{s:List P}{v:P}(h:∀i x,s[i]? = some x->Q i x)(n:Q s.length v):∀i x,(s++[v])[i]? = some x->Q i x:=λi x a=>by
 by_cases e:i < s.length
 .rw [bL e]at a;exact h i x a
 .rw [bH (by lia)]at a;have:i-s.length=0:=by
   have:=(bw.mp a).1;simp at this;lia
  rw[this]at a;cases a;rw[show i=s.length by lia];exact n
theorem FR{n:Nat}(r:List Int){f:Int}(h0:0≤f):∃m:List P,m.length≤1/\oE m/\cG (Ph (n+4) "_law_cells") [gH r,.int f]=some (.lst m):=by
 obtain⟨c,a,ha,I,M⟩:=iN (n:=n+1) r (k:=2+f) (p:=1) (by lia) (by lia) (by lia);have hm:a % 2 < 2:=iz _ (by lia);have X:0≤a % 2:=gj _ (by lia);let Inv:Nat->Lc->U->Prop:=λi L S=>∃(m:List P)(H F K A:Option D),m.length=i/\((∀c ∈ m,isCel c)/\∀i c,m[i]? = some c->hd (a9 c)=some (99+i))/\L=[qp (gH r),qi f,qr 0,H,F,K,A]/\S=[.lst (m.map .p)]
 obtain⟨L',S',e,m,H,F,K,A,l,o,rfl,rfl⟩:=dg (g:=av 3) (b:=gf (Ph (n+3))) (Inv:=Inv) (s:=Ev.intsFrom 0 (a % 2).toNat) (k:=0)
  (L:=[qp (gH r),qi f,qr 0,none,none,none,none]) (S:=[.lst []]) (fun i v L S hv T=>by
   obtain⟨rfl,hi⟩:=ints_get hv;obtain⟨m,H,F,K,A,l,o,rfl,rfl⟩:=T;obtain⟨c2,d,hd,E,G⟩:=iN (n:=n+1) r (k:=2+f) (p:=2+(i:Int)) (by lia) (by lia) (by lia);obtain⟨x,hx,t,R⟩:=kZ (n:=n) r (k:=2+i) (by lia);obtain⟨lo,y,W,N⟩:=QI d;obtain⟨u,hup,B,Q⟩:=N1 (d / 4);have C:0 < lo+u-lo+1:=by lia
   have V:m.length≤1000000:=by lia
   generalize hw:d / 16 % (lo+u-lo+1)=w;have hw0:0≤w/\w < lo+u-lo+1:=by subst hw;exact⟨gj _ (by lia),iz _ C⟩
   have z:My.hd x≠some 105:=by rw[t];intro q;have:=cc q;lia
   refine⟨_,[qp (gH r),qi f,qr 0,qi (i:Int),qi d,qi lo,qi (lo+u)],[.lst ((m++[P.tup [.str x,.int lo,.int (lo+u),.int (lo+w)]]).map D.p)],rfl,?_,_,_,_,_,_,by simp;lia,⟨eO o.1 ⟨x,lo,lo+u,lo+w,hx,y,by lia,by lia,⟨by lia,by lia,z⟩,rfl⟩,wv o.2 ?_⟩,rfl,rfl⟩
   .rw [<- dM];have j:cG (Ph (n+3) "_law_name") [gH r,.int (2+(i:Int))]=some (.str x):=by rw[<- R];rfl
    simp[gf,E,G,j,N,Q,C,dZ,V,hw]
   .show My.hd x=_;rw[t,l];congr 1;lia) ⟨[],none,none,none,none,rfl,⟨λ_ h=>(by cases h),λ_ _ h=>(by cases h)⟩,rfl,rfl⟩
 refine⟨m,by rw[l,cJ];lia,⟨o.1,99,o.2⟩,?_⟩;have Z:(a % 2).natAbs < 1000000:=by lia
 rw[rN,aU];simp[ly,I,M,Z,e]
@[simp] theorem OQ:aW "number"=true/\aW "name"=true/\aW "plus"=true/\aW "minus"=true/\aW "times"=true/\aW "true"=true/\aW "not"=true/\aW "or"=true/\aW "and"=true/\aW "is"=true/\aW "="=true/\aW "!="=true/\aW "<"=true/\aW "<="=true/\aW ">"=true/\aW ">="=true/\aW "row"=true/\aW "heap"=true/\aW "ma"=true/\aW "mb"=true/\aW "who"=true/\aW "all"=true/\aW "any"=true/\aW ""=true/\aW "it"=true/\aW "weak"=true/\aW "strong"=true/\aW "step"=true/\aW "lose"=true/\aW "double"=true:=by decide +kernel
def j6(v:P):Prop:=∃s:Str,aW s=true/\v=.str s
theorem j6.ok(h:j6 v)(n:Nat):cE n v=true:=by obtain⟨s,h,rfl⟩:=h;simpa using h
theorem fN{s:List P}(h:∀x ∈ s,j6 x)(n:Nat):cE (n+1) (.lst s)=true:=HW λx a=>(h x a).ok n
theorem cW(h:s≠[]):s.isEmpty=false:=by cases s with|nil=>exact absurd rfl h|cons _ _=>rfl
theorem len_pos(h:s≠[]):0 < s.length:=zT.mpr h
noncomputable abbrev nM(k:Int):P:=.tup [.str "number",.int k]
noncomputable abbrev oI(y:P):P:=.tup [.str "name",y]
def om(N:List P)(v:P):Prop:=(∃k,v=nM k)\/∃y ∈ N,v=oI y\/(∃k,v=.tup [.str "plus",oI y,nM k])\/(∃k j:Int,0≤k/\k≤2/\v=.tup [.str "minus",.tup [.str "times",oI y,nM k],nM j])\/v=.tup [.str "minus",nM 1,oI y]
variable{N:List P}
theorem om.ok(a:∀x ∈ N,j6 x)(h:om N v):cE 4 v=true:=by
 rcases h with ⟨k,rfl⟩|⟨y,e,h⟩
 .simp
 .have o:∀k,cE k y=true:=λk=>(a y e).ok k;rcases h with rfl|⟨k,rfl⟩|⟨k,j,_,_,rfl⟩|rfl<;>simp[o]
theorem xF{n:Nat}(d:Int){s:List P}(c:∀x ∈ s,j6 x):∃v,om s v/\cG (Ph (n+2) "_law_sum") [.int d,.lst s]=some v:=by
 have e:=Bz (fN c 19);by_cases k:s=[]
 .subst k;refine⟨nM (d / 5 % 3),.inl ⟨_,rfl⟩,?_⟩;rw[fB,aU];simp[dS,e]
 rw[cW k]at e;have l:=len_pos k;obtain⟨y,f,a⟩:=iw k (d / 5);have b:d % 5=0\/d % 5=1\/d % 5=2\/d % 5=3\/d % 5=4:=by lia
 rcases b with h|h|h|h|h
 .refine⟨nM (d / 5 % 3),.inl ⟨_,rfl⟩,?_⟩;rw[fB,aU];simp[dS,e,h]
 .refine⟨oI y,.inr ⟨y,f,.inl rfl⟩,?_⟩;rw[fB,aU];simp[dS,e,h,dO,fO,l,a]
 .refine⟨.tup [.str "plus",oI y,nM (d / 20 % 3)],.inr ⟨y,f,.inr (.inl ⟨_,rfl⟩)⟩,?_⟩;rw[fB,aU];simp[dS,e,h,dO,fO,l,a]
 .refine⟨.tup [.str "minus",.tup [.str "times",oI y,nM (d / 20 % 3)],nM (d / 60 % 2)],.inr ⟨y,f,.inr (.inr (.inl ⟨_,_,by lia,by lia,rfl⟩))⟩,?_⟩;rw[fB,aU];simp[dS,e,h,dO,fO,l,a]
 .refine⟨.tup [.str "minus",nM 1,oI y],.inr ⟨y,f,.inr (.inr (.inr rfl))⟩,?_⟩;rw[fB,aU];simp[dS,e,h,dO,fO,l,a]
def jP(N:List P)(v:P):Prop:=∃w y s,y ∈ N/\om N s/\aW w=true/\v=.tup [.str "is",.str w,oI y,s]
def qJ(N:List P)(v:P):Prop:=v=.tup [.str "true"]\/jP N v\/(∃p,(jP N p\/p=.tup [.str "true"])/\v=.tup [.str "not",p])\/∃p z,jP N p/\z ∈ N/\v=.tup [.str "or",p,.tup [.str "and",.tup [.str "true"],.tup [.str "is",.str "=",nM 1,oI z]]]
theorem jP.ok(a:∀x ∈ N,j6 x)(h:jP N v):cE 5 v=true:=by obtain⟨w,y,s,n,e,hw,rfl⟩:=h;have o:∀k,cE k y=true:=λk=>(a y n).ok k;simp[o,e.ok a,hw]
theorem qJ.ok(a:∀x ∈ N,j6 x)(h:qJ N v):cE 7 v=true:=by
 rcases h with rfl|h|⟨p,h,rfl⟩|⟨p,z,h,e,rfl⟩
 .simp
 .exact df (h.ok a) (by lia)
 .rcases h with h|rfl
  .simp [df (h.ok a) (show 5≤6 by lia)]
  .simp
 .have o:∀k,cE k z=true:=λk=>(a z e).ok k;simp[df (h.ok a) (show 5≤6 by lia),o]
theorem w6(a:Int):∃w:Str,aW w=true/\L2.atI [P.str "=",.str "!=",.str "<",.str "<=",.str ">",.str ">="] (a % 6)=some (.str w):=by obtain⟨w,hw,e⟩:=nW (s:=[P.str "=",.str "!=",.str "<",.str "<=",.str ">",.str ">="]) (k:=a % 6) (by lia) (by simp;lia);simp only[aN,db,cY]at hw;rcases hw with rfl|rfl|rfl|rfl|rfl|rfl<;>exact⟨_,by simp,e⟩
theorem cond_ok{n:Nat}(d:Int){s:List P}(m:∀x ∈ s,j6 x):∃v,qJ s v/\cG (Ph (n+3) "_law_condition") [.int d,.lst s]=some v:=by
 have e:=Bz (fN m 19);by_cases a:s=[]
 .subst a;refine⟨.tup [.str "true"],.inl rfl,?_⟩;rw[cR,aU];simp[cm,e]
 rw[cW a]at e;have l:=len_pos a;obtain⟨y,g,c⟩:=iw a (d / 30);obtain⟨z,i,r⟩:=nW (s:=s) (k:=0) (by lia) (by lia);obtain⟨w,hw,b⟩:=w6 (d / 5);obtain⟨v,u,f⟩:=xF (n:=n) (d / 90) m;have p:jP s (.tup [.str "is",.str w,oI y,v]):=⟨w,y,v,g,u,hw,rfl⟩;by_cases t:d % 5 < 2
 .refine⟨.tup [.str "true"],.inl rfl,?_⟩;rw[cR,aU];simp[cm,e,t]
 have q:d % 5=2\/d % 5=3\/d % 5=4:=by lia
 rcases q with h|h|h
 .refine⟨_,.inr (.inr (.inl ⟨_,.inl p,rfl⟩)),?_⟩;rw[cR,aU];simp[cm,e,h,dO,fO,l,c,b,f]
 .refine⟨_,.inr (.inr (.inr ⟨_,z,p,i,rfl⟩)),?_⟩;rw[cR,aU];simp[cm,e,h,dO,fO,l,c,r,b,f]
 .refine⟨_,.inr (.inl p),?_⟩;rw[cR,aU];simp[cm,e,h,dO,fO,l,c,b,f]
inductive isRoad(v:P):Prop
 |mk (a b k:Str) (c:Int) (d e:Bool):aW a=true->aW b=true->(k="row"\/k="heap")->1≤c->c≤1->v=.tup [.str a,.str b,.str k,.int c,.bl d,.bl e]->isRoad v
noncomputable def rA:P->Str
 | .tup (.str a::_)=>a
 |_=>""
noncomputable def rB:P->Str
 | .tup (_::.str b::_)=>b
 |_=>""
def RD(r h:P):Prop:=¬(rA r=rA h/\rB r=rB h)
def Jv(F:List P)(v:List P):Prop:=v.length≤8/\(∀r ∈ v,isRoad r/\.str (rA r) ∈ F/\.str (rB r) ∈ F)/\v.Pairwise RD
def Qq(F:List P)(v:List P)(i j:Nat):Prop:=∀r ∈ v,∃h x,F[h]? = some (.str (rA r))/\F[x]? = some (.str (rB r))/\(h < i\/(h=i/\x < j))
theorem Eh{a b:P}(d:Int):∃w,(w=a\/w=b)/\L2.atI [a,b] (d % 2)=some w:=by obtain⟨w,hw,e⟩:=nW (s:=[a,b]) (k:=d % 2) (by lia) (by simp;lia);exact⟨w,by simpa using hw,e⟩
theorem kA{s:List P}{i:Nat}{v:P}(h:(cj 0 s)[i]? = some v):∃x,s[i]? = some x/\v=.tup [.int (i:Int),x]:=by obtain⟨x,a,e⟩:=k6 h;exact⟨x,a,by rw[e];simp⟩
theorem bA{a:Type}{s:List a}{i:Nat}{x:a}(h:s[i]? = some x):i < s.length:=(bw.mp h).1
theorem D6{n:Nat}(F:List Int){s:List P}(hx:∀x ∈ s,j6 x)(N:∀(i j:Nat) x,s[i]? = some x->s[j]? = some x->i=j)(hl:s.length≤2):∃f:List P,Jv s f/\cG (Ph (n+3) "_law_roads") [gH F,.lst s]=some (.lst f):=by
 let I:Nat->Option D->Option D->Nat->Lc->U->Prop:=λii k K j L S=>∃(f:List P)(E G M A:Option D),(Jv s f/\Qq s f ii j/\f.length≤2 * ii+j)/\L=[qp (gH F),ql s,qr 0,k,K,E,G,M,A]/\S=[.lst (f.map .p)]
 let Inv:Nat->Lc->U->Prop:=λi L S=>∃k K,I i k K 0 L S
 obtain⟨L',S',e,k0,one0,f,E,G,M,A,⟨o,_,_⟩,rfl,rfl⟩:=dg (g:=bF [av 3,av 4]) (b:=gc (Ph (n+2))) (Inv:=Inv) (s:=cj 0 s) (k:=0)
  (L:=[qp (gH F),ql s,qr 0,none,none,none,none,none,none]) (S:=[.lst []]) (fun i v L S hv hI=>by
   obtain⟨x,t,rfl⟩:=kA hv;have hi:=bA t;have R:=aZ t;obtain⟨a,ha,rfl⟩:=hx x R;obtain⟨_,_,f,E,G,M,A,o,rfl,rfl⟩:=hI;rw[fF]at o ⊢;obtain⟨L',S',e,hI2⟩:=dg (g:=bF [av 5,av 6]) (b:=d_ (Ph (n+2))) (Inv:=I i (qi (i:Int)) (qs a)) (s:=cj 0 s) (k:=0)
    (L:=[qp (gH F),ql s,qr 0,qi (i:Int),qs a,E,G,M,A]) (S:=[.lst (f.map .p)]) (fun j v L S hv hI=>by
     obtain⟨y,q,rfl⟩:=kA hv;have hj:=bA q;have T:=aZ q;obtain⟨b,hb,rfl⟩:=hx y T;obtain⟨f,E,G,M,A,⟨o,m,hvl⟩,rfl,rfl⟩:=hI;rw[fF]at m hvl ⊢;obtain⟨c,d,hd,V,W⟩:=iN (n:=n) F (k:=4) (p:=3 * (i:Int)+(j:Int)) (by lia) (by lia) (by lia);have m4:f6 3 (i:Int)=true:=bK (by decide) (by lia);by_cases hg:0 < d % 4
     .obtain⟨w,hw,X⟩:∃w:Str,(w="row"\/w="heap")/\L2.atI [P.str "row",.str "heap"] (d / 4 % 2)=some (.str w):=by
       obtain⟨w,hw,X⟩:=Eh (a:=.str "row") (b:=.str "heap") (d / 4);rcases hw with rfl|rfl
       .exact⟨_,.inl rfl,X⟩
       .exact⟨_,.inr rfl,X⟩
      have Q:f.length≤1000000:=by lia
      refine⟨_,[qp (gH F),ql s,qr 0,qi (i:Int),qs a,qi (j:Int),qs b,qi d,qs w],[.lst ((f++[P.tup [.str a,.str b,.str w,.int 1,.bl (decide (d / 16 % 3=1)),.bl (decide (d / 48 % 3=1))]]).map D.p)],rfl,?_,_,_,_,_,_,⟨⟨by simp;lia,eO o.2.1 ⟨⟨a,b,w,_,_,_,ha,hb,hw,by lia,by lia,rfl⟩,R,T⟩,List.pairwise_append.mpr ⟨o.2.2,List.pairwise_singleton _ _,λr H z hz=>?_⟩⟩,eO (λr H=>?_) ⟨i,j,t,q,.inr ⟨rfl,by lia⟩⟩,by simp;lia⟩,rfl,rfl⟩;rotate_left
      .rw [cC.mp hz];rintro ⟨V,W⟩;obtain⟨B,C,u,l,Z⟩:=m r H;rw[V]at u;rw[W]at l;have:=N _ _ _ u t
       have:=N _ _ _ l q;lia
      .obtain⟨B,C,u,l,Z⟩:=m r H;exact⟨B,C,u,l,by lia⟩
      rw[<- dM];simp[d_,V,W,m4,hg,X,dZ,Q]
     .refine⟨_,[qp (gH F),ql s,qr 0,qi (i:Int),qs a,qi (j:Int),qs b,qi d,A],[.lst (f.map D.p)],rfl,?_,f,_,_,_,_,⟨o,λr H=>?_,by lia⟩,rfl,rfl⟩;rotate_left
      .obtain⟨B,C,u,l,Z⟩:=m r H;exact⟨B,C,u,l,by lia⟩
      simp[d_,V,W,m4,hg]) ⟨f,E,G,M,A,o,rfl,rfl⟩
   obtain⟨vs',z6,z7,z8,z9,⟨hi1,hi2,hi5⟩,hi3,hi4⟩:=hI2;rw[fF,d5]at hi5;exact⟨_,L',S',rfl,by simpa[gc] using e,_,_,vs',z6,z7,z8,z9,⟨hi1,λr H=>by obtain⟨B,C,u,l,Z⟩:=hi2 r H;exact⟨B,C,u,l,by lia⟩,by lia⟩,hi3,hi4⟩) ⟨none,none,[],none,none,none,none,⟨⟨by simp,λ_ h=>(by cases h),List.Pairwise.nil⟩,λ_ h=>(by cases h),by simp⟩,rfl,rfl⟩
 refine⟨f,o,?_⟩;rw[rM,aU];simp[lx,e]
end My
namespace My
open PySem L2 Ev
variable{s:Str}{o:List P}
theorem xN(l:∀c ∈ o,isRoad c)(L:Lc)(j k:Nat)(m:j < L.length)(h:k≠j)(hk:L[k]? = some (qs s))(S:U) :
  ∃n,bS (av j) (bt (O (ae (vv j) eB)) (ak k)) (ae (vv j) dh) o L S=some (n,S)/\(∀y ∈ n,j6 y/\∃r ∈ o,rA r=s/\y=.str (rB r))/\n.length≤o.length:=by
 refine nV (Inv:=λf=>∃d,f=L.set j d) (λv t f w=>?_) ⟨L[j],(gp m).symm⟩;obtain⟨d,rfl⟩:=w;obtain⟨a,b,kd,c,x,e,z,u,i,_,_,rfl⟩:=l v t;have g:((L.set j d).set j (qt [.str a,.str b,.str kd,.int c,.bl x,.bl e]))[j]? = some (qt [.str a,.str b,.str kd,.int c,.bl x,.bl e]):=by rw[bv (by simpa using m)]
 have p:((L.set j d).set j (qt [.str a,.str b,.str kd,.int c,.bl x,.bl e]))[k]? = some (qs s):=by rw[aP (aI h),aP (aI h)];exact hk
 exact⟨_,decide (a=s),rfl,⟨_,cB ..⟩,by simp[-cB,g,p],λq=>⟨.str b,by simp[-cB,g],⟨b,u,rfl⟩,_,t,aJ q,rfl⟩⟩
theorem B_(l:∀c ∈ o,isRoad c)(L:Lc)(j k:Nat)(m:j < L.length)(h:k≠j)(hk:L[k]? = some (qs s))(S:U) :
  ∃n,bS (av j) (bt (O (ae (vv j) dh)) (ak k)) (ae (vv j) eB) o L S=some (n,S)/\(∀y ∈ n,j6 y/\∃r ∈ o,rB r=s/\y=.str (rA r))/\n.length≤o.length:=by
 refine nV (Inv:=λf=>∃d,f=L.set j d) (λv t f w=>?_) ⟨L[j],(gp m).symm⟩;obtain⟨d,rfl⟩:=w;obtain⟨a,b,kd,c,x,e,u,z,i,_,_,rfl⟩:=l v t;have g:((L.set j d).set j (qt [.str a,.str b,.str kd,.int c,.bl x,.bl e]))[j]? = some (qt [.str a,.str b,.str kd,.int c,.bl x,.bl e]):=by rw[bv (by simpa using m)]
 have p:((L.set j d).set j (qt [.str a,.str b,.str kd,.int c,.bl x,.bl e]))[k]? = some (qs s):=by rw[aP (aI h),aP (aI h)];exact hk
 exact⟨_,decide (b=s),rfl,⟨_,cB ..⟩,by simp[-cB,g,p],λq=>⟨.str a,by simp[-cB,g],⟨a,u,rfl⟩,_,t,aJ q,rfl⟩⟩
theorem vQ(h:o.length≤8):o.length≤1000000:=by lia
theorem xR(d:Int):∃w:Str,(w=a\/w=b)/\L2.atI [P.str a,.str b] (d % 2)=some (.str w):=by
 obtain⟨w,hw,e⟩:=Eh (a:=.str a) (b:=.str b) d;rcases hw with rfl|rfl
 .exact⟨_,.inl rfl,e⟩
 .exact⟨_,.inr rfl,e⟩
inductive isSend(s:Str)(rs whos N:List P)(v:P):Prop
 |mk (m:Str) (t:P) (way nm:Str):aW m=true->aW nm=true->om N t->((way="who"/\P.str nm ∈ whos)\/((way="all"\/way="any")/\∃r ∈ rs,rA r=s/\nm=rB r))->v=.tup [.str m,t,.str way,.str nm]->isSend s rs whos N v
variable{u:List P}
theorem isSend.ok(a:∀x ∈ N,j6 x)(h:isSend s o u N v):cE 5 v=true:=by
 obtain⟨m,t,w,f,e,n,k,hw,rfl⟩:=h;have hw:aW w=true:=by rcases hw with ⟨rfl,_⟩|⟨rfl|rfl,_⟩<;>simp
 simp[e,n,hw,k.ok a]
variable{n:Nat}
theorem DY(d:Int)(hnm:∀x ∈ M,j6 x)(hw:∀x ∈ u,j6 x)(hr:∀c ∈ o,isRoad c)(hrl:o.length≤8) :
  ∃m:List P,m.length≤1/\(∀c ∈ m,isSend s o u M c)/\cG (Ph (n+3) "_law_sends") [.int d,.str s,.lst M,.lst u,.lst o]=some (.lst m):=by
 have hm:d % 2 < 2:=iz _ (by lia);have hm0:0≤d % 2:=gj _ (by lia);obtain⟨gs,eg,I,hgl⟩:=xN (s:=s) hr [qi d,qs s,ql M,ql u,ql o,none,none,none,none,none,none,none] 11 1 (by simp) (by lia) rfl [];have W:=mJ (fN hw 19);have V:=mJ (fN (λx hx=>(I x hx).1) 19);let F:Option D->Option D->Option D->Option D->Lc:=λN B p q=>[qi d,qs s,ql M,ql u,ql o,ql gs,qr 0,N,B,p,q]
 let Inv:Nat->Lc->U->Prop:=λi L S=>∃(m:List P)(N B p q:Option D),m.length≤i/\(∀c ∈ m,isSend s o u M c)/\L=F N B p q/\S=[.lst (m.map .p)]
 obtain⟨L',S',e,m,N,B,p,q,hc,ho,rfl,rfl⟩:=dg (g:=av 7) (b:=d9 (Ph (n+2))) (Inv:=Inv) (s:=Ev.intsFrom 0 (d % 2).toNat) (k:=0)
  (L:=F none none none none) (S:=[.lst []]) (fun i v L S hv hI=>by
   obtain⟨rfl,hi⟩:=ints_get hv;obtain⟨m,N,B,p,q,hc,ho,rfl,rfl⟩:=hI;simp only[cO];generalize hso:d / 2=f;obtain⟨tr,htr,etr⟩:=xF (n:=n) (f / 12 % 300) hnm;have mo:f6 (f % 2) (f / 2000 % 2)=true:=bK (by lia) (by lia);obtain⟨mk,hmk,emk⟩:∃w:Str,(w="ma"\/w="mb")/\L2.atI [P.str "ma",.str "mb"] (f % 2 * (f / 2000 % 2))=some (.str w):=by
    have h:f % 2 * (f / 2000 % 2)=0\/f % 2 * (f / 2000 % 2)=1:=by
     have X:f % 2=0\/f % 2=1:=by lia
     have Z:f / 2000 % 2=0\/f / 2000 % 2=1:=by lia
     rcases X with X|X<;>rcases Z with Z|Z<;>rw[X,Z]<;>simp
    rcases h with h|h<;>rw[h]
    .exact⟨"ma",.inl rfl,by simp⟩
    .exact⟨"mb",.inr rfl,by simp⟩
   have omk:aW mk=true:=by rcases hmk with rfl|rfl<;>simp
   have l:m.length≤1000000:=by lia
   let T:=F (qi (i:Int)) (qi f) (qp tr) (qs mk)
   let G:AW->Prop:=λx=>∃L2 Q,x=some (.nx,L2,Q)/\Inv (0+i+1) L2 Q
   have E:∀{x:AW}(y w:Str),aW w=true->((y="who"/\P.str w ∈ u)\/((y="all"\/y="any")/\∃r ∈ o,rA r=s/\w=rB r))->x=some (.nx,T,[.lst (m.map .p++[.p (.tup [.str mk,tr,.str y,.str w])])])->G x:=λy w ow h e=>⟨_,_,e,m++[.tup [.str mk,tr,.str y,.str w]],_,_,_,_,by simp;lia,eO ho ⟨mk,tr,y,w,omk,ow,htr,h,rfl⟩,rfl,by rw[dM]⟩
   suffices h:G (d9 (Ph (n+2)) (F (qi (i:Int)) B p q) [.lst (m.map .p)]) by obtain⟨L2,Q,e,h⟩:=h;exact⟨_,L2,Q,rfl,e,h⟩
   unfold d9;rw[aq (e:=F (qi (i:Int)) (qi f) p q) (c:=[.lst (m.map .p)]) (by simp[F,hso]),aq (e:=F (qi (i:Int)) (qi f) (qp tr) q) (c:=[.lst (m.map .p)]) (by simp[F,etr]),aq (e:=T) (c:=[.lst (m.map .p)]) (by simp[F,T,mo,emk])];by_cases R:u≠[]/\f / 2 % 3=1
   .obtain⟨w,j,ew⟩:=nW (s:=u) (k:=0) (by lia) (by have:=len_pos R.1;lia);obtain⟨w,K,rfl⟩:=hw w j;rw[cW R.1]at W;rw[uW (by simp[F,T,W,R.2])];exact E "who" w K (.inl ⟨rfl,j⟩) (by simp[F,T,ew,dZ,l])
   rw [Br (by
    cases H:u.isEmpty<;>rw[H]at W
    .have h3:¬f / 2 % 3=1:=λz=>R ⟨λz=>(by rw[z]at H;cases H),z⟩;simp[F,T,W,h3]
    .simp [F,T,W])]
   by_cases C:gs=[]
   .rw [C]at V;exact⟨T,[.lst (m.map .p)],by rw[Br (by simp[F,T,C,V])];rfl,m,_,_,_,_,by lia,ho,rfl,rfl⟩
   obtain⟨w,j,ew⟩:=iw C (f / 3);obtain⟨⟨w,K,rfl⟩,r,hrm,hra,A⟩:=I w j;have A:w=rB r:=by cases A;rfl
   have hl:=len_pos C;rw[cW C]at V;rw[uW (by simp[F,T,V])];obtain⟨aa,haa,eaa⟩:=xR (a:="all") (b:="any") (f / 6);exact E aa w K (.inr ⟨haa,r,hrm,hra,A⟩) (by simp[F,T,eaa,dO,fO,hl,ew,dZ,l])) ⟨[],none,none,none,none,by simp,λ_ h=>(by cases h),rfl,rfl⟩
 refine⟨m,by rw[cJ]at hc;lia,ho,?_⟩;have hq:(d % 2).natAbs < 1000000:=by lia
 rw[rK,aU];simp[lv,b8,vQ hrl,my,eg,hq];simp[F]at e;simp[e]
@[simp] theorem NP(L:Lc)(S:U):j4 L S=some (none,S):=rfl
@[simp] theorem NO(a:EV)(L:Lc)(S:U):i' a L S=bI (a L S) λv h=>match v with | .int i=>some (some i,h)|_=>none:=rfl
@[simp] theorem Oj(t:List P)(lo h:Option Int):LO (.lst t) lo h=some (.lst (cut t lo h)):=rfl
@[simp] theorem Oi(t:List P)(lo h:Option Int):LO (.tup t) lo h=some (.tup (cut t lo h)):=rfl
variable{t:List P}
theorem pK:(∀x ∈ cut t lo i,x ∈ t)/\(cut t lo i).length≤t.length:=by
 unfold cut;refine⟨λx h=>?_,?_⟩
 .first
   |exact ua (zV h)
   |exact zV (ua h)
 .simp only[g0,t6];lia
def jO(s:Str)(o u:List P)(v:P):Prop:=v=.non\/∃m a i w,aW m=true/\aW a=true/\aW i=true/\aW w=true/\(∃r ∈ o,rB r=s/\a=rA r)/\(w=""\/P.str w ∈ u)/\v=.tup [.str m,.str a,.str i,.str w]
noncomputable def more:P->List P
 | .non=>[]
 |_=>[.str "it"]
theorem jO.ok(h:jO s o u v):cE 2 v=true:=by
 rcases h with rfl|⟨m,a,i,w,x,e,n,k,_,_,rfl⟩
 .rfl
 .simp [x,e,n,k]
def ya(N f:List P)(t:P):Prop:=∀m a i w,t=.tup [m,a,.str i,w]->i=""\/(P.str i ∈ N/\P.str i ∉ f)
theorem FN:cut (t++[x]) none (some (-1))=t:=by
 unfold cut;have e:HT.eJ (t++[x]).length (t++[x]).length (some (-1))=t.length:=by show(if (-1:Int) < 0 then ((-1:Int)+(((t++[x]).length:Nat):Int)).toNat else min ((-1:Int).toNat) (t++[x]).length)=t.length;rw[ac (by decide),aX,pB];lia
 rw[e,HT.qx,l7,tM,List.take_left'];rfl
theorem E2(h:t≠[])(n:t.Nodup)(e:L2.atI t (-1)=some x):x ∉ cut t none (some (-1)):=by
 rcases List.eq_nil_or_concat t with rfl|⟨s,y,rfl⟩
 .exact absurd rfl h
 rw[List.concat_eq_append] at *
 have:x=y:=by
  unfold L2.atI L2.CY at e;rw[af (by decide),ac (by simp;lia)]at e;have a:(-1+(((s++[y]).length:Nat):Int)).toNat=s.length:=by simp;lia
  simp only[a,jx]at e;rw[bH (ag _)]at e;simp at e;exact e.symm
 subst this;rw[FN];intro k;have:=(jF.mp n).2.2
 exact this x k x (by simp) rfl
theorem step_if(ψ ι:Str->GF){d0:Int}(hn:∀x ∈ f,j6 x)(R:f.Nodup)(hw:∀x ∈ u,j6 x)(hs:∀x ∈ d,j6 x/\∃r ∈ o,rB r=s/\x=.str (rA r)) :
  ∃j c m v,jO s o u j/\(∀x ∈ c,x ∈ f)/\c.length≤f.length/\ya f c j /\
   fj ψ [ql (.int d0::ds),qs s,qp rooms,qp cells,ql u,ql o,ql f,ql d,qp .non,ql f,ql [],none,none,none,none,none,none,none] []
    = some (.nx,[ql (.int d0::ds),qs s,qp rooms,qp cells,ql u,ql o,ql f,ql d,qp j,ql c,ql (more j),m,v,none,none,none,none,none],[]):=by
 have K:=mJ (fN (λx y=>(hs x y).1) 19);have N:=mJ (fN hn 19);have W:=mJ (fN hw 19);let F:Option D->List P->List P->Option D->Option D->Lc:=λq8 l9 l10 m v=>[ql (.int d0::ds),qs s,qp rooms,qp cells,ql u,ql o,ql f,ql d,q8,ql l9,ql l10,m,v,none,none,none,none,none]
 let G:AW->Prop:=λx=>∃j c m v,jO s o u j/\(∀x ∈ c,x ∈ f)/\c.length≤f.length/\ya f c j/\x=some (.nx,F (qp j) c (more j) m v,[])
 show G (fj ψ (F (qp .non) f [] none none) []);unfold fj;by_cases H:d≠[]/\d0 % 3=1
 .rw [cW H.1]at K;obtain⟨s1,X,es⟩:=iw H.1 (d0 / 24);have M:=len_pos H.1;obtain⟨mk,Q,C⟩:=xR (a:="ma") (b:="mb") (d0 / 12);obtain⟨⟨sn,osn,rfl⟩,r,V,T,l⟩:=hs s1 X;have l:sn=rA r:=by cases l;rfl
  have omk:aW mk=true:=by rcases Q with rfl|rfl<;>simp
  rw[uW (by simp[F,K,H.2])];rw[aq (e:=F (qp .non) f [] (qs "") none) (c:=[]) rfl];refine vO (G:=G) (p:=λL=>∃i c,aW i=true/\(∀x ∈ c,x ∈ f)/\c.length≤f.length/\(i=""\/(P.str i ∈ f/\P.str i ∉ c))/\L=F (qp .non) c [] (qs i) none) ?_ λL ⟨i,c,hi,hf,E,I,e⟩=>?_
  .by_cases g:f≠[]/\d0 / 3 % 2=1
   .obtain⟨x,y,B⟩:=F6 g.1;obtain⟨x,ox,rfl⟩:=hn x y;rw[cW g.1]at N;exact⟨_,⟨x,cut f none (some (-1)),ox,pK.1,pK.2,.inr ⟨y,E2 g.1 R B⟩,rfl⟩,by simp[F,N,g.2,B]⟩
   .refine⟨_,⟨"",f,by simp,λ_ h=>h,ag _,.inl rfl,rfl⟩,?_⟩;cases n:f.isEmpty<;>rw[n]at N
    .have S:¬d0 / 3 % 2=1:=λq=>g ⟨λz=>(by rw[z]at n;cases n),q⟩;simp[F,N,S]
    .simp [F,N]
  subst e;rw[aq (e:=F (qp .non) c [] (qs i) (qs "")) (c:=[]) rfl];refine vO (G:=G) (p:=λL=>∃w,aW w=true/\(w=""\/P.str w ∈ u)/\L=F (qp .non) c [] (qs i) (qs w)) ?_ λL ⟨w,A,Z,e⟩=>?_
  .by_cases g:u≠[]/\d0 / 6 % 2=1
   .obtain⟨x,y,B⟩:=nW (s:=u) (k:=0) (by lia) (by have:=len_pos g.1;lia);obtain⟨x,ox,rfl⟩:=hw x y;rw[cW g.1]at W;exact⟨_,⟨x,ox,.inr y,rfl⟩,by simp[F,W,g.2,B]⟩
   .refine⟨_,⟨"",by simp,.inl rfl,rfl⟩,?_⟩;cases n:u.isEmpty<;>rw[n]at W
    .have S:¬d0 / 6 % 2=1:=λq=>g ⟨λz=>(by rw[z]at n;cases n),q⟩;simp[F,W,S]
    .simp [F,W]
  subst e;exact⟨.tup [.str mk,.str sn,.str i,.str w],c,qs i,qs w,.inr ⟨mk,sn,i,w,omk,osn,hi,A,⟨r,V,T,l⟩,Z,rfl⟩,hf,E,λ_ _ _ _ q=>by cases q;exact I,by simp[F,more,dO,fO,M,es,C]⟩
 .refine⟨.non,f,none,none,.inl rfl,λ_ h=>h,ag _,λ_ _ _ _ q=>(by cases q),?_⟩;cases n:d.isEmpty<;>rw[n]at K
  .have S:¬d0 % 3=1:=λq=>H ⟨λz=>(by rw[z]at n;cases n),q⟩;simp[F,more,K,S]
  .simp [F,more,K]
def nN(s:List P):List P:=s.map λc=>.str (a9 c)
theorem qD(e:∀c ∈ a,isCel c):∀x ∈ nN a,j6 x:=λx s=>by obtain⟨c,h,rfl⟩:=aY.mp s;obtain⟨x,_,_,_,o,_,_,_,_,rfl⟩:=e c h;exact⟨x,o,rfl⟩
theorem sL(m:∀c ∈ k,isCel c)(L:Lc)(j:Nat)(s:j < L.length)(S:U) :
  bS (av j) gP (ae (vv j) eB) k L S=some (nN k,S):=by
 have:=cN (g:=av j) (c:=gP) (e:=ae (vv j) eB) (S:=S) (p:=fun _=>true) (f:=fun c=>.str (a9 c)) (s:=k) (L:=L) (Inv:=fun h=>∃d,h=L.set j d) (fun v r h b=>by
  obtain⟨d,rfl⟩:=b;obtain⟨x,lo,i,a,q,_,_,_,_,rfl⟩:=m v r;have n:((L.set j d).set j (qt [.str x,.int lo,.int i,.int a]))[j]? = some (qt [.str x,.int lo,.int i,.int a]):=by rw[bv (by simpa using s)]
  exact⟨_,rfl,⟨_,cB ..⟩,rfl,λ_=>by simp[-cB,n,a9]⟩) ⟨L[j],(gp s).symm⟩
 rw[this,mi.mpr λ_ _=>rfl];rfl
def Jl(N:List P)(c:P):Prop:=∃x t,aW x=true/\om N t/\c=.tup [.str x,t]
structure Stp(s:Str)(rooms cells whos rs:List P)(rm when tk:P)(chg sn:List P)(rm2:P):Prop where
 h1:rm ∈ rooms
 h2:rm2 ∈ rooms
 wh:qJ (nN cells) when
 htk:jO s rs whos tk
 cl:chg.length≤3
 ch:∀c ∈ chg,Jl (nN cells++more tk) c
 cn:∀c ∈ chg,P.str (a9 c) ∈ nN cells
 ci:ya (nN cells) (chg.map λc=>.str (a9 c)) tk
 sl:sn.length≤1
 hsn:∀c ∈ sn,isSend s rs whos (nN cells) c
variable{cells:List P}
theorem Ld(h:oE cells):(nN cells).Nodup:=by refine ug.mpr λi j x a n q=>?_;unfold nN at x a q;rw[aQ]at x a;rw[pq,pq]at q;obtain⟨_,o,h⟩:=h;have e:=h i _ (bg x);have s:=h j _ (bg a);rw[P.str.inj q,s]at e;simp at e;lia
theorem uL(v:P):∀x ∈ more v,j6 x:=λx h=>by
 cases v with
 |non=>cases h
 |_=>exact⟨"it",by simp,by simpa[more] using h⟩
theorem EK(v:P):(more v).length≤1:=by cases v<;>simp[more]
theorem Hk(I B G y:Int)(hrm:∀x ∈ r,j6 x)(E:r≠[])(Q:oE cells)(hcl:cells.length≤2)(hw:∀x ∈ u,j6 x)(hr:∀c ∈ o,isRoad c)(hrl:o.length≤8) :
  ∃rm wh K l sn rm2,Stp s r cells u o rm wh K l sn rm2/\cG (Ph (n+4) "_law_step") [.lst [.int I,.int B,.int G,.int y],.str s,.lst r,.lst cells,.lst u,.lst o]=some (.tup [rm,wh,K,.lst l,.lst sn,rm2]):=by
 have M:=Q.1;have X:=Ld Q;have e1:=sL M [ql [.int I,.int B,.int G,.int y],qs s,ql r,ql cells,ql u,ql o,none,none,none,none,none,none,none,none,none,none,none,none,none] 18 (by simp) [];have p:=qD M;have hnl:(nN cells).length=cells.length:=by simp[nN]
 generalize N:nN cells=f at e1 p hnl X;obtain⟨snd,e2,hsn,_⟩:=B_ (s:=s) hr [ql [.int I,.int B,.int G,.int y],qs s,ql r,ql cells,ql u,ql o,ql f,none,none,none,none,none,none,none,none,none,none,none,none] 18 1 (by simp) (by lia) rfl [];obtain⟨K,fr,q11,q12,htk,T,hfl,hio,e3⟩:=step_if (Ph (n+3)) (Ph (n+2)) (d0:=I) (ds:=[.int B,.int G,.int y]) (rooms:=.lst r) (cells:=.lst cells) p X hw hsn;have hml:=EK K;have W:=uL K;generalize hM:more K=mo at e3 hml W;have Z:∀x ∈ f++mo,j6 x:=λx hx=>(bE.mp hx).elim (p x) (W x)
 have H:f.length+mo.length≤1000000:=by lia
 have hcf:cells.length≤1000000:=by lia
 let F:Option D->Option D->Lc:=λd j=>[ql [.int I,.int B,.int G,.int y],qs s,ql r,ql cells,ql u,ql o,ql f,ql snd,qp K,ql fr,ql mo,q11,q12,qr 0,d,j,none,none]
 let Inv:Nat->Lc->U->Prop:=λi L S=>∃(A:List P)(d j:Option D),A.length≤i/\(∀c ∈ A,Jl (f++mo) c/\P.str (a9 c) ∈ fr)/\L=F d j/\S=[.lst (A.map .p)]
 obtain⟨L',S',e4,l,d,j,R,C,rfl,rfl⟩:=dg (g:=bF [av 14,av 15]) (b:=fh (Ph (n+3))) (Inv:=Inv) (s:=cj 0 fr) (k:=0) (L:=F none none) (S:=[.lst []]) (fun i v L S hv hI=>by
   obtain⟨x,hx1,rfl⟩:=kA hv;have hi:=bA hx1;have hxf:=aZ hx1;obtain⟨x,ox,rfl⟩:=p x (T x hxf);obtain⟨A,d,j,M,ho,rfl,rfl⟩:=hI;have V:A.length≤1000000:=by lia
   obtain⟨a,b,ha,hb,ea,eb⟩:∃a b:Int,(0 < a/\a < 1152921504606846976)/\(0 < b/\b < 1152921504606846976)/\L2.atI [P.int 1,.int 1000] (i:Int)=some (.int a)/\L2.atI [P.int 2,.int 2000] (i:Int)=some (.int b):=by
    have:i=0\/i=1:=by lia
    rcases this with rfl|rfl
    .exact⟨1,2,by decide,by decide,by simp,by simp⟩
    .exact⟨1000,2000,by decide,by decide,by simp,by simp⟩
   by_cases h:B / a % 2=1
   .obtain⟨tr,htr,etr⟩:=xF (n:=n+1) (B / b % 300) Z;refine⟨_,F (qi (i:Int)) (qs x),[.lst ((A++[P.tup [.str x,tr]]).map D.p)],rfl,?_,_,_,_,by simp;lia,eO ho ⟨⟨x,tr,ox,htr,rfl⟩,hxf⟩,rfl,rfl⟩;rw[<- dM];simp[fh,F,ea,eb,ha,hb,h,H,etr,dZ,V]
   .refine⟨_,F (qi (i:Int)) (qs x),[.lst (A.map D.p)],rfl,?_,A,_,_,by lia,ho,rfl,rfl⟩;simp[fh,F,ea,ha,h]) ⟨[],none,none,by simp,λ_ h=>(by cases h),rfl,rfl⟩
 rw[d5]at R;obtain⟨sn,hsl,hsd,e5⟩:=DY (n:=n) G (s:=s) p hw hr hrl;obtain⟨wh,hwh,e6⟩:=cond_ok (n:=n) (y % 27000) p;obtain⟨r1,hr1,e7⟩:=iw E (y / 27000);obtain⟨r2,hr2,e8⟩:=iw E (y / 81000);have hl:=len_pos E;refine⟨r1,wh,K,l,sn,r2,⟨hr1,hr2,N ▸ hwh,htk,by lia,N ▸ hM ▸ λc h=>(C c h).1,N ▸ λc h=>T _ (C c h).2,N ▸ λm a into who q=>(hio m a into who q).imp id λz=>⟨z.1,λw=>by obtain⟨c,M,e⟩:=aY.mp w;exact z.2 (e ▸ (C c M).2)⟩,hsl,N ▸ hsd⟩,?_⟩
 rw[u3,aU];simp only[F]at e4;simp[ng,b8,hcf,vQ hrl,my,e1,e2,iZ,e3,e4,H,dO,fO,e5,e6,hl,e7,e8,fK]
inductive isStep(s:Str)(rooms cells whos rs:List P)(v:P):Prop
 |mk (x:Str) (rm wh tk:P) (chg sn:List P) (rm2:P):aW x=true->Stp s rooms cells whos rs rm wh tk chg sn rm2->v=.tup [.str x,rm,wh,tk,.lst chg,.lst sn,rm2]->isStep s rooms cells whos rs v
variable{h:Type}
noncomputable def eK:List (List h)->List (List h)
 | []=>[[]]
 |t::r=>t.flatMap λx=>(eK r).map (x::·)
def oH(c:P):List P:=(List.range (iv (gF c 2)-iv (gF c 1)+1).toNat).map λ(i:Nat)=>.int (iv (gF c 1)+(i:Int))
def gD(cells:List P):List (List P):=eK (cells.map oH)
structure Fam(rs:List P)(nm:Str)(crew:Nat)(rooms cells whos steps:List P):Prop where
 hnm:aW nm=true
 hcr:1≤crew/\crew≤4
 hro:∀x ∈ rooms,j6 x
 r0:rooms≠[]
 rl:rooms.length≤8
 hce:oE cells
 cl:cells.length≤3
 hwh:∀x ∈ whos,j6 x
 wl:whos.length≤2
 s0:steps≠[]
 sl:steps.length≤8
 hst:∀x ∈ steps,isStep nm rooms cells whos rs x
 sd:steps.Pairwise λa b=>a9 a≠a9 b
 b1:steps.length≤2
 b2:rooms.length * (gD cells).length * 2 ^ whos.length≤4
 b3:(gD cells).length≤2
inductive isFam(rs:List P)(v:P):Prop
 |mk (nm:Str) (crew:Nat) (rooms cells whos steps:List P):Fam rs nm crew rooms cells whos steps->v=.tup [.str nm,.int (crew:Int),.lst rooms,.lst cells,.lst whos,.lst steps]->isFam rs v
variable{m:Nat}
theorem xU(s:List Int)(j:Nat)(o:Nat)(L:Lc)(c:j < L.length)(r:L[0]? = some (qp (gH s)))(h:0≠j)(u:o+m≤16)(S:U) :
  ∃a,bS (av j) gP (cx (Ph (n+3) "_law_name") (v2 bZ (aR (vi (o:Int)) (vv j)))) (Ev.intsFrom 0 m) L S=some (a,S)/\(∀y ∈ a,j6 y)/\a.length=(Ev.intsFrom 0 m).length:=by
 refine lK (Inv:=λf=>∃d,f=L.set j d) (λv p f t=>?_) ⟨L[j],(gp c).symm⟩;obtain⟨d,rfl⟩:=t;obtain⟨i,rfl,w⟩:=gC p;obtain⟨x,q,_,e⟩:=kZ (n:=n) s (k:=o+i) (by lia);have e:cG (Ph (n+3) "_law_name") [gH s,.int ((o:Int)+(i:Int))]=some (.str x):=by rw[<- e];rfl
 have g:((L.set j d).set j (qi (0+(i:Int))))[j]? = some (qi (0+(i:Int))):=by rw[bv (by simpa using c)]
 have b:((L.set j d).set j (qi (0+(i:Int))))[0]? = some (qp (gH s)):=by rw[aP (aI h),aP (aI h)];exact r
 simp only[cO]at g b ⊢;exact⟨_,.str x,rfl,⟨_,cB ..⟩,by simp[-cB,g,b,e],x,q,rfl⟩
theorem LG(s:List Int)(l:Int)(D:0≤l)(L:Lc)(A:L.length=21)(K:L[0]? = some (qp (gH s)))(x:L[14]? = some (qi l))(S:U) :
  ∃z o H F:Int,bS (av 20) gP (cx (Ph (n+2) "_law_mix") (v2 (cx (Ph (n+2) "_law_cell_at") (v2 bZ (aR (vv 14) (vv 20)))) (vi 11))) (Ev.intsFrom 0 4) L S=some ([.int z,.int o,.int H,.int F],S):=by
 obtain⟨C,e,y,h⟩:=lK (Q:=fun v=>∃d:Int,v=.int d) (g:=av 20) (e:=cx (Ph (n+2) "_law_mix") (v2 (cx (Ph (n+2) "_law_cell_at") (v2 bZ (aR (vv 14) (vv 20)))) (vi 11))) (S:=S) (s:=Ev.intsFrom 0 4) (Inv:=fun f=>∃d,f=L.set 20 d) (L:=L) (fun v B f P=>by
  obtain⟨d,rfl⟩:=P;obtain⟨i,rfl,E⟩:=gC B;obtain⟨c,r,G,m,q⟩:=iN (n:=n) s (k:=l+(0+(i:Int))) (p:=11) (by lia) (by lia) (by lia);have w:((L.set 20 d).set 20 (qi (0+(i:Int))))[20]? = some (qi (0+(i:Int))):=by rw[bv (by simp[A])]
  have u:((L.set 20 d).set 20 (qi (0+(i:Int))))[0]? = some (qp (gH s)):=by rw[aP (by decide),aP (by decide)];exact K
  have j:((L.set 20 d).set 20 (qi (0+(i:Int))))[14]? = some (qi l):=by rw[aP (by decide),aP (by decide)];exact x
  simp only[cO]at w u j m q ⊢;exact⟨_,.int r,rfl,⟨_,cB ..⟩,by simp[-cB,w,u,j,m,q],r,rfl⟩) ⟨L[20]'(by lia),(gp (by lia)).symm⟩
 rw[cJ]at h;match C,h with
 | [a,b,c,d],_=>obtain⟨a,rfl⟩:=y a (by simp);obtain⟨b,rfl⟩:=y b (by simp);obtain⟨c,rfl⟩:=y c (by simp);obtain⟨d,rfl⟩:=y d (by simp);exact⟨a,b,c,d,e⟩
abbrev PL(c:List Int)(m r t p v d w u q h x a e s n k f b:Option D):Lc:=[qp (gH c),qi 2,m,r,t,p,v,d,w,u,q,h,x,a,e,s,n,k,f,b]
theorem gy(S:U)(x:SO):(S++[x])[S.length]? = some x:=by simp
theorem Hl(C:List Int)(k:Nat)(hk:k≤1)(hro:∀x ∈ r,j6 x)(hr0:r≠[])(hc:oE cells)(X:cells.length≤2)(hw:∀x ∈ u,j6 x)(hr:∀c ∈ o,isRoad c)(hrl:o.length≤8)(hm:m≤2)(q2 q3 q5 q8 a e q H K A B:Option D)(T:U) :
  ∃(p:List P)(f d w:Option D),p.length=m/\(∀c ∈ p,isStep I r cells u o c)/\(∀j v,p[j]? = some v->hd (a9 v)=some (108+j)) /\
   b_ (av 13) (fw (Ph (n+5))) (Ev.intsFrom 0 m) (PL C q2 q3 (ql o) q5 (qi (k:Int)) (qs I) q8 (ql cells) (ql r) (ql u) (qr T.length) a e q H K A B) (T++[.lst []])
    = some (.nx,PL C q2 q3 (ql o) q5 (qi (k:Int)) (qs I) q8 (ql cells) (ql r) (ql u) (qr T.length) f d w H K A B,T++[.lst (p.map .p)]):=by
 let F:Option D->Option D->Option D->Lc:=λa e q=>PL C q2 q3 (ql o) q5 (qi (k:Int)) (qs I) q8 (ql cells) (ql r) (ql u) (qr T.length) a e q H K A B
 let Inv:Nat->Lc->U->Prop:=λi L S=>∃(z:List P)(a e q:Option D),z.length=i/\((∀c ∈ z,isStep I r cells u o c)/\∀k v,z[k]? = some v->hd (a9 v)=some (108+k))/\L=F a e q/\S=T++[.lst (z.map .p)]
 obtain⟨L',S',e4,p,f,d,w,hsl,⟨hst,hsn⟩,rfl,rfl⟩:=dg (g:=av 13) (b:=fw (Ph (n+5))) (Inv:=Inv) (s:=Ev.intsFrom 0 m) (k:=0) (L:=F a e q) (S:=T++[.lst []]) (fun i v L S hv hI=>by
   obtain⟨rfl,hi⟩:=ints_get hv;obtain⟨z,a,e,q,W,⟨ho,Z⟩,rfl,rfl⟩:=hI;simp only[cO];have m1:f6 3 (k:Int)=true:=bK (by decide) (by lia);have m2:f6 4 (3 * (k:Int)+(i:Int))=true:=bK (by decide) (by lia);obtain⟨d0,d1,d2,d3,ed⟩:=LG (n:=n+3) C (5+4 * (3 * (k:Int)+(i:Int))) (by lia) (F (qi (i:Int)) (qi (5+4 * (3 * (k:Int)+(i:Int)))) q++[none]) rfl rfl rfl (T++[.lst (z.map .p)]);obtain⟨x,hx,hxh,V⟩:=kZ (n:=n+2) C (k:=11+i) (by lia);have V:cG (Ph (n+5) "_law_name") [gH C,.int (11+(i:Int))]=some (.str x):=by rw[<- V];rfl
   obtain⟨M,R,Q,l,N,y,hys,es⟩:=Hk (n:=n+1) d0 d1 d2 d3 (s:=I) hro hr0 hc X hw hr hrl;have G:z.length≤1000000:=by lia
   have E:mY (.tup [.str x]) (.tup [M,R,Q,.lst l,.lst N,y])=some (.tup [.str x,M,R,Q,.lst l,.lst N,y]):=rfl;refine⟨_,F (qi (i:Int)) (qi (5+4 * (3 * (k:Int)+(i:Int)))) (ql [.int d0,.int d1,.int d2,.int d3]),T++[.lst ((z++[P.tup [.str x,M,R,Q,.lst l,.lst N,y]]).map D.p)],rfl,?_,_,_,_,_,by simp;lia,⟨eO ho ⟨x,M,R,Q,l,N,y,hx,hys,rfl⟩,wv Z (by show hd x=_;rw[hxh,W];congr 1;lia)⟩,rfl,rfl⟩;rw[<- dM];simp only[F,PL,pi,eR]at ed;simp[fw,F,PL,m1,m2,b8,cJ,my,ed,V,es,E,dZ,G]) ⟨[],_,_,_,rfl,⟨λ_ h=>(by cases h),λ_ _ h=>(by simp at h)⟩,rfl,rfl⟩
 rw[cJ]at hsl;exact⟨p,f,d,w,by lia,hst,hsn,e4⟩
theorem v_(c:List Int)(j:Nat)(L:Lc)(o:j < L.length)(H:L[0]? = some (qp (gH c)))(b:0≠j)(K:m≤16)(S:U) :
  ∃q,bS (av j) gP (cx (Ph (n+3) "_law_name") (v2 bZ (vv j))) (Ev.intsFrom 0 m) L S=some (q,S)/\(∀y ∈ q,j6 y)/\(∀(i:Nat) y,q[i]? = some y->∃x,y=.str x/\hd x=some (97+i))/\q.length=(Ev.intsFrom 0 m).length:=by
 let f:P->P:=λv=>(cG (Ph (n+3) "_law_name") [gH c,v]).getD .non
 have w:∀i,i < m->∃x,aW x=true/\hd x=some (97+i)/\cG (Ph (n+3) "_law_name") [gH c,.int (i:Int)]=some (.str x)/\f (.int (i:Int))=.str x:=λi e=>by obtain⟨x,t,u,r⟩:=kZ (n:=n) c (k:=i) (by lia);exact⟨x,t,u,r,by simp[f,r]⟩
 refine⟨(Ev.intsFrom 0 m).map f,?_,λy a=>?_,λi y a=>?_,by simp⟩
 .rw [cN (p:=λ_=>true) (f:=f) (Inv:=λg=>∃d,g=L.set j d) (λv h g F=>?_) ⟨L[j],(gp o).symm⟩,mi.mpr λ_ _=>rfl];obtain⟨d,rfl⟩:=F;obtain⟨i,rfl,e⟩:=gC h;obtain⟨x,t,_,r,s⟩:=w i e;have l:((L.set j d).set j (qi (0+(i:Int))))[j]? = some (qi (0+(i:Int))):=by
   rw[bv (by simpa using o)]
  have z:((L.set j d).set j (qi (0+(i:Int))))[0]? = some (qp (gH c)):=by rw[aP (aI b),aP (aI b)];exact H
  simp only[cO]at l z ⊢;exact⟨_,rfl,⟨_,cB ..⟩,rfl,λ_=>by rw[s];simp[-cB,l,z,r]⟩
 .obtain⟨v,h,rfl⟩:=aY.mp a;obtain⟨i,rfl,e⟩:=gC h;obtain⟨x,t,_,_,s⟩:=w i e;rw[cO,s];exact⟨x,t,rfl⟩
 .rw [bY]at a;cases h:(Ev.intsFrom 0 m)[i]? with
  |none=>rw[h]at a;cases a
  |some v=>rw[h]at a;cases a;obtain⟨rfl,e⟩:=ints_get h;obtain⟨x,_,u,_,s⟩:=w i e;exact⟨x,by rw[cO,s],u⟩
noncomputable def dC:P->Nat
 | .tup (_::.int c::_)=>c.toNat
 |_=>0
def x5(v:P):Prop:=∃(k f s:Str),(k="weak"\/k="strong")/\aW f=true/\aW s=true/\v=.tup [.str k,.str f,.str s]
theorem i9:∀s:List (List h),(eK s).length=(s.map l0).foldr (· * ·) 1
 | []=>rfl
 |t::r=>by
  have e:=i9 r;have:∀a:List h,(a.flatMap λx=>(eK r).map (x::·)).length=a.length * (eK r).length:=λa=>by
   induction a with
   |nil=>simp
   |cons y a i=>rw[g6,aX,i,aQ,aV,lV];lia
  rw[eK,this,e];rfl
theorem D7(h:isCel c):(oH c).length≤2:=by
 obtain⟨x,lo,i,a,_,_,_,_,e,rfl⟩:=h;have:=e.2.1
 simp[oH];lia
theorem LU(h:oE cells)(l:cells.length≤1):(gD cells).length≤2:=by
 unfold gD;rw[i9];match cells,l,h with
 | [],_,_=>simp
 | [c],_,h=>have:=D7 (h.1 c (by simp));simpa using this
def vM(z:P):Prop:=dC z=1/\(qe (gF z 2)).length=1/\(gD (qe (gF z 3))).length=1
structure Pln(fams roads wishes:List P):Prop where
 hf:∀f ∈ fams,isFam roads f
 cr:∃c,(∀f ∈ fams,dC f≤c)/\fams.length * c≤4
 f0:1≤fams.length/\fams.length≤4
 hr:∀r ∈ roads,isRoad r
 ra:∀r ∈ roads,(∃f ∈ fams,a9 f=rA r)/\∃f ∈ fams,a9 f=rB r
 rl:roads.length≤8
 hw:∀w ∈ wishes,x5 w
 wl:wishes.length≤6
 rd:roads.Pairwise RD
 fd:∀f ∈ fams,∀g ∈ fams,a9 f=a9 g->f=g
 st:∃base tl,fams=base++tl/\((∃f,base=[f]/\dC f≤2)\/∃f g,base=[f,g]/\dC f≤1/\dC g≤1)/\(tl=[]\/∃z,tl=[z]/\vM z)/\∀r ∈ roads,∀z ∈ tl,a9 z≠rA r/\a9 z≠rB r
theorem ni(f:h->x)(t:List h)(i:Int):L2.atI (t.map f) i=(L2.atI t i).map f:=by
 unfold L2.atI;rw[aQ];cases L2.CY t.length i with
 |none=>rfl
 |some j=>simp
theorem D5(s:List Int){f:Int}(u:0≤f):∃v:List P,1≤v.length/\v.length≤2/\(∀x ∈ v,j6 x)/\cG (Ph (n+4) "_law_rooms") [gH s,.int f]=some (.lst v):=by
 obtain⟨c,a,g,b,t⟩:=iN (n:=n+1) s (k:=2+f) (p:=9) (by lia) (by lia) (by lia);have i:a % 2 < 2:=iz _ (by lia);have q:0≤a % 2:=gj _ (by lia);obtain⟨r,e,o,h⟩:=xU (n:=n) s 3 4 [qp (gH s),qi f,qi (1+a % 2),none] (by simp) rfl (by decide) (m:=(1+a % 2).toNat) (by lia) [];rw[cJ]at h;refine⟨r,by lia,by lia,o,?_⟩;have d:(1+a % 2).natAbs < 1000000:=by lia
 have w:(1+a % 2).toNat≤1000000:=by lia
 rw[rL,aU];simp only[show((4:Nat):Int)=4 from rfl]at e;simp[lw,b,t,d,w,b8,cJ,my,e]
theorem Fy{n:Nat}(S:List Int){M:Int}(e0:cG (Ph (n+5) "_law_cell_at") [gH S,.int 0]=some (.int M)){k m:Nat}(hk:k≤1)(hm:m=1\/m=2){F:Str}(hnm:aW F=true){o:List P}(hr:∀c ∈ o,isRoad c)(hrl:o.length≤8){s:List P}(hfl:s.length≤100)(T:U)(E q8 q9 L G C d g l a e b t:Option D) :
  ∃f,isFam o f/\a9 f=F/\dC f≤3-m/\∃q8' q9' q10' q11' q12' K A B T',fq (Ph (n+5)) (PL S (qi (m:Int)) E (ql o) (qr 0) (qi (k:Int)) (qs F) q8 q9 L G C d g l a e b t) (.lst (s.map .p)::T)
   = some (.nx,PL S (qi (m:Int)) E (ql o) (qr 0) (qi (k:Int)) (qs F) q8' q9' q10' q11' q12' K A B a e b t,.lst ((s++[f]).map .p)::T'):=by
 obtain⟨H,hcr0,hcr1,V,ecr⟩:∃H:Nat,1≤H/\H≤2/\H≤3-m/\L2.atI [P.int (1+M / 2 % 2),.int 1] ((m:Int)-1)=some (.int (H:Int)):=by
  rcases hm with rfl|rfl
  .exact⟨(1+M / 2 % 2).toNat,by lia,by lia,by lia,by simp;lia⟩
  .exact⟨1,by lia,by lia,by lia,by simp⟩
 obtain⟨cells,hcl,hc,ec⟩:=FR (n:=n+1) S (f:=(k:Int)) (by lia);obtain⟨r,I,hr2,hro,er⟩:=D5 (n:=n+1) S (f:=(k:Int)) (by lia);have Z:r≠[]:=λq=>by rw[q]at I;simp at I
 obtain⟨x,hx,_,ex⟩:=kZ (n:=n+2) S (k:=10) (by lia);have ex:cG (Ph (n+5) "_law_name") [gH S,.int 10]=some (.str x):=by rw[<- ex];rfl
 obtain⟨c8,N,ha8,Q,e82⟩:=iN (n:=n+3) S (k:=2+(k:Int)) (p:=8) (by lia) (by lia) (by lia);obtain⟨a7,ha7,e72⟩:=EL (n:=n+3) c8 (p:=7) (by lia) (by lia);obtain⟨z,w,u,ez,mz,hz,ew,hwi,hwl⟩:∃(z w:Int)(u:List P),lM [.bl (decide (r.length=1))]=some (.int z)/\f6 (N % 2) z=true/\N % 2 * z=w/\mX (.lst [.str x]) (.int w)=some (.lst u)/\(∀y ∈ u,j6 y)/\r.length * 2 ^ u.length≤2:=by
  have R:N % 2=0\/N % 2=1:=by lia
  by_cases h:r.length=1
  .have hm:f6 (N % 2) 1=true:=bK (by lia) (by decide);rcases R with R|R
   .exact⟨1,0,[],by simp[h,lM,sP],hm,by rw[R];simp,by simp,λ_ h=>(by cases h),by simp;lia⟩
   .exact⟨1,1,[.str x],by simp[h,lM,sP],hm,by rw[R];simp,by simp,λy hy=>⟨x,hx,by simpa using hy⟩,by simp;lia⟩
  .exact⟨0,0,[],by simp[h,lM,sP],bK (by lia) (by decide),by simp,by simp,λ_ h=>(by cases h),by simp;lia⟩
 have hwl2:u.length≤1:=by
  rcases tL u.length 2 with h|h
  .lia
  .have h4:2 ^ 2≤2 ^ u.length:=tP (by decide) h;have:1 * 2 ^ u.length≤r.length * 2 ^ u.length:=Nat.mul_le_mul_right _ I;lia
 obtain⟨v,K,A,B,hsl,hst,hsn,es⟩:=Hl (n:=n) S k hk (I:=F) hro Z hc (by lia) hwi hr hrl (m:=(1+a7 % 2).toNat) (by lia) (qi (m:Int)) E (qr 0) (qi (H:Int)) d g l a e b t (.lst (s.map .p)::T);have W:=LU hc hcl;refine⟨.tup [.str F,.int (H:Int),.lst r,.lst cells,.lst u,.lst v],⟨F,H,r,cells,u,v,⟨hnm,by lia,hro,Z,by lia,hc,by lia,hwi,by lia,fun q=>by rw [q] at hsl;simp at hsl;lia,by lia,hst,ug.mpr fun i j hi hj hij q=>by
  have h1:=hsn i _ (bg hi);have h2:=hsn j _ (bg hj);rw[q,h2]at h1;have:=cc h1
  lia,by lia,?_,W⟩,rfl⟩,rfl,by simpa[dC] using V,qi (H:Int),ql cells,ql r,ql u,some (.ref (SO.lst (s.map .p)::T).length),K,A,B,T++[.fz (.lst v)],?_⟩
 .have:r.length * (gD cells).length * 2 ^ u.length=r.length * 2 ^ u.length * (gD cells).length:=by rw[Nat.mul_right_comm]
  rw[this];exact au (lW hwl W) (by decide)
 have q2:(1+a7 % 2).natAbs < 1000000:=by lia
 have X:s.length≤1000000:=by lia
 unfold fq;rw [aq (e:=PL S (qi (m:Int)) E (ql o) (qr 0) (qi (k:Int)) (qs F) (qi (H:Int)) q9 L G C d g l a e b t) (c:=.lst (s.map .p)::T) (by simp [PL,e0,ecr])];rw [aq (e:=PL S (qi (m:Int)) E (ql o) (qr 0) (qi (k:Int)) (qs F) (qi (H:Int)) (ql cells) L G C d g l a e b t) (c:=.lst (s.map .p)::T) (by simp [PL,ec])];rw [aq (e:=PL S (qi (m:Int)) E (ql o) (qr 0) (qi (k:Int)) (qs F) (qi (H:Int)) (ql cells) (ql r) G C d g l a e b t) (c:=.lst (s.map .p)::T) (by simp [PL,er])];rw [aq (e:=PL S (qi (m:Int)) E (ql o) (qr 0) (qi (k:Int)) (qs F) (qi (H:Int)) (ql cells) (ql r) (ql u) C d g l a e b t) (c:=.lst (s.map .p)::T) (by
  have hdc:(decide ((r.length:Int)=1))=decide (r.length=1):=by by_cases h:r.length=1<;>simp[h]<;>lia
  simp[PL,ex,Q,e82,dO,fO,hdc,ez,mz,hz,-CI,ew])]
 rw[aq (e:=PL S (qi (m:Int)) E (ql o) (qr 0) (qi (k:Int)) (qs F) (qi (H:Int)) (ql cells) (ql r) (ql u) (some (.ref (SO.lst (s.map .p)::T).length)) d g l a e b t) (c:=(.lst (s.map .p)::T)++[.lst []]) (by simp[PL])];rw[aq (e:=PL S (qi (m:Int)) E (ql o) (qr 0) (qi (k:Int)) (qs F) (qi (H:Int)) (ql cells) (ql r) (ql u) (some (.ref (SO.lst (s.map .p)::T).length)) K A B a e b t) (c:=(.lst (s.map .p)::T)++[.lst (v.map .p)]) (by rw[cw];rw[show iY (aR dh (aK (cx (Ph (n+5) "_law_mix") (v2 (cx (Ph (n+5) "_law_cell_at") (v2 bZ (aR fW k8))) (vi 7))) fW)) (PL S (qi (m:Int)) E (ql o) (qr 0) (qi (k:Int)) (qs F) (qi (H:Int)) (ql cells) (ql r) (ql u) (some (.ref (SO.lst (s.map .p)::T).length)) d g l a e b t) ((.lst (s.map .p)::T)++[.lst []])=some (Ev.intsFrom 0 (1+a7 % 2).toNat,(.lst (s.map .p)::T)++[.lst []]) by simp[PL,Q,e72,q2]];exact es)]
 have hg:((.lst (s.map .p)::T)++[SO.lst (v.map .p)])[(SO.lst (s.map .p)::T).length]? = some (.lst (v.map .p)):=gy _ _;have ht:toP 9 (.ref (T.length+1)) (.lst (s.map .p)::(T++[SO.lst (v.map .p)]))=_:=fK hg;have hs:(SO.lst (s.map .p)::(T++[SO.lst (v.map .p)])).set (T.length+1) (.fz (.lst v))=.lst (s.map .p)::(T++[.fz (.lst v)]):=by simp
 rw[hs]at ht;rw[<- dM];simp[PL,dZ,ht,X]
noncomputable def qk(h a e x s n:Str)(w:P):P:=.tup [.str s,.int 1,.lst [.str x],.lst [.tup [.str h,.int 3,.int 3,.int 3],.tup [.str a,.int 0,.int 0,.int 0]],.lst [.str n],.lst [.tup [.str e,.str x,w,.non,.lst [],.lst [],.str x]]]
theorem DU(t:strOk e)(s:hd e=some 109)(v:strOk f)(n:hd f=some 110)(d:strOk b)(u:strOk a)(z:strOk g)(H:strOk p)(hw:w=.tup [.str "true"]\/w=.tup [.str "not",.tup [.str "true"]]):isFam o (qk e f b a g p w)/\vM (qk e f b a g p w):=by
 have j:∀{x:Str}{k:Nat},hd x=some k->k≠105->hd x≠some 105:=λh hk q=>by rw[h]at q;exact hk (cc q)
 refine⟨⟨g,1,[.str a],_,[.str p],_,⟨z,by lia,λy r=>⟨a,u,by simpa using r⟩,by simp,by simp,⟨λc l=>?_,109,λi c m=>?_⟩,by simp,λy r=>⟨p,H,by simpa using r⟩,by simp,by simp,by simp,λy r=>?_,by simp,by simp,by simp[gD,eK,oH],by simp[gD,eK,oH]⟩,rfl⟩,rfl,rfl,by simp[qk,gD,eK,oH]⟩
 .simp only[aN,db,cY]at l;rcases l with rfl|rfl
  .exact⟨e,3,3,3,t,by decide,by decide,by decide,⟨by decide,by decide,j s (by decide)⟩,rfl⟩
  .exact⟨f,0,0,0,v,by decide,by decide,by decide,⟨by decide,by decide,j n (by decide)⟩,rfl⟩
 .match i,m with
  |0,m=>cases m;exact s
  |1,m=>cases m;exact n
 .cases cC.mp r;refine⟨b,.str a,w,.non,[],[],.str a,d,⟨by simp,by simp,?_,.inl rfl,by simp,λ_ h=>(by cases h),λ_ h=>(by cases h),λ_ _ _ _ q=>(by cases q),by simp,λ_ h=>(by cases h)⟩,rfl⟩;rcases hw with rfl|rfl
  .exact .inl rfl
  .exact .inr (.inr (.inl ⟨_,.inr rfl,rfl⟩))
theorem BV{n:Nat}(X:List Int){m:Nat}(hm:m=1\/m=2){o s:List P}(hf:∀f ∈ s,isFam o f)(hml:m≤s.length)(q3 q4 G M q8 q9 y z H K A q B C E:Option D)(T:U){w:Nat}(hw:w≤6) :
  ∃(V:List P)(I N j:Option D),V.length=w/\(∀c ∈ V,x5 c)/\b_ (av 6) (fm (Ph (n+5))) (Ev.intsFrom 0 w) (PL X (qi (m:Int)) q3 q4 (qr 0) G M q8 q9 y z H K A q (qr (T.length+1)) B C E) (.lst (s.map .p)::(T++[.lst []]))
   = some (.nx,PL X (qi (m:Int)) q3 q4 (qr 0) I N q8 q9 y z H K A j (qr (T.length+1)) B C E,.lst (s.map .p)::(T++[.lst (V.map .p)])):=by
 let F:Option D->Option D->Option D->Lc:=λG M q=>PL X (qi (m:Int)) q3 q4 (qr 0) G M q8 q9 y z H K A q (qr (T.length+1)) B C E
 let Inv:Nat->Lc->U->Prop:=λi L S=>∃(l:List P)(G M q:Option D),l.length=i/\(∀c ∈ l,x5 c)/\L=F G M q/\S=.lst (s.map .p)::(T++[.lst (l.map .p)])
 obtain⟨L',S',e4,V,I,N,j,hsl,hst,rfl,rfl⟩:=dg (g:=av 6) (b:=fm (Ph (n+5))) (Inv:=Inv) (s:=Ev.intsFrom 0 w) (k:=0) (L:=F G M q) (S:=.lst (s.map .p)::(T++[.lst []])) (fun i v L S hv hI=>by
   obtain⟨rfl,hi⟩:=ints_get hv;obtain⟨l,G,M,q,hc1,ho,rfl,rfl⟩:=hI;simp only[cO];obtain⟨c,d,hd,e1,e2⟩:=iN (n:=n+3) X (k:=4) (p:=20+(i:Int)) (by lia) (by lia) (by lia);have hmp:0 < (m:Int):=by lia
   have hmn:0 < m:=by lia
   obtain⟨f,hfm,ef⟩:=nW (s:=s) (k:=d % (m:Int)) (gj _ (by lia)) (by have:=iz d hmp;lia);obtain⟨R,Z,r,cells,u,e,W,rfl⟩:=hf f hfm;obtain⟨st,hsm,est⟩:=iw W.s0 (d / 4);obtain⟨x,rm,wh,tk,chg,sn,rm2,hx,hys,rfl⟩:=W.hst st hsm;obtain⟨k,hk,ek⟩:=xR (a:="weak") (b:="strong") (d / 2);have hl:=len_pos W.s0;have Q:l.length≤1000000:=by lia
   have hg:(T++[SO.lst (l.map .p)])[T.length]? = some (.lst (l.map .p)):=gy _ _;refine⟨_,F (qi (i:Int)) (qt [.str R,.int (Z:Int),.lst r,.lst cells,.lst u,.lst e]) (qi d),.lst (s.map .p)::(T++[.lst ((l++[P.tup [.str k,.str R,.str x]]).map D.p)]),rfl,?_,_,_,_,_,by simp;lia,eO ho ⟨k,R,x,hk,W.hnm,hx,rfl⟩,rfl,rfl⟩;have ef2:L2.atI (s.map D.p) (d % (m:Int))=qt [.str R,.int (Z:Int),.lst r,.lst cells,.lst u,.lst e]:=by rw[ni,ef];rfl
   have e5:L2.atI [P.str R,.int (Z:Int),.lst r,.lst cells,.lst u,.lst e] 5=some (.lst e):=bC (by decide) rfl;rw[<- dM];simp[fm,F,PL,e1,e2,hmn,mV,ef2,ek,e5,dO,fO,hl,est,dZ,Q]) ⟨[],_,_,_,rfl,λ_ h=>(by cases h),rfl,rfl⟩
 rw[cJ]at hsl;exact⟨V,I,N,j,by lia,hst,e4⟩
theorem HI{n:Nat}(E:List Int):∃fams s N,Pln fams s N/\cG (Ph (n+6) "_law_plan") [gH E,.int 2]=some (.tup [.lst fams,.lst s,.lst N]):=by
 obtain⟨I,e0⟩:=BJ (n:=n+3) E (k:=0) (by lia);obtain⟨m,hm⟩:∃m:Nat,1+I % 2=(m:Int):=⟨(1+I % 2).toNat,by lia⟩;have hm2:m=1\/m=2:=by lia
 obtain⟨p,en,hnm,hnh,hnl⟩:=v_ (n:=n+2) E 6 (PL E (qi (m:Int)) none none none none none none none none none none none none none none none none none) (by simp [PL]) rfl (by decide) (m:=m) (by lia) [];rw [cJ] at hnl;obtain⟨s,⟨hrl,hr,hrd⟩,er⟩:=D6 (n:=n+2) E hnm (fun i j x W X=>by
  obtain⟨a,rfl,ha⟩:=hnh i _ W;obtain⟨b,e,hb⟩:=hnh j _ X;cases e;rw[ha]at hb;have:=cc hb
  lia) (by lia)
 let F:Option D->Option D->Option D->Option D->Option D->Option D->Option D->Option D->Option D->Option D->Lc:=λq6 q7 Z q9 u H K A B C=>PL E (qi (m:Int)) (ql p) (ql s) (qr 0) q6 q7 Z q9 u H K A B C none none none none
 let Inv:Nat->Lc->U->Prop:=λi L S=>∃(vs:List P)(T:U)(q6 q7 Z q9 u H K A B C:Option D),vs.length=i/\(∀c ∈ vs,isFam s c/\dC c≤3-m)/\(∀j x,p[j]? = some x->j < i->∃f,vs[j]? = some f/\x=.str (a9 f))/\L=F q6 q7 Z q9 u H K A B C/\S=.lst (vs.map .p)::T
 obtain⟨L',S',e1,base,T,q6,q7,Z,q9,u,H,K,A,B,C,hfl,hfa,hfn,rfl,rfl⟩:=dg (g:=bF [av 6,av 7]) (b:=fq (Ph (n+5))) (Inv:=Inv) (s:=cj 0 p) (k:=0) (L:=F none none none none none none none none none none) (S:=[.lst []]) (fun i v L S hv hI=>by
   obtain⟨x,hx1,rfl⟩:=kA hv;have hi:=bA hx1;obtain⟨nm,hnm1,rfl⟩:=hnm x (aZ hx1);obtain⟨vs,T,q6,q7,Z,q9,u,H,K,A,B,C,hc,ho,hon,rfl,rfl⟩:=hI;obtain⟨f,hf1,hf2,hf3,q8',q9',q10',q11',q12',q13',q14',q15',T',ef⟩:=Fy (n:=n) E e0 (k:=i) (m:=m) (by lia) hm2 hnm1 (λr h=>(hr r h).1) hrl (s:=vs) (by lia) T (ql p) Z q9 u H K A B C none none none none;refine⟨F (qi (i:Int)) (qs nm) Z q9 u H K A B C,_,_,rfl,ef,vs++[f],T',_,_,_,_,_,_,_,_,_,_,by simp;lia,eO ho ⟨hf1,hf3⟩,λj x hj hji=>?_,rfl,rfl⟩;by_cases hjj:j < i
   .obtain⟨g,Q,e⟩:=hon j x hj (by lia);exact⟨g,by rw[bL (bA Q)];exact Q,e⟩
   .have:j=i:=by lia
    subst this;rw[hx1]at hj;cases hj;exact⟨f,by rw[bH (by lia),hc];simp,by rw[hf2]⟩) ⟨[],[],none,none,none,none,none,none,none,none,none,none,rfl,λ_ h=>(by cases h),λ_ _ _ h=>(by lia),rfl,rfl⟩
 have hfm:base.length=m:=by rw[hfl,d5,hnl];lia
 obtain⟨G,q17,q18,q19,R,e2⟩:∃(G:List P) (q17 q18 q19:Option D),(G=[]\/∃z,G=[z]/\isFam s z/\vM z/\hd (a9 z)=some 100)/\∀(q16:Option D) (T:U),dG (bt (O (aK (aM (cx (Ph (n+5) "_law_cell_at") (v2 bZ eB)) (vi 64)) rY)) (O dh)) (ai (aC 17 (O (bu (v2 (aL (v4 (cx (Ph (n+5) "_law_name") (v2 bZ (vi 12))) g_ g_ g_)) (aL (v4 (cx (Ph (n+5) "_law_name") (v2 bZ (vi 13))) eB eB eB))))))
  (ai (aC 18 (O (ae (bu (v2 (aL (v1 (vt "true"))) (aL (v2 (vt "not") (aL (v1 (vt "true"))))))) (aK (aM (cx (Ph (n+5) "_law_cell_at") (v2 bZ eB)) (vi 256)) fW))))
  (ai (aC 19 (O (aL (v7 (cx (Ph (n+5) "_law_name") (v2 bZ (vi 14))) (cx (Ph (n+5) "_law_name") (v2 bZ (vi 15))) (vv 18) (vC (.non)) (bu aS) (bu aS) (cx (Ph (n+5) "_law_name") (v2 bZ (vi 15)))))))
  (b9 (bM (ak 5) (O (aL (v6 (cx (Ph (n+5) "_law_name") (v2 bZ g_)) dh (bu (v1 (cx (Ph (n+5) "_law_name") (v2 bZ (vi 15))))) (vv 17) (bu (v1 (cx (Ph (n+5) "_law_name") (v2 bZ (vi 9))))) (bu (v1 (vv 19))))))))))) fY
   (PL E (qi (m:Int)) (ql p) (ql s) (qr 0) q6 q7 Z q9 u H K A B C q16 none none none) (.lst (base.map .p)::T)=some (.nx,PL E (qi (m:Int)) (ql p) (ql s) (qr 0) q6 q7 Z q9 u H K A B C q16 q17 q18 q19,.lst ((base++G).map .p)::T):=by
  by_cases h:I / 64 % 4=1
  .have V:∀k:Nat,k < 16->∃x:Str,strOk x/\hd x=some (97+k)/\cG (Ph (n+5) "_law_name") [gH E,.int (k:Int)]=some (.str x):=λk hk=>kZ (n:=n+2) E hk;obtain⟨x12,o12,h12,e12⟩:=V 12 (by decide);obtain⟨x13,o13,h13,e13⟩:=V 13 (by decide);obtain⟨x14,o14,_,e14⟩:=V 14 (by decide);obtain⟨x15,o15,_,e15⟩:=V 15 (by decide);obtain⟨x3,o3,h3,e3⟩:=V 3 (by decide);obtain⟨x9,o9,_,e9⟩:=V 9 (by decide);obtain⟨wh,hwh,ewh⟩:=Eh (a:=.tup [.str "true"]) (b:=.tup [.str "not",.tup [.str "true"]]) (I / 256);obtain⟨s1,s2⟩:=DU (o:=s) o12 h12 o13 h13 o14 o15 o3 o9 hwh;simp only[show((12:Nat):Int)=12 from rfl,show((13:Nat):Int)=13 from rfl,show((14:Nat):Int)=14 from rfl,show((15:Nat):Int)=15 from rfl,show((3:Nat):Int)=3 from rfl,show((9:Nat):Int)=9 from rfl]at e12 e13 e14 e15 e3 e9;have hlen:base.length≤1000000:=by lia
   refine⟨[qk x12 x13 x14 x15 x3 x9 wh],ql [.tup [.str x12,.int 3,.int 3,.int 3],.tup [.str x13,.int 0,.int 0,.int 0]],qp wh,qt [.str x14,.str x15,wh,.non,.lst [],.lst [],.str x15],.inr ⟨_,rfl,s1,s2,h3⟩,λq16 T=>?_⟩;rw[<- dM];rw[uW (by simp[PL,e0,h])];rw[aq (by simp[PL,e12,e13];exact⟨rfl,rfl⟩),aq (by simp[PL,e0,ewh];exact⟨rfl,rfl⟩),aq (by simp[PL,e14,e15];exact⟨rfl,rfl⟩)];simp[PL,e3,e15,e9,dZ,hlen,qk]
  .exact⟨[],none,none,none,.inl rfl,λq16 T=>by simp[PL,e0,h]⟩
 have hfa2:∀f ∈ base++G,isFam s f:=λf w=>by
  rcases bE.mp w with w|w
  .exact (hfa f w).1
  .rcases R with rfl|⟨z,rfl,hz,_⟩
   .cases w
   .rw [cC.mp w];exact hz
 have hw6:(I / 20 % 3).toNat≤6:=by lia
 obtain⟨ws,q6',q7',q15',hwl,hwi,e3⟩:=BV (n:=n) E hm2 hfa2 (by rw[aX];lia) (ql p) (ql s) q6 q7 Z q9 u H K A B C q17 q18 q19 T hw6;have M:∀x ∈ p,∃f ∈ base,x=.str (a9 f):=λx hx=>by obtain⟨j,hj,e⟩:=iG.mp hx;obtain⟨f,w,e⟩:=hfn j x (by rw[bg hj,e]) (by rw[d5];lia);exact⟨f,aZ w,e⟩
 have hfd:∀f ∈ base,∃a:Nat,base[a]? = some f/\hd (a9 f)=some (97+a):=λf w=>by obtain⟨a,ha,e⟩:=iG.mp w;have W:=bg ha;rw[e]at W;have X:=bg (l:=p) (i:=a) (by lia);obtain⟨g,Q,e2⟩:=hfn a _ X (by rw[d5];lia);rw[W]at Q;cases Q;obtain⟨y,e3,hy⟩:=hnh a _ X;rw[e2]at e3;cases e3;exact⟨a,W,hy⟩
 have hne:∀f ∈ base,∀z ∈ G,a9 z≠a9 f:=λf w z hz q=>by
  obtain⟨a,W,X⟩:=hfd f w;rcases R with rfl|⟨z',rfl,_,_,hz'⟩
  .cases hz
  .rw [cC.mp hz]at q;rw[<- q,hz']at X;have:=cc X
   have:=bA W;lia
 have htl1:G.length≤1:=by rcases R with rfl|⟨z,rfl,_⟩<;>simp
 refine⟨base++G,s,ws,⟨hfa2,⟨3-m,λf w=>?_,?_⟩,by rw[aX];lia,λr h=>(hr r h).1,λr h=>⟨?_,?_⟩,hrl,hwi,by lia,hrd,λf w g Q q=>?_,base,G,rfl,?_,R.imp id λ⟨z,W,_,X,_⟩=>⟨z,W,X⟩,λr h z hz=>⟨λq=>?_,λq=>?_⟩⟩,?_⟩
 .rcases bE.mp w with w|w
  .exact (hfa f w).2
  .rcases R with rfl|⟨z,rfl,_,hz,_⟩
   .cases w
   .rw [cC.mp w,hz.1];lia
 .rw [aX,hfm];rcases hm2 with rfl|rfl<;>lia
 .obtain⟨f,w,e⟩:=M _ (hr r h).2.1;exact⟨f,iF _ w,(P.str.inj e).symm⟩
 .obtain⟨f,w,e⟩:=M _ (hr r h).2.2;exact⟨f,iF _ w,(P.str.inj e).symm⟩
 .rcases bE.mp w with w|w<;>rcases bE.mp Q with Q|Q
  .obtain⟨a,W,X⟩:=hfd f w;obtain⟨a',h3,h4⟩:=hfd g Q;rw[q,h4]at X;have:=cc X
   rw[show a=a' by lia,h3]at W;exact(cc W).symm
  .exact absurd q.symm (hne f w g Q)
  .exact absurd q (hne g Q f w)
  .rcases R with rfl|⟨z,rfl,_⟩
   .cases w
   .rw [cC.mp w,cC.mp Q]
 .rcases hm2 with rfl|rfl
  .obtain⟨f,rfl⟩:=Rt hfm;exact .inl ⟨f,rfl,(hfa f (by simp)).2⟩
  .obtain⟨f,g,rfl⟩:=O1 hfm;exact .inr ⟨f,g,rfl,(hfa f (by simp)).2,(hfa g (by simp)).2⟩
 .obtain⟨f,w,e⟩:=M _ (hr r h).2.1;exact hne f w z hz (q.trans (P.str.inj e))
 .obtain⟨f,w,e⟩:=M _ (hr r h).2.2;exact hne f w z hz (q.trans (P.str.inj e))
 have q3:m < 1000000:=by lia
 have q4:m≤1000000:=by lia
 have q5:(I / 20 % 3).natAbs < 1000000:=by lia
 rw [u4,aU];show (if [gH E,P.int 2].length=2 then match jV (Ph (n+5)) (PL E none none none none none none none none none none none none none none none none none none) [] with
  |some (.rt d,_,S)=>(toP 9 d S).map (·.1)
  |some (.nx,_,_)=>some .non
  |_=>none else none)=_
 rw[ac (show[gH E,P.int 2].length=2 from rfl)];unfold jV;simp only[F]at e1;rw[aq (e:=PL E (qi (m:Int)) none none none none none none none none none none none none none none none none none) (c:=[]) (by simp[PL,e0,hm])];rw[aq (e:=PL E (qi (m:Int)) (ql p) none none none none none none none none none none none none none none none none) (c:=[]) (by simp only[PL]at en;simp[PL,q3,q4,b8,cJ,my,en])];rw[aq (e:=PL E (qi (m:Int)) (ql p) (ql s) none none none none none none none none none none none none none none none) (c:=[]) (by simp[PL,er])];rw[aq (e:=PL E (qi (m:Int)) (ql p) (ql s) (qr 0) none none none none none none none none none none none none none none) (c:=[.lst []]) (by simp[PL])];rw[aq (e:=_) (c:=_) (by rw[cw];rw[show lF fX (PL E (qi (m:Int)) (ql p) (ql s) (qr 0) none none none none none none none none none none none none none none) [.lst []]=some (cj 0 p,[.lst []]) by simp[PL]];exact e1)];rw[aq (e:=PL E (qi (m:Int)) (ql p) (ql s) (qr 0) q6 q7 Z q9 u H K A B C (qr (T.length+1)) none none none) (c:=.lst (base.map .p)::(T++[.lst []])) (by simp[PL])];rw[aq (e2 _ _)];rw[aq (e:=_) (c:=_) (by rw[cw];rw[show iY (aK (aM (cx (Ph (n+5) "_law_cell_at") (v2 bZ eB)) (vi 20)) g_) (PL E (qi (m:Int)) (ql p) (ql s) (qr 0) q6 q7 Z q9 u H K A B C (qr (T.length+1)) q17 q18 q19) (.lst ((base++G).map .p)::(T++[.lst []]))=some (Ev.intsFrom 0 (I / 20 % 3).toNat,.lst ((base++G).map .p)::(T++[.lst []])) by simp[PL,e0,q5]];exact e3)];have t0:toP 9 (.ref 0) (SO.lst ((base++G).map .p)::(T++[.lst (ws.map .p)]))=some (.lst (base++G),.fz (.lst (base++G))::(T++[.lst (ws.map .p)])):=fK rfl;have t1:toP 9 (.ref (T.length+1)) (SO.fz (.lst (base++G))::(T++[.lst (ws.map .p)]))=some (.lst ws,.fz (.lst (base++G))::(T++[.fz (.lst ws)])):=by rw[fK (T:=ws) (by simp)];simp
 generalize base++G=fams at t0 t1 ⊢;simp[PL,t0,t1]
end My
namespace My
open PySem L2 Ev
section
variable{m:List P}
def hw:Nat->List P->List (Nat×P)
 |_,[]=>[]
 |k,f::r=>List.replicate (dC f) (k,f)++hw (k+1) r
theorem isFam.crew(h:isFam m e):dC e≤4:=by obtain⟨n,c,r,a,w,s,f,rfl⟩:=h;simpa[dC] using f.hcr.2
theorem Fm:∀{a:List P}(k:Nat),(∀f ∈ a,isFam m f)->(hw k a).length≤4 * a.length
 | [],k,_=>by simp[hw]
 |f::r,k,h=>by have:=Fm (a:=r) (k+1) λx e=>h x (aG _ e);have c:=(h f aH).crew;simp[hw];lia
theorem nR:∀{a:List P}{k:Nat}{x:Nat×P},x ∈ hw k a->∃j,x.1=k+j/\a[j]? = some x.2
 | [],k,x,h=>by simp[hw]at h
 |f::r,k,x,h=>by
  unfold hw at h;rcases bE.mp h with h|h
  .obtain⟨_,rfl⟩:=mf.mp h;exact⟨0,by simp,by simp⟩
  .obtain⟨j,s,e⟩:=nR h;exact⟨j+1,by lia,by simpa using e⟩
def homes(f:List P):List P:=(hw 0 f).map λx=>.int (x.1:Int)
def bq(f:List P):List P:=(hw 0 f).map (·.2)
theorem jq(k:Nat):((k+1:Nat):Int)=(k:Int)+1:=by lia
theorem Bx(y K:Str->GF)(S:U)(l:P):∀(b:List P)(k:Nat)(n:List P)(g i:Option D),(∀f ∈ b,isFam m f)->n.length+4 * b.length≤1000 ->
  ∃q v,b_ (bF [av 2,av 3]) (fy y) (cj (k:Int) b) [qp l,qr S.length,g,i] (S++[.lst (n.map .p)])=some (.nx,[qp l,qr S.length,q,v],S++[.lst ((n++(hw k b).map λx=>P.int (x.1:Int)).map .p)])
 | [],k,n,g,i,_,_=>⟨g,i,by simp[cj,b_,hw]⟩
 |f::r,k,n,g,i,h,H=>by
  obtain⟨u,c,o,a,w,s,z,rfl⟩:=h f aH;have A:=z.hcr.2;simp only[aV]at H;obtain⟨q,v,e⟩:=Bx y K S l r (k+1) (n++List.replicate c (P.int (k:Int))) (qi (k:Int)) (qt [.str u,.int (c:Int),.lst o,.lst a,.lst w,.lst s]) (λx F=>h x (aG _ F)) (by simp;lia);refine⟨q,v,?_⟩;have j:(hw k (.tup [.str u,.int (c:Int),.lst o,.lst a,.lst w,.lst s]::r)).map (λx=>P.int (x.1:Int))=List.replicate c (P.int (k:Int))++(hw (k+1) r).map (λx=>P.int (x.1:Int)):=by simp[hw,dC]
  rw[j,<- eS];unfold cj;rw[jq]at e;refine(cz (h:=[qp l,qr S.length,qi (k:Int),qt [.str u,.int (c:Int),.lst o,.lst a,.lst w,.lst s]]) (L2:=[qp l,qr S.length,qi (k:Int),qt [.str u,.int (c:Int),.lst o,.lst a,.lst w,.lst s]]) (x:=S++[.lst ((n++List.replicate c (P.int (k:Int))).map .p)]) rfl ?_).trans e;have d:c≤1000000:=by lia
  have p:c < 1000000:=by lia
  have t:n.length+c≤1000000:=by lia
  simp[fy,dZ,d,p,t]
theorem Jq(h:∀f ∈ s,isFam m f)(l:s.length≤4)(r w:P)(S:U):Ph (n+2) "families_of" [.p (.tup [.lst s,r,w])] S=some (.ref S.length,S++[.lst ((homes s).map .p)]):=by obtain⟨q,a,e⟩:=Bx (Ph (n+1)) (Ph n) S (.tup [.lst s,r,w]) s 0 [] none none h (by simp;lia);rw[oN];simp only[eR,dX]at e;have x:=e;rw[show((0:Nat):Int)=0 from rfl]at x;simp[mP,j9,x,homes]
theorem Bw(h:∀f ∈ s,isFam m f)(l:s.length≤4)(r w:P):cG (Ph (n+2) "families_of") [.tup [.lst s,r,w]]=some (.lst (homes s)):=by unfold cG;rw[aA,dX,Jq (n:=n) h l r w []];simp
def a8(f:List P):LS:=(bq f).map a9
theorem je(h:∀f ∈ s,isFam m f)(a:f ∈ bq s):isFam m f:=by unfold bq at a;obtain⟨x,n,rfl⟩:=aY.mp a;obtain⟨j,_,e⟩:=nR n;exact h _ (aZ e)
noncomputable def eM(N:LS)(s:Str):List Nat:=(List.range N.length).filter λi=>decide (N[i]? = some s)
theorem BA:∀(xs:List P)(k:Nat),cj (k:Int) xs=(zI k xs.length).map λi=>.tup [.int (i:Int),(xs[i-k]?).getD .non]
 | [],k=>rfl
 |x::r,k=>by
  unfold cj;have h:=BA r (k+1);rw[jq]at h;rw[h,aV,t8,aA];simp only[zt];congr 1;refine zU λi a=>?_
  have:=(List.mem_range'_1.mp a).1;rw[show i-k=(i-(k+1))+1 by lia,kQ]
theorem Od(xs:List P):cj 0 xs=(List.range xs.length).map λi=>.tup [.int (i:Int),(xs[i]?).getD .non]:=by have:=BA xs 0;rw[List.range_eq_range'];simpa using this
noncomputable def pr(road:P)(n o:Nat):P:=.tup [road,.int (n:Int),.int (o:Int)]
def xO(N:LS)(road:P):List P:=(eM N (rA road)).flatMap λn=>((eM N (rB road)).filter λo=>!decide (n=o)).map λo=>pr road n o
def bJ(N:LS)(r:List P):List P:=r.flatMap (xO N)
noncomputable def cH(s:List Nat):List P:=s.map λ(i:Nat)=>P.int (i:Int)
theorem h7(N:LS)(s:Str):(eM N s).length≤N.length:=by unfold eM;exact au (g7 _ _) (by simp)
theorem A0(n:Nat)(road:P)(os:List Nat):((os.filter λo=>!decide (n=o)).map λo=>pr road n o).length≤os.length:=by rw[aQ];exact g7 _ _
theorem A9(N:LS)(road:P)(os:List Nat)(h:os.length≤16):∀(s:List Nat),(s.flatMap λn=>(os.filter λo=>!decide (n=o)).map λo=>pr road n o).length≤16 * s.length
 | []=>by simp
 |i::s=>by
  have:=A9 N road os h s;have:=A0 i road os
  simp only[g6,aX,aV];lia
theorem Bs:∀{a:List P}(k:Nat),(∀f ∈ a,dC f≤e)->(hw k a).length≤a.length * e
 | [],k,_=>by simp[hw]
 |f::r,k,h=>by have:=Bs (a:=r) (k+1) λx s=>h x (aG _ s);have c:=h f aH;simp[hw,Nat.add_mul];lia
theorem jd(h:Pln s y e):(bq s).length≤4:=by
 obtain⟨c,x,a⟩:=h.cr;have:=Bs 0 x
 unfold bq;simp;lia
theorem nT(h:Pln s y e):(a8 s).length≤4:=by unfold a8;rw[aQ];exact jd h
end
section
variable{m:List P}
theorem Fo(h:e ∈ homes s):∃p f,e=.int ((p:Nat):Int)/\s[p]? = some f/\f ∈ bq s:=by unfold homes at h;obtain⟨x,a,rfl⟩:=aY.mp h;obtain⟨j,n,k⟩:=nR a;exact⟨x.1,x.2,rfl,by rw[n,fF];exact k,aY.mpr ⟨x,a,rfl⟩⟩
theorem Ct(h:∀p x,s[p]? = some x->g (.int ((p:Nat):Int))=e x):(homes s).map g=(bq s).map e:=by
 unfold homes bq;rw[kO,kO];refine zU λx k=>?_
 obtain⟨j,a,n⟩:=nR k;exact h x.1 x.2 (by rw[a,fF];exact n)
theorem iM(xs:List e):xs.filter (λ_=>true)=xs:=mi.mpr λ_ _=>rfl
theorem nS:(homes s).length=(bq s).length:=by simp[homes,bq]
theorem bN(h:xs[e]? = some s):L2.atI xs ((e:Nat):Int)=some s:=bC (by lia) (by simpa using h)
theorem Ef(q:∀f ∈ s,isFam m f)(r w:P)(S:U):bS (av 7) gP (ae (ae (ae bZ eB) mx) eB) (homes s) [qt [.lst s,r,w],none,none,none,none,none,none,none] S=some ((a8 s).map .str,S):=by
 rw[cN (p:=λ_=>true) (f:=λv=>match v with | .int i=>(match s[i.toNat]? with|some f=>.str (a9 f)|none=>.non)|_=>.non) (Inv:=λL=>∃d,L=[qt [.lst s,r,w],none,none,none,none,none,none,d]) (λv g L b=>?_) ⟨none,rfl⟩]
 .rw [iM,Ct (e:=λf=>.str (a9 f)) λp x j=>by simp[j]];simp[a8]
 .obtain⟨d,rfl⟩:=b;obtain⟨p,f,rfl,n,h⟩:=Fo g;obtain⟨l,c,o,a,k,t,u,rfl⟩:=je q h;have e:=bN n;exact⟨[qt [.lst s,r,w],none,none,none,none,none,none,qi (p:Int)],rfl,⟨_,rfl⟩,rfl,λ_=>by simp[e,n,a9]⟩
def oth(N:LS)(s:Str)(n:Nat):List Nat:=(eM N s).filter λo=>!decide (n=o)
theorem Cd(N:LS)(a b:Str)(kd:P)(c:Int)(x s:Bool)(l r:D)(o:Nat)(q n:Option D)(S:U):bS (av 7) (kG (j3 (ak 7) AQ) (bt (O (ae dU mx)) (O (ae fX dh)))) mx (Ev.intsFrom 0 N.length)
  [some l,ql (N.map .str),some r,qt [.str a,.str b,kd,.int c,.bl x,.bl s],qi (o:Int),q,n,none] S=some (cH (oth N b o),S):=by
 rw[cN (p:=λv=>match v with | .int i=>(!decide (o=i.toNat)) && decide (N[i.toNat]? = some b)|_=>false) (f:=id) (Inv:=λL=>∃d,L=[some l,ql (N.map .str),some r,qt [.str a,.str b,kd,.int c,.bl x,.bl s],qi (o:Int),q,n,d]) (λv u L t=>?_) ⟨none,rfl⟩]
 .congr 2;unfold Ev.intsFrom cH oth eM;rw[tZ,tW,List.filter_filter];simp only[cO];congr 1
 .obtain⟨d,rfl⟩:=t;obtain⟨i,rfl,w⟩:=gC u;simp only[cO];have g:N[i]? = some N[i]:=bg w;have e:L2.atI (N.map P.str) (i:Int)=some (.str N[i]):=bN (by rw[bY,g];rfl);refine⟨[some l,ql (N.map .str),some r,qt [.str a,.str b,kd,.int c,.bl x,.bl s],qi (o:Int),q,n,qi (i:Int)],rfl,⟨_,rfl⟩,?_,λ_=>by simp⟩;by_cases h:o=i
  .simp [h]
  .have k:¬(i:Int)=(o:Int):=by lia
   have m:¬i=o:=λz=>h z.symm;simp[h,k,m,e,g];first|done|exact decide_eq_decide.mpr Iff.rfl
theorem HE(road:P)(n:Nat)(L:Lc)(l:L.length=8)(g:L[3]? = some (qp road))(x:L[4]? = some (qi (n:Int)))(os:List Nat)(S:U):bS (av 7) gP (aL (v3 fX kg mx)) (cH os) L S=some (os.map λo=>pr road n o,S):=by
 rw[cN (p:=λ_=>true) (f:=λv=>.tup [road,.int (n:Int),v]) (Inv:=λh=>∃d,h=L.set 7 d) (λv b h a=>?_) ⟨L[7],(gp (by lia)).symm⟩]
 .rw [iM];unfold cH pr;rw[kO];rfl
 .obtain⟨d,rfl⟩:=a;have k:((L.set 7 d).set 7 (qp v))[7]? = some (qp v):=by rw[bv (by simp[l])]
  have e:((L.set 7 d).set 7 (qp v))[3]? = some (qp road):=by rw[aP (by decide),aP (by decide)];exact g
  have s:((L.set 7 d).set 7 (qp v))[4]? = some (qi (n:Int)):=by rw[aP (by decide),aP (by decide)];exact x
  exact⟨_,rfl,⟨_,cB ..⟩,rfl,λ_=>by simp[-cB,k,e,s]⟩
def n_(N:LS)(road:P)(n:Nat):List P:=if decide (N[n]? = some (rA road))=true then (oth N (rB road) n).map λo=>pr road n o else []
theorem Cg(N:LS)(road:P)(o:Nat)(h:N.length≤16):(n_ N road o).length≤16:=by
 unfold n_;split
 .have x:=A0 o road (eM N (rB road));have a:=h7 N (rB road);unfold oth;lia
 .simp
theorem Qv(E M:Str->GF)(S:U)(l:D)(N:LS)(y:N.length≤16)(v:isRoad road):∀(r:List Nat)(x:List P)(d w k:Option D),(∀i ∈ r,i < N.length)->x.length+16 * r.length≤50000 ->
  ∃q s n,b_ (bF [av 4,av 5]) (fg E) (r.map λ(i:Nat)=>P.tup [.int (i:Int),((N.map P.str)[i]?).getD .non]) [some l,ql (N.map .str),qr S.length,qp road,d,w,k] (S++[.lst (x.map .p)]) =
   some (.nx,[some l,ql (N.map .str),qr S.length,qp road,q,s,n],S++[.lst ((x++r.flatMap (n_ N road)).map .p)])
 | [],x,d,w,k,_,_=>⟨d,w,k,by simp[b_]⟩
 |i::r,x,d,w,k,F,T=>by
  simp only[aV]at T;have t:=Cg N road i y;have K:=F i aH;have z:N[i]? = some N[i]:=bg K;have H:((N.map P.str)[i]?).getD .non=.str N[i]:=by rw[bY,z];rfl
  rw[g6,<- eS,aA,H];by_cases h:N[i]=rA road
  .have g:n_ N road i=(oth N (rB road) i).map λo=>pr road i o:=by unfold n_;rw[z,h];simp
   rw[g]at t ⊢;obtain⟨q,s,n,e⟩:=Qv E M S l N y v r (x++(oth N (rB road) i).map λo=>pr road i o) (qi (i:Int)) (qs (N[i])) (ql (cH (oth N (rB road) i))) (λj A=>F j (aG _ A)) (by rw[aX];lia);refine⟨q,s,n,?_⟩;refine(cz (h:=[some l,ql (N.map .str),qr S.length,qp road,qi (i:Int),qs (N[i]),k]) rfl ?_).trans e;have p:x.length+(oth N (rB road) i).length≤1000000:=by rw[aQ]at t;lia
   have f:(oth N (rB road) i).length≤1000000:=by lia
   have m:(cH (oth N (rB road) i)).length=(oth N (rB road) i).length:=by simp[cH]
   have V:N.length < 1000000:=by lia
   have C:N.length≤1000000:=by lia
   have u:=HE road i [some l,ql (N.map .str),qr S.length,qp road,qi (i:Int),qs (N[i]),ql (cH (oth N (rB road) i)),none] rfl rfl rfl (oth N (rB road) i) (S++[.lst (x.map .p)]);obtain⟨a,b,kd,c,G,I,Q,R,B,_,_,rfl⟩:=v;have L:=Cd N a b (.str kd) c G I l (.ref S.length) i (qs (N[i])) k (S++[.lst (x.map .p)]);simp only[rA,rB]at h p f m u ⊢;simp[fg,h,b8,dO,fO,V,C,cJ,my,dZ,m,f,p];simp[h]at L u;simp[L,u,m,f,p]
  .have g:n_ N road i=[]:=by unfold n_;rw[z];simp[h]
   rw[g,cZ];obtain⟨q,s,n,e⟩:=Qv E M S l N y v r x (qi (i:Int)) (qs (N[i])) k (λj A=>F j (aG _ A)) (by lia);refine⟨q,s,n,?_⟩;refine(cz (h:=[some l,ql (N.map .str),qr S.length,qp road,qi (i:Int),qs (N[i]),k]) rfl ?_).trans e;obtain⟨a,b,kd,c,G,I,Q,R,B,_,_,rfl⟩:=v;simp only[rA]at h;simp[fg,h]
end
section
variable{m:List P}
theorem kz(p:e->Bool)(f:e->List s):∀xs:List e,(xs.filter p).flatMap f=xs.flatMap λx=>if p x=true then f x else []
 | []=>rfl
 |x::r=>by
  by_cases h:p x=true
  .rw [ue h,g6,g6,kz p f r,ac h]
  .rw [ud h,g6,kz p f r,af h,eR]
theorem KA(N:LS)(road:P):(List.range N.length).flatMap (n_ N road)=xO N road:=by unfold xO;rw[show eM N (rA road)=(List.range N.length).filter (λi=>decide (N[i]? = some (rA road))) from rfl,kz];rfl
theorem nJ(N:LS)(road:P)(h:N.length≤16):(xO N road).length≤256:=by
 have x:=h7 N (rA road);have a:=h7 N (rB road);have:=A9 N road (eM N (rB road)) (by lia) (eM N (rA road))
 unfold xO;lia
theorem Rr(u l:Str->GF)(S:U)(p:D)(N:LS)(d:N.length≤16):∀(o:List P)(a:List P)(t q e n:Option D),(∀r ∈ o,isRoad r)->a.length+256 * o.length≤10000 ->
  ∃w x s k,b_ (av 3) (j8 u) o [some p,ql (N.map .str),qr S.length,t,q,e,n] (S++[.lst (a.map .p)]) =
   some (.nx,[some p,ql (N.map .str),qr S.length,w,x,s,k],S++[.lst ((a++bJ N o).map .p)])
 | [],a,t,q,e,n,_,_=>⟨t,q,e,n,by simp[b_,bJ]⟩
 |road::o,a,t,q,e,n,j,H=>by simp only[aV]at H;obtain⟨x,s,k,v⟩:=Qv u l S p N d (j road aH) (List.range N.length) a q e n (λi z=>by simpa using z) (by simp;lia);have F:=nJ N road d;obtain⟨f,b,c,m,y⟩:=Rr u l S p N d o (a++xO N road) (qp road) x s k (λr h=>j r (aG _ h)) (by rw[aX];lia);refine⟨f,b,c,m,?_⟩;rw[show bJ N (road::o)=xO N road++bJ N o by simp[bJ],<- eS];refine(cz (h:=[some p,ql (N.map .str),qr S.length,qp road,q,e,n]) rfl ?_).trans y;rw[KA]at v;have g:=Od (N.map P.str);rw[aQ]at g;rw[<- g]at v;show cw _ _ _ _ _=_;simp only[cw];rw[show lF dU [some p,ql (N.map .str),qr S.length,qp road,q,e,n] (S++[.lst (a.map .p)])=some (cj 0 (N.map P.str),S++[.lst (a.map .p)]) by simp];exact v
theorem Jd(h:Pln z s y)(S:U):Ph (n+3) "pairs_of" [.p (.tup [.lst z,.lst s,.lst y])] S=some (.ref S.length,S++[.lst ((bJ (a8 z) s).map .p)]):=by
 have:=h.rl;have x:=Bw (n:=n) h.hf h.f0.2 (.lst s) (.lst y);have a:=Ef h.hf (.lst s) (.lst y) S;obtain⟨q,k,f,b,e⟩:=Rr (Ph (n+2)) (Ph (n+1)) S (.p (.tup [.lst z,.lst s,.lst y])) (a8 z) (au (nT h) (by decide)) s [] none none none none h.hr (by simp;lia);have l:(homes z).length≤1000000:=by rw[nS];have:=jd h;lia
 rw[u0];simp only[eR,dX]at e;simp[mP,na,x,b8,l,my,a,e]
theorem HG(h:Pln y s e):cG (Ph (n+3) "pairs_of") [.tup [.lst y,.lst s,.lst e]]=some (.lst (bJ (a8 y) s)):=by unfold cG;rw[aA,dX,Jd (n:=n) h []];simp
def qP(v:P):P:=gF v 3
def io(f:P):P:=.tup [.int 0,.tup ((qe (gF f 3)).map qP),.tup (List.replicate (qe (gF f 4)).length (.int (-1)))]
theorem Ix(n:∀c ∈ a,isCel c)(L:Lc)(j:Nat)(e:j < L.length)(S:U):bS (av j) gP (ae (vv j) g_) a L S=some (a.map qP,S):=by
 rw[cN (p:=λ_=>true) (f:=qP) (Inv:=λh=>∃d,h=L.set j d) (λv k h s=>?_) ⟨L[j],(gp e).symm⟩]
 .rw [iM]
 .obtain⟨d,rfl⟩:=s;obtain⟨x,lo,i,t,b,_,_,_,_,rfl⟩:=n v k;have g:((L.set j d).set j (qt [.str x,.int lo,.int i,.int t]))[j]? = some (qt [.str x,.int lo,.int i,.int t]):=by
   rw[bv (by simpa using e)]
  exact⟨_,rfl,⟨_,cB ..⟩,rfl,λ_=>by simp[-cB,g,qP]⟩
theorem Mw(a b c d e f:P):L2.atI [a,b,c,d,e,f] 3=some d:=bC (by decide) rfl
theorem Q7(a b c d e f:P):L2.atI [a,b,c,d,e,f] 4=some e:=bC (by decide) rfl
theorem BL(A I:Str->GF)(S:∀f ∈ s,isFam m f)(o i:P):∀(n:List (Nat×P))(h:List P)(g d u:Option D),(∀x ∈ n,s[x.1]? = some x.2)->h.length+n.length≤1000 ->
  ∃q b v,b_ (av 2) (jY A) (n.map λx=>P.int (x.1:Int)) [qt [.lst s,o,i],qr 0,g,d,u] [.lst (h.map .p)] =
   some (.nx,[qt [.lst s,o,i],qr 0,q,b,v],[.lst ((h++n.map λx=>io x.2).map .p)])
 | [],h,g,d,u,_,_=>⟨g,d,u,by simp[b_]⟩
 |x::n,h,g,d,u,K,E=>by
  simp only[aV]at E;obtain⟨p,f⟩:=x;have F:s[p]? = some f:=K (p,f) aH;obtain⟨H,c,r,a,w,t,k,rfl⟩:=S f (aZ F);have C:=bN F;obtain⟨q,b,v,e⟩:=BL A I S o i n (h++[io (.tup [.str H,.int (c:Int),.lst r,.lst a,.lst w,.lst t])]) (qi (p:Int)) (ql a) (ql w) (λy G=>K y (aG _ G)) (by simp;lia);refine⟨q,b,v,?_⟩;rw[aA,aA,show h++io (.tup [.str H,.int (c:Int),.lst r,.lst a,.lst w,.lst t])::n.map (λx=>io x.2)=h++[io (.tup [.str H,.int (c:Int),.lst r,.lst a,.lst w,.lst t])]++n.map (λx=>io x.2) by simp];refine(cz (h:=[qt [.lst s,o,i],qr 0,qi (p:Int),d,u]) rfl ?_).trans e;have B:=Ix k.hce.1 [qt [.lst s,o,i],qr 0,qi (p:Int),ql a,ql w,none] 5 (by simp) [.lst (h.map .p)];have j:a.length≤1000000:=by have:=k.cl;lia
  have z:w.length≤1000000/\w.length < 1000000:=by have:=k.wl;lia
  have l:h.length≤1000000:=by lia
  rw[<- dM];simp[jY,C,Mw,Q7,b8,j,my,B,eY,dO,fO,z,dZ,l,io]
theorem F5(h:Pln s y z):cG (Ph (n+4) "begin") [.tup [.lst s,.lst y,.lst z]]=some (.tup [.tup ((bq s).map io),.tup (List.replicate (bJ (a8 s) y).length (.tup []))]):=by
 have b:=Bw (n:=n+1) h.hf h.f0.2 (.lst y) (.lst z);have a:=HG (n:=n) h;have t:=Fm 0 h.hf;have l:=h.f0.2;obtain⟨u,g,o,e⟩:=BL (Ph (n+3)) (Ph (n+2)) h.hf (.lst y) (.lst z) (hw 0 s) [] none none none (λx v=>by obtain⟨j,a,c⟩:=nR v;rw[a,fF];exact c) (by simp;lia);have q:(bJ (a8 s) y).length≤2048:=by
  have N:(a8 s).length≤16:=au (nT h) (by decide);have f:∀m:List P,(bJ (a8 s) m).length≤256 * m.length:=by
   intro m;induction m with
   |nil=>simp[bJ]
   |cons r m w=>have:=nJ (a8 s) r N;rw[show bJ (a8 s) (r::m)=xO (a8 s) r++bJ (a8 s) m by simp[bJ],aX,aV];lia
  have:=f y;have:=h.rl
  lia
 have p:(bJ (a8 s) y).length≤1000000:=by lia
 have k:(bJ (a8 s) y).length < 1000000:=by lia
 rw[CB,aU];simp only[eR,dX]at e;rw[show(hw 0 s).map (λx=>P.int (x.1:Int))=homes s from rfl,show(hw 0 s).map (λx=>io x.2)=(bq s).map io by simp[bq]]at e;have i:∀vs:List P,toP 9 (.ref 0) [.lst (vs.map .p)]=some (.lst vs,[.fz (.lst vs)]):=DO;generalize (bq s).map io=d at e ⊢;simp[sU,b,a,e,eY,dO,fO,p,k]
end
def kH(S:U)(j:Nat)(xs:List P):Prop:=S[j]? = some (.lst (xs.map .p))\/S[j]? = some (.fz (.lst xs))
variable{xs:List P}{c:List P}
theorem ER(h:xs.map D.p=c.map D.p):xs=c:=(zR (f:=D.p) λ_ _ h=>D.p.inj h).mp h
variable{S:U}{j:Nat}
theorem kH.lt(h:kH S j xs):j < S.length:=by rcases h with h|h<;>exact(bw.mp h).1
theorem kH.frz(h:kH S j xs):toP 9 (.ref j) S=some (.lst xs,S.set j (.fz (.lst xs))):=by
 rcases h with h|h
 .exact fK h
 .have:S.set j (.fz (.lst xs))=S:=by
   obtain⟨a,x⟩:=bw.mp h;rw[<- x,gp]
  rw[this];simp[toP,h]
variable{L:Lc}
theorem kH.ix(h:kH S j xs){i:Int}(r:s L S=some (.ref j,S))(hk:k L S=some (.int i,S))(e:L2.atI xs i=some y):mV s k L S=some (.p y,S):=by
 rw[mV,r,am,hk,am];rcases h with h|h
 .simp only[h];rw[ni,e];rfl
 .simp only[h];show(L2.atI xs i).map _=_;rw[e];rfl
theorem kH.len(h:kH S j xs):dO (.ref j) S=some xs.length:=by rcases h with h|h<;>simp[dO,h,fO]
structure Fr(b:Nat)(S S':U):Prop where
 len:S.length≤S'.length
 low:∀k o,k < b->S[k]? = some o->S'[k]? = some o\/∃xs,o=.lst (xs.map .p)/\S'[k]? = some (.fz (.lst xs))
 hi:∀k o,b≤k->S[k]? = some o->S'[k]? = some o
theorem Fr.refl(b:Nat)(S:U):Fr b S S:=⟨ag _,λ_ _ _ h=>.inl h,λ_ _ _ h=>h⟩
variable{b:Nat}{x:U}
theorem Fr.trans(h:Fr b S x)(g:Fr b x s):Fr b S s:=by
 refine⟨au h.len g.len,λk o hk e=>?_,λk o hk e=>g.hi k o hk (h.hi k o hk e)⟩;rcases h.low k o hk e with a|⟨xs,rfl,a⟩
 .exact g.low k o hk a
 .rcases g.low k _ hk a with a|⟨c,q,_⟩
  .exact .inr ⟨xs,rfl,a⟩
  .cases q
theorem Fr.app(b:Nat)(S T:U):Fr b S (S++T):=by
 have y:∀k o,S[k]? = some o->(S++T)[k]? = some o:=λk o e=>by rw[bL (bA e)];exact e
 exact⟨by simp,λk o _ e=>.inl (y k o e),λk o _ e=>y k o e⟩
variable{k:Nat}
theorem Fr.set(h:Fr b S x)(s:b≤S.length)(hk:S.length≤k)(o:SO):Fr b S (x.set k o):=by
 refine⟨by rw[c_];exact h.len,λj u a e=>?_,λj u a e=>?_⟩
 .rw [aP (by lia)];exact h.low j u a e
 .have:=bA e;rw[aP (by lia)];exact h.hi j u a e
theorem Fr.frz(x:j < b)(h:kH S j xs):Fr b S (S.set j (.fz (.lst xs))):=by
 refine⟨by simp,λk o hk e=>?_,λk o hk e=>?_⟩
 .by_cases q:j=k
  .subst q;rw[bv h.lt];rcases h with h|h<;>(rw[h]at e;cases e)
   .exact .inr ⟨xs,rfl,rfl⟩
   .exact .inl rfl
  .rw [aP q];exact .inl e
 .rw [aP (by lia)];exact e
theorem Fr.trunc(h:Fr b S x):Fr b S (trunc S.length x):=by
 unfold Ev.trunc;split
 .refine⟨by rw[g0];have:=h.len;lia,λk o hk e=>?_,λk o hk e=>?_⟩
  .rw [g8 (bA e)];exact h.low k o hk e
  .rw [g8 (bA e)];exact h.hi k o hk e
 .exact h
theorem kH.fr(h:Fr b S x)(g:kH S j xs):kH x j xs:=by
 by_cases a:j < b
 .rcases g with g|g
  .rcases h.low j _ a g with e|⟨c,q,e⟩
   .exact .inl e
   .have:xs=c:=ER (SO.lst.inj q);subst this;exact .inr e
  .rcases h.low j _ a g with e|⟨c,q,e⟩
   .exact .inr e
   .cases q
 .rcases g with g|g
  .exact .inl (h.hi j _ (by lia) g)
  .exact .inr (h.hi j _ (by lia) g)
def rg(S x:U)(d:D)(c:List P):Prop:=d=.p (.lst c)\/∃k,S.length≤k/\d=.ref k/\kH x k c
variable{d:D}
theorem rg.toP(h:rg S x d c)(f:Fr b S x)(e:b≤S.length):∃a,toP 9 d x=some (.lst c,a)/\Fr b S a:=by
 rcases h with rfl|⟨k,hk,rfl,h⟩
 .exact⟨x,by simp,f⟩
 .exact⟨_,h.frz,f.set e hk _⟩
variable{g:GF}{q:rW}{l:List D}
theorem sO(s:q L S=some (l,S))(k:g l S=some (d,x))(r:Fr b S x)(n:b≤S.length)(h:rg S x d c):∃a,fx g q L S=some (.lst c,a)/\Fr b S a:=by obtain⟨m,e,f⟩:=h.toP r n;exact⟨_,by rw[fx,s,am,k,am,e,am],f.trunc⟩
theorem FU(a:q L S=some (l,S))(s:g l S=some (.p e,x))(f:Fr b S x):∃h,fx g q L S=some (e,h)/\Fr b S h:=
 ⟨_,by rw[fx,a,am,s,am];rfl,f.trunc⟩
structure BD where
 fams:List P
 roads:List P
 wishes:List P
 ks:List (List b0)
 vs:List D
abbrev BP(B:BD):Prop:=Pln B.fams B.roads B.wishes
def BD.N(B:BD):LS:=a8 B.fams
def BD.PR(B:BD):List P:=bJ B.N B.roads
def fields:LS:=["families","homes","pairs","places","members"]
structure Bat(B:BD)(b i jh jp jl jm:Nat)(mk:List b0)(mv:List D)(S:U):Prop where
 ins:S[i]? = some (.ins "Board" fields [.p (.lst B.fams),.ref jh,.ref jp,.ref jl,.ref jm])
 ho:kH S jh (homes B.fams)
 pr:kH S jp B.PR
 pl:S[jl]? = some (.dtt B.ks B.vs)
 me:S[jm]? = some (.dct mk mv)
 mm:∀s ∈ B.N,∃j,j < b/\bW (.inr s) mk mv=qr j/\kH S j (cH (eM B.N s))
 bi:i < b
 bh:jh < b
 bp:jp < b
 bl:jl < b
 bm:jm < b
 bs:b≤S.length
inductive Bd(B:BD)(b i:Nat)(S:U):Prop
 |mk (jh jp jl jm:Nat) (mk:List b0) (mv:List D):Bat B b i jh jp jl jm mk mv S->Bd B b i S
theorem Bat.fr{B:BD}{b i p v r t:Nat}{w:List b0}{u:List D}{S x:U}(h:Bat B b i p v r t w u S)(f:Fr b S x):Bat B b i p v r t w u x where
 ins:=by rcases f.low i _ h.bi h.ins with e|⟨_,q,_⟩;exact e;cases q
 ho:=h.ho.fr f
 pr:=h.pr.fr f
 pl:=by rcases f.low r _ h.bl h.pl with e|⟨_,q,_⟩;exact e;cases q
 me:=by rcases f.low t _ h.bm h.me with e|⟨_,q,_⟩;exact e;cases q
 mm:=λs c=>by obtain⟨j,a,n,k⟩:=h.mm s c;exact⟨j,a,n,k.fr f⟩
 bi:=h.bi
 bh:=h.bh
 bp:=h.bp
 bl:=h.bl
 bm:=h.bm
 bs:=au h.bs f.len
theorem Bd.fr{B:BD}{b i:Nat}{S x:U}(h:Bd B b i S)(f:Fr b S x):Bd B b i x:=by obtain⟨p,v,r,t,w,u,h⟩:=h;exact⟨p,v,r,t,w,u,h.fr f⟩
theorem Bd.le{B:BD}{b i:Nat}{S:U}(h:Bd B b i S):b≤S.length:=by obtain⟨p,v,r,t,w,u,h⟩:=h;exact h.bs
section
variable{B:BD}{b i p v r t:Nat}{w:List b0}{u:List D}{S:U}{L:Lc}{o:EE}
theorem Bat.fld(h:Bat B b i p v r t w u S)(ho:o L S=some (.ref i,S))(a:aT Att "Board" e=true)(f:iK e fields [.p (.lst B.fams),.ref p,.ref v,.ref r,.ref t]=some d):dR (aT Att) o e L S=some (d,S):=by rw[dR,ho,am];simp only[h.ins];rw[ac a,f];rfl
end
theorem lf:aT Att "Board" "families"=true/\aT Att "Board" "homes"=true/\aT Att "Board" "pairs"=true/\aT Att "Board" "places"=true/\aT Att "Board" "members"=true:=by decide +kernel
theorem Ib{a b c d e:D}:iK "families" fields [a,b,c,d,e]=some a/\iK "homes" fields [a,b,c,d,e]=some b/\iK "pairs" fields [a,b,c,d,e]=some c/\iK "places" fields [a,b,c,d,e]=some d/\iK "members" fields [a,b,c,d,e]=some e:=by simp[fields,iK]
section
variable{B:BD}{b i p v r t:Nat}{w:List b0}{u:List D}{S:U}(h:Bat B b i p v r t w u S){L:Lc}{o:EE}(ho:o L S=some (.ref i,S))
include h ho
theorem Bat.families:dR (aT Att) o "families" L S=some (.p (.lst B.fams),S):=h.fld ho lf.1 Ib.1
theorem Bat.homes:dR (aT Att) o "homes" L S=some (.ref p,S):=h.fld ho lf.2.1 Ib.2.1
theorem Bat.pairs:dR (aT Att) o "pairs" L S=some (.ref v,S):=h.fld ho lf.2.2.1 Ib.2.2.1
theorem Bat.places:dR (aT Att) o "places" L S=some (.ref r,S):=h.fld ho lf.2.2.2.1 Ib.2.2.2.1
theorem Bat.members:dR (aT Att) o "members" L S=some (.ref t,S):=h.fld ho lf.2.2.2.2 Ib.2.2.2.2
theorem Bat.meth(m:M "Board" e=some g)(n:fields.contains e=false)(a:q L S=some (l,S)):dQ M o e q L S=g (.ref i::l) S:=by rw[dQ,ho,am];simp only[h.ins,m,n,a,am];rfl
end
theorem jn(h:xs.length+c.length≤1000000):mY (.tup xs) (.tup c)=some (.tup (xs++c)):=by
 cases xs with
 |nil=>rfl
 |cons x r=>show(if (!(x::r).isEmpty && iq ((x::r).length+c.length))=true then some (P.tup ((x::r)++c)) else none)=_;rw[ac (by rw[ar,mZ];exact⟨rfl,h⟩)]
theorem FM(k:Nat):cut xs none (some (k:Int))=xs.take k:=by
 unfold cut;rw[HT.qx,HT.A3,l7,tM];by_cases h:k≤xs.length
 .rw [zu h]
 .rw [zx (by lia),ma,zZ (by lia)]
theorem FO(k:Nat):cut xs (some (k:Int)) none=xs.drop k:=by
 unfold cut;rw[HT.qx,HT.A3];by_cases h:k≤xs.length
 .rw [zu h,zZ (by simp)]
 .rw [zx (by lia),pj,List.drop_of_length_le (by lia)];simp
theorem sJ(k:Nat):cut xs (some ((k:Int)+1)) none=xs.drop (k+1):=FO (k+1)
variable{n:Nat}
theorem qz(hk:k < xs.length)(l:xs.length≤900000)(v:P):cG (Ph (n+2) "replaced") [.tup xs,.int (k:Int),v]=some (.tup (xs.set k v)):=by have e:=jn (xs:=xs.take k) (c:=[v]) (by simp;lia);have h:=jn (xs:=xs.take k++[v]) (c:=xs.drop (k+1)) (by simp;lia);rw[uZ,aU];simp[m_,FM,sJ,e,-eS];rw[h];simp[List.set_eq_take_append_cons_drop,hk]
theorem I0(h:xs.length≤900000):cG (Ph (n+2) "without") [.tup xs,.int (k:Int)]=some (.tup (xs.eraseIdx k)):=by have e:=jn (xs:=xs.take k) (c:=xs.drop (k+1)) (by simp;lia);rw[wC,aU];simp[oD,FM,sJ,e,List.eraseIdx_eq_take_drop_succ]
def Ff(l:P):Prop:=∃m i,aW m=true/\i.natAbs≤999/\l=.tup [.str m,.int i]
theorem Ff.ok(h:Ff e):cE 1 e=true:=by obtain⟨m,i,x,_,rfl⟩:=h;simp[x]
def vp(A:P->Prop)(s:List P):Prop:=s.length≤1/\∀l ∈ s,Ff l/\A l
noncomputable def Oa(w:Str)(xs:List P)(k:Nat):List P:=if w="lose" then xs.eraseIdx k else xs.take (k+1)++xs.drop k
theorem Ob{n:Nat}{w:Str}(hw:w="lose"\/w="double"){A:P->Prop}{xs:List P}{k:Nat}(x:vp A xs)(a:w="double"->xs.length≤0)(hk:k < xs.length):vp A (Oa w xs k)/\cG (Ph (n+3) "flawed") [.str w,.tup xs,.int (k:Int)]=some (.tup (Oa w xs k)):=by
 have:=x.1;unfold Oa;rcases hw with rfl|rfl
 .refine⟨⟨au (z0 ..) this,λl h=>x.2 l (z3 h)⟩,?_⟩;have e:=I0 (n:=n) (xs:=xs) (k:=k) (by lia);rw[yi,aU];simp[qY,e]
 .have s:=a rfl;lia
noncomputable def Iu(w:Str)(r:P)(xs:List P):Bool:=match r with
 | .tup [_,_,_,.int c,.bl d,.bl h]=>if w="lose" then d else h && decide ((xs.length:Int) < c)
 |_=>false
theorem N3{n:Nat}{w:Str}(hw:w="lose"\/w="double"){r:P}(p:isRoad r)(xs:List P):(w="double"->Iu w r xs=true->xs.length≤0)/\cG (Ph (n+2) "has_flaw") [r,.str w,.tup xs]=some (.bl (Iu w r xs)):=by
 obtain⟨a,b,kd,c,x,d,q,v,t,f,m,rfl⟩:=p;have e:L2.atI [P.str a,.str b,.str kd,.int c,.bl x,.bl d] 3=some (.int c):=bC (by decide) rfl;have s:L2.atI [P.str a,.str b,.str kd,.int c,.bl x,.bl d] 4=some (.bl x):=bC (by decide) rfl;have k:L2.atI [P.str a,.str b,.str kd,.int c,.bl x,.bl d] 5=some (.bl d):=bC (by decide) rfl;unfold Iu;rcases hw with rfl|rfl
 .refine⟨λh=>?_,?_⟩
  .have:¬("lose":Str)="double":=by decide +kernel
   exact absurd h this
  .rw [mS,aU];simp[jX,s]
 .dsimp only;rw[af (by decide +kernel)];refine⟨λ_ h=>?_,?_⟩
  .have:=(ar _ _ ▸ h).2;have:=aJ this
   lia
  .rw [mS,aU];cases d<;>simp[jX,e,k,dO,fO]
theorem qK(h:∀y ∈ xs,cE 19 y=true)(x:s ∈ xs):∃i:Nat,i < xs.length/\lG xs s=some i:=by
 unfold lG;have a:(xs.all (cE 19) && cE 19 s)=true:=by rw[ar];exact⟨a_.mpr h,h s x⟩
 rw[ac a];have m:pd s ∈ i_ xs:=by
  clear a h;induction xs with
  |nil=>cases x
  |cons y r n=>
   rcases aN.mp x with rfl|x
   .exact aH
   .exact aG _ (n x)
 have e:eA (pd s) (pd s)=true:=zH _ (fM 20 s (df (h s x) (by lia))).1;cases q:(i_ xs).findIdx? λz=>eA z (pd s) with
 |none=>have:=List.findIdx?_eq_none_iff.mp q (pd s) m;rw[e]at this;cases this
 |some i=>
  refine⟨i,?_,rfl⟩;have:=(Ac.mp q).1
  rwa [uI]at this
def NV(n:Nat)(y:P):Prop:=∃i:Nat,i < n/\y=.int (i:Int)
theorem Jm(n:Nat):intsFrom 0 n=cH (List.range n):=by unfold Ev.intsFrom cH;simp only[cO]
def BZ(k:Str)(xs:List P):List Nat:=(List.range xs.length).filter λi=>decide (k="row") ||decide (lG xs (xs[i]?.getD .non)=some i)
theorem I_(k:Str)(m:vp A xs):cG (Ph (n+2) "unlike_spots") [.str k,.tup xs]=some (.lst (cH (BZ k xs))):=by
 have l:=m.1;have c:xs.length < 1000000:=by lia
 have s:xs.length≤1000000:=by lia
 by_cases hk:k="row"
 .have e:BZ k xs=List.range xs.length:=by unfold BZ;rw[mi.mpr λ_ _=>by simp[hk]]
  rw[e,<- Jm,ji,aU];simp[gb,hk,dO,fO,c]
 .have e:bS (av 3) (bt (O (xx dU (ae dU fX))) BU) fX (intsFrom 0 xs.length) [qs k,qt xs,ql (intsFrom 0 xs.length),none] []=some (cH (BZ k xs),[]):=by
   rw[cN (p:=λv=>match v with | .int z=>decide (lG xs (xs[z.toNat]?.getD .non)=some z.toNat)|_=>false) (f:=id) (Inv:=λL=>∃d,L=[qs k,qt xs,ql (intsFrom 0 xs.length),d]) (λv t L r=>?_) ⟨none,rfl⟩,tW]
   .rw [Jm];unfold cH BZ;rw[tZ];congr 3;refine List.filter_congr λi _=>?_;simp[hk]
   obtain⟨d,rfl⟩:=r;obtain⟨i,rfl,a⟩:=gC t;simp only[cO];have g:xs[i]? = some xs[i]:=bg a;have b:=bN g;obtain⟨j,o,h⟩:=qK (xs:=xs) (s:=xs[i]) (λy w=>df (m.2 y w).1.ok (by lia)) (gZ _);refine⟨[qs k,qt xs,ql (intsFrom 0 xs.length),qi (i:Int)],rfl,⟨_,rfl⟩,?_,λ_=>by simp⟩;by_cases q:j=i
   .rw [q]at h;simp[b,h,g]
   .have u:¬(j:Int)=(i:Int):=by lia
    simp[b,h,g,q,u]
  rw[ji,aU];simp[gb,hk,dO,fO,c,s,b8,cJ,my,e]
def kI(N:List P)(ks:List b0)(vs:List P):Prop:=∀x:Str,P.str x ∈ N->∃i:Int,i.natAbs≤999/\bW (.inr x) ks vs=some (.int i)
section
variable{N:List P}{ks:List b0}{vs:List P}
theorem gQ(k:Int):cG (Ph (n+2) "value_of") [nM k,.dct ks vs]=some (.int k):=by rw[fP,aU];simp[d6]
theorem iH{i:Int}(h:bW (.inr e) ks vs=some (.int i)):cG (Ph (n+2) "value_of") [oI (.str e),.dct ks vs]=some (.int i):=by rw[fP,aU];simp[d6,h]
theorem xw{n:Nat}{a b:P}{i j:Int}(h:cG (Ph (n+2) "value_of") [a,.dct ks vs]=some (.int i))(x:cG (Ph (n+2) "value_of") [b,.dct ks vs]=some (.int j)):cG (Ph (n+3) "value_of") [.tup [.str "plus",a,b],.dct ks vs]=some (.int (i+j)):=by rw[fP,aU];simp[d6,h,x]
theorem kW{n:Nat}{a b:P}{i j:Int}(h:cG (Ph (n+2) "value_of") [a,.dct ks vs]=some (.int i))(x:cG (Ph (n+2) "value_of") [b,.dct ks vs]=some (.int j)):cG (Ph (n+3) "value_of") [.tup [.str "minus",a,b],.dct ks vs]=some (.int (i-j)):=by rw[fP,aU];simp[d6,h,x]
theorem ut{n:Nat}{a b:P}{i j:Int}(m:f6 i j=true)(h:cG (Ph (n+2) "value_of") [a,.dct ks vs]=some (.int i))(x:cG (Ph (n+2) "value_of") [b,.dct ks vs]=some (.int j)):cG (Ph (n+3) "value_of") [.tup [.str "times",a,b],.dct ks vs]=some (.int (i * j)):=by rw[fP,aU];simp[d6,h,x,m]
theorem p_(s:∀x ∈ N,j6 x)(f:kI N ks vs){t:P}(h:om N t){n:Nat}:∃r:Int,cG (Ph (n+4) "value_of") [t,.dct ks vs]=some (.int r):=by
 rcases h with ⟨k,rfl⟩|⟨y,a,h⟩
 .exact⟨k,gQ k⟩
 obtain⟨x,_,rfl⟩:=s y a;obtain⟨i,m,e⟩:=f x a;rcases h with rfl|⟨k,rfl⟩|⟨k,j,b,c,rfl⟩|rfl
 .exact⟨i,iH e⟩
 .exact⟨_,xw (iH e) (gQ k)⟩
 .exact⟨_,kW (ut (bK (i:=i) (j:=k) (by lia) (by lia)) (iH e) (gQ k)) (gQ j)⟩
 .exact⟨_,kW (gQ 1) (iH e)⟩
theorem BW{K:List b0}{V:List P}(f:∀x ∈ N,j6 x)(c:kI N ks vs)(b:∀x:Str,P.str x ∈ N->bW (.inr x) K V=bW (.inr x) ks vs){t:P}(h:om N t):∃r:Int,(∀n,cG (Ph (n+4) "value_of") [t,.dct ks vs]=some (.int r))/\∀n,cG (Ph (n+4) "value_of") [t,.dct K V]=some (.int r):=by
 rcases h with ⟨k,rfl⟩|⟨y,s,h⟩
 .exact⟨k,λn=>gQ k,λn=>gQ k⟩
 obtain⟨x,_,rfl⟩:=f y s;obtain⟨i,v,a⟩:=c x s;have e:=(b x s).trans a;rcases h with rfl|⟨k,rfl⟩|⟨k,j,p,q,rfl⟩|rfl
 .exact⟨i,λn=>iH a,λn=>iH e⟩
 .exact⟨_,λn=>xw (iH a) (gQ k),λn=>xw (iH e) (gQ k)⟩
 .have m:=bK (i:=i) (j:=k) (by lia) (by lia);exact⟨_,λn=>kW (ut m (iH a) (gQ k)) (gQ j),λn=>kW (ut m (iH e) (gQ k)) (gQ j)⟩
 .exact⟨_,λn=>kW (gQ 1) (iH a),λn=>kW (gQ 1) (iH e)⟩
theorem Ox(w:Str)(i j:Int):∃b,∀h,cG (mP 3 3 (cS h)) [.str w,.int i,.int j]=some (.bl b):=by
 by_cases x:w="="
 .exact⟨decide (i=j),λh=>by rw[aU];simp[cS,x]⟩
 by_cases a:w="!="
 .exact⟨!decide (i=j),λh=>by rw[aU];simp[cS,x,eq_true a]⟩
 by_cases e:w="<"
 .exact⟨decide (i < j),λh=>by rw[aU];simp[cS,x,a,eq_true e]⟩
 by_cases s:w="<="
 .exact⟨decide (i≤j),λh=>by rw[aU];simp[cS,x,a,e,eq_true s]⟩
 by_cases n:w=">"
 .exact⟨decide (j < i),λh=>by rw[aU];simp[cS,x,a,e,s,eq_true n]⟩
 exact⟨decide (j≤i),λh=>by rw[aU];simp[cS,x,a,e,s,n]⟩
theorem LW(w:Str)(i j:Int):∃b,cG (Ph (n+2) "compared") [.str w,.int i,.int j]=some (.bl b):=by obtain⟨b,e⟩:=Ox w i j;exact⟨b,by rw[u6];exact e _⟩
theorem yd:cG (Ph (n+2) "holds") [.tup [.str "true"],.dct ks vs]=some (.bl true):=by rw[jj,aU];simp[h_]
theorem N5{n:Nat}(w:Str){a b:P}{i j:Int}(h:cG (Ph (n+5) "value_of") [a,.dct ks vs]=some (.int i))(x:cG (Ph (n+5) "value_of") [b,.dct ks vs]=some (.int j)):∃r,cG (Ph (n+6) "holds") [.tup [.str "is",.str w,a,b],.dct ks vs]=some (.bl r):=by obtain⟨r,e⟩:=LW (n:=n+3) w i j;refine⟨r,?_⟩;rw[jj,aU];simp[h_,h,x,e]
theorem Jn(h:cG (Ph (n+2) "holds") [e,.dct ks vs]=some (.bl s)):cG (Ph (n+3) "holds") [.tup [.str "not",e],.dct ks vs]=some (.bl !s):=by rw[jj,aU];simp[h_,h]
theorem N6{n:Nat}{a b:P}{r s:Bool}(h:cG (Ph (n+2) "holds") [a,.dct ks vs]=some (.bl r))(x:cG (Ph (n+2) "holds") [b,.dct ks vs]=some (.bl s)):cG (Ph (n+3) "holds") [.tup [.str "and",a,b],.dct ks vs]=some (.bl (r && s)):=by rw[jj,aU];cases r<;>simp[h_,h,x]
theorem QT{n:Nat}{a b:P}{r s:Bool}(h:cG (Ph (n+2) "holds") [a,.dct ks vs]=some (.bl r))(x:cG (Ph (n+2) "holds") [b,.dct ks vs]=some (.bl s)):cG (Ph (n+3) "holds") [.tup [.str "or",a,b],.dct ks vs]=some (.bl (r ||s)):=by rw[jj,aU];cases r<;>simp[h_,h,x]
theorem Fp(k:∀x ∈ N,j6 x)(f:kI N ks vs){t:P}(h:qJ N t){n:Nat}:∃r,cG (Ph (n+9) "holds") [t,.dct ks vs]=some (.bl r):=by
 have l:∀{t:P},jP N t->∀{n:Nat},∃r,cG (Ph (n+6) "holds") [t,.dct ks vs]=some (.bl r):=λ{t} h {n}=>by obtain⟨w,y,s,b,v,_,rfl⟩:=h;obtain⟨x,_,rfl⟩:=k y b;obtain⟨i,_,a⟩:=f x b;obtain⟨j,q⟩:=p_ k f v (n:=n+1);exact N5 w (iH a) q
 rcases h with rfl|h|⟨p,h,rfl⟩|⟨p,z,h,c,rfl⟩
 .exact⟨_,yd⟩
 .exact l h
 .rcases h with h|rfl
  .obtain⟨r,e⟩:=l h (n:=n+2);exact⟨_,Jn e⟩
  .exact⟨_,Jn yd⟩
 .obtain⟨r,e⟩:=l h (n:=n+2);obtain⟨x,_,rfl⟩:=k z c;obtain⟨i,_,a⟩:=f x c;obtain⟨s,m⟩:=N5 (n:=n+1) (ks:=ks) (vs:=vs) "=" (gQ 1) (iH a);exact⟨_,QT e (N6 (yd) m)⟩
end
def cI(a:List P):List b0:=a.map λc=>.inr (a9 c)
def NW(c:P):Prop:=∃i:Int,i.natAbs≤999/\c=.int i
def RN(a f:List P):Prop:=∀(i:Nat) c v,a[i]? = some c->f[i]? = some v->v ∈ oH c
def CellsOk(a f:List P):Prop:=f.length=a.length/\(∀c ∈ f,NW c)/\RN a f
variable{a:List P}
theorem kr(h:oE a):(cI a).Nodup:=by
 unfold cI;refine ug.mpr λi j e s k q=>?_
 rw[aQ]at e s;rw[pq,pq]at q;obtain⟨_,o,h⟩:=h;have x:=h i _ (bg e);have n:=h j _ (bg s);rw[gW q,n]at x;simp at x;lia
theorem x0(a:List P):dv (nN a)=some (cI a):=by
 unfold nN cI;induction a with
 |nil=>rfl
 |cons c r i=>simp[dv,cP,i]
theorem Bk:∀{a f:List P},(f.length=a.length/\∀c ∈ f,NW c)->kI (nN a) (cI a) f
 | [],_,_=>λx h=>by cases h
 |c::r,[],h=>by have:=h.1;simp at this
 |c::r,d::s,h=>λx p=>by
  obtain⟨i,m,rfl⟩:=h.2 d aH;show ∃i:Int,_/\(if (Sum.inr (a9 c):b0)=.inr x then some _ else bW (.inr x) (cI r) s)=_;by_cases e:a9 c=x
  .exact⟨i,m,by rw[ac (by rw[e])]⟩
  .have n:P.str x ∈ nN r:=by
    rcases aN.mp p with q|q
    .exact absurd (P.str.inj q).symm e
    .exact q
   obtain⟨j,t,k⟩:=Bk (a:=r) (f:=s) ⟨by have:=h.1;simpa using this,λc b=>h.2 c (aG _ b)⟩ x n;exact⟨j,t,by rw[af λq=>e (gW q)];exact k⟩
variable{f:List P}
theorem uO(h:CellsOk a f):kI (nN a) (cI a) f:=Bk ⟨h.1,h.2.1⟩
theorem AS(h:Fam m H y s a z e)(c:CellsOk a f)(S:U) :
  Ph (n+2) "values_of" [.p (.tup [.str H,.int (y:Int),.lst s,.lst a,.lst z,.lst e]),.p (.tup f)] S=some (.ref S.length,S++[.dct (cI a) (f.map .p)]):=by
 have r:=h.cl;have q:a.length≤1000000:=by lia
 have x:(nN a).length≤1000000:=by simp[nN];lia
 have b:=sL h.hce.1 [qt [.str H,.int (y:Int),.lst s,.lst a,.lst z,.lst e],qt f,none] 2 (by simp) S;have hk:=kr h.hce;have k:(cI a).length=f.length:=by rw[c.1];simp[cI]
 have l:(cI a).length≤f.length:=tK k;have t:f.take (cI a).length=f:=by rw[k,ma]
 rw[rH];simp[mP,lu,Mw,b8,q,my,b,x0,hk,x,l,t,tX];first|done|(rw[<- tX,t])
theorem BX(x:Fam m H y s a z e)(h:CellsOk a f) :
  cG (Ph (n+2) "values_of") [.tup [.str H,.int (y:Int),.lst s,.lst a,.lst z,.lst e],.tup f]=some (.dct (cI a) f):=by
 unfold cG;rw[aA,aA,dX,AS (n:=n) x h []];have:uN (toP 8) (f.map .p) [SO.dct (cI a) (f.map .p)]=some (f,[SO.dct (cI a) (f.map .p)]):=mK ..;simp[toP,this]
end My
namespace My
open PySem L2 Ev
theorem xI(h:f L S=some (.rt d,x,a)):ai f g L S=some (.rt d,x,a):=by rw[ai,h]
theorem B8(h:vp A l):m7 l=some (.lst l):=by
 have s:sortable l=true:=by refine a_.mpr λx a=>?_;obtain⟨m,i,_,_,rfl⟩:=(h.2 x a).1;rfl
 have e:=h.1;unfold m7 qv;rw[ac s,ac (by lia)];rfl
theorem jo:i ∈ eM N s↔N[i]? = some s:=by
 unfold eM;rw[fI];constructor
 .exact λh=>aJ h.2
 .exact λh=>⟨iB.mpr (bA h),gX h⟩
variable{B:BD}
theorem rc(h:x ∈ B.PR):∃r ∈ B.roads,∃a b:Nat,x=pr r a b:=by unfold BD.PR bJ at h;obtain⟨r,e,h⟩:=bR.mp h;unfold xO at h;obtain⟨a,_,h⟩:=bR.mp h;obtain⟨b,_,rfl⟩:=aY.mp h;exact⟨r,e,a,b,rfl⟩
theorem OI{B:BD}{r:P}{a b:Nat}(s:r ∈ B.roads)(x:B.N[a]? = some (rA r))(e:B.N[b]? = some (rB r))(h:a≠b):pr r a b ∈ B.PR:=by unfold BD.PR bJ;refine bR.mpr ⟨r,s,?_⟩;unfold xO;refine bR.mpr ⟨a,jo.mpr x,aY.mpr ⟨b,?_,rfl⟩⟩;rw[fI];exact⟨jo.mpr e,by simpa using h⟩
structure Places(B:BD):Prop where
 get:∀(r:P)(a b:Nat),pr r a b ∈ B.PR->∃d,cy [.inl (a:Int),.inl (b:Int)] B.ks B.vs=some d
 ok:∀(x y:Int)(d:D),cy [.inl x,.inl y] B.ks B.vs=some d->∃(k:Nat)(r:P)(a b:Nat),r ∈ B.roads/\d=.p (.int (k:Int))/\B.PR[k]? = some (pr r a b)/\x=(a:Int)/\y=(b:Int)
def Lg(f:P):List P:=(qe (gF f 5)).flatMap λst=>(qe (gF st 5)).flatMap λs=>(gD (qe (gF f 3))).map λc=>.tup [gF s 0,(cG (Ph 6 "value_of") [gF s 1,.dct (cI (qe (gF f 3))) c]).getD .non]
def LH(B:BD)(hd:Nat)(l:P):Prop:=∃f,(bq B.fams)[hd]? = some f/\l ∈ Lg f
def LA(B:BD)(k:Nat)(l:P):Prop:=∃r a b,B.PR[k]? = some (pr r a b)/\LH B a l
def bU(B:BD)(rds:List P):Prop:=rds.length=B.PR.length/\∀(k:Nat) r,rds[k]? = some r->∃ls,vp (LA B k) ls/\r=.tup ls
theorem bU.at{B:BD}{r:List P}(h:bU B r){k:Nat}{x:P}(hk:B.PR[k]? = some x):k < r.length/\∃l,vp (LA B k) l/\r[k]? = some (.tup l):=by
 have a:k < r.length:=by rw[h.1];exact bA hk
 obtain⟨l,e,s⟩:=h.2 k r[k] (bg a);exact⟨a,l,e,by rw[bg a,s]⟩
theorem bU.set(h:bU B d)(k:Nat)(a:vp (LA B k) l):bU B (d.set k (.tup l)):=by
 refine⟨by rw[c_];exact h.1,λj r x=>?_⟩;by_cases q:k=j
 .subst q;have hk:k < d.length:=by have:=bA x;rwa [c_]at this
  rw[bv hk]at x;cases x;exact⟨l,a,rfl⟩
 .rw [aP q]at x;exact h.2 j r x
theorem vn(h:BP B):B.PR.length≤2048:=by
 have N:B.N.length≤16:=au (nT h) (by decide);have k:∀s:List P,(bJ B.N s).length≤256 * s.length:=by
  intro s;induction s with
  |nil=>simp[bJ]
  |cons r s i=>have:=nJ B.N r N;rw[show bJ B.N (r::s)=xO B.N r++bJ B.N s by simp[bJ],aX,aV];lia
 have:=k B.roads;have:=h.rl
 unfold BD.PR;lia
theorem O0(h:Str->GF):mT Tb h "Board" "family_of"=some (h "Board.family_of"):=by kernel_rfl
theorem Rs(h:Str->GF):mT Tb h "Board" "hands_beside"=some (h "Board.hands_beside"):=by kernel_rfl
theorem O6:fields.contains "family_of"=false:=by decide +kernel
theorem Ry:fields.contains "hands_beside"=false:=by decide +kernel
theorem sE{a:List P}{h:Nat}{f:P}(s:(bq a)[h]? = some f):∃p:Nat,(homes a)[h]? = some (.int (p:Int))/\a[p]? = some f:=by
 unfold bq at s;unfold homes;rw[bY]at s ⊢;cases e:(hw 0 a)[h]? with
 |none=>rw[e]at s;cases s
 |some x=>rw[e]at s;cases s;obtain⟨j,n,k⟩:=nR (aZ e);exact⟨x.1,rfl,by rw[n,fF];exact k⟩
theorem yh{n:Nat}{B:BD}{b i:Nat}{S:U}(h:Bd B b i S){k:Nat}{f:P}(c:(bq B.fams)[k]? = some f):Ph (n+2) "Board.family_of" [.ref i,.p (.int (k:Int))] S=some (.p f,S):=by obtain⟨j,r,l,m,mk,v,h⟩:=h;obtain⟨p,e,x⟩:=sE c;have a:mV (dR (aT Att) fJ "homes") dU [qr i,qi (k:Int)] S=some (.p (.int (p:Int)),S):=h.ho.ix (h.homes rfl) rfl (bN e);have s:dR (aT Att) fJ "families" [qr i,qi (k:Int)] S=some (.p (.lst B.fams),S):=h.families rfl;rw[gR];show k_ (be _ [qr i,qi (k:Int)] S)=_;rw[be,mV,s,am,vE,a];simp[bN x]
theorem FZ{n:Nat}{B:BD}(P:BP B){b i:Nat}{S:U}(h:Bd B b i S)(k:Nat){s:Str}(g:s ∈ B.N):∃a,Ph (n+2) "Board.hands_beside" [.ref i,.p (.int (k:Int)),.p (.str s)] S=some (.p (.lst (cH (oth B.N s k))),a)/\Fr b S a:=by
 obtain⟨K,E,A,C,mk,G,h⟩:=h;obtain⟨j,u,m,e⟩:=h.mm s g;refine⟨_,?_,Fr.frz u e⟩;have r:mV (dR (aT Att) fJ "members") fZ [qr i,qi (k:Int),qs s] S=some (.ref j,S):=by rw[mV,h.members rfl];simp[h.me,cP,m]
 have l:(cH (eM B.N s)).length≤1000000:=by have:=h7 B.N s;have:B.N.length≤4:=nT P;simp[cH];lia
 have t:bS (av 3) (j3 BU ka) fX (cH (eM B.N s)) [qr i,qi (k:Int),qs s,none] (S.set j (.fz (.lst (cH (eM B.N s)))))=some (cH (oth B.N s k),S.set j (.fz (.lst (cH (eM B.N s))))):=by
  rw[cN (p:=λv=>match v with | .int x=>!decide (k=x.toNat)|_=>false) (f:=id) (Inv:=λL=>∃d,L=[qr i,qi (k:Int),qs s,d]) (λv c L w=>?_) ⟨none,rfl⟩]
  .congr 2;unfold cH oth;rw[tZ,tW];rfl
  .obtain⟨d,rfl⟩:=w;unfold cH at c;obtain⟨o,F,rfl⟩:=aY.mp c;refine⟨[qr i,qi (k:Int),qs s,qi (o:Int)],rfl,⟨_,rfl⟩,?_,λ_=>by simp⟩;by_cases q:k=o
   .simp [q]
   .have y:¬(o:Int)=(k:Int):=by lia
    have H:¬o=k:=λz=>q z.symm;simp[q,y,H]
 rw[jQ];show k_ (be _ [qr i,qi (k:Int),qs s] S)=_;simp only[fU,be,O,b8,jc,vE,r,am,e.frz];rw[ac (by rw[qR];exact l)];rw[show my [] 1 [some (D.ref i),qi (k:Int),qs s]=[qr i,qi (k:Int),qs s,none] from rfl,t];rfl
theorem k5[DecidableEq r](x:r)(y:D):∀(s:List r)(a:List D),s.Nodup->s.length=a.length->(di x y s a).1.Nodup/\(di x y s a).1.length=(di x y s a).2.length/\(di x y s a).1.length≤s.length+1/\(∀k ∈ (di x y s a).1,k=x\/k ∈ s)/\∀k,cy k (di x y s a).1 (di x y s a).2=if x=k then some y else cy k s a
 | [],[],_,_=>⟨by simp[di],rfl,by simp[di],λk h=>.inl (by simpa[di] using h),λk=>by by_cases q:x=k<;>simp[di,cy,q]⟩
 | [],_::_,_,h=>by simp at h
 |_::_,[],_,h=>by simp at h
 |n::s,v::a,b,l=>by
  obtain⟨hk,b⟩:=bQ.mp b;by_cases q:n=x
  .have e:di x y (n::s) (v::a)=(n::s,y::a):=by simp[di,q]
   rw[e];refine⟨bQ.mpr ⟨hk,b⟩,by simpa using l,by simp,λk h=>.inr h,λk=>?_⟩;subst q;by_cases f:n=k<;>simp[cy,f]
  .obtain⟨t,p,w,c,d⟩:=k5 x y s a b (by simpa using l);have e:di x y (n::s) (v::a)=(n::(di x y s a).1,v::(di x y s a).2):=by simp[di,q]
   rw[e];refine⟨bQ.mpr ⟨λz=>?_,t⟩,by simp[p],by simp;lia,λk h=>?_,λk=>?_⟩
   .rcases c n z with z|z
    .exact q z
    .exact hk z
   .rcases aN.mp h with rfl|h
    .exact .inr aH
    .rcases c k h with h|h
     .exact .inl h
     .exact .inr (aG _ h)
   .show (if n=k then some v else cy k (di x y s a).1 (di x y s a).2)=_;by_cases f:n=k
    .subst f;have:¬x=n:=λz=>q z.symm
     simp[cy,this]
    .rw [af f,d];by_cases m:x=k
     .simp [m]
     .simp [m,cy,f]
def mL(p:P):List b0:=[.inl (iv (gF p 1)),.inl (iv (gF p 2))]
noncomputable abbrev KV:=List (List b0)×List D
def putAll:Nat->List P->KV->KV
 |_,[],s=>s
 |k,p::r,s=>putAll (k+1) r (di (mL p) (.p (.int (k:Int))) s.1 s.2)
structure KVok(s:KV):Prop where
 nd:s.1.Nodup
 ln:s.1.length=s.2.length
theorem KVok.put(h:KVok s)(k:List b0)(y:D):KVok (di k y s.1 s.2):=by obtain⟨x,a,_⟩:=k5 k y s.1 s.2 h.nd h.ln;exact⟨x,a⟩
set_option tactic.hygienic true in
theorem Jf:∀(x:List P)(k:Nat)(s:KV),KVok s->∀y d,cy y (putAll k x s).1 (putAll k x s).2=some d->cy y s.1 s.2=some d\/∃(j:Nat)(p:P),x[j]? = some p/\d=.p (.int ((k+j:Nat):Int))/\mL p=y
 | [],k,s,h,y,d,e=>.inl e
 |p::r,k,s,h,y,d,e=>by
  rcases Jf r (k+1) _ (h.put (mL p) (.p (.int (k:Int)))) y d e with e|⟨j,b,a,n,f⟩
  .rw [(k5 (mL p) (.p (.int (k:Int))) s.1 s.2 h.nd h.ln).2.2.2.2]at e;split at e
   .rename_i hk;cases e;exact .inr ⟨0,p,rfl,rfl,hk⟩
   .exact .inl e
  .exact .inr ⟨j+1,b,by simpa using a,by rw[n,show k+1+j=k+(j+1) by lia],f⟩
theorem Eu:∀(x:List P)(k:Nat)(s:KV),KVok s->∀y,((∃d,cy y s.1 s.2=some d)\/∃p ∈ x,mL p=y)->∃d,cy y (putAll k x s).1 (putAll k x s).2=some d
 | [],k,s,h,y,q=>by
  rcases q with q|⟨_,z,_⟩
  .exact q
  .cases z
 |p::r,k,s,h,y,q=>by
  refine Eu r (k+1) _ (h.put (mL p) (.p (.int (k:Int)))) y ?_;have e:=(k5 (mL p) (.p (.int (k:Int))) s.1 s.2 h.nd h.ln).2.2.2.2 y;by_cases w:mL p=y
  .exact .inl ⟨_,by rw[e,ac w]⟩
  .rcases q with ⟨d,q⟩|⟨a,z,q⟩
   .exact .inl ⟨d,by rw[e,af w];exact q⟩
   .rcases aN.mp z with rfl|z
    .exact absurd q w
    .exact .inr ⟨a,z,q⟩
def iJ(f r w:List P):BD:=⟨f,r,w,(putAll 0 (bJ (a8 f) r) ([],[])).1,(putAll 0 (bJ (a8 f) r) ([],[])).2⟩
theorem QL:KVok ([],[]):=⟨by simp,rfl⟩
theorem f8(f o w:List P):Places (iJ f o w) where
 get:=λr a b h=>Eu _ 0 _ QL _ (.inr ⟨_,h,rfl⟩)
 ok:=λx y d h=>by
  rcases Jf _ 0 _ QL _ d h with e|⟨j,p,n,k,s⟩
  .cases e
  .obtain⟨r,c,a,b,rfl⟩:=rc (B:=iJ f o w) (aZ n);exact⟨j,r,a,b,c,by rw[k,fF],n,by simp[mL,pr]at s;exact⟨s.1.symm,s.2.symm⟩⟩
theorem Js{K:Str->GF}(l:P)(a b c:D){i j:Nat}(m:i≠j):∀(t:List P)(k:Nat)(s:KV),KVok s->s.1.length+t.length≤900000->(∀p ∈ t,∃r x y,p=.tup [r,.int x,.int y])->∀(w u:Option D)(S:U),S[i]? = some (.ins "Board" ["families","homes","pairs","places"] [a,b,c,.ref j])->S[j]? = some (.dtt s.1 s.2)->∃n f,
  b_ (bF [av 2,av 3]) (fS K) (cj (k:Int) t) [qr i,qp l,w,u,none] S=some (.nx,[qr i,qp l,n,f,none],S.set j (.dtt (putAll k t s).1 (putAll k t s).2))
 | [],k,s,_,_,_,w,u,S,_,v=>⟨w,u,by show some (Fl.nx,_,S)=some (.nx,_,S.set j (.dtt s.1 s.2));obtain⟨h,e⟩:=bw.mp v;rw[<- e,gp]⟩
 |p::r,k,s,h,A,F,w,u,S,H,v=>by
  simp only[aV]at A;obtain⟨d,x,y,rfl⟩:=F p aH;have B:=(k5 (mL (.tup [d,.int x,.int y])) (.p (.int (k:Int))) s.1 s.2 h.nd h.ln).2.2.1;obtain⟨n,f,e⟩:=Js (K:=K) l a b c m r (k+1) _ (h.put (mL (.tup [d,.int x,.int y])) (.p (.int (k:Int)))) (by lia) (λp o=>F p (aG _ o)) (qi (k:Int)) (qt [d,.int x,.int y]) (S.set j (.dtt (di (mL (.tup [d,.int x,.int y])) (.p (.int (k:Int))) s.1 s.2).1 (di (mL (.tup [d,.int x,.int y])) (.p (.int (k:Int))) s.1 s.2).2)) (by rw[aP (λq=>m q.symm)];exact H) (bv (bA v));refine⟨n,f,?_⟩;unfold cj putAll;rw[jq,cB]at e;refine(cz (h:=[qr i,qp l,qi (k:Int),qt [d,.int x,.int y],none]) rfl ?_).trans e;have z:=h.nd;have g:s.1.length≤1000000:=by lia
  simp[fS,lf,iK,lD,dv,cP,z,g,mL,H,v]
structure GC(B:BD) where
 b:Nat
 i:Nat
 S0:U
 r:Nat
 bd:Bd B b i S0
 hr:S0.length≤r
theorem GC.le(G:GC B):G.b≤G.S0.length:=G.bd.le
theorem lH{i:Type}{g:kc}{b:ES}{p:i->Lc->Prop}{Sp:i->U->Prop}{r:i->Nat}{c M:Nat}{f:P->List P}:∀{s:List P},
  (∀x ∈ s,(f x).length≤c/\∀G L S a,p G L->Sp G S->S[r G]? = some (.lst (a.map .p))->a.length+c≤M->∃m L2 n,g x L=some m/\b m S=some (.nx,L2,n)/\p G L2/\Sp G n/\n[r G]? = some (.lst ((a++f x).map .p))) ->
  (s.flatMap f).length≤c * s.length/\∀G L S a,p G L->Sp G S->S[r G]? = some (.lst (a.map .p))->a.length+c * s.length≤M->∃k e,b_ g b s L S=some (.nx,k,e)/\p G k/\Sp G e/\e[r G]? = some (.lst ((a++s.flatMap f).map .p))
 | [],_=>⟨by simp,λG L S a t d h _=>⟨L,S,rfl,t,d,by rw[List.flatMap_nil,cZ];exact h⟩⟩
 |x::s,j=>by
  obtain⟨D,H⟩:=j x aH;obtain⟨I,C⟩:=lH (s:=s) λy B=>j y (aG _ B);have A:c * (x::s).length=c+c * s.length:=by rw[aV,zr,zq]
  refine⟨by rw[A,g6,aX];lia,λG L S a t d h E=>?_⟩;obtain⟨m,L2,n,l,z,v,u,F⟩:=H G L S a t d h (by lia);obtain⟨k,e,o,q,w,K⟩:=C G L2 n (a++f x) v u F (by rw[aX];lia);exact⟨k,e,by rw[cz l z];exact o,q,w,by rw[g6,<- eS];exact K⟩
theorem dP{t:Type}{g:kc}{b:ES}{p:t->Lc->Prop}{Sp:t->U->Prop}{r:t->Nat}{R:P->List P->Prop}{c M:Nat}{s:List P}
  (h:∀x ∈ s,∃y:List P,y.length≤c/\R x y/\∀G L S a,p G L->Sp G S->S[r G]? = some (.lst (a.map .p))->a.length+c≤M->∃v L2 k,g x L=some v/\b v S=some (.nx,L2,k)/\p G L2/\Sp G k/\k[r G]? = some (.lst ((a++y).map .p))) :
  ∃f:P->List P,(s.flatMap f).length≤c * s.length/\(∀x ∈ s,R x (f x))/\∀G L S a,p G L->Sp G S->S[r G]? = some (.lst (a.map .p))->a.length+c * s.length≤M->∃q n,b_ g b s L S=some (.nx,q,n)/\p G q/\Sp G n/\n[r G]? = some (.lst ((a++s.flatMap f).map .p)):=by
 let f:P->List P:=λx=>@dite _ (x ∈ s) (Classical.propDecidable _) (λe=>Classical.choose (h x e)) λ_=>[]
 have d:∀x e,f x=Classical.choose (h x e):=λx e=>dif_pos e;have m:=λx e=>Classical.choose_spec (h x e);obtain⟨w,u⟩:=lH (f:=f) λx e=>by rw[d x e];exact⟨(m x e).1,(m x e).2.2⟩
 exact⟨f,w,λx e=>by rw[d x e];exact(m x e).2.1,u⟩
theorem BH(N:LS)(s:Str):(eM N s).Pairwise (·≠·):=(List.nodup_range (n:=N.length)).filter _
theorem km{S:U}{r:Nat}{o x:SO}(h:S[r]? = some o):(S.set r x)[r]? = some x:=by rw[bv (bA h)]
theorem mQ{r:EE}{a:EV}{L:Lc}{S x:U}{k:Nat}{c y:List P}(n:r L S=some (.ref k,S))(h:S[k]? = some (.lst (c.map .p)))(s:a L S=some (.lst y,x))(e:x[k]? = some (.lst (c.map .p)))(l:c.length+y.length≤1000000):b9 (fQ r a) L S=some (.nx,L,x.set k (.lst ((c++y).map .p))):=by rw[b9,fQ,n,am];simp only[dZ,h,s,am,e,aQ];rw[ac (by rw[mZ];exact l),jE];rfl
theorem pM{r a:EE}{L:Lc}{S x:U}{k:Nat}{c:List P}{y:P}(n:r L S=some (.ref k,S))(h:S[k]? = some (.lst (c.map .p)))(s:a L S=some (.p y,x))(e:x[k]? = some (.lst (c.map .p)))(l:c.length≤1000000):b9 (bM r a) L S=some (.nx,L,x.set k (.lst ((c++[y]).map .p))):=by rw[b9,bM,n,am];simp only[dZ,h,s,am,e];rw[ac (by rw[qR,aQ];exact l),jE];rfl
theorem Jw{B:BD}(m:BP B){f:P}(n:f ∈ B.fams):a9 f ∈ B.N:=by
 have p:1≤dC f:=by
  obtain⟨q,c,o,e,w,t,h,rfl⟩:=m.hf f n;have:=h.hcr.1
  simp[dC];lia
 have y:∀(a:List P)(k:Nat),f ∈ a->∃x ∈ hw k a,x.2=f:=by
  intro a;induction a with
  |nil=>intro k h;cases h
  |cons g r i=>
   intro k h;rcases aN.mp h with rfl|h
   .exact⟨(k,f),by unfold hw;exact iF _ (mf.mpr ⟨by lia,rfl⟩),rfl⟩
   .obtain⟨x,s,b⟩:=i (k+1) h;exact⟨x,by unfold hw;exact eT _ s,b⟩
 obtain⟨x,s,rfl⟩:=y B.fams 0 n;unfold BD.N a8 bq;exact aY.mpr ⟨x.2,aY.mpr ⟨x,s,rfl⟩,rfl⟩
theorem Ra{B:BD}{k:Nat}{f:P}(h:(bq B.fams)[k]? = some f):B.N[k]? = some (a9 f):=by unfold BD.N a8;rw[bY,h];rfl
inductive LetOk(B:BD)(rds:List P)(hd:Nat)(y:P):Prop
 |mk (s sp k:Nat) (ls:List P):y=.tup [.int (s:Int),.int (sp:Int)]->cy [.inl (s:Int),.inl (hd:Int)] B.ks B.vs=qi (k:Int)->k < rds.length->rds[k]? = some (.tup ls)->vp (LA B k) ls->sp < ls.length->LetOk B rds hd y
theorem J_{B:BD}(hP:BP B)(G:Places B){n:Nat}{e:List P}(hr:bU B e){hd s:Nat}{d:D}(g:cy [.inl (s:Int),.inl (hd:Int)] B.ks B.vs=some d){w:Str}{u:List P} :
  ∃ys:List P,ys.length≤3/\(∀y ∈ ys,LetOk B e hd y)/\∀(b i:Nat)(S:U)(r:Nat)(t:List P)(q6 Z K A:Option D),Bd B b i S->S[r]? = some (.lst (t.map .p))->t.length+3≤1000000 ->
   ∃X q7' q8' q9',e_ (Ph (n+2)) [qr i,qt e,qi (hd:Int),qt (.str w::u),qr r,qi (s:Int),q6,Z,K,A] S=some (.nx,[qr i,qt e,qi (hd:Int),qt (.str w::u),qr r,qi (s:Int),X,q7',q8',q9'],S.set r (.lst ((t++ys).map .p))):=by
 obtain⟨k,road,a,b',N,rfl,hk,_,_⟩:=G.ok _ _ _ g;obtain⟨M,l,q,j⟩:=hr.at hk;obtain⟨ra,rb,kd,c,d1,d2,ha,hb,hkd,hc1,hc2,rfl⟩:=hP.hr road N;have h3:=q.1;have f:∃f:List P,f.length≤l.length/\(∀y ∈ f,NV l.length y)/\∀(L:Lc)(S:U),L[7]? = some (qs kd)->L[8]? = some (qt l)->M0 (bt (ak 7) (O (vt "row"))) (qc (MZ (eG (ak 8))) j4 (i' dh)) (cx (Ph (n+2) "unlike_spots") (v2 mx uo)) L S=some (.lst f,S):=by
  have eu:=I_ (n:=n) kd q;have R:(cH (BZ kd l)).length≤l.length:=by unfold cH BZ;rw[aQ];exact au (g7 ..) (by simp)
  have T:∀y ∈ cH (BZ kd l),NV l.length y:=λy F=>by obtain⟨i,I,rfl⟩:=aY.mp F;exact⟨i,iB.mp (fI.mp I).1,rfl⟩
  have hq:l.length < 1000000:=by lia
  by_cases o:kd="row"
  .refine⟨cut (intsFrom 0 l.length) none (some 1),by have:=(pK (t:=intsFrom 0 l.length) (lo:=none) (i:=some 1)).2;rwa [cJ]at this,λy F=>?_,λL S C E=>?_⟩
   .obtain⟨i,rfl,I⟩:=gC (pK.1 y F);exact⟨i,I,by simp⟩
   .simp [C,E,o,dO,fO,hq]
  .exact⟨_,R,T,λL S C E=>by simp[C,E,o,eu]⟩
 obtain⟨f,hs1,H,es⟩:=f;let p:P->Bool:=λv=>match v with | .int x=>decide (a9 (l.getD x.toNat .non)=w)|_=>false
 refine⟨(f.filter p).map λv=>.tup [.int (s:Int),v],by rw[aQ];exact au (g7 ..) (by lia),λy F=>?_,λb i S r t q6 Z K A hB hS hM=>?_⟩
 .obtain⟨v,V,rfl⟩:=aY.mp F;obtain⟨x,W,rfl⟩:=H v (fI.mp V).1;exact⟨s,x,k,l,rfl,g,M,j,q,W⟩
 .obtain⟨jh,jp,jl,jm,mk,mv,h⟩:=hB;have e2:bS (av 10) (bt (O (ae (ae uo nA) eB)) (O (ae fX eB))) (aL (v2 pF nA)) f [qr i,qt e,qi (hd:Int),qt (.str w::u),qr r,qi (s:Int),qi (k:Int),qs kd,qt l,ql f,none] S=some ((f.filter p).map λv=>.tup [.int (s:Int),v],S):=
   cN (Inv:=λL=>∃d,L=[qr i,qt e,qi (hd:Int),qt (.str w::u),qr r,qi (s:Int),qi (k:Int),qs kd,qt l,ql f,d]) (λv V L G=>by obtain⟨d,rfl⟩:=G;obtain⟨x,W,rfl⟩:=H v V;have g:l[x]? = some l[x]:=bg W;obtain⟨m,z,_,_,hz⟩:=(q.2 l[x] (gZ _)).1;rw[hz]at g;refine⟨[qr i,qt e,qi (hd:Int),qt (.str w::u),qr r,qi (s:Int),qi (k:Int),qs kd,qt l,ql f,qi (x:Int)],rfl,⟨_,rfl⟩,?_,λ_=>by simp⟩;simp[bN g,p,g,a9]) ⟨none,rfl⟩
  refine⟨qi (k:Int),qs kd,qt l,ql f,?_⟩;have Q:f.length≤1000000:=by lia
  unfold e_;refine(aq (e:=[qr i,qt e,qi (hd:Int),qt (.str w::u),qr r,qi (s:Int),qi (k:Int),Z,K,A]) (c:=S) ?_).trans ?_
  .rw [aC,wF,h.places rfl];simp[lD,h.pl,dv,cP,g]
  refine(aq (e:=[qr i,qt e,qi (hd:Int),qt (.str w::u),qr r,qi (s:Int),qi (k:Int),qs kd,K,A]) (c:=S) ?_).trans ?_
  .rw [aC,mV,mV,h.pr.ix (h.pairs rfl) (i:=(k:Int)) rfl (bN hk)];simp[pr]
  rw[aq (by simp[bN j];exact⟨rfl,rfl⟩)];refine(aq (e:=[qr i,qt e,qi (hd:Int),qt (.str w::u),qr r,qi (s:Int),qi (k:Int),qs kd,qt l,ql f]) (c:=S) ?_).trans ?_
  .rw [aC,O,es _ S rfl rfl];rfl
  refine mQ rfl hS ?_ hS (by rw[aQ];have:=g7 p f;lia);simp only[b8,jc,vE];simp[Q,my,e2]
theorem Hh{B:BD}(H:BP B)(hL:Places B){n:Nat}{hd:Nat}{f:P}(hf:(bq B.fams)[hd]? = some f){k A:List P}(hr:bU B k){Q:P}(ht:jO (a9 f) B.roads A Q) :
  ∃v:List P,v.length≤12/\(∀y ∈ v,(Q=.non/\y=.non)\/(Q≠.non/\LetOk B k hd y))/\∀(b i:Nat)(S:U),Bd B b i S->∃d j,Ph (n+4) "takeable" [.ref i,.p (.tup k),.p (.int (hd:Int)),.p Q] S=some (d,j)/\Fr b S j/\rg S j d v:=by
 rcases ht with rfl|⟨m,a,t,w,_,_,_,_,⟨r,F,hrb,rfl⟩,_,rfl⟩
 .refine⟨[.non],by simp,λy K=>.inl ⟨rfl,by simpa using K⟩,λb i S z=>⟨.p (.lst [.non]),S,?_,Fr.refl _ _,.inl rfl⟩⟩;rw[mR];simp[mP,jU,vr,eC]
 .have u:rA r ∈ B.N:=by
   obtain⟨⟨f',h1,X⟩,_⟩:=H.ra r F;rw[<- X];exact Jw H h1
  obtain⟨f5,h1,X,h3⟩:=dP (t:=GC B) (g:=av 5) (b:=e_ (Ph (n+3))) (Sp:=λG S=>Fr G.b G.S0 S) (r:=λG=>G.r) (R:=λ_ v=>∀y ∈ v,LetOk B k hd y) (c:=3) (M:=1000) (s:=cH (oth B.N (rA r) hd))
   (p:=fun G L=>∃q5 D E I N,L=[qr G.i,qt k,qi (hd:Int),qt [.str m,.str (rA r),.str t,.str w],qr G.r,q5,D,E,I,N]) (fun x C=>by
    unfold cH at C;obtain⟨s,u,rfl⟩:=aY.mp C;unfold oth at u;rw[fI]at u;have hsd:s≠hd:=λq=>by have:=u.2;simp[q]at this
    obtain⟨d,hg⟩:=hL.get r s hd (OI F (jo.mp u.1) (by rw[Ra hf,hrb]) hsd);obtain⟨v,k1,k2,k3⟩:=J_ H hL (n:=n+1) hr hg (w:=m) (u:=[.str (rA r),.str t,.str w]);refine⟨v,k1,k2,λG L S T hL' hS h hM=>?_⟩;obtain⟨q5,D,E,I,N,rfl⟩:=hL';obtain⟨q6',q7',q8',q9',e⟩:=k3 G.b G.i S G.r T D E I N (G.bd.fr hS) h (by lia);exact⟨_,_,_,rfl,e,⟨_,_,_,_,_,rfl⟩,hS.set G.le G.hr _,km h⟩)
  have hol:(cH (oth B.N (rA r) hd)).length≤4:=by
   have h4:B.N.length≤4:=nT H;have:=h7 B.N (rA r)
   have:=g7 (λo=>!decide (hd=o)) (eM B.N (rA r));simp[cH,oth];lia
  refine⟨(cH (oth B.N (rA r) hd)).flatMap f5,by lia,λy K=>.inr ⟨λq=>(by cases q),by obtain⟨x,C,K⟩:=bR.mp K;exact X x C y K⟩,λb i S z=>?_⟩
  have p:=Fr.app b S [.lst []];obtain⟨S1,e1,l⟩:=FZ (n:=n+1) H (z.fr p) hd u;have V:=p.trans l;have hb:=z.le;obtain⟨L',j,e2,⟨q5,D,E,I,N,rfl⟩,W,hl⟩:=h3 ⟨b,i,S,S.length,z,ag _⟩ [qr i,qt k,qi (hd:Int),qt [.str m,.str (rA r),.str t,.str w],qr S.length,none,none,none,none,none] S1 [] ⟨_,_,_,_,_,rfl⟩ V (l.hi _ _ hb (gy _ _)) (by simp;lia);refine⟨.ref S.length,j,?_,W,.inr ⟨S.length,ag _,rfl,.inl hl⟩⟩;rw[mR];have Z:=z.fr p;obtain⟨jh,jp,jl,jm,mk,mv,hb2⟩:=Z;have em:dQ (mT Tb (Ph (n+3))) fJ "hands_beside" (Md jH (O (ae fX dh))) [qr i,qt k,qi (hd:Int),qt [.str m,.str (rA r),.str t,.str w],qr S.length,none,none,none,none,none] (S++[.lst []])=some (.p (.lst (cH (oth B.N (rA r) hd))),S1):=
   (hb2.meth rfl (Rs _) Ry (l:=[.p (.int (hd:Int)),.p (.str (rA r))]) (by simp)).trans e1
  simp[mP,jU,vr,eC,-dQ,em,e2]
def isI(v:P):Prop:=∃j:Int,v=.int j
theorem isI.ok(h:isI v)(n:Nat):cE n v=true:=by obtain⟨j,rfl⟩:=h;simp
theorem KD{B:BD}(hP:BP B)(hL:Places B){n:Nat}{r:List P}(N:bU B r)(hd:Nat)(t v:Int){m:Str}(hm:aW m=true)(hA:LH B hd (.tup [.str m,.int v])) :
  ∃C:Option (List P),(∀g,C=some g->bU B g)/\∀(b i:Nat)(S:U)(s:P)(p e x:Option D),Bd B b i S->∃F K A,
   gu (Ph (n+2)) [qr i,qt r,qi (hd:Int),qp s,qt [.str m,.int v],qi t,p,e,x] S=match C with
    |none=>some (.rt (.p .non),[qr i,qt r,qi (hd:Int),qp s,qt [.str m,.int v],qi t,F,K,A],S)
    |some g=>some (.nx,[qr i,qt g,qi (hd:Int),qp s,qt [.str m,.int v],qi t,F,K,A],S):=by
 cases I:cy [.inl (hd:Int),.inl t] B.ks B.vs with
 |none=>
  refine⟨none,λ_ q=>(by cases q),λb i S s p e x f=>⟨qp .non,e,x,?_⟩⟩;obtain⟨R,W,T,V,mk,X,h⟩:=f;unfold gu;refine(aq (e:=[qr i,qt r,qi (hd:Int),qp s,qt [.str m,.int v],qi t,qp .non,e,x]) (c:=S) ?_).trans (xI ?_)
  .rw [aC,sF,h.places rfl];simp[lD,h.pl,dv,cP,I]
  .simp [vr,eC]
 |some d=>
  obtain⟨k,road,a,b',Q,rfl,hk,z,_⟩:=hL.ok _ _ _ I;have z:hd=a:=by lia
  obtain⟨L,y,o,j⟩:=N.at hk;obtain⟨ra,rb,kd,c,d1,d2,ha,hb,hkd,hc1,hc2,l⟩:=hP.hr road Q;have E:L2.atI [P.str ra,.str rb,.str kd,.int c,.bl d1,.bl d2] 3=some (.int c):=bC (by decide) rfl;have Z:∀(b i:Nat)(S:U)(s:P)(p e x:Option D),Bd B b i S->aC 6 (sF (dR (aT Att) fJ "places") (v2 fZ pF)) [qr i,qt r,qi (hd:Int),qp s,qt [.str m,.int v],qi t,p,e,x] S=some (.nx,[qr i,qt r,qi (hd:Int),qp s,qt [.str m,.int v],qi t,qi (k:Int),e,x],S):=λb i S s p e x f=>by obtain⟨R,W,T,V,mk,X,h⟩:=f;rw[aC,sF,h.places rfl];simp[lD,h.pl,dv,cP,I]
  by_cases hv:v.natAbs≤999
  .have u:¬(999:Int) < (if v < 0 then -v else v):=by split<;>lia
   by_cases G:c≤(y.length:Int)
   .refine⟨none,λ_ q=>(by cases q),λb i S s p e x f=>⟨qi (k:Int),qp road,x,?_⟩⟩;refine(aq (Z b i S s p e x f)).trans ((aq (e:=[qr i,qt r,qi (hd:Int),qp s,qt [.str m,.int v],qi t,qi (k:Int),e,x]) (c:=S) ?_).trans ((aq (e:=[qr i,qt r,qi (hd:Int),qp s,qt [.str m,.int v],qi t,qi (k:Int),qp road,x]) (c:=S) ?_).trans (xI ?_)))
    .simp [vr,eC,oC,u]
    .obtain⟨R,W,T,V,mk,X,h⟩:=f;rw[aC,mV,h.pr.ix (h.pairs rfl) (i:=(k:Int)) rfl (bN hk)];simp[pr]
    .simp [l,bN j,dO,fO,E,G]
   .have M:(y++[P.tup [.str m,.int v]]).length≤1:=by rw[aX,pB];lia
    have H:vp (LA B k) (y++[P.tup [.str m,.int v]]):=⟨M,eO o.2 ⟨⟨m,v,hm,hv,rfl⟩,road,a,b',hk,z ▸ hA⟩⟩;have ea:=jn (xs:=y) (c:=[P.tup [.str m,.int v]]) (by have:=o.1;simp;lia);have ez:=B8 H;have hpl:=vn hP;have hrl:=N.1;have er:=λ(w:P)=>qz (n:=n) (xs:=r) (k:=k) L (by lia) w;refine⟨some (r.set k (.tup (y++[P.tup [.str m,.int v]]))),λ_ q=>by cases q;exact N.set k H,λb i S s p e x f=>⟨qi (k:Int),qp road,qt (y++[P.tup [.str m,.int v]]),?_⟩⟩;refine(aq (Z b i S s p e x f)).trans ((aq (e:=[qr i,qt r,qi (hd:Int),qp s,qt [.str m,.int v],qi t,qi (k:Int),e,x]) (c:=S) ?_).trans ((aq (e:=[qr i,qt r,qi (hd:Int),qp s,qt [.str m,.int v],qi t,qi (k:Int),qp road,x]) (c:=S) ?_).trans ?_))
    .simp [vr,eC,oC,u]
    .obtain⟨R,W,T,V,mk,X,h⟩:=f;rw[aC,mV,h.pr.ix (h.pairs rfl) (i:=(k:Int)) rfl (bN hk)];simp[pr]
    by_cases hh:kd="heap"
    .simp [l,bN j,dO,fO,E,G,ea,hh,Hs,Hq,ez,eY,er]
    .simp [l,bN j,dO,fO,E,G,ea,hh,er]
  .have u:(999:Int) < (if v < 0 then -v else v):=by split<;>lia
   refine⟨none,λ_ q=>(by cases q),λb i S s p e x f=>⟨qi (k:Int),e,x,?_⟩⟩;refine(aq (Z b i S s p e x f)).trans (xI ?_);simp[vr,eC,oC,u]
theorem A'{B:BD}(F:BP B)(H:Places B){n:Nat}(hd:Nat)(v:Int){m:Str}(K:aW m=true)(A:LH B hd (.tup [.str m,.int v])):∀{l:List P},(∀t ∈ l,isI t)->∀{d:List P},bU B d ->
  ∃r:Option (List P),(∀s,r=some s->bU B s)/\∀(b i:Nat)(S:U)(w:P)(u f c p:Option D),Bd B b i S->∃L z h a k,
   b_ (av 5) (gu (Ph (n+2))) l [qr i,qt d,qi (hd:Int),qp w,qt [.str m,.int v],u,f,c,p] S=match r with
    |none=>some (.rt (.p .non),L,S)
    |some s=>some (.nx,[qr i,qt s,qi (hd:Int),qp w,qt [.str m,.int v],z,h,a,k],S)
 | [],_,d,y=>⟨some d,λ_ q=>by cases q;exact y,λb i S w u f c p _=>⟨[],u,f,c,p,rfl⟩⟩
 |t::l,C,d,y=>by
  obtain⟨j,rfl⟩:=C t aH;obtain⟨r,Q,o⟩:=KD F H (n:=n) y hd j v K A;cases r with
  |none=>refine⟨none,λ_ q=>(by cases q),λb i S w u f c p g=>?_⟩;obtain⟨h,a,k,e⟩:=o b i S w f c p g;exact⟨_,u,f,c,p,wz rfl e⟩
  |some s=>obtain⟨r,T,V⟩:=A' F H (n:=n) hd v K A (l:=l) (λx R=>C x (aG _ R)) (Q s rfl);refine⟨r,T,λb i S w u f c p g=>?_⟩;obtain⟨h,a,k,e⟩:=o b i S w f c p g;obtain⟨L,E,G,I,M,N⟩:=V b i S w (qi j) h a k g;exact⟨L,E,G,I,M,by rw[<- N];exact cz rfl e⟩
theorem HD{B:BD}(p:BP B)(c:Places B){n:Nat}(hd:Nat)(v:Int){m:Str}(q:aW m=true)(A:LH B hd (.tup [.str m,.int v])){s:List P}(u:∀t ∈ s,isI t){d:List P}(w:bU B d) :
  ∃a:P,(a=.non\/∃r,bU B r/\a=.tup r)/\∀(b i:Nat)(S:U),Bd B b i S->Ph (n+3) "posted" [.ref i,.p (.tup d),.p (.int (hd:Int)),.p (.lst s),.p (.tup [.str m,.int v])] S=some (.p a,S):=by
 obtain⟨x,f,k⟩:=A' p c (n:=n) hd v q A u w;cases x with
 |none=>refine⟨.non,.inl rfl,λb i S h=>?_⟩;obtain⟨L,_,_,_,_,e⟩:=k b i S (.lst s) none none none none h;rw[qS];simp only[zz]at e;simp[mP,lN,e]
 |some r=>refine⟨.tup r,.inr ⟨r,f r rfl,rfl⟩,λb i S h=>?_⟩;obtain⟨L,_,_,_,_,e⟩:=k b i S (.lst s) none none none none h;rw[qS];simp only[zz]at e;simp[mP,lN,e]
end My
namespace My
open PySem L2 Ev
def Jk(dl:Nat)(y:P):Prop:=∃s h,y=.tup [.tup s,.lst h]/\s.length=dl/\(∀a ∈ s,isI a)/\∀t ∈ h,isI t
noncomputable abbrev lJ(E:Str)(C:Nat)(l u j H:List P):P:=.tup [.str E,.int (C:Int),.lst l,.lst u,.lst j,.lst H]
theorem A1{s:List P}(h:∀x ∈ s,j6 x){x:Str}(a:P.str x ∈ s):∃i:Nat,i < s.length/\lG s (.str x)=some i:=qK (λy e=>(h y e).ok 19) a
theorem tg_ok{B:BD}(q:BP B){n:Nat}{hd:Nat}{E:Str}{C:Nat}{l u j H:List P}(s:Fam B.roads E C l u j H)(a:(bq B.fams)[hd]? = some (lJ E C l u j H)){A:List P}(hw:A.length=j.length)(I:∀w ∈ A,isI w){c z:Str}
  (hc:(c="who"/\P.str z ∈ j)\/((c="all"\/c="any")/\∃r ∈ B.roads,rA r=E/\z=rB r)) :
  ∃(ys:List P)(dl:Nat),dl≤1/\ys.length≤4/\(∀y ∈ ys,Jk dl y)/\∀(b i:Nat)(S:U),Bd B b i S->∃K,Ph (n+4) "targets_of" [.ref i,.p (.int (hd:Int)),.p (.str c),.p (.str z),.p (.tup A)] S=some (.p (.lst ys),K)/\Fr b S K:=by
 rcases hc with ⟨rfl,W⟩|⟨N,r,X,hra,rfl⟩
 .obtain⟨k,hk,ek⟩:=A1 s.hwh W;have hg:A[k]? = some (A[k]'(by lia)):=bg (by lia);generalize hv:A[k]'(by lia)=v at hg;have Z:isI v:=by rw[<- hv];exact I _ (gZ _)
  refine⟨[.tup [.tup [],.lst [v]]],0,by simp,by simp,λy R=>⟨[],[v],by simpa using R,by simp,λ_ h=>(by cases h),λt T=>by rw[cC.mp T];exact Z⟩,λb i S m=>⟨S,?_,Fr.refl _ _⟩⟩;have ef:=yh (n:=n+1) m a;obtain⟨jh,jp,jl,jm,mk,mv,h⟩:=m;have G:dQ (mT Tb (Ph (n+3))) fJ "family_of" (JF ka) [qr i,qi (hd:Int),qs "who",qs z,qt A,none] S=some (.p (lJ E C l u j H),S):=
   (h.meth rfl (O0 _) O6 (l:=[.p (.int (hd:Int))]) (by simp)).trans ef
  rw[ip];simp[mP,fR,-dQ,G,Q7,ek,bN hg]
 .have hs:rB r ∈ B.N:=by
   obtain⟨_,⟨f',h1,h2⟩⟩:=q.ra r X;rw[<- h2];exact Jw q h1
  have M:(cH (oth B.N (rB r) hd)).length≤4:=by
   have h4:B.N.length≤4:=nT q;have:=h7 B.N (rB r)
   have:=g7 (λo=>!decide (hd=o)) (eM B.N (rB r));simp[cH,oth];lia
  have g:∀t ∈ cH (oth B.N (rB r) hd),isI t:=λt T=>by unfold cH at T;obtain⟨o,_,rfl⟩:=aY.mp T;exact⟨_,rfl⟩
  have G:∀(b i:Nat)(S:U),Bd B b i S->∃K,dQ (mT Tb (Ph (n+3))) fJ "hands_beside" (Md ka BU) [qr i,qi (hd:Int),qs c,qs (rB r),qt A,none] S=some (.p (.lst (cH (oth B.N (rB r) hd))),K)/\Fr b S K:=λb i S m=>by obtain⟨F,D,e⟩:=FZ (n:=n+1) q m hd hs;obtain⟨jh,jp,jl,jm,mk,mv,h⟩:=m;exact⟨F,(h.meth rfl (Rs _) Ry (l:=[.p (.int (hd:Int)),.p (.str (rB r))]) (by simp)).trans D,e⟩
  generalize cH (oth B.N (rB r) hd)=os at M g G;rcases N with rfl|rfl
  .refine⟨[.tup [.tup [],.lst os]],0,by simp,by simp,λy R=>⟨[],os,by simpa using R,by simp,λ_ h=>(by cases h),g⟩,λb i S m=>?_⟩;obtain⟨F,D,e⟩:=G b i S m;refine⟨F,?_,e⟩;rw[ip];simp[mP,fR,-dQ,D]
  .refine⟨os.map λo=>.tup [.tup [o],.lst [o]],1,by simp,by simpa using M,λy R=>?_,λb i S m=>?_⟩
   .obtain⟨o,ho,rfl⟩:=aY.mp R;exact⟨[o],[o],rfl,by simp,λx V=>by rw[cC.mp V];exact g o ho,λx V=>by rw[cC.mp V];exact g o ho⟩
   .obtain⟨F,D,e⟩:=G b i S m;refine⟨F,?_,e⟩;have e2:bS (av 6) gP (aL (v2 (aL (v1 k8)) (bu (v1 k8)))) os [qr i,qi (hd:Int),qs "any",qs (rB r),qt A,ql os,none] F=some (os.map λo=>.tup [.tup [o],.lst [o]],F):=by
     rw[cN (p:=λ_=>true) (f:=λo=>.tup [.tup [o],.lst [o]]) (Inv:=λL=>∃d,L=[qr i,qi (hd:Int),qs "any",qs (rB r),qt A,ql os,d]) (λv hv L Q=>?_) ⟨none,rfl⟩,iM];obtain⟨d,rfl⟩:=Q;exact⟨[qr i,qi (hd:Int),qs "any",qs (rB r),qt A,ql os,qp v],rfl,⟨_,rfl⟩,rfl,λ_=>by simp⟩
    have hq:os.length≤1000000:=by lia
    rw[ip];simp[mP,fR,-dQ,D,b8,hq,my,e2]
def NU(y:P):Prop:=∃s p:Nat,y=.tup [.int (s:Int),.int (p:Int)]
theorem MW{n:Nat}{r:List P}{E:Str}{C:Nat}{l u j H:List P}(s:Fam r E C l u j H){A:List P}(hw:A.length=j.length){Q:P->Prop}(I:∀w ∈ A,Q w){t y:P}(g:jO E r j t)(S:(t=.non/\y=.non)\/(t≠.non/\∃x p:Nat,y=.tup [.int (x:Int),.int (p:Int)]/\Q (.int (x:Int)))) :
  ∃e,e.length=j.length/\(∀w ∈ e,Q w)/\cG (Ph (n+3) "whos_behind") [lJ E C l u j H,.tup A,t,y]=some (.tup e):=by
 rcases g with rfl|⟨m,a,i,b,_,_,_,_,_,o,rfl⟩
 .refine⟨A,hw,I,?_⟩;rw[gJ,aU];simp[eZ,vr,eC]
 .obtain⟨x,p,rfl,d⟩:∃x p:Nat,y=.tup [.int (x:Int),.int (p:Int)]/\Q (.int (x:Int)):=by
   rcases S with ⟨q,_⟩|⟨_,q⟩
   .cases q
   .exact q
  by_cases f:b=""
  .refine⟨A,hw,I,?_⟩;rw[gJ,aU];simp[eZ,vr,eC,f]
  .obtain⟨k,hk,c⟩:=A1 s.hwh (o.resolve_left f);have z:=s.wl;have v:=qz (n:=n) (xs:=A) (k:=k) (by lia) (by lia) (.int (x:Int));refine⟨A.set k (.int (x:Int)),by rw[c_];exact hw,λw h=>?_,?_⟩
   .rcases List.mem_or_eq_of_mem_set h with h|rfl
    .exact I w h
    .exact d
   .rw [gJ,aU];simp[eZ,vr,eC,f,Q7,c,v]
theorem vc(x:b0)(y:P):∀(n:List b0)(c:List P),n.Nodup->n.length=c.length->∃s a,qW x (.p y) n (c.map .p)=(s,a.map .p)/\s.Nodup/\s.length=a.length/\s.length≤n.length+1/\(∀k ∈ s,k=x\/k ∈ n)/\∀k,bW k s a=if x=k then some y else bW k n c
 | [],[],_,_=>⟨[x],[y],rfl,by simp,rfl,by simp,λk h=>.inl (by simpa using h),λk=>by by_cases q:x=k<;>simp[bW,q]⟩
 | [],_::_,_,h=>by simp at h
 |_::_,[],_,h=>by simp at h
 |f::n,v::c,m,l=>by
  obtain⟨hk,m⟩:=bQ.mp m;by_cases q:f=x
  .refine⟨f::n,y::c,by simp[qW,q],bQ.mpr ⟨hk,m⟩,by simpa using l,by simp,λk h=>.inr h,λk=>?_⟩;subst q;by_cases b:f=k
   .simp [bW,b]
   .simp [bW,b]
  .obtain⟨s,a,e,p,d,u,r,w⟩:=vc x y n c m (by simpa using l);refine⟨f::s,v::a,by simp[qW,q,e],bQ.mpr ⟨λz=>?_,p⟩,by simp[d],by simp;lia,λk h=>?_,λk=>?_⟩
   .rcases r f z with z|z
    .exact q z
    .exact hk z
   .rcases aN.mp h with rfl|h
    .exact .inr aH
    .rcases r k h with h|h
     .exact .inl h
     .exact .inr (aG _ h)
   .show (if f=k then some v else bW k s a)=_;by_cases b:f=k
    .subst b;have:¬x=f:=λz=>q z.symm
     simp[bW,this]
    .rw [af b,w];by_cases t:x=k
     .simp [t]
     .simp [t,bW,b]
structure Giv(gk:List b0)(gv:List P):Prop where
 nd:gk.Nodup
 ln:gk.length=gv.length
 le:gk.length≤100
 iv:∀k v,bW k gk gv=some v->isI v
theorem Giv.put(h:Giv b c)(l:b.length≤99)(y:b0)(i:Int):∃g x,qW y (.p (.int i)) b (c.map .p)=(g,x.map .p)/\Giv g x/\g.length≤b.length+1:=by
 obtain⟨s,n,e,f,m,r,p,t⟩:=vc y (.int i) b c h.nd h.ln;refine⟨s,n,e,⟨f,m,by lia,λk v a=>?_⟩,r⟩;rw[t]at a;split at a
 .cases a;exact⟨_,rfl⟩
 .exact h.iv k v a
theorem A6{o:EE}{k v:EV}{L:Lc}{S s:U}{j:Nat}{n:List b0}{f:List P}{x:Str}{i:Int}(h:Giv n f)(l:n.length≤99)(p:v L S=some (.int i,s))(t:o L s=some (.ref j,s))(hk:k L s=some (.str x,s))(r:s[j]? = some (.dct n (f.map .p))):∃g a,Giv g a/\g.length≤n.length+1/\i8 o k v L S=some (.nx,L,s.set j (.dct g (a.map .p))):=by
 obtain⟨g,a,e,c,m⟩:=h.put l (.inr x) i;refine⟨g,a,c,m,?_⟩;have b:xK o k v L S=some (.nx,L,s.set j (.dct g (a.map .p))):=by unfold xK;rw[p,am,t,am,hk,am];simp only[mI,r,cP];rw[ac ⟨h.nd,by rw[qR];lia⟩,e]
 unfold i8;rw[b]
theorem su{k:b0}:∀{s:List b0}{x:List P},Cv k s=false->bW k s x=none
 | [],_,_=>by cases ‹List P›<;>rfl
 |_::_,[],_=>rfl
 |a::s,v::x,h=>by unfold Cv at h;rw[du,Ad]at h;show(if a=k then some v else bW k s x)=none;rw[af (of_decide_eq_false h.1)];exact su h.2
noncomputable abbrev fA(x:Str)(m w t:P)(c s:List P)(r:P):P:=.tup [.str x,m,w,t,.lst c,.lst s,r]
theorem qo(a b c d e f g:P):L2.atI [a,b,c,d,e,f,g] 3=some d:=bC (by decide) rfl
theorem Ge(a b c d e f g:P):L2.atI [a,b,c,d,e,f,g] 4=some e:=bC (by decide) rfl
theorem Nh(a b c d e f g:P):L2.atI [a,b,c,d,e,f,g] 5=some f:=bC (by decide) rfl
theorem DV(a b c d e f g:P):L2.atI [a,b,c,d,e,f,g] 6=some g:=bC (by decide) rfl
theorem Rz(a b c d e f:P):L2.atI [a,b,c,d,e,f] 2=some c:=bC (by decide) rfl
theorem Sv(a b c d e f:P):L2.atI [a,b,c,d,e,f] 5=some f:=bC (by decide) rfl
theorem A5{lo h a i:Int}(e:lo≤i)(s:i≤h):P.int i ∈ oH (.tup [x,.int lo,.int h,.int a]):=by
 unfold oH;refine aY.mpr ⟨(i-lo).toNat,iB.mpr ?_,?_⟩
 .simp;lia
 .simp;lia
theorem LY{B W:Str->GF}{f st u:P}{b a:List P}{s:List b0}{g:List P}(G:Giv s g){o:SO}(C:o=.dct s (g.map .p)\/o=.fz (.dct s g)){k:Nat}{c:P}(I:isCel c){z:P}(t:b[k]? = some z)(F:NW z)(K:z ∈ oH c)(V:a.length≤1000)(p d q:Option D) :
  (∃L,bf B [qp f,qt b,qp st,qp u,qr 0,p,d,qr 1,qi (k:Int),qp c,q] [o,.lst (a.map .p)]=some (.rt (.p .non),L,[.fz (.dct s g),.lst (a.map .p)])) \/
  ∃i:Int,i.natAbs≤999/\P.int i ∈ oH c/\bf B [qp f,qt b,qp st,qp u,qr 0,p,d,qr 1,qi (k:Int),qp c,q] [o,.lst (a.map .p)]=some (.nx,[qp f,qt b,qp st,qp u,qr 0,p,d,qr 1,qi (k:Int),qp c,qi i],[.fz (.dct s g),.lst ((a++[P.int i]).map .p)]):=by
 obtain⟨x,lo,H,j,_,N,Q,R,T,rfl⟩:=I;obtain⟨A,S,rfl⟩:=F;have w:toP 9 (.ref 0) [o,.lst (a.map .p)]=some (.dct s g,[.fz (.dct s g),.lst (a.map .p)]):=by
  rcases C with rfl|rfl
  .have:uN (toP 8) (g.map .p) [SO.dct s (g.map .p),.lst (a.map .p)]=some (g,[SO.dct s (g.map .p),.lst (a.map .p)]):=mK ..;simp[toP,this]
  .rfl
 have M:isI ((bW (.inr x) s g).getD (.int A)):=by
  cases e:bW (.inr x) s g with
  |none=>exact⟨A,rfl⟩
  |some v=>exact G.iv _ v e
 obtain⟨n,h⟩:=M;have l:a.length≤1000000:=by lia
 cases hk:Cv (.inr x) s with
 |false=>
  have m:n=A:=by rw[su hk]at h;exact(P.int.inj h).symm
  right;refine⟨n,by rw[m];exact S,by rw[m];exact K,?_⟩;rw[<- dM];simp[bf,w,cP,bN t,h,ww,LC,Mj,lq,hk,dZ,l]
 |true=>
  by_cases r:lo≤n/\n≤H
  .right;refine⟨n,by lia,A5 r.1 r.2,?_⟩;rw[<- dM];simp[bf,w,cP,bN t,h,ww,LC,Mj,lq,hk,dZ,l,r.1,r.2]
  .left;refine⟨[qp f,qt b,qp st,qp u,qr 0,p,d,qr 1,qi (k:Int),qt [.str x,.int lo,.int H,.int j],qi n],?_⟩;by_cases y:lo≤n
   .have E:¬n≤H:=λz=>r ⟨y,z⟩;simp[bf,w,cP,bN t,h,ww,LC,Mj,lq,hk,y,E]
   .simp [bf,w,cP,bN t,h,ww,LC,Mj,lq,hk,y]
theorem BK{B V:Str->GF}{f st F:P}{n:List P}(w:∀c ∈ n,NW c){K:List b0}{A:List P}(R:Giv K A)(u g:Option D):∀{l:List P}{k:Nat},(∀c ∈ l,isCel c)->(∀(i:Nat) c v,l[i]? = some c->n[k+i]? = some v->v ∈ oH c)->k+l.length=n.length->∀{b:SO},(b=.dct K (A.map .p)\/b=.fz (.dct K A))->∀{a:List P},a.length=k->n.length≤1000->∀(H S q:Option D),
  (∃L C,b_ (bF [av 8,av 9]) (bf B) (cj (k:Int) l) [qp f,qt n,qp st,qp F,qr 0,u,g,qr 1,H,S,q] [b,.lst (a.map .p)]=some (.rt (.p .non),L,C)) \/
  ∃y m r s o,y.length=l.length/\((∀c ∈ y,NW c)/\RN l y)/\b_ (bF [av 8,av 9]) (bf B) (cj (k:Int) l) [qp f,qt n,qp st,qp F,qr 0,u,g,qr 1,H,S,q] [b,.lst (a.map .p)]=some (.nx,[qp f,qt n,qp st,qp F,qr 0,u,g,qr 1,m,r,s],[o,.lst ((a++y).map .p)])
 | [],k,_,_,_,b,_,a,_,_,H,S,q=>.inr ⟨[],H,S,q,b,rfl,⟨λ_ h=>(by cases h),λ_ _ _ h=>(by cases h)⟩,by simp[cj,b_]⟩
 |c::l,k,T,d,hk,b,X,a,ha,hl,H,S,q=>by
  simp only[aV]at hk;have t:n[k]? = some (n[k]'(by lia)):=bg (by lia);unfold cj;rcases LY (B:=B) (W:=V) (f:=f) (st:=st) (u:=F) (a:=a) R X (T c aH) t (w _ (gZ _)) (d 0 c _ rfl (by rw[Nat.add_zero];exact t)) (by lia) u g q with ⟨L,e⟩|⟨i,Z,M,e⟩
  .exact .inl ⟨_,_,wz rfl e⟩
  .rcases BK (B:=B) (V:=V) (f:=f) (st:=st) (F:=F) w R u g (l:=l) (k:=k+1) (λx hx=>T x (aG _ hx)) (λj c v E G=>d (j+1) c v (by simpa using E) (by rw[<- G];congr 1;lia)) (by lia) (b:=.fz (.dct K A)) (.inr rfl) (a:=a++[.int i]) (by simp;lia) hl (qi (k:Int)) (qp c) (qi i) with ⟨L,C,p⟩|⟨y,m,r,s,o,E,⟨G,I⟩,p⟩
   .rw [jq]at p;exact .inl ⟨L,C,(cz rfl e).trans p⟩
   .rw [jq]at p;refine .inr ⟨.int i::y,m,r,s,o,by simp[E],⟨λz t=>?_,λj W v N Q=>?_⟩,?_⟩
    .rcases aN.mp t with rfl|t
     .exact⟨i,Z,rfl⟩
     .exact G z t
    .cases j with
     |zero=>cases N;cases Q;exact M
     |succ j=>exact I j W v (by simpa using N) (by simpa using Q)
    .rw [show a++.int i::y=a++[.int i]++y by simp];exact(cz rfl e).trans p
theorem OA{X j:List P}{E:Str}{A:P}(W:jO E X j A){K:List b0}{V:List P}(f:kI (more A) K V){g:List b0}{s:List P}(I:Giv g s)(T:g.length≤99)(h p H B r:P)(x:Str)(c F:List P)(d u l y z q:Option D) :
  ∃b t,Giv b t/\dG (kG (bV (dF dw (O (ae fZ g_)) (O (vC (.non))))) (j3 (O (ae (ae fZ g_) fW)) (O (vt "")))) (i8 AQ (ae (ae fZ g_) fW) (ae fX (vt "it"))) fY [qp h,qp p,qp (fA x H B A c F r),qp (.dct K V),qr 0,d,u,l,y,z,q] [.dct g (s.map .p)]=some (.nx,[qp h,qp p,qp (fA x H B A c F r),qp (.dct K V),qr 0,d,u,l,y,z,q],[.dct b (t.map .p)]):=by
 rcases W with rfl|⟨m,a,n,w,_,_,_,_,_,_,rfl⟩
 .exact⟨g,s,I,by simp[qo,dw,eC]⟩
 .by_cases M:n=""
  .exact⟨g,s,I,by simp[qo,dw,eC,M]⟩
  .obtain⟨i,_,N⟩:=f "it" (by simp[more]);obtain⟨C,G,Q,Z,e⟩:=A6 (o:=ak 4) (k:=ae (ae fZ g_) fW) (v:=ae fX (vt "it")) (L:=[qp h,qp p,qp (fA x H B (.tup [.str m,.str a,.str n,.str w]) c F r),qp (.dct K V),qr 0,d,u,l,y,z,q]) (S:=[.dct g (s.map .p)]) I T (i:=i) (s:=[.dct g (s.map .p)]) (x:=n) (by simp[N]) rfl (by simp[qo]) rfl;refine⟨C,G,Q,?_⟩;rw[dG];have R:(kG (bV (dF dw (O (ae fZ g_)) (O (vC (.non))))) (j3 (O (ae (ae fZ g_) fW)) (O (vt "")))) [qp h,qp p,qp (fA x H B (.tup [.str m,.str a,.str n,.str w]) c F r),qp (.dct K V),qr 0,d,u,l,y,z,q] [.dct g (s.map .p)]=some (true,[.dct g (s.map .p)]):=by simp[qo,dw,eC,M]
   rw[R];exact e
theorem Oz{n:Nat}{rs:List P}{E:Str}{C:Nat}{l u j H:List P}(s:Fam rs E C l u j H){X:List P}(hc:CellsOk u X){x:Str}{Q T w:P}{a R:List P}{m:P}(hS:Stp E l u j rs Q T w a R m){K:List b0}{V:List P}(f:kI (nN u++more w) K V) :
  ∃q:P,(q=.non\/∃F,CellsOk u F/\q=.tup F)/\cG (Ph (n+6) "cells_behind") [lJ E C l u j H,.tup X,fA x Q T w a R m,.dct K V]=some q:=by
 have p:∀x ∈ nN u++more w,j6 x:=λx hx=>(bE.mp hx).elim (qD s.hce.1 x) (uL w x);have hcl:=hS.cl;have hc3:=s.cl;have hcn:=hc.1;let A:List (Option D):=[qp (lJ E C l u j H),qt X,qp (fA x Q T w a R m),qp (.dct K V),qr 0]
 let Inv:Nat->Lc->U->Prop:=λi L S=>∃(d:List b0)(z:List P)(M N:Option D),Giv d z/\d.length≤i/\L=A++[M,N,none,none,none,none]/\S=[.dct d (z.map .p)]
 obtain⟨L',S',e1,d,z,M,N,hG,hgl,rfl,rfl⟩:=dg (g:=bF [av 5,av 6]) (b:=gS (Ph (n+5))) (Inv:=Inv) (s:=a) (k:=0) (L:=A++[none,none,none,none,none,none]) (S:=[.dct [] []]) (λi v L S hv hI=>by obtain⟨d,z,M,N,hG,hgl,rfl,rfl⟩:=hI;have hi:=bA hv;obtain⟨y,t,_,ht,rfl⟩:=hS.ch v (aZ hv);obtain⟨r,er⟩:=p_ p f ht (n:=n+1);obtain⟨gk',gv',I,Z,e⟩:=A6 (o:=ak 4) (k:=vv 5) (v:=cx (Ph (n+5) "value_of") (v2 k8 fX)) (L:=A++[qs y,qp t,none,none,none,none]) (S:=[.dct d (z.map .p)]) hG (by lia) (i:=r) (s:=[.dct d (z.map .p)]) (by simp[A,er]) rfl rfl rfl;exact⟨_,_,_,rfl,e,gk',gv',_,_,I,by lia,rfl,rfl⟩) ⟨[],[],none,none,⟨by simp,rfl,by simp,λk v h=>by cases h⟩,by simp,rfl,rfl⟩
 simp only[A,pi,eR]at e1;obtain⟨gk2,gv2,hG2,e2⟩:=OA hS.htk (λx hx=>f x (eT _ hx)) hG (by lia) (lJ E C l u j H) (.tup X) Q T m x a R M N none none none none;have G:=BK (B:=Ph (n+5)) (V:=Ph (n+4)) (f:=lJ E C l u j H) (st:=fA x Q T w a R m) (F:=.dct K V) hc.2.1 hG2 M N (l:=u) (k:=0) s.hce.1 (λi c v I Z=>hc.2.2 i c v I (by rwa [fF]at Z)) (by lia) (.inl rfl) (a:=[]) rfl (by lia) none none none;rw[show((0:Nat):Int)=0 from rfl]at G;rcases G with ⟨L',S',B⟩|⟨W,q8',q9',q10',o,I,Z,B⟩
 .refine⟨.non,.inl rfl,?_⟩;rw[jk,aU];simp only[dX]at B;simp[-dG,gi,ou,Ge,e1,e2,Mw,B]
 .refine⟨.tup W,.inr ⟨W,⟨I,Z⟩,rfl⟩,?_⟩;rw[jk,aU];simp only[dX,eR]at B;have t1:toP 9 (.ref 1) [o,.lst (W.map .p)]=some (.lst W,[o,.fz (.lst W)]):=fK rfl;simp[-dG,gi,ou,Ge,e1,e2,Mw,B,t1,eY]
def ol(B:BD)(t:Nat)(y:P):Prop:=∃s r,y=.tup [.tup s,.tup r]/\s.length=t/\(∀a ∈ s,isI a)/\bU B r
structure GS(B:BD)(K:List b0)(V:List P) extends GC B where
 kv:Nat
 hkv:b≤kv
 hk:S0[kv]? = some (.fz (.dct K V))
abbrev FL(i k r:Nat)(hd t m A:P)(d f b c q h:Option D)(x a e s n:Option D):Lc:=[qr i,qp hd,qp t,qr k,qp m,qp A,d,f,b,c,q,h,qr r,x,a,e,s,n]
theorem R7{B:BD}(q:BP B)(Q:Places B){n:Nat}{K:List b0}{V:List P}(hd:Nat)(v:Int){m:Str}(hm:aW m=true)(hA:LH B hd (.tup [.str m,.int v])){t:Nat}(ht:t≤10){k:List P}(has:k.length=t)(X:∀a ∈ k,isI a){r:List P}(hr:bU B r)(C F A:P)(l o H x:Option D){dl:Nat}(hdl:dl≤1){y:P}(hy:Jk dl y) :
  ∃ys:List P,ys.length≤1/\(∀z ∈ ys,ol B (t+dl) z)/\∀(G:GS B K V)(L:Lc)(S:U)(c:List P),(∃d i j s,L=FL G.i G.kv G.r (.int (hd:Int)) C F A d l o H x (qt [.str m,.int v]) (qt k) (qt r) i j s)->Fr G.b G.S0 S->S[G.r]? = some (.lst (c.map .p))->c.length+1≤1000 ->
   ∃L1 L2 w,bF [av 15,av 16] y L=some L1/\gM (Ph (n+3)) L1 S=some (.nx,L2,w)/\(∃d i j s,L2=FL G.i G.kv G.r (.int (hd:Int)) C F A d l o H x (qt [.str m,.int v]) (qt k) (qt r) i j s)/\Fr G.b G.S0 w/\w[G.r]? = some (.lst ((c++ys).map .p)):=by
 obtain⟨f,E,rfl,hbl,Z,hti⟩:=hy;obtain⟨ans,T,ep⟩:=HD q Q (n:=n) hd v hm hA hti hr;have N:=jn (xs:=k) (c:=f) (by lia);rcases T with rfl|⟨p,hr',rfl⟩
 .refine⟨[],by simp,λ_ h=>(by cases h),λG L S c I R W hM=>?_⟩;obtain⟨d,i,j,s,rfl⟩:=I;obtain⟨w,e,u⟩:=FU (b:=G.b) (g:=Ph (n+3) "posted") (q:=JE fJ (ak 14) ka (ak 16) (ak 11)) (L:=FL G.i G.kv G.r (.int (hd:Int)) C F A d l o H x (qt [.str m,.int v]) (qt k) (qt r) (qt f) (ql E) s) (S:=S) (l:=[.ref G.i,.p (.tup r),.p (.int (hd:Int)),.p (.lst E),.p (.tup [.str m,.int v])]) rfl (ep G.b G.i S (G.bd.fr R)) (Fr.refl _ _);refine⟨FL G.i G.kv G.r (.int (hd:Int)) C F A d l o H x (qt [.str m,.int v]) (qt k) (qt r) (qt f) (ql E) s,FL G.i G.kv G.r (.int (hd:Int)) C F A d l o H x (qt [.str m,.int v]) (qt k) (qt r) (qt f) (ql E) (qp .non),w,rfl,?_,⟨_,_,_,_,rfl⟩,R.trans u,?_⟩
  .refine (aq (e:=FL G.i G.kv G.r (.int (hd:Int)) C F A d l o H x (qt [.str m,.int v]) (qt k) (qt r) (qt f) (ql E) (qp .non)) (c:=w) ?_).trans ?_
   .rw [aC,O,e];rfl
   .simp [dw,eC]
  .rw [cZ];exact u.hi _ _ (au G.le G.hr) W
 .refine⟨[.tup [.tup (k++f),.tup p]],by simp,λz hz=>⟨k++f,p,by simpa using hz,by rw[aX];lia,λa ha=>(bE.mp ha).elim (X a) (Z a),hr'⟩,λG L S c I R W hM=>?_⟩;obtain⟨d,i,j,s,rfl⟩:=I;obtain⟨w,e,u⟩:=FU (b:=G.b) (g:=Ph (n+3) "posted") (q:=JE fJ (ak 14) ka (ak 16) (ak 11)) (L:=FL G.i G.kv G.r (.int (hd:Int)) C F A d l o H x (qt [.str m,.int v]) (qt k) (qt r) (qt f) (ql E) s) (S:=S) (l:=[.ref G.i,.p (.tup r),.p (.int (hd:Int)),.p (.lst E),.p (.tup [.str m,.int v])]) rfl (ep G.b G.i S (G.bd.fr R)) (Fr.refl _ _);have M:=u.hi _ _ (au G.le G.hr) W;refine⟨FL G.i G.kv G.r (.int (hd:Int)) C F A d l o H x (qt [.str m,.int v]) (qt k) (qt r) (qt f) (ql E) s,FL G.i G.kv G.r (.int (hd:Int)) C F A d l o H x (qt [.str m,.int v]) (qt k) (qt r) (qt f) (ql E) (qt p),w.set G.r (.lst ((c++[P.tup [.tup (k++f),.tup p]]).map .p)),rfl,?_,⟨_,_,_,_,rfl⟩,(R.trans u).set G.le G.hr _,km M⟩;refine(aq (e:=FL G.i G.kv G.r (.int (hd:Int)) C F A d l o H x (qt [.str m,.int v]) (qt k) (qt r) (qt f) (ql E) (qt p)) (c:=w) ?_).trans ?_
  .rw [aC,O,e];rfl
  .rw [dG];have hc:(bV (dF dw (ak 17) (O (vC .non)))) (FL G.i G.kv G.r (.int (hd:Int)) C F A d l o H x (qt [.str m,.int v]) (qt k) (qt r) (qt f) (ql E) (qt p)) w=some (true,w):=by simp[dw,eC]
   rw[hc,am,ac rfl];exact pM rfl M (by simp[N]) M (by lia)
theorem R6{B:BD}(q:BP B)(Q:Places B){n:Nat}{K:List b0}{V:List P}{hd:Nat}{E:Str}{C:Nat}{l u j H:List P}(s:Fam B.roads E C l u j H)(a:(bq B.fams)[hd]? = some (lJ E C l u j H)){A:List P}(hw:A.length=j.length)(I:∀w ∈ A,isI w){h e:Str}
  (hc:(h="who"/\P.str e ∈ j)\/((h="all"\/h="any")/\∃r ∈ B.roads,rA r=E/\e=rB r)) (v:Int) {m:Str} (hm:aW m=true) (hA:LH B hd (.tup [.str m,.int v])) {t:Nat} (ht:t≤10) (sn Z:P) (T X:Option D) {W:List P} (hW:∀y ∈ W,ol B t y) :
  ∃(ys:List P)(dl:Nat),dl≤1/\ys.length≤4 * W.length/\(∀z ∈ ys,ol B (t+dl) z)/\∀(G:GS B K V)(L:Lc)(S:U)(F:List P),(∃N i o k p d,L=FL G.i G.kv G.r (.int (hd:Int)) sn Z (.tup A) N T X (qs h) (qs e) (qt [.str m,.int v]) i o k p d)->Fr G.b G.S0 S->S[G.r]? = some (.lst (F.map .p))->F.length+4 * W.length≤1000 ->
   ∃L' S',b_ (bF [av 13,av 14]) (ff (Ph (n+4))) W L S=some (.nx,L',S')/\(∃N i o k p d,L'=FL G.i G.kv G.r (.int (hd:Int)) sn Z (.tup A) N T X (qs h) (qs e) (qt [.str m,.int v]) i o k p d)/\Fr G.b G.S0 S'/\S'[G.r]? = some (.lst ((F++ys).map .p)):=by
 obtain⟨tg,dl,hdl,h1,h2,h3⟩:=tg_ok q (n:=n) s a hw I hc;obtain⟨f,f1,f2,f3⟩:=dP (t:=GS B K V) (c:=4) (M:=1000) (g:=bF [av 13,av 14]) (b:=ff (Ph (n+4))) (s:=W) (Sp:=fun G S=>Fr G.b G.S0 S) (r:=fun G=>G.r) (R:=fun _ ys=>∀z ∈ ys,ol B (t+dl) z) (p:=fun G L=>∃N i o k p d,L=FL G.i G.kv G.r (.int (hd:Int)) sn Z (.tup A) N T X (qs h) (qs e) (qt [.str m,.int v]) i o k p d) (fun x hx=>by
  obtain⟨as,rs,rfl,ha1,ha2,hr⟩:=hW x hx;obtain⟨g,k1,k2,k3⟩:=dP (t:=GS B K V) (c:=1) (M:=1000) (g:=bF [av 15,av 16]) (b:=gM (Ph (n+4))) (s:=tg) (Sp:=λG S=>Fr G.b G.S0 S) (r:=λG=>G.r) (R:=λ_ ys=>∀z ∈ ys,ol B (t+dl) z) (p:=λG L=>∃N k p d,L=FL G.i G.kv G.r (.int (hd:Int)) sn Z (.tup A) N T X (qs h) (qs e) (qt [.str m,.int v]) (qt as) (qt rs) k p d)
   (λy hy=>by exact R7 q Q (n:=n+1) (K:=K) (V:=V) hd v hm hA ht ha1 ha2 hr sn Z (.tup A) T X (qs h) (qs e) hdl (h2 y hy))
  refine⟨tg.flatMap g,by lia,λz hz=>?_,λG L S F hLp fr hS hM=>?_⟩
  .obtain⟨y,hy,hz⟩:=bR.mp hz;exact k2 y hy z hz
  obtain⟨N,i,o,k,p,d,rfl⟩:=hLp;obtain⟨S1,e1,fr1⟩:=h3 G.b G.i S (G.bd.fr fr);obtain⟨S2,e2,fr2⟩:=FU (b:=G.b) (g:=Ph (n+4) "targets_of") (q:=JE fJ ka (ak 9) oG (ak 5)) (L:=FL G.i G.kv G.r (.int (hd:Int)) sn Z (.tup A) N T X (qs h) (qs e) (qt [.str m,.int v]) (qt as) (qt rs) k p d) (S:=S) (l:=[.ref G.i,.p (.int (hd:Int)),.p (.str h),.p (.str e),.p (.tup A)]) rfl e1 fr1;obtain⟨L',S',e3,hL',fr3,h4⟩:=k3 G _ S2 F ⟨N,k,p,d,rfl⟩ (fr.trans fr2) (fr2.hi _ _ (au G.le G.hr) hS) (by lia);obtain⟨d6',q15',q16',q17',rfl⟩:=hL';refine⟨FL G.i G.kv G.r (.int (hd:Int)) sn Z (.tup A) N T X (qs h) (qs e) (qt [.str m,.int v]) (qt as) (qt rs) k p d,FL G.i G.kv G.r (.int (hd:Int)) sn Z (.tup A) d6' T X (qs h) (qs e) (qt [.str m,.int v]) (qt as) (qt rs) q15' q16' q17',S',rfl,?_,⟨_,_,_,_,_,_,rfl⟩,fr3,h4⟩;unfold ff;rw[cw,jc,e2];exact e3)
 refine⟨W.flatMap f,dl,hdl,f1,λz hz=>?_,f3⟩;obtain⟨x,hx,hz⟩:=bR.mp hz;exact f2 x hx z hz
theorem DN(r:Fr b x S)(e:b≤x.length)(h:rg x S d W):∃a,toP 9 d (S++[.lst []])=some (.lst W,a)/\Fr b x a/\a[S.length]? = some (.lst []):=by
 have f:=r.trans (Fr.app b S [.lst []]);rcases h with rfl|⟨k,hk,rfl,h⟩
 .exact⟨_,by simp,f,gy _ _⟩
 .have l:=h.lt;refine⟨_,(h.fr (Fr.app b S [.lst []])).frz,f.set e hk _,?_⟩;rw[aP (by lia)];exact gy _ _
section
variable{B:BD}(q:BP B)(Q:Places B){n:Nat}{K:List b0}{V:List P}{hd:Nat}{E:Str}{C:Nat}{l u j H:List P}(s:Fam B.roads E C l u j H)(a:(bq B.fams)[hd]? = some (lJ E C l u j H)){A:List P}(hw:A.length=j.length)(I:∀w ∈ A,isI w){N:List P}(p:∀x ∈ N,j6 x)(f:kI N K V)
include q Q s a hw I p f
theorem Rq(h rd:P):∀{sn:List P},(∀c ∈ sn,isSend E B.roads j N c/\∀v k,cG (Ph (k+4) "value_of") [gF c 1,.dct K V]=some (.int v)->LH B hd (.tup [gF c 0,.int v]))->∀{t:Nat},t+sn.length≤10->∀{W:List P},(∀y ∈ W,ol B t y)->4 ^ sn.length * W.length≤900 ->
  ∃(ys:List P)(T:Nat),T≤t+sn.length/\ys.length≤4 ^ sn.length * W.length/\(∀y ∈ ys,ol B T y)/\∀(b i:Nat)(z S:U)(e:Nat)(G:D)(q7 q8 q9 q10 H F d w u g l:Option D),Bd B b i z->b≤e->z[e]? = some (.fz (.dct K V))->Fr b z S->rg z S G W ->
   ∃L' S' d',b_ (bF [av 7,av 8,av 9,av 10]) (gL (Ph (n+5))) sn [qr i,qi (hd:Int),qp h,qr e,qp rd,qt A,some G,q7,q8,q9,q10,H,F,d,w,u,g,l] S=some (.nx,L',S')/\L'[6]? = some (some d')/\Fr b z S'/\rg z S' d' ys
 | [],_,t,_,W,hW,_=>⟨W,t,by simp,by simp,hW,λb i z S e G q7 q8 q9 q10 H F d w u g l _ _ _ fr ha=>⟨_,S,G,rfl,rfl,fr,ha⟩⟩
 |c::sn,hs,t,ht,W,hW,hWl=>by
  simp only[aV]at ht;rw[aV,o_,pa]at hWl;have h4:4 * W.length≤900:=au (Nat.le_mul_of_pos_left _ (Nat.pow_pos (by decide))) hWl;obtain⟨⟨m,tr,C,o,hm,_,hsum,hcw,rfl⟩,hA⟩:=hs c aH;obtain⟨v,ev⟩:=p_ p f hsum (n:=n+1);obtain⟨ys,dl,hdl,h1,h2,h3⟩:=R6 q Q (n:=n+1) (K:=K) (V:=V) s a hw I hcw v hm (hA v _ ev) (t:=t) (by lia) h rd (qs m) (qp tr) hW;obtain⟨zs,T,hT,k1,k2,k3⟩:=Rq h rd (sn:=sn) (λx hx=>hs x (aG _ hx)) (t:=t+dl) (by lia) (W:=ys) h2 (au (pb _ h1) hWl);refine⟨zs,T,by simp only[aV];lia,?_,k2,λb i z S e G q7 q8 q9 q10 H F d w u g l hB hkv hk fr ha=>?_⟩
  .rw [aV,o_,pa];exact au k1 (pb _ h1)
  .obtain⟨S1,e1,fr1,hS1⟩:=DN fr hB.le ha;obtain⟨L2,S2,e2,⟨d6',L,M,R,X,Z,rfl⟩,fr2,hS2⟩:=h3 { b:=b,i:=i,S0:=z,r:=S.length,bd:=hB,hr:=fr.len,kv:=e,hkv:=hkv,hk:=hk } (FL i e S.length (.int (hd:Int)) h rd (.tup A) (some G) (qs m) (qp tr) (qs C) (qs o) (qt [.str m,.int v]) d w u g l) S1 [] ⟨_,_,_,_,_,_,rfl⟩ fr1 hS1 (by simp;lia);obtain⟨L',S',d',e3,h5,fr3,ha3⟩:=k3 b i z S2 e (.ref S.length) (qs m) (qp tr) (qs C) (qs o) (qt [.str m,.int v]) (qr S.length) L M R X Z hB hkv hk fr2 (.inr ⟨S.length,fr.len,rfl,.inl hS2⟩);refine⟨L',S',d',?_,h5,fr3,ha3⟩;refine(cz (h:=[qr i,qi (hd:Int),qp h,qr e,qp rd,qt A,some G,qs m,qp tr,qs C,qs o,H,F,d,w,u,g,l]) rfl ?_).trans e3;have tv:toP 9 (.ref e) S=some (.dct K V,S):=by
    have:=fr.hi _ _ hkv hk;simp[toP,this]
   unfold gL;rw[aq (by simp[tv,ev];exact⟨rfl,rfl⟩)];rw[aq (by simp;exact⟨rfl,rfl⟩)];refine(aq (e:=FL i e S.length (.int (hd:Int)) h rd (.tup A) d6' (qs m) (qp tr) (qs C) (qs o) (qt [.str m,.int v]) L M R X Z) (c:=S2) ?_).trans ?_
   .rw [cw,jc];show bI (bI (toP 9 G (S++[.lst []])) _) _=_;rw[e1];exact e2
   .rfl
theorem Nl(R:∀c ∈ g,isSend E B.roads j N c/\∀v k,cG (Ph (k+4) "value_of") [gF c 1,.dct K V]=some (.int v)->LH B hd (.tup [gF c 0,.int v]))(l:g.length≤3)(M:bU B r) :
  ∃(w:List P)(T:Nat),w.length≤64/\(∀y ∈ w,ol B T y)/\∀(b i:Nat)(S:U)(m:Nat),Bd B b i S->b≤m->S[m]? = some (.fz (.dct K V)) ->
   ∃d x,Ph (n+6) "sendings" [.ref i,.p (.int (hd:Int)),.p (.lst g),.ref m,.p (.tup r),.p (.tup A)] S=some (d,x)/\Fr b S x/\rg S x d w:=by
 have hp:4 ^ g.length≤64:=by have:=tP (show 0 < 4 by decide) l;simpa using this
 obtain⟨w,T,_,H,F,C⟩:=Rq q Q (n:=n) s a hw I p f (.lst g) (.tup r) R (t:=0) (by lia) (W:=[.tup [.tup [],.tup r]]) (λy X=>⟨[],r,by simpa using X,by simp,λ_ h=>(by cases h),M⟩) (by simp;lia);simp only[pB,Nat.mul_one]at H;refine⟨w,T,by lia,F,λb i S m G u hk=>?_⟩
 .obtain⟨Z,x,z,e,D,o,L⟩:=C b i S S m (.p (.lst [.tup [.tup [],.tup r]])) none none none none none none none none none none none G u hk (Fr.refl _ _) (.inl rfl);refine⟨z,x,?_,o,L⟩;rw[uY];simp[mP,m9,e,D]
end
end My
namespace My
open PySem L2 Ev
def WH(B:BD)(hd:Nat)(w:P):Prop:=w=.int (-1)\/∃(s:Nat)(d:D),w=.int (s:Int)/\cy [.inl (s:Int),.inl (hd:Int)] B.ks B.vs=some d
theorem WH.isI{B:BD}{hd:Nat}{w:P}(h:WH B hd w):isI w:=by rcases h with rfl|⟨s,_,rfl,_⟩<;>exact⟨_,rfl⟩
inductive HandOk(B:BD)(hd:Nat)(f x:P):Prop
 |mk (nm:Str) (crew:Nat) (rooms cells whos steps:List P) (h0:f=lJ nm crew rooms cells whos steps) (r:Nat) (cs ws:List P):x=.tup [.int (r:Int),.tup cs,.tup ws]->r < rooms.length->CellsOk cells cs->ws.length=whos.length->(∀w ∈ ws,WH B hd w)->HandOk B hd f x
structure StL(B:BD)(hs rds:List P):Prop where
 hl:hs.length=(bq B.fams).length
 hh:∀(k:Nat) f x,(bq B.fams)[k]? = some f->hs[k]? = some x->HandOk B k f x
 hr:bU B rds
def j0(B:BD)(st:P):Prop:=∃h r,st=.tup [.tup h,.tup r]/\StL B h r
theorem StL.put(h:StL B m d)(s:(bq B.fams)[k]? = some f)(c:HandOk B k f b)(r:bU B t):StL B (m.set k b) t:=by
 refine⟨by rw[c_];exact h.hl,λi n x e a=>?_,r⟩;by_cases q:k=i
 .subst q;rw[s]at e;cases e;rw[bv (by rw[h.hl];exact bA s)]at a;cases a;exact c
 .rw [aP q]at a;exact h.hh i n x e a
def Im(B:BD)(hd:Nat)(x:Str)(y z:P):Prop:=∃s e,z=.tup [.tup [.str "step",.int (hd:Int),.str x,y,.tup s],e]/\(∀a ∈ s,isI a)/\j0 B e
def IC(h:List P)(hd:Nat)(x:Str)(y w:P):P:=.tup [.tup [.str "step",.int (hd:Int),.str x,y,gF w 0],.tup [.tup h,gF w 1]]
abbrev SL(i:Nat)(st hd step y f r:P)(n k b q h x a e s:Option D):Lc:=[qr i,qp st,qp hd,qp step,qp y,qp f,qp r,n,k,b,q,h,x,a,e,s]
theorem LF{c:List P}{K:List b0}{V:List P}(f:kI (nN c) K V){s:List b0}{n:List P}{z:Int}(m:z.natAbs≤999)(h:∀k,bW k s n=if (.inr "it":b0)=k then some (.int z) else bW k K V):kI (nN c++[.str "it"]) s n:=λx a=>by
 by_cases q:("it":Str)=x
 .exact⟨z,m,by rw[h,ac (by rw[q])]⟩
 .rcases bE.mp a with a|a
  .obtain⟨i,b,e⟩:=f x a;exact⟨i,b,by rw[h,af λw=>q (gW w)];exact e⟩
  .exact absurd (P.str.inj (cC.mp a)).symm q
theorem ja:∀{x:List (List f)}{s:List f},s.length=x.length->(∀(i:Nat) a y,x[i]? = some a->s[i]? = some y->y ∈ a)->s ∈ eK x
 | [],s,l,_=>by cases g9 l;simp[eK]
 |a::x,[],l,_=>by cases l
 |a::x,y::s,l,h=>by unfold eK;refine bR.mpr ⟨y,h 0 a y rfl rfl,aY.mpr ⟨s,ja (Nat.succ.inj l) λi k z e n=>h (i+1) k z (by simpa using e) (by simpa using n),rfl⟩⟩
theorem FP(h:CellsOk e s):s ∈ gD e:=by
 refine ja (by rw[aQ];exact h.1) λi k y x n=>?_;rw[bY]at x;cases a:e[i]? with
 |none=>rw[a]at x;cases x
 |some c=>rw[a]at x;cases x;exact h.2.2 i c y a n
theorem Nj{B:BD}(hP:BP B){n:Nat}{hd:Nat}{nm:Str}{N:Nat}{G a E I:List P}(Z:Fam B.roads nm N G a E I){u:List P}(hc:CellsOk a u){d:List P}(hr:bU B d){M y:P}(ht:jO nm B.roads E M)(hy:(M=.non/\y=.non)\/(M≠.non/\LetOk B d hd y)) :
  ∃(K:List b0)(V C:List P),kI (nN a++more M) K V/\(∀x:Str,P.str x ∈ nN a->bW (.inr x) K V=bW (.inr x) (cI a) u)/\bU B C/\∀(b i:Nat)(S:U)(st step f r:P)(H F g t p v w:Option D),Bd B b i S->∃X,
   dG (bV (dF dw AQ (O (vC (.non))))) (ai (aC 11 (wF (dR (aT Att) fJ "places") (v2 (ae kg eB) fZ)))
    (ai (i8 oG (vt "it") (ae (ae (ae mw k9) (ae kg dh)) dh))
    (aC 9 (O (cx (Ph (n+2) "replaced") (v3 mw k9 (cx (Ph (n+2) "without") (v2 (ae mw k9) (ae kg dh))))))))) fY
    (SL i st (.int (hd:Int)) step y f r H F (qt d) (qr S.length) g t p v w) (S++[.dct (cI a) (u.map .p)])=some (.nx,SL i st (.int (hd:Int)) step y f r H F (qt C) (qr S.length) X t p v w,S++[.dct K (V.map .p)]):=by
 have A:=uO hc;rcases hy with ⟨rfl,rfl⟩|⟨W,s,j,k,L,rfl,hg,hk,T,o,hsp⟩
 .exact⟨cI a,u,d,by simpa[more] using A,λ_ _=>rfl,hr,λb i S st step f r H F g t p v w hB=>⟨g,by simp[dw,eC]⟩⟩
 .have hm:more M=[.str "it"]:=by
   cases M with
   |non=>exact absurd rfl W
   |_=>rfl
  have hls3:=o.1;have Q:L[j]? = some L[j]:=bg hsp;obtain⟨m,z,_,hz,hzl⟩:=(o.2 L[j] (gZ _)).1;rw[hzl]at Q;have hkl:(cI a).length=u.length:=by rw[hc.1];simp[cI]
  obtain⟨K,V,e,h1,h2,h3,h4,h5⟩:=vc (.inr "it") (.int z) (cI a) u (kr Z.hce) hkl;have ew:=I0 (n:=n) (xs:=L) (k:=j) (by lia);have hpl:=vn hP;have hrl:=hr.1;have er:=qz (n:=n) (xs:=d) (k:=k) hk (by lia) (.tup (L.eraseIdx j));have hcl:=Z.cl;have R:(cI a).length≤1000000:=by have:=hc.1;lia
  refine⟨K,V,d.set k (.tup (L.eraseIdx j)),by rw[hm];exact LF A hz h5,λx hx=>by rw[h5,af];intro q;obtain⟨c,hc',e'⟩:=aY.mp hx;obtain⟨y,_,_,_,_,_,_,_,h9,rfl⟩:=Z.hce.1 c hc';have e':y=x:=P.str.inj e';have q:("it":Str)=x:=gW q;rw[e',<- q]at h9;exact h9.2.2 (by decide +kernel),hr.set k ⟨au (z0 ..) o.1,λl h=>o.2 l (z3 h)⟩,λb i S st step f r H F g t p v w hB=>⟨qi (k:Int),?_⟩⟩
  obtain⟨jh,jp,jl,jm,mk,mv,h⟩:=hB.fr (Fr.app b S [.dct (cI a) (u.map .p)]);rw[dG];have hcn:(bV (dF dw AQ (O (vC (.non))))) (SL i st (.int (hd:Int)) step (.tup [.int (s:Int),.int (j:Int)]) f r H F (qt d) (qr S.length) g t p v w) (S++[.dct (cI a) (u.map .p)])=some (true,S++[.dct (cI a) (u.map .p)]):=by simp[dw,eC]
  rw[hcn,am,ac rfl];refine(aq (e:=SL i st (.int (hd:Int)) step (.tup [.int (s:Int),.int (j:Int)]) f r H F (qt d) (qr S.length) (qi (k:Int)) t p v w) (c:=S++[.dct (cI a) (u.map .p)]) ?_).trans ?_
  .rw [aC,wF,h.places rfl];simp[lD,h.pl,dv,cP,hg]
  refine(aq (e:=SL i st (.int (hd:Int)) step (.tup [.int (s:Int),.int (j:Int)]) f r H F (qt d) (qr S.length) (qi (k:Int)) t p v w) (c:=S++[.dct K (V.map .p)]) ?_).trans ?_
  .have e2:xK oG (vt "it") (ae (ae (ae mw k9) (ae kg dh)) dh) (SL i st (.int (hd:Int)) step (.tup [.int (s:Int),.int (j:Int)]) f r H F (qt d) (qr S.length) (qi (k:Int)) t p v w) (S++[.dct (cI a) (u.map .p)])=some (.nx,SL i st (.int (hd:Int)) step (.tup [.int (s:Int),.int (j:Int)]) f r H F (qt d) (qr S.length) (qi (k:Int)) t p v w,S++[.dct K (V.map .p)]):=by
    simp[xK,bN T,bN Q,mI,cP,kr Z.hce,R,e]
   unfold i8;rw[e2]
  .simp [bN T,ew,er]
theorem Ni{B:BD}(hP:BP B)(hL:Places B){n:Nat}{hd:Nat}{nm:Str}{N:Nat}{o l u p:List P}(hF:Fam B.roads nm N o l u p)(hf:(bq B.fams)[hd]? = some (lJ nm N o l u p)){r:Nat}{cs ws:List P}(hr1:r < o.length)(Z:CellsOk l cs)(hwl:ws.length=u.length)(hwi:∀w ∈ ws,WH B hd w){a:List P}(hrd:bU B a){x:Str}(hx:aW x=true){rm wh tk:P}{chg sn:List P}{rm2:P}(C:Stp nm o l u B.roads rm wh tk chg sn rm2)(hsm:fA x rm wh tk chg sn rm2 ∈ p){y:P}(hy:(tk=.non/\y=.non)\/(tk≠.non/\LetOk B a hd y)){A:List P}(hS:StL B A a)(hhx:A[hd]? = some (.tup [.int (r:Int),.tup cs,.tup ws])) :
  ∃E:List P,E.length≤64/\(∀z ∈ E,Im B hd x y z)/\∀(b i:Nat)(S:U),Bd B b i S->∃d S',Ph (n+8) "step_ends" [.ref i,.p (.tup [.tup A,.tup a]),.p (.int (hd:Int)),.p (fA x rm wh tk chg sn rm2),.p y] S=some (d,S')/\Fr b S S'/\rg S S' d E:=by
 obtain⟨K,V,F,he,hag,hr',eit⟩:=Nj hP (n:=n+5) hF Z hrd C.htk hy;obtain⟨ans,hans,ecb⟩:=Oz (n:=n+1) hF Z (x:=x) C he;have hy2:(tk=.non/\y=.non)\/(tk≠.non/\∃s sp:Nat,y=.tup [.int (s:Int),.int (sp:Int)]/\WH B hd (.int (s:Int))):=by
  rcases hy with h|⟨h1,s,sp,_,_,e,hg,_⟩
  .exact .inl h
  .exact .inr ⟨h1,s,sp,e,.inr ⟨s,_,rfl,hg⟩⟩
 obtain⟨I,hwl',hwi',ewb⟩:=MW (n:=n+4) hF hwl hwi C.htk hy2;have hN:=qD hF.hce.1;have hsnd:∀c ∈ sn,isSend nm B.roads u (nN l) c/\∀v k,cG (Ph (k+4) "value_of") [gF c 1,.dct K V]=some (.int v)->LH B hd (.tup [gF c 0,.int v]):=fun c hc=>⟨C.hsn c hc,fun v k ev=>by
  obtain⟨m,tr,way,nm2,_,_,hsum,_,rfl⟩:=C.hsn c hc;obtain⟨r0,e1,e2⟩:=BW hN (uO Z) hag hsum;have:v=r0:=by have:=ev.symm.trans (e2 k);simpa using this
  subst this;refine⟨_,hf,bR.mpr ⟨_,hsm,bR.mpr ⟨_,hc,aY.mpr ⟨cs,FP Z,?_⟩⟩⟩⟩;have e3:=e1 2;simp only[NQ,P2];exact cX (λz=>P.tup [.str m,z]) (by show(cG (Ph 6 "value_of") [tr,.dct (cI l) cs]).getD .non=_;rw[e3];rfl)⟩
 obtain⟨W,T,hW1,hW2,esd⟩:=Nl hP hL (n:=n+1) hF hf hwl' (λw h=>(hwi' w h).isI) hN (λx hx=>he x (iF _ hx)) hsnd (au C.sl (by decide)) hr';let step:P:=fA x rm wh tk chg sn rm2
 let t:P:=lJ nm N o l u p
 have pre:∀(b i:Nat) (S:U),Bd B b i S->∃q,∀g:ES,(ai (aC 5 (dQ (mT Tb (Ph (n+7))) fJ "family_of" (JF jH)))
   (ai (xJ (bF [av 6,av 7,av 8]) (ae (ae dU eB) fZ))
   (ai (aC 9 (O (ae dU dh)))
   (ai (aC 10 (gK (Ph (n+7) "values_of") (Md (ak 5) (ak 7))))
   (ai (dG (bV (dF dw AQ (O (vC (.non))))) (ai (aC 11 (wF (dR (aT Att) fJ "places") (v2 (ae kg eB) fZ)))
    (ai (i8 oG (vt "it") (ae (ae (ae mw k9) (ae kg dh)) dh))
    (aC 9 (O (cx (Ph (n+7) "replaced") (v3 mw k9 (cx (Ph (n+7) "without") (v2 (ae mw k9) (ae kg dh))))))))) fY) g)))))
   [qr i,qt [.tup A,.tup a],qi (hd:Int),qp step,qp y,none,none,none,none,none,none,none,none,none,none,none] S=g (SL i (.tup [.tup A,.tup a]) (.int (hd:Int)) step y t (.int (r:Int)) (qt cs) (qt ws) (qt F) (qr S.length) q none none none none) (S++[.dct K (V.map .p)]):=λb i S R=>by
  have ef:=yh (n:=n+5) R hf;obtain⟨q,e5⟩:=eit b i S (.tup [.tup A,.tup a]) step t (.int (r:Int)) (qt cs) (qt ws) none none none none none R;obtain⟨jh,jp,jl,jm,mk,mv,h⟩:=R;refine⟨q,λg=>?_⟩;refine(aq (e:=[qr i,qt [.tup A,.tup a],qi (hd:Int),qp step,qp y,qp t,none,none,none,none,none,none,none,none,none,none]) (c:=S) ?_).trans ?_
  .rw [aC,h.meth rfl (O0 _) O6 (l:=[.p (.int (hd:Int))]) (by simp),ef];rfl
  rw[aq (by simp[bN hhx];exact⟨rfl,rfl⟩)];rw[aq (by simp;exact⟨rfl,rfl⟩)];refine(aq (e:=SL i (.tup [.tup A,.tup a]) (.int (hd:Int)) step y t (.int (r:Int)) (qt cs) (qt ws) (qt a) (qr S.length) none none none none none) (c:=S++[.dct (cI l) (cs.map .p)]) ?_).trans ?_
  .rw [aC,gK];show bI (bI (some ([D.p t,D.p (.tup cs)],S)) _) _=_;rw[am,AS (n:=n+5) hF Z S];rfl
  exact aq e5
 have tv:∀S:U,toP 9 (.ref S.length) (S++[.dct K (V.map .p)])=some (.dct K V,S++[.fz (.dct K V)]):=λS=>by have:uN (toP 8) (V.map .p) (S++[.dct K (V.map .p)])=some (V,S++[.dct K (V.map .p)]):=mK ..;simp[toP,this]
 rcases hans with rfl|⟨Q,hcs',rfl⟩
 .refine⟨[],by simp,λ_ h=>(by cases h),λb i S R=>⟨.p (.lst []),S++[.fz (.dct K V)],?_,Fr.app _ _ _,.inl rfl⟩⟩;obtain⟨q,ep⟩:=pre b i S R;rw[lp];show k_ (eN _ [qr i,qt [.tup A,.tup a],qi (hd:Int),qp step,qp y,none,none,none,none,none,none,none,none,none,none,none] S)=_;unfold eN;rw[ep];simp only[t,step]at ecb ⊢;simp[tv,ecb,vr,eC]
 .obtain⟨j,hj,ej⟩:=qK (xs:=o) (s:=rm2) (λz hz=>(hF.hro z hz).ok 19) C.h2;have h4:=jd hP;have hW3:∀w ∈ W,∃as X,w=.tup [.tup as,.tup X]:=λw hw=>by
   obtain⟨as,X,e,_⟩:=hW2 w hw;exact⟨as,X,e⟩
  have hhd:hd < A.length:=by rw[hS.hl];exact bA hf
  have hsl:=hS.hl;have er:=qz (n:=n+5) (xs:=A) (k:=hd) hhd (by lia) (.tup [.int (j:Int),.tup Q,.tup I]);generalize hhs:A.set hd (.tup [.int (j:Int),.tup Q,.tup I])=H at er;have hp:∀X,bU B X->j0 B (.tup [.tup H,.tup X]):=λX hr=>⟨_,_,rfl,hhs ▸ hS.put hf ⟨nm,N,o,l,u,p,rfl,j,Q,I,rfl,hj,hcs',hwl',hwi'⟩ hr⟩;refine⟨W.map (IC H hd x y),by simpa using hW1,λz hz=>?_,λb i S R=>?_⟩
  .obtain⟨w,hw,rfl⟩:=aY.mp hz;obtain⟨as,X,rfl,_,hi,hr⟩:=hW2 w hw;exact⟨as,_,rfl,hi,hp X hr⟩
  have hfm:W.map (IC H hd x y)=W.flatMap λw=>[IC H hd x y w]:=by rw[zM,List.map_eq_flatMap,zM]
  rw[hfm];obtain⟨h1,h3⟩:=lH (i:=GC B) (f:=λw=>[IC H hd x y w]) (g:=bF [av 14,av 15]) (b:=js (Ph (n+7))) (Sp:=λG S=>Fr G.b G.S0 S) (r:=λG=>G.r) (c:=1) (M:=1000) (s:=W)
   (p:=λG L=>∃q q14 q15,L=SL G.i (.tup [.tup A,.tup a]) (.int (hd:Int)) step y t (.int (r:Int)) (qt Q) (qt I) (qt F) (qr G.S0.length) q (qt H) (qr G.r) q14 q15) (λw hw=>by obtain⟨as,X,rfl⟩:=hW3 w hw;refine⟨by simp,λG L S acc hLp fr hS' hM=>?_⟩;obtain⟨q,q14,q15,rfl⟩:=hLp;refine⟨SL G.i (.tup [.tup A,.tup a]) (.int (hd:Int)) step y t (.int (r:Int)) (qt Q) (qt I) (qt F) (qr G.S0.length) q (qt H) (qr G.r) (qt as) (qt X),_,_,rfl,pM rfl hS' (y:=.tup [.tup [.str "step",.int (hd:Int),.str x,y,.tup as],.tup [.tup H,.tup X]]) ?_ hS' (by lia),⟨_,_,_,rfl⟩,fr.set G.le G.hr _,km hS'⟩;simp[step])
  obtain⟨q,ep⟩:=pre b i S R;have frA:=Fr.app b S [.fz (.dct K V),.lst []];have hk0:(S++[SO.fz (.dct K V),.lst []])[S.length]? = some (.fz (.dct K V)):=by simp
  have hk1:(S++[SO.fz (.dct K V),.lst []])[S.length+1]? = some (.lst []):=by simp
  obtain⟨d1,S1,e1,fr1,an1⟩:=esd b i (S++[.fz (.dct K V),.lst []]) S.length (R.fr frA) R.le hk0;have hb1:b≤(S++[SO.fz (.dct K V),.lst []]).length:=au R.le (by simp);obtain⟨S2,e2,fr2⟩:=sO (b:=b) (g:=Ph (n+7) "sendings") (q:=Rj fJ jH (O (ae fX ur)) oG (ak 9) (ak 8)) (L:=SL i (.tup [.tup A,.tup a]) (.int (hd:Int)) step y t (.int (r:Int)) (qt Q) (qt I) (qt F) (qr S.length) q (qt H) (qr (S.length+1)) none none) (S:=S++[.fz (.dct K V),.lst []]) (l:=[.ref i,.p (.int (hd:Int)),.p (.lst sn),.ref S.length,.p (.tup F),.p (.tup I)]) (by simp[step,Nh]) e1 fr1 hb1 an1;obtain⟨L',S',e3,hL',fr3,h5⟩:=h3 ⟨b,i,S,S.length+1,R,by lia⟩ _ S2 [] ⟨q,none,none,rfl⟩ (frA.trans fr2) (fr2.hi _ _ (au R.le (by lia)) hk1) (by simp;lia);obtain⟨q11',q14',q15',rfl⟩:=hL';refine⟨.ref (S.length+1),S',?_,fr3,.inr ⟨S.length+1,by lia,rfl,.inl h5⟩⟩;rw[lp];show k_ (eN _ [qr i,qt [.tup A,.tup a],qi (hd:Int),qp step,qp y,none,none,none,none,none,none,none,none,none,none,none] S)=_;unfold eN;rw[ep];rw[aq (by simp[tv,t,step,ecb];exact⟨rfl,rfl⟩)];rw[aq (by simp[vr,eC];exact⟨rfl,rfl⟩)];rw[aq (by simp[t,step,qo,ewb];exact⟨rfl,rfl⟩)];rw[aq (by simp[t,step,DV,Rz,ej,er];exact⟨rfl,rfl⟩)];rw[aq (by simp;exact⟨rfl,rfl⟩)];rw[aq (by rw[cw,jc,e2];exact e3)];rfl
def okE(B:BD)(z:P):Prop:=∃d e,z=.tup [d,e]/\cE 3 d=true/\j0 B e
theorem Im.okE(h:Im B k x y z)(b:aW x=true)(c:y=.non\/NU y):okE B z:=by
 obtain⟨s,e,rfl,i,f⟩:=h;refine⟨_,_,rfl,?_,f⟩;have o:cE 2 y=true:=by rcases c with e|⟨_,_,e⟩<;>rw[e]<;>simp
 have m:cE 2 (.tup s)=true:=a_.mpr λa n=>(i a n).ok 1;show(List.all [P.str "step",.int (k:Int),.str x,y,.tup s] (cE 2))=true;simp only[dt,pe,o,m,uK,Be,b,pC];decide +kernel
theorem N4{B:BD}(hP:BP B)(hL:Places B){n:Nat}(hn:n=1){hd:Nat}{nm:Str}{l:Nat}{o e v t:List P}(hF:Fam B.roads nm l o e v t)(hf:(bq B.fams)[hd]? = some (lJ nm l o e v t)){r:Nat}{cs ws:List P}(hr1:r < o.length)(hcs:CellsOk e cs)(hwl:ws.length=v.length)(hwi:∀w ∈ ws,WH B hd w){p:List P}(hrd:bU B p){X:List P}(hS:StL B X p)(hhx:X[hd]? = some (.tup [.int (r:Int),.tup cs,.tup ws])) :
  ∃E:List P,E.length≤6144/\(∀z ∈ E,okE B z)/\∀(b i:Nat)(S:U),Bd B b i S->∃d Z,Ph (n+12) "hand_ends" [.ref i,.p (.tup [.tup X,.tup p]),.p (.int (hd:Int))] S=some (d,Z)/\Fr b S Z/\rg S Z d E:=by
 have ev:=BX (n:=n+9) hF hcs;have henv:=uO hcs;have hrg:o[r]? = some o[r]:=bg hr1;obtain⟨rn,hrn,hre⟩:=hF.hro o[r] (gZ _);rw[hre]at hrg;let u:Nat->Nat->Option D->Option D->Lc:=λi r' q9 a=>[qr i,qt [.tup X,.tup p],qi (hd:Int),qp (lJ nm l o e v t),qi (r:Int),qt cs,qt ws,qp (.dct (cI e) cs),qr r',q9,a]
 obtain⟨F,h1,hR,h3⟩:=dP (t:=GC B) (g:=av 9) (b:=ee (Ph (n+11))) (Sp:=fun G S=>Fr G.b G.S0 S) (r:=fun G=>G.r) (R:=fun _ ys=>∀z ∈ ys,okE B z) (c:=768) (M:=10000) (s:=t) (p:=fun G L=>∃q9 a,L=u G.i G.r q9 a) (fun x hx=>by
  obtain⟨I,j,T,N,k,Q,m,hsx,W,rfl⟩:=hF.hst x hx;obtain⟨j,hrm,rfl⟩:=hF.hro j W.h1;obtain⟨hb,eh⟩:=Fp (qD hF.hce.1) henv W.wh (n:=n+2);have C:∀(i r':Nat)(a:Option D)(S:U),(kG (bt (O (ae mw dh)) (O (ae (ae fX fW) kg))) (bT (O (cx (Ph (n+11) "holds") (v2 (ae mw fW) mx))))) (u i r' (qp (fA I (.str j) T N k Q m)) a) S=some (decide (j=rn) && hb,S):=λi r' a S=>by by_cases q:j=rn<;>simp[u,Rz,bN hrg,q,eh]
  cases hc:(decide (j=rn) && hb) with
  |false=>refine⟨[],by simp,λ_ h=>(by cases h),λG L S acc A V H hM=>?_⟩;obtain⟨q9,a,rfl⟩:=A;refine⟨u G.i G.r (qp (fA I (.str j) T N k Q m)) a,u G.i G.r (qp (fA I (.str j) T N k Q m)) a,S,rfl,?_,⟨_,_,rfl⟩,V,by simpa using H⟩;unfold ee;rw[dG,C,hc];rfl
  |true=>
   obtain⟨ls,hl1,hl2,el⟩:=Hh hP hL (n:=n+7) hf hrd W.htk;obtain⟨f,k1,kR,k3⟩:=dP (t:=GC B) (g:=av 10) (b:=ju (Ph (n+11))) (Sp:=λG S=>Fr G.b G.S0 S) (r:=λG=>G.r) (R:=λy zs=>∀z ∈ zs,Im B hd I y z) (c:=64) (M:=10000) (s:=ls) (p:=λG L=>∃a,L=u G.i G.r (qp (fA I (.str j) T N k Q m)) a) (λy hy=>by obtain⟨E,hE,hE2,h⟩:=Ni hP hL (n:=n+3) hF hf hr1 hcs hwl hwi hrd hsx W hx (hl2 y hy) hS hhx;refine⟨E,hE,hE2,λG L S acc A V H hM=>?_⟩;obtain⟨a,rfl⟩:=A;obtain⟨d,S1,e1,fr1,an⟩:=h G.b G.i S (G.bd.fr V);obtain⟨S2,e2,K⟩:=sO (b:=G.b) (g:=Ph (n+11) "step_ends") (q:=JE fJ ka jH (ak 9) oG) (L:=u G.i G.r (qp (fA I (.str j) T N k Q m)) (qp y)) (S:=S) (l:=[.ref G.i,.p (.tup [.tup X,.tup p]),.p (.int (hd:Int)),.p (fA I (.str j) T N k Q m),.p y]) rfl e1 fr1 (au G.le V.len) an;have hS2:=K.hi _ _ (au G.le G.hr) H;exact⟨u G.i G.r (qp (fA I (.str j) T N k Q m)) (qp y),_,_,rfl,mQ rfl H e2 hS2 (by lia),⟨_,rfl⟩,(V.trans K).set G.le G.hr _,km hS2⟩)
   refine⟨ls.flatMap f,by lia,λz hz=>?_,λG L S acc A V H hM=>?_⟩
   .obtain⟨y,hy,hz⟩:=bR.mp hz;refine(kR y hy z hz).okE hsx ?_;rcases hl2 y hy with h|⟨_,s,sp,_,_,h,_⟩
    .exact .inl h.2
    .exact .inr ⟨s,sp,h⟩
   .obtain⟨q9,a,rfl⟩:=A;obtain⟨d,S1,e1,fr1,an⟩:=el G.b G.i S (G.bd.fr V);obtain⟨S2,e2,K⟩:=sO (b:=G.b) (g:=Ph (n+11) "takeable") (q:=Rk fJ (O (ae dU dh)) jH (O (ae mw g_))) (L:=u G.i G.r (qp (fA I (.str j) T N k Q m)) a) (S:=S) (l:=[.ref G.i,.p (.tup p),.p (.int (hd:Int)),.p N]) (by simp[u,qo]) e1 fr1 (au G.le V.len) an;obtain⟨L',Z,e3,⟨q10',rfl⟩,fr3,h5⟩:=k3 G _ S2 acc ⟨a,rfl⟩ (V.trans K) (K.hi _ _ (au G.le G.hr) H) (by lia);refine⟨u G.i G.r (qp (fA I (.str j) T N k Q m)) a,u G.i G.r (qp (fA I (.str j) T N k Q m)) q10',Z,rfl,?_,⟨_,_,rfl⟩,fr3,h5⟩;unfold ee;rw[dG,C,hc];show cw _ _ _ _ _=_;rw[cw,jc,e2];exact e3)
 have hsl:=hF.sl;refine⟨t.flatMap F,by lia,λz hz=>?_,λb i S hB=>?_⟩
 .obtain⟨s,X,hz⟩:=bR.mp hz;exact hR s X z hz
 obtain⟨L',Z,e3,⟨q9,a,rfl⟩,fr3,h5⟩:=h3 ⟨b,i,S,S.length,hB,ag _⟩ (u i S.length none none) (S++[.lst []]) [] ⟨none,none,rfl⟩ (Fr.app _ _ _) (gy _ _) (by simp;lia);refine⟨.ref S.length,Z,?_,fr3,.inr ⟨S.length,ag _,rfl,.inl h5⟩⟩;have ef:=yh (n:=n+9) hB hf;obtain⟨jh,jp,jl,jm,mk,mv,h⟩:=hB;rw[show Ph (n+12) "hand_ends"=mP 3 11 (gw (Ph (n+11))) by subst hn;exact rO];show k_ (gw _ [qr i,qt [.tup X,.tup p],qi (hd:Int),none,none,none,none,none,none,none,none] S)=_;unfold gw;rw[aq (e:=[qr i,qt [.tup X,.tup p],qi (hd:Int),qp (lJ nm l o e v t),none,none,none,none,none,none,none]) (c:=S) (by rw[aC,h.meth rfl (O0 _) O6 (l:=[.p (.int (hd:Int))]) (by simp),ef];rfl)];rw[aq (by simp[bN hhx];exact⟨rfl,rfl⟩)];rw[aq (by simp[ev];exact⟨rfl,rfl⟩)];rw[aq (by simp[u];exact⟨rfl,rfl⟩)];rw[aq (by rw[cw,jc,show(ae fX ur) (u i S.length none none) (S++[.lst []])=some (.lst t,S++[.lst []]) by simp[u,Sv]];exact e3)];rfl
theorem G'{k:Str}{x:List P}{i:Nat}(h:i ∈ BZ k x):i < x.length:=iB.mp (fI.mp h).1
theorem Ha{k:Str}{x:List P}:(BZ k x).length≤x.length:=au (g7 ..) (by simp)
theorem Jp{B:BD}(hP:BP B){n:Nat}(hn:n=8){w:Str}(hw:w="lose"\/w="double"){W u:List P}(hS:StL B W u) :
  ∃E:List P,E.length≤6144/\(∀z ∈ E,okE B z)/\∀(b i:Nat)(S:U),Bd B b i S->∃d N,Ph (n+5) "flaw_ends" [.ref i,.p (.tup [.tup W,.tup u]),.p (.str w)] S=some (d,N)/\Fr b S N/\rg S N d E:=by
 have how:aW w=true:=by rcases hw with rfl|rfl<;>simp
 have hpl:=vn hP;have hrl:=hS.hr.1;let m:Nat->Nat->Option D->Option D->Option D->Option D->Option D->Option D->Option D->Option D->Lc:=λi r' X Z H K A C s e=>[qr i,qt [.tup W,.tup u],qs w,qr r',X,Z,H,K,A,C,s,e]
 obtain⟨F,h1,hR,h3⟩:=dP (t:=GC B) (R:=fun _ ys=>∀z ∈ ys,okE B z) (g:=bF [av 4,av 5]) (b:=ei (Ph (n+4))) (Sp:=fun G S=>Fr G.b G.S0 S) (r:=fun G=>G.r) (c:=3) (M:=10000) (s:=cj 0 B.PR) (p:=fun G L=>∃X Z H K A C s e,L=m G.i G.r X Z H K A C s e) (fun x hx=>by
  obtain⟨k,hk,hxe⟩:=iG.mp hx;obtain⟨p,hp,rfl⟩:=kA (s:=B.PR) (i:=k) (v:=x) (by rw[bg hk,hxe]);obtain⟨road,hro,a,c,rfl⟩:=rc (aZ hp);obtain⟨hkl,l,V,hkr⟩:=hS.hr.at hp;have o:=hP.hr road hro;obtain⟨kd,hkd⟩:∃kd:Str,oP road (.int 2)=some (.str kd):=by obtain⟨ra,rb,kd,c,d1,d2,_,_,_,_,_,rfl⟩:=o;exact⟨kd,by simp⟩
  obtain⟨hfb,ef⟩:=N3 (n:=n+2) hw o l;have eu:=I_ (n:=n+2) kd V;have hul:=Ha (k:=kd) (x:=l);generalize Iu w road l=fb at hfb ef;have hls3:=V.1;have pre:∀(i r':Nat)(H K A C s e:Option D)(S:U)(g:ES),ai (xJ (bF [av 6,av 7,av 8]) pF) (ai (aC 9 (O (ae (ae dU dh) kg))) g) (m i r' (qi (k:Int)) (qp (pr road a c)) H K A C s e) S=g (m i r' (qi (k:Int)) (qp (pr road a c)) (qp road) (qi (a:Int)) (qi (c:Int)) (qt l) s e) S:=λi r' H K A C s e S g=>by
   rw [aq (by simp [m,pr];exact⟨rfl,rfl⟩),
    aq (by simp[m,bN hkr];exact⟨rfl,rfl⟩)]
   rfl
  cases fb with
  |false=>refine⟨[],by simp,λ_ h=>(by cases h),λG L S Q j fr t hM=>?_⟩;obtain⟨X,Z,H,K,A,C,s,e,rfl⟩:=j;refine⟨m G.i G.r (qi (k:Int)) (qp (pr road a c)) H K A C s e,m G.i G.r (qi (k:Int)) (qp (pr road a c)) (qp road) (qi (a:Int)) (qi (c:Int)) (qt l) s e,S,rfl,?_,⟨_,_,_,_,_,_,_,_,rfl⟩,fr,by simpa using t⟩;unfold ei;rw[pre];simp[m,ef]
  |true=>
   obtain⟨f,k1,kR,k3⟩:=dP (t:=GC B) (R:=λ_ zs=>∀z ∈ zs,okE B z) (g:=av 10) (b:=gh (Ph (n+4))) (Sp:=λG S=>Fr G.b G.S0 S) (r:=λG=>G.r) (c:=1) (M:=10000) (s:=cH (BZ kd l)) (p:=λG L=>∃s e,L=m G.i G.r (qi (k:Int)) (qp (pr road a c)) (qp road) (qi (a:Int)) (qi (c:Int)) (qt l) s e) (λy hy=>by obtain⟨sp,hsp',rfl⟩:=aY.mp hy;have hsp:=G' hsp';obtain⟨I,ez⟩:=Ob (n:=n+1) hw V (λq=>hfb q rfl) hsp;have er:=qz (n:=n+2) (xs:=u) (k:=k) hkl (by lia) (.tup (Oa w l sp));generalize Oa w l sp=zs at I ez er;refine⟨[.tup [.tup [.str w,.int (a:Int),.int (c:Int),.int (sp:Int)],.tup [.tup W,.tup (u.set k (.tup zs))]]],by simp,λz hz'=>⟨_,_,cC.mp hz',by simp[how],W,_,rfl,hS.hl,hS.hh,hS.hr.set k I⟩,λG L S Q j fr t hM=>?_⟩;obtain⟨s,e,rfl⟩:=j;refine⟨m G.i G.r (qi (k:Int)) (qp (pr road a c)) (qp road) (qi (a:Int)) (qi (c:Int)) (qt l) (qi (sp:Int)) e,m G.i G.r (qi (k:Int)) (qp (pr road a c)) (qp road) (qi (a:Int)) (qi (c:Int)) (qt l) (qi (sp:Int)) (qt (u.set k (.tup zs))),_,rfl,?_,⟨_,_,rfl⟩,fr.set G.le G.hr _,km t⟩;unfold gh;refine(aq (by simp[m,ez,er])).trans (pM rfl t ?_ t (by lia));simp[m])
   have hnl:(cH (BZ kd l)).length=(BZ kd l).length:=by simp[cH]
   rw[hnl]at k1 k3;refine⟨_,au k1 (by lia),λz I=>?_,λG L S Q j fr t hM=>?_⟩
   .obtain⟨y,hy,I⟩:=bR.mp I;exact kR y hy z I
   obtain⟨X,Z,H,K,A,C,s,e,rfl⟩:=j;obtain⟨L',N,e3,⟨q10',q11',rfl⟩,T,h5⟩:=k3 G _ S Q ⟨s,e,rfl⟩ fr t (by lia);refine⟨m G.i G.r (qi (k:Int)) (qp (pr road a c)) H K A C s e,m G.i G.r (qi (k:Int)) (qp (pr road a c)) (qp road) (qi (a:Int)) (qi (c:Int)) (qt l) q10' q11',N,rfl,?_,⟨_,_,_,_,_,_,_,_,rfl⟩,T,h5⟩;unfold ei;rw[pre];simp only[m]at e3;simp[m,ef,hkd,eu,e3])
 rw[d5]at h1 h3;refine⟨(cj 0 B.PR).flatMap F,by lia,λz I=>?_,λb i S hB=>?_⟩
 .obtain⟨v,hv,I⟩:=bR.mp I;exact hR v hv z I
 have frA:=Fr.app b S [.lst []];obtain⟨jh,jp,jl,jm,mk,mv,h⟩:=hB.fr frA;have frB:=frA.trans (Fr.frz h.bp h.pr);have hb:=hB.le;have hjp:=h.bp;obtain⟨L',N,e3,⟨X,Z,H,K,A,C,s,e,rfl⟩,T,h5⟩:=h3 ⟨b,i,S,S.length,hB,ag _⟩ (m i S.length none none none none none none none none) ((S++[SO.lst []]).set jp (.fz (.lst B.PR))) [] ⟨none,none,none,none,none,none,none,none,rfl⟩ frB (by rw[aP (by lia)];exact gy _ _) (by simp;lia);refine⟨.ref S.length,N,?_,T,.inr ⟨S.length,ag _,rfl,.inl h5⟩⟩;rw[show Ph (n+5) "flaw_ends"=mP 3 12 (gx (Ph (n+4))) by subst hn;exact rQ];show k_ (gx _ [qr i,qt [.tup W,.tup u],qs w,none,none,none,none,none,none,none,none,none] S)=_;unfold gx;rw[aq (by simp[m];exact⟨rfl,rfl⟩)];rw[aq (by rw[cw,lF,vE,h.pairs rfl,am,h.pr.frz];exact e3)];rfl
end My
namespace My
open PySem L2 Ev
theorem Bv:∀{s:List b0}{h:List D},cy k s h=bW k s h
 | [],_=>by cases ‹List D›<;>rfl
 |_::_,[]=>rfl
 |x::s,v::h=>by
  show(if x=k then some v else cy k s h)=if x=k then some v else bW k s h
  rw[Bv]
theorem IA{n c:Nat}{a:List P}{S:U}{d x e:D}(h:S[c]? = some (.ins "Board" fields [.p (.lst a),.ref (c+1),d,x,e]))(t:S[c+1]? = some (.lst ((homes a).map .p))){k:Nat}{f:P}(q:(bq a)[k]? = some f):Ph (n+2) "Board.family_of" [.ref c,.p (.int (k:Int))] S=some (.p f,S):=by
 obtain⟨p,s,b⟩:=sE q;have m:mV (dR (aT Att) (ak 0) "homes") (vE (ak 1)) [some (.ref c),some (.p (.int (k:Int)))] S=some (.p (.int (p:Int)),S):=kH.ix (j:=c+1) (.inl t) (by simp[h,lf,Ib]) rfl (bN s);have r:dR (aT Att) (ak 0) "families" [some (.ref c),some (.p (.int (k:Int)))] S=some (.p (.lst a),S):=by simp[h,lf,Ib]
 rw[gR];show k_ (be _ [some (.ref c),some (.p (.int (k:Int)))] S)=_;rw[be,mV,r,am,vE,m];simp[bN b]
noncomputable def iO(N:LS)(t:Nat)(s:Str):List Nat:=(List.range t).filter λi=>decide (N[i]? = some s)
theorem jR(N:LS)(t:Nat)(s:Str):iO N (t+1) s=if N[t]? = some s then iO N t s++[t] else iO N t s:=by
 unfold iO;rw[List.range_succ,List.filter_append];by_cases h:N[t]? = some s
 .rw [ac h,ue (by simpa using h)];rfl
 .rw [af h,ud (by simpa using h)];simp
theorem yp(a:t≤N.length)(h:s ∉ N.take t):iO N t s=[]:=by
 unfold iO;refine zY.mpr λi x q=>h ?_
 have x:i < t:=iB.mp x;have e:=aJ q;rw[<- g8 x]at e;exact aZ e
theorem vW(T X:U)(k:Nat):(T++X)[T.length+k]? = X[k]?:=by rw[bH (zw _ _),zB]
theorem vX(T X:U)(x:SO):(T++x::X)[T.length]? = some x:=vW T (x::X) 0
theorem K9(T X:U)(k:Nat)(o:SO):(T++X).set (T.length+k) o=T++X.set k o:=by rw[zX _ _ (zw _ _),zB]
theorem Bf(T X:U)(x o:SO):(T++x::X).set T.length o=T++o::X:=K9 T (x::X) 0 o
structure MI(T:U)(fams:List P)(o2 o3:SO)(t:Nat)(mk:List b0)(mv:List D)(S:U):Prop where
 h0:S[T.length]? = some (.ins "Board" fields [.p (.lst fams),.ref (T.length+1),.ref (T.length+2),.ref (T.length+3),.ref (T.length+4)])
 h1:S[T.length+1]? = some (.lst ((homes fams).map .p))
 h2:S[T.length+2]? = some o2
 h3:S[T.length+3]? = some o3
 h4:S[T.length+4]? = some (.dct mk mv)
 nd:mk.Nodup
 ln:mk.length=mv.length
 le:mk.length≤t
 yes:∀s ∈ (a8 fams).take t,∃j,cy (.inr s) mk mv=some (.ref j)/\T.length+5≤j/\S[j]? = some (.lst ((cH (iO (a8 fams) t s)).map .p))
 no:∀s,s ∉ (a8 fams).take t->cy (.inr s) mk mv=none
 lo:∀k,k < T.length->S[k]? = T[k]?
 inj:∀s s' j,cy (.inr s) mk mv=some (.ref j)->cy (.inr s') mk mv=some (.ref j)->s=s'
noncomputable abbrev ML(T:U)(p:P)(q h x:Option D):Lc:=[some (.ref T.length),some (.p p),q,h,x]
set_option tactic.hygienic true in
theorem HZ{T:U}{a:List P}{o2 o3:SO}{t:Nat}{mk:List b0}{m:List D}{S:U}(h:MI T a o2 o3 t mk m S){n:Nat}(ht:t≤100){rs:List P}(L:∀f ∈ a,isFam rs f){f:P}(I:(bq a)[t]? = some f)(l:P)(v d:Option D) :
  ∃V W S',MI T a o2 o3 (t+1) V W S'/\cq (Ph (n+2)) (ML T l v d (some (.p (.int (t:Int))))) S=some (.nx,(ML T l v d (some (.p (.int (t:Int))))),S'):=by
 have N:(a8 a)[t]? = some (a9 f):=by unfold a8;rw[bY,I];rfl
 have htl:t < (a8 a).length:=bA N;have ef:=IA (n:=n) h.h0 h.h1 I;have em:dQ (mT Tb (Ph (n+2))) (ak 0) "family_of" (bB (ak 4) fC) (ML T l v d (some (.p (.int (t:Int))))) S=some (.p f,S):=by rw[dQ];show bI (some (D.ref T.length,S)) _=_;rw[am];simp only[h.h0,O0,O6];exact ef
 have ek:(kh oP (vE (dQ (mT Tb (Ph (n+2))) (ak 0) "family_of" (bB (ak 4) fC))) (vC (.int 0))) (ML T l v d (some (.p (.int (t:Int))))) S=some (.str (a9 f),S):=by obtain⟨nm,c,X,G,whos,steps,_,rfl⟩:=je L (aZ I);rw[kh,vE,em];simp[a9]
 have eo:dR (aT Att) (ak 0) "members" (ML T l v d (some (.p (.int (t:Int))))) S=some (.ref (T.length+4),S):=by simp[h.h0,lf,Ib]
 have l5:T.length+4 < S.length:=bA h.h4;have C:(a8 a).take (t+1)=(a8 a).take t++[a9 f]:=by rw[List.take_add_one,N];rfl
 have p:∀k,k < S.length->(S++[SO.lst []])[k]? = S[k]?:=λk hk=>bL hk;have u:mI (.ref (T.length+4)) S=some (T.length+4,mk,m):=by simp[mI,h.h4]
 have o:mI (.ref (T.length+4)) (S++[.lst []])=some (T.length+4,mk,m):=by simp[mI,p (T.length+4) l5,h.h4]
 have A:(mk.Nodup/\few mk=true):=⟨h.nd,by rw[qR];have:=h.le;lia⟩;by_cases R:a9 f ∈ (a8 a).take t
 .obtain⟨j,F,hj,e2⟩:=h.yes _ R;have M:j < S.length:=bA e2;have K:(S++[SO.lst []])[j]? = some (.lst ((cH (iO (a8 a) t (a9 f))).map .p)):=by rw[p j M];exact e2
  have B:(cH (iO (a8 a) t (a9 f))).length≤1000000:=by have:=g7 (λi=>decide ((a8 a)[i]? = some (a9 f))) (List.range t);simp[cH,iO];simp at this;lia
  refine⟨mk,m,(S++[SO.lst []]).set j (.lst ((cH (iO (a8 a) (t+1) (a9 f))).map .p)),?_,?_⟩
  .have e:∀k,k < S.length->k≠j->((S++[SO.lst []]).set j (.lst ((cH (iO (a8 a) (t+1) (a9 f))).map .p)))[k]? = S[k]?:=λk hk q=>by rw[aP (λz=>q z.symm),p k hk]
   refine⟨by rw[e T.length (by lia) (by lia)];exact h.h0,by rw[e (T.length+1) (by lia) (by lia)];exact h.h1,by rw[e (T.length+2) (by lia) (by lia)];exact h.h2,by rw[e (T.length+3) (by lia) (by lia)];exact h.h3,by rw[e (T.length+4) (by lia) (by lia)];exact h.h4,h.nd,h.ln,by have:=h.le;lia,λs x=>?_,λs x=>?_,λk hk=>by rw[e k (by lia) (by lia)];exact h.lo k hk,h.inj⟩
   .by_cases q:s=a9 f
    .subst q;exact⟨j,F,hj,by rw[bv (by simp;lia)]⟩
    .have g:s ∈ (a8 a).take t:=by
      rw[C]at x;rcases bE.mp x with z|z
      .exact z
      .exact absurd (cC.mp z) q
     obtain⟨y,b,r,H⟩:=h.yes s g;have Q:y≠j:=λz=>q (h.inj s (a9 f) j (z ▸ b) F);refine⟨y,b,r,?_⟩;rw[e y (bA H) Q,jR,af λz=>q (by rw[N]at z;cases z;rfl)];exact H
   .exact h.no s λz=>x (by rw[C];exact iF _ z)
  .unfold cq;rw[b9,bM,mU,eo,am];simp only[u,ek,am];rw[show dE aS (ML T l v d (some (.p (.int (t:Int))))) S=some (.ref S.length,S++[.lst []]) by simp];simp only[am,o,cP,ac A,F,dZ,K];rw[show ak 4 (ML T l v d (some (.p (.int (t:Int))))) (S++[SO.lst []])=some (.p (.int (t:Int)),S++[.lst []]) from rfl,am];simp only[K];rw[ac (by rw[qR,aQ];exact B),jR,ac N];simp[cH]
 .have F:=h.no _ R;obtain⟨g1,g2,g3,g4,E⟩:=k5 (.inr (a9 f):b0) (.ref S.length) mk m h.nd h.ln;have c0:iO (a8 a) t (a9 f)=[]:=yp (by lia) R;refine⟨(di (Sum.inr (a9 f):b0) (.ref S.length) mk m).1,(di (Sum.inr (a9 f):b0) (.ref S.length) mk m).2,((S++[SO.lst []]).set (T.length+4) (SO.dct (di (Sum.inr (a9 f):b0) (.ref S.length) mk m).1 (di (Sum.inr (a9 f):b0) (.ref S.length) mk m).2)).set S.length (.lst [.p (.int (t:Int))]),?_,?_⟩
  .have e:∀k,k < S.length->k≠T.length+4->(((S++[SO.lst []]).set (T.length+4) (.dct (di (.inr (a9 f)) (.ref S.length) mk m).1 (di (.inr (a9 f)) (.ref S.length) mk m).2)).set S.length (.lst [.p (.int (t:Int))]))[k]? = S[k]?:=λk hk q=>by rw[aP (by lia),aP (λz=>q z.symm),p k hk]
   refine⟨by rw[e T.length (by lia) (by lia)];exact h.h0,by rw[e (T.length+1) (by lia) (by lia)];exact h.h1,by rw[e (T.length+2) (by lia) (by lia)];exact h.h2,by rw[e (T.length+3) (by lia) (by lia)];exact h.h3,by rw[aP (by lia),bv (by simp;lia)],g1,g2,by have:=h.le;lia,λs x=>?_,λs x=>?_,λk hk=>by rw[e k (by lia) (by lia)];exact h.lo k hk,λs s' j b r=>?_⟩
   .by_cases q:s=a9 f
    .subst q;refine⟨S.length,by rw[E,ac rfl],by lia,?_⟩;rw[bv (by simp),jR,ac N,c0];rfl
    .have g:s ∈ (a8 a).take t:=by
      rw[C]at x;rcases bE.mp x with z|z
      .exact z
      .exact absurd (cC.mp z) q
     obtain⟨y,b,r,H⟩:=h.yes s g;refine⟨y,by rw[E,af λz=>q (gW z).symm];exact b,r,?_⟩;rw[e y (bA H) (by lia),jR,af λz=>q (by rw[N]at z;cases z;rfl)];exact H
   .rw [E,af λz=>x (by rw[C,<- gW z];simp)];exact h.no s λz=>x (by rw[C];exact iF _ z)
   .have low:∀s j,cy (.inr s) mk m=some (.ref j)->j < S.length:=λs j q=>by
     by_cases w:s ∈ (a8 a).take t
     .obtain⟨y,b,_,H⟩:=h.yes s w;rw[q]at b;cases b;exact bA H
     .rw [h.no s w]at q;cases q
    rw[E]at b r;split at b
    .rename_i z1;cases b;split at r
     .rename_i z2;exact(gW z1).symm.trans (gW z2)
     .exact absurd (low _ _ r) (by lia)
    .split at r
     .cases r;exact absurd (low _ _ b) (by lia)
     .exact h.inj s s' j b r
  .have l1:((S++[SO.lst []]).set (T.length+4) (.dct (di (.inr (a9 f)) (.ref S.length) mk m).1 (di (.inr (a9 f)) (.ref S.length) mk m).2))[S.length]? = some (.lst []):=by
    rw[aP (by lia)];exact gy _ _
   unfold cq;rw[b9,bM,mU,eo,am];simp only[u,ek,am];rw[show dE aS (ML T l v d (some (.p (.int (t:Int))))) S=some (.ref S.length,S++[.lst []]) by simp];simp only[am,o,cP,ac A,F,dZ,l1];rw[show ∀Z:U,ak 4 (ML T l v d (some (.p (.int (t:Int))))) Z=some (.p (.int (t:Int)),Z) from λ_=>rfl,am];simp only[l1];rfl
theorem H0(r:∀f ∈ a,isFam A f)(H:(bq a).length≤100)(p:P)(s c:Option D)(h:MI T a o u 0 [] [] S) :
  ∃mk m x q,MI T a o u (bq a).length mk m x/\b_ (av 4) (cq (Ph (n+2))) (intsFrom 0 (bq a).length) [some (.ref T.length),some (.p p),s,c,none] S=some (.nx,[some (.ref T.length),some (.p p),s,c,q],x):=by
 obtain⟨z,x,e,mk,m,q,I,rfl⟩:=dg (g:=av 4) (b:=cq (Ph (n+2))) (Inv:=λt L S=>∃mk m q,MI T a o u t mk m S/\L=[some (.ref T.length),some (.p p),s,c,q]) (s:=intsFrom 0 (bq a).length) (k:=0) (L:=[some (.ref T.length),some (.p p),s,c,none]) (S:=S) (λi v L S y I=>by obtain⟨rfl,l⟩:=ints_get y;obtain⟨mk,m,q,I,rfl⟩:=I;simp only[cO];rw[fF]at I ⊢;obtain⟨d,w,x,j,e⟩:=HZ I (n:=n) (by lia) r (bg l) p s c;exact⟨_,_,x,rfl,e,d,w,_,j,rfl⟩) ⟨[],[],none,h,rfl⟩
 rw[cJ,fF]at I;exact⟨mk,m,x,q,I,e⟩
theorem wS(e:Pln f o w)(T:U):∃S,Ph (n+4) "Board.__init__" [.ref T.length,.p (.tup [.lst f,.lst o,.lst w])] (T++[.ins "Board" [] []])=some (.p .non,S)/\Bd (iJ f o w) S.length T.length S/\∀k,k < T.length->S[k]? = T[k]?:=by
 let l:P:=.tup [.lst f,.lst o,.lst w]
 let R:=bJ (a8 f) o
 have C:R.length≤2048:=vn (B:=iJ f o w) e;have Q:=jd e;have q:=nS (s:=f);obtain⟨u,g,m⟩:=Js (K:=Ph (n+3)) l (.p (.lst f)) (.ref (T.length+1)) (.ref (T.length+2)) (i:=T.length) (j:=T.length+3) (by lia) R 0 ([],[]) QL (by simp;lia) (λp A=>by obtain⟨r,_,a,b,rfl⟩:=rc (B:=iJ f o w) A;exact⟨r,a,b,rfl⟩) none none (T++[.ins "Board" ["families","homes","pairs","places"] [.p (.lst f),.ref (T.length+1),.ref (T.length+2),.ref (T.length+3)],.lst ((homes f).map .p),.fz (.lst R),.dtt [] []]) (vX _ _ _) (vW _ _ 3)
 rw[show((0:Nat):Int)=0 from rfl,K9]at m;generalize d:putAll 0 R ([],[])=v at m;let c:U:=T++[.ins "Board" ["families","homes","pairs","places"] [.p (.lst f),.ref (T.length+1),.ref (T.length+2),.ref (T.length+3)],.lst ((homes f).map .p),.lst (R.map .p),.dtt [] []]
 let x:U:=T++[.ins "Board" fields [.p (.lst f),.ref (T.length+1),.ref (T.length+2),.ref (T.length+3),.ref (T.length+4)],.lst ((homes f).map .p),.fz (.lst R),.dtt v.1 v.2,.dct [] []]
 have I:MI T f (.fz (.lst R)) (.dtt v.1 v.2) 0 [] [] x:=
  ⟨vX _ _ _,vW _ _ 1,vW _ _ 2,vW _ _ 3,vW _ _ 4,by simp,rfl,by simp,λs h=>(by simp at h),λs _=>rfl,λk hk=>bL hk,λs W j h=>(by cases h)⟩
 obtain⟨mk,z,S,V,M,H⟩:=H0 (n:=n+1) e.hf (by lia) l u g I;have t:Bat (iJ f o w) S.length T.length (T.length+1) (T.length+2) (T.length+3) (T.length+4) mk z S:=by
  refine⟨M.h0,.inl M.h1,.inr M.h2,?_,M.h4,λs G=>?_,bA M.h0,bA M.h1,bA M.h2,bA M.h3,bA M.h4,ag _⟩
  .have:=M.h3;rw[<- d]at this;exact this
  .have N:(a8 f).length=(bq f).length:=by simp[a8]
   obtain⟨j,L,_,y⟩:=M.yes s (by rw[<- N,ma];exact G);refine⟨j,bA y,by rw[<- Bv];exact L,.inl ?_⟩;have:iO (a8 f) (bq f).length s=eM (iJ f o w).N s:=by rw[<- N];rfl
   rw[<- this];exact y
 refine⟨S,?_,⟨_,_,_,_,mk,z,t⟩,M.lo⟩;have F:=Jq (n:=n+1) e.hf e.f0.2 (.lst o) (.lst w);have K:=Jd (n:=n) e;rw[qT];show k_ (iu _ [some (.ref T.length),some (.p l),none,none,none] (T++[.ins "Board" [] []]))=_;unfold iu;rw[aq (e:=[some (.ref T.length),some (.p l),none,none,none]) (c:=T++[.ins "Board" ["families"] [.p (.lst f)]]) (by simp[l,lf,Ev.putK,Ev.rD])];rw[aq (e:=[some (.ref T.length),some (.p l),none,none,none]) (c:=T++[.ins "Board" ["families","homes"] [.p (.lst f),.ref (T.length+1)],.lst ((homes f).map .p)]) (by simp[l,lf,Ev.putK,Ev.rD,F,vX,Bf])];rw[aq (e:=[some (.ref T.length),some (.p l),none,none,none]) (c:=T++[.ins "Board" ["families","homes","pairs"] [.p (.lst f),.ref (T.length+1),.ref (T.length+2)],.lst ((homes f).map .p),.lst (R.map .p)]) (by simp[l,lf,Ev.putK,Ev.rD,K,R,vX,Bf])];rw[aq (e:=[some (.ref T.length),some (.p l),none,none,none]) (c:=c) (by simp[c,lf,Ev.putK,Ev.rD,vX,Bf])];rw[aq (by rw[cw,lF,vE];rw[show dR (aT Att) (ak 0) "pairs" [some (D.ref T.length),some (.p l),none,none,none] c=some (.ref (T.length+2),c) by simp[c,lf,iK,vX],am,fK (vW _ _ 2),K9];exact m)]
 rw[aq (e:=[some (.ref T.length),some (.p l),u,g,none]) (c:=x) (by simp[x,lf,Ev.putK,Ev.rD,ou,fields,vX,Bf])];have E:(homes f).length < 1000000:=by lia
 rw[cw,show iY (eG (dR (aT Att) (ak 0) "homes")) [some (D.ref T.length),some (.p l),u,g,none] x=some (intsFrom 0 (homes f).length,x) by simp[x,lf,Ib,dO,E,vX,vW],am,q];rw[H];rfl
variable{B:BD}
theorem StL.at(S:StL B h r)(hk:k < (bq B.fams).length):∃f x,(bq B.fams)[k]? = some f/\h[k]? = some x/\HandOk B k f x:=by have a:=bg hk;have e:h[k]? = some (h[k]'(by rw[S.hl];exact hk)):=bg _;exact⟨_,_,a,e,S.hh k _ _ a e⟩
theorem Kh:∀n:Nat,Ph (n+14) "ends_on"=Ph 14 "ends_on"
 |0=>rfl
 |n+1=>by have h:o8 14 (n+14)=true:=Nat.ble_eq_true_of_le (by lia);rw[<- Kh n];exact Ca (n:=n+14) (by unfold stays;rw[h];generalize o8 13 (n+14)=c;revert c;decide +kernel)
def SE(B:BD)(st:P)(E:List P):Prop:=E.length≤40000/\(∀z ∈ E,okE B z)/\∀(b i:Nat)(S:U),Bd B b i S->∃h,Ph 14 "ends_on" [.ref i,.p st] S=some (.ref S.length,h)/\Fr b S h/\h[S.length]? = some (.lst (E.map .p))
theorem Oe(Q:BP B)(hL:Places B)(T:StL B A s):∃E,SE B (.tup [.tup A,.tup s]) E:=by
 have h4:=jd Q;have hhl:=nS (s:=B.fams);obtain⟨la,la1,la3,ela⟩:=Jp Q (n:=8) rfl (.inl rfl) T;obtain⟨da,da1,da3,eda⟩:=Jp Q (n:=8) rfl (.inr rfl) T;let p:Nat->Nat->Option D->Lc:=λi r' j=>[qr i,qt [.tup A,.tup s],qr r',j]
 obtain⟨f,h1,hR,h3⟩:=dP (t:=GC B) (g:=av 3) (b:=kD (Ph 13)) (Sp:=fun G S=>Fr G.b G.S0 S) (r:=fun G=>G.r) (R:=fun v ys=>∀z ∈ ys,okE B z) (c:=6144) (M:=100000) (s:=intsFrom 0 (homes B.fams).length) (p:=fun G L=>∃j,L=p G.i G.r j) (fun x hx=>by
  obtain⟨k,rfl,hk⟩:=gC hx;simp only[cO];obtain⟨f,x,g1,g2,_,_,_,_,_,_,X,r,cs,ws,rfl,hr1,hcs,hwl,hwi⟩:=T.at (k:=k) (by lia);obtain⟨nm,C,H,y,whos,F,hF,rfl⟩:=je Q.hf (aZ g1);obtain⟨rfl,hce,rfl,rfl,rfl,rfl⟩:nm=_/\C=_/\H=_/\y=_/\whos=_/\F=_:=by simp only[P.tup.injEq,jv,P.str.injEq,P.int.injEq,P.lst.injEq,and_true]at X;obtain⟨a,b,c,d,e,f⟩:=X;exact⟨a,Int.ofNat.inj b,c,d,e,f⟩
  obtain⟨E,m1,m2,m3⟩:=N4 Q hL (n:=1) rfl hF g1 hr1 hcs hwl hwi T.hr T g2;refine⟨E,m1,m2,λG L S acc hLp fr V hM=>?_⟩;obtain⟨j,rfl⟩:=hLp;obtain⟨d,S1,e1,m,an⟩:=m3 G.b G.i S (G.bd.fr fr);obtain⟨S2,e2,q⟩:=sO (b:=G.b) (g:=Ph 13 "hand_ends") (q:=Mc fJ ka BU) (L:=p G.i G.r (qi (k:Int))) (S:=S) (l:=[.ref G.i,.p (.tup [.tup A,.tup s]),.p (.int (k:Int))]) rfl e1 m (au G.le fr.len) an;have W:=q.hi _ _ (au G.le G.hr) V;exact⟨p G.i G.r (qi (k:Int)),_,_,rfl,mQ rfl V e2 W (by lia),⟨_,rfl⟩,(fr.trans q).set G.le G.hr _,km W⟩)
 rw[cJ]at h1 h3;refine⟨(intsFrom 0 (homes B.fams).length).flatMap f++la++da,?_,λz t=>?_,λb i S N=>?_⟩
 .rw [aX,aX];lia
 .rcases bE.mp t with t|t
  .rcases bE.mp t with t|t
   .obtain⟨v,hv,t⟩:=bR.mp t;exact hR v hv z t
   .exact la3 z t
  .exact da3 z t
 .generalize (intsFrom 0 (homes B.fams).length).flatMap f=ys at h1 h3;have I:=Fr.app b S [.lst []];have K:=N.le;obtain⟨L',S1,e1,⟨j,rfl⟩,m,Z⟩:=h3 ⟨b,i,S,S.length,N,ag _⟩ (p i S.length none) (S++[.lst []]) [] ⟨none,rfl⟩ I (gy _ _) (by simp;lia);obtain⟨d2,T2,f2,q,an2⟩:=ela b i S1 (N.fr m);obtain⟨S2,e2,w⟩:=sO (b:=b) (g:=Ph 13 "flaw_ends") (q:=Mc fJ ka (O (vt "lose"))) (L:=p i S.length j) (S:=S1) (l:=[.ref i,.p (.tup [.tup A,.tup s]),.p (.str "lose")]) rfl f2 q (au K m.len) an2;have hl2:=w.hi _ _ K Z;have o:Fr b S (S2.set S.length (.lst (([]++ys++la).map .p))):=(m.trans w).set K (ag _) _;have l:=km (x:=.lst (([]++ys++la).map .p)) hl2;obtain⟨d3,T3,f3,fr3,an3⟩:=eda b i _ (N.fr o);obtain⟨S3,e3,u⟩:=sO (b:=b) (g:=Ph 13 "flaw_ends") (q:=Mc fJ ka (O (vt "double"))) (L:=p i S.length j) (l:=[.ref i,.p (.tup [.tup A,.tup s]),.p (.str "double")]) rfl f3 fr3 (au K o.len) an3;have hl3:=u.hi _ _ K l;refine⟨S3.set S.length (.lst (([]++ys++la++da).map .p)),?_,(o.trans u).set K (ag _) _,by rw[km hl3];simp⟩;obtain⟨jh,jp,jl,jm,mk,mv,h⟩:=N.fr I;have hq:(homes B.fams).length < 1000000:=by lia
  rw[wD];show k_ (kE _ [qr i,qt [.tup A,.tup s],none,none] S)=_;unfold kE;rw[aq (by simp[p];exact⟨rfl,rfl⟩)];rw[aq (e:=p i S.length j) (c:=S1) (by rw[cw,show iY (eG (dR (aT Att) fJ "homes")) (p i S.length none) (S++[.lst []])=some (intsFrom 0 (homes B.fams).length,S++[.lst []]) by rw[Il,G_,h.homes rfl];simp[h.ho.len,hq]];exact e1)]
  rw[aq (mQ rfl Z e2 hl2 (by simp;lia))];rw[aq (mQ rfl l e3 hl3 (by simp;lia))];rfl
theorem isStep.ok(q:oE e)(f:∀x ∈ r,j6 x)(h:isStep s r e w l v):cE 8 v=true:=by
 obtain⟨i,b,j,k,g,p,m,a,S,rfl⟩:=h;have N:=qD q.1;have M:∀x ∈ nN e++more k,j6 x:=λx n=>(bE.mp n).elim (N x) (uL k x);have o:cE 7 (.lst g)=true:=HW λc h=>by obtain⟨x,t,n,d,rfl⟩:=S.ch c h;simp[n,df (d.ok M) (show 4≤5 by lia)]
 have u:cE 7 (.lst p)=true:=HW λc h=>df ((S.hsn c h).ok N) (by lia);show(List.all [P.str i,b,j,k,.lst g,.lst p,m] (cE 7))=true;simp only[dt,pe,o,u,uK,a,(f b S.h1).ok 7,(f m S.h2).ok 7,S.wh.ok N,df S.htk.ok (show 2≤7 by lia),pC]
theorem Ce(m:BP B):cE 19 (.tup [.lst B.fams,.lst B.roads,.lst B.wishes])=true:=by
 have A:cE 18 (.lst B.fams)=true:=HW λf p=>by
  obtain⟨K,n,o,e,w,t,F,rfl⟩:=m.hf f p;have u:cE 16 (.lst o)=true:=fN F.hro 15;have g:cE 16 (.lst e)=true:=HW λc h=>by obtain⟨x,lo,I,l,S,_,_,_,_,rfl⟩:=F.hce.1 c h;have v:aW x=true:=S;simp[v]
  have i:cE 16 (.lst w)=true:=fN F.hwh 15;have j:cE 16 (.lst t)=true:=HW λc h=>df ((F.hst c h).ok F.hce F.hro) (by lia);show(List.all [P.str K,.int (n:Int),.lst o,.lst e,.lst w,.lst t] (cE 16))=true;simp only[dt,pe,u,g,i,j,uK,Be,F.hnm,pC]
 have C:cE 18 (.lst B.roads)=true:=HW λr q=>by
  obtain⟨a,b,kd,c,E,G,y,z,d,_,_,rfl⟩:=m.hr r q;have:aW kd=true:=by rcases d with rfl|rfl<;>simp
  simp[y,z,this]
 have D:cE 18 (.lst B.wishes)=true:=HW λr q=>by
  obtain⟨k,f,s,hk,p,H,rfl⟩:=m.hw r q;have:aW k=true:=by rcases hk with rfl|rfl<;>simp
  simp[p,H,this]
 show(List.all [P.lst B.fams,.lst B.roads,.lst B.wishes] (cE 18))=true;simp only[dt,pe,A,C,D,pC]
theorem j0.ok(h:j0 B st):cE 5 st=true:=by
 obtain⟨f,d,rfl,S⟩:=h;have b:cE 4 (.tup f)=true:=a_.mpr λx s=>by
  obtain⟨i,a,rfl⟩:=iG.mp s;obtain⟨_,_,_,_,_,_,_,r,k,w,n,_,t,_,hw⟩:=S.hh i _ _ (bg (by rw[<- S.hl];exact a)) (bg a);have o:cE 2 (.tup k)=true:=a_.mpr λc h=>by obtain⟨i,_,rfl⟩:=t.2.1 c h;simp
  have q:cE 2 (.tup w)=true:=a_.mpr λc h=>(hw c h).isI.ok 1;rw[n];show(List.all [_,P.tup k,P.tup w] (cE 2))=true;rw[dt,dt,dt,o,q];simp
 have m:cE 4 (.tup d)=true:=a_.mpr λx s=>by obtain⟨i,a,rfl⟩:=iG.mp s;obtain⟨v,p,e⟩:=S.hr.2 i _ (bg a);rw[e];exact a_.mpr λl h=>df (p.2 l h).1.ok (by lia)
 show(List.all [P.tup f,P.tup d] (cE 4))=true;rw[dt,dt,b,m];rfl
theorem kds_all:∀{xs:List P},(∀x ∈ xs,Nk.kd (pd x)=true)->Nk.kds (i_ xs)=true
 | [],_=>rfl
 |x::xs,h=>by rw[i_,Nk.kds,h x aH,kds_all λy hy=>h y (aG _ hy)];rfl
theorem kt(h:∀x ∈ xs,Nk.kd (pd x)=true):Nk.kd (pd (.tup xs))=true:=kds_all h
theorem j0.good(h:j0 B st):eD st=true:=by
 have ho:=df h.ok (show 5≤8 by lia);obtain⟨hs,rds,rfl,hS⟩:=h;unfold eD;rw[ho];show(true && (true && Nk.kd (pd (.tup [.tup hs,.tup rds]))))=true;rw[ui,ui];refine kt λx hx=>?_;rcases aN.mp hx with rfl|hx
 .refine kt λx hx=>?_;obtain⟨i,hi,rfl⟩:=iG.mp hx;obtain⟨_,_,_,_,_,_,_,r,cs,ws,hxe,_,hc,_,hw⟩:=hS.hh i _ _ (bg (by rw[<- hS.hl];exact hi)) (bg hi);rw[hxe];refine kt λx hx=>?_;simp only[aN,db,cY]at hx;rcases hx with rfl|rfl|rfl
  .rfl
  .exact kt λc h=>by obtain⟨i,_,rfl⟩:=hc.2.1 c h;rfl
  .exact kt λc h=>by obtain⟨i,rfl⟩:=(hw c h).isI;rfl
 .rw [cC.mp hx];refine kt λx hx=>?_;obtain⟨i,hi,rfl⟩:=iG.mp hx;obtain⟨ls,hl,e⟩:=hS.hr.2 i _ (bg hi);rw[e];refine kt λl h=>?_;obtain⟨m,j,hm,_,rfl⟩:=(hl.2 l h).1;refine kt λy hy=>?_;simp only[aN,db,cY]at hy;rcases hy with rfl|rfl
  .exact hm
  .rfl
theorem F0{B:BD}(P:BP B):StL B ((bq B.fams).map io) (List.replicate B.PR.length (.tup [])):=by
 refine⟨by simp,λk f x t q=>?_,by simp,λk r z=>⟨[],⟨by simp,λ_ h=>(by cases h)⟩,(mf.mp (aZ z)).2⟩⟩;rw[bY,t]at q;cases q;obtain⟨H,n,m,e,o,s,F,rfl⟩:=je P.hf (aZ t);refine⟨H,n,m,e,o,s,rfl,0,e.map qP,List.replicate o.length (.int (-1)),rfl,len_pos F.r0,⟨by simp,λc b=>?_,λi c v b p=>?_⟩,by simp,λw hw=>.inl (mf.mp hw).2⟩
 .obtain⟨d,hd,rfl⟩:=aY.mp b;obtain⟨x,lo,y,a,_,u,g,j,l,rfl⟩:=F.hce.1 d hd;exact⟨a,by lia,rfl⟩
 .rw [bY,b]at p;cases p;obtain⟨x,lo,y,a,_,u,g,j,l,rfl⟩:=F.hce.1 c (aZ b);exact A5 (by lia) (by lia)
end My
namespace My
open PySem L2 Ev
variable{a:Type}
theorem xT:∀{s l:List a},s.Nodup->(∀x ∈ s,x ∈ l)->s.length≤l.length
 | [],_,_,_=>by simp
 |k::s,l,h,e=>by
  obtain⟨b,c⟩:=bQ.mp h;obtain⟨m,r,rfl⟩:=List.append_of_mem (e k aH);have:=xT (l:=m++r) c λx f=>by have:=e x (aG _ f);have n:x≠k:=λz=>b (z ▸ f);simp only[bE,aN,n,false_or]at this ⊢;exact this
  simp only[aX,aV]at this ⊢;lia
theorem jf{a n:Type}{f:a->List n}{c:Nat}:∀{s:List a},(∀x ∈ s,(f x).length≤c)->(s.flatMap f).length≤s.length * c
 | [],_=>by simp
 |x::s,h=>by
  have:=jf (s:=s) λy e=>h y (aG _ e);have:=h x aH
  rw[g6,aX,aV,lV];lia
theorem vR(l:List a):∀n:Nat,(eK (List.replicate n l)).length=l.length ^ n
 |0=>rfl
 |n+1=>by have i:=vR l n;rw[i9]at i ⊢;rw[cD,aA,zL,i,o_,kM]
variable{B:BD}
theorem oo(P:BP B):∃b h,bq B.fams=b++h/\b.length≤2/\(h=[]\/∃z,h=[z]/\vM z)/\∀r ∈ B.roads,∀z ∈ h,a9 z≠rA r/\a9 z≠rB r:=by
 obtain⟨base,t,e,b,h,s⟩:=P.st;rcases b with ⟨f,rfl,a⟩|⟨f,g,rfl,a,n⟩
 .refine⟨List.replicate (dC f) f,t,?_,by simpa using a,h,s⟩;rcases h with rfl|⟨z,rfl,x⟩<;>rw[e]<;>simp[bq,hw];simp[x.1]
 .refine⟨List.replicate (dC f) f++List.replicate (dC g) g,t,?_,by simp;lia,h,s⟩;rcases h with rfl|⟨z,rfl,x⟩<;>rw[e]<;>simp[bq,hw];simp[x.1]
theorem wW(i:BP B)(h:pr r x b ∈ B.PR):((x=0/\b=1)\/(x=1/\b=0))/\r ∈ B.roads/\B.N[x]? = some (rA r)/\B.N[b]? = some (rB r):=by
 obtain⟨g,o,e,F,_,l⟩:=oo i;unfold BD.PR bJ at h;obtain⟨p,n,h⟩:=bR.mp h;unfold xO at h;obtain⟨v,j,h⟩:=bR.mp h;obtain⟨d,c,h⟩:=aY.mp h;obtain⟨m,a⟩:=fI.mp c;simp only[pr,P.tup.injEq,jv,P.int.injEq,and_true]at h;obtain⟨rfl,H,S⟩:=h;obtain rfl:v=x:=by lia
 obtain rfl:d=b:=by lia
 have w:=jo.mp j;have u:=jo.mp m;have a:v≠d:=by simpa using a
 have y:∀{k:Nat}{s:Str},B.N[k]? = some s->(s=rA p\/s=rB p)->k < 2:=λ{k s} hk f=>by
  unfold BD.N a8 at hk;rw[e,bY]at hk;by_cases q:k < g.length
  .lia
  .rw [bH (by lia)]at hk;cases t:o[k-g.length]? with
   |none=>rw[t]at hk;cases hk
   |some z=>
    rw[t]at hk;cases hk;have:=l p n z (aZ t)
    rcases f with f|f
    .exact absurd f this.1
    .exact absurd f this.2
 have:=y w (.inl rfl);have:=y u (.inr rfl)
 exact⟨by lia,n,w,u⟩
def pk(x:P):P:=.tup [gF x 1,gF x 2]
theorem Ma(k:BP B):B.PR.length≤2:=by
 have p:B.PR.Pairwise λx y=>pk x≠pk y:=by
  refine zW.mpr ⟨λr _=>?_,k.rd.imp_of_mem λ{r o} j m hd x h y e q=>?_⟩
  .unfold xO;refine zW.mpr ⟨λa _=>?_,(BH B.N (rA r)).imp λ{a t} n x h y e q=>?_⟩
   .refine zP.mpr (((BH B.N (rB r)).filter _).imp λ{b c} n q=>n ?_);simp only[pk,pr,gF,P.tup.injEq,jv]at q;have:=q.2.1;simp at this;lia
   .obtain⟨b,_,rfl⟩:=aY.mp h;obtain⟨c,_,rfl⟩:=aY.mp e;refine n ?_;simp only[pk,pr,gF,P.tup.injEq,jv]at q;have:=q.1;simp at this;lia
  .have w:x ∈ B.PR:=bR.mpr ⟨r,j,h⟩;have u:y ∈ B.PR:=bR.mpr ⟨o,m,e⟩;have f:∀{r x},x ∈ xO B.N r->∃a b,x=pr r a b:=λ{r x} h=>by
    unfold xO at h;obtain⟨a,_,h⟩:=bR.mp h;obtain⟨b,_,rfl⟩:=aY.mp h;exact⟨a,b,rfl⟩
   obtain⟨a,b,rfl⟩:=f h;obtain⟨t,c,rfl⟩:=f e;obtain⟨_,_,g,i⟩:=wW k w;obtain⟨_,_,v,d⟩:=wW k u;have z:a=t/\b=c:=by simp only[pk,pr,gF,P.tup.injEq,jv]at q;simp at q;lia
   obtain⟨rfl,rfl⟩:=z;rw[g]at v;rw[i]at d;exact hd ⟨cc v,cc d⟩
 have:=xT (s:=B.PR.map pk) (l:=[.tup [.int 0,.int 1],.tup [.int 1,.int 0]]) (zP.mpr p) λy e=>by obtain⟨x,h,rfl⟩:=aY.mp e;obtain⟨r,_,a,b,rfl⟩:=rc h;rcases(wW k h).1 with ⟨rfl,rfl⟩|⟨rfl,rfl⟩<;>simp[pk,pr,gF]
 simpa using this
noncomputable def WS(k:Nat):List P:=if k=0 then [.int (-1),.int 1] else if k=1 then [.int (-1),.int 0] else [.int (-1)]
theorem L7(k:Nat):(WS k).length≤2:=by
 unfold WS;split
 .simp
 .split<;>simp
theorem WH.ws(P:BP B)(L:Places B)(h:WH B x w):w ∈ WS x:=by
 rcases h with rfl|⟨s,d,rfl,g⟩
 .unfold WS;split
  .simp
  .split<;>simp
 .obtain⟨j,r,a,b,_,_,p,e,n⟩:=L.ok _ _ _ g;have:=(wW P (aZ p)).1
  have e:s=a:=by lia
  have n:x=b:=by lia
  subst e n;rcases this with ⟨rfl,rfl⟩|⟨rfl,rfl⟩<;>simp[WS]
def hst(k:Nat)(f:P):List P:=(List.range (qe (gF f 2)).length).flatMap λ(r:Nat)=>(gD (qe (gF f 3))).flatMap λc=>(eK (List.replicate (qe (gF f 4)).length (WS k))).map λw=>.tup [.int (r:Int),.tup c,.tup w]
theorem Bt(k:Nat)(f:P):(hst k f).length≤(qe (gF f 2)).length * ((gD (qe (gF f 3))).length * (WS k).length ^ (qe (gF f 4)).length):=by
 unfold hst;have:=jf (s:=List.range (qe (gF f 2)).length) (f:=λ(r:Nat)=>(gD (qe (gF f 3))).flatMap λs=>(eK (List.replicate (qe (gF f 4)).length (WS k))).map λw=>P.tup [.int (r:Int),.tup s,.tup w]) (c:=(gD (qe (gF f 3))).length * (WS k).length ^ (qe (gF f 4)).length) λr _=>jf λs _=>by rw[aQ,vR];exact ag _
 rwa [zO]at this
variable{f:P}
theorem QR(h:isFam b f)(k:Nat):(hst k f).length≤4:=by obtain⟨m,e,r,c,w,s,F,rfl⟩:=h;have x:=Bt k (.tup [.str m,.int (e:Int),.lst r,.lst c,.lst w,.lst s]);have a:=F.b2;have n:(WS k).length ^ w.length≤2 ^ w.length:=Nat.pow_le_pow_left (L7 k) _;refine au x (au ?_ a);show r.length * ((gD c).length * (WS k).length ^ w.length)≤_;rw[pa];exact pb _ (pb _ n)
theorem QS(h:vM f):(hst 2 f).length≤1:=by refine au (Bt 2 f) ?_;rw[h.2.1,h.2.2];simp[WS]
theorem HandOk.mem(P:BP B)(L:Places B)(h:HandOk B e f x):x ∈ hst e f:=by obtain⟨v,a,o,c,n,s,rfl,r,k,q,rfl,p,t,w,hw⟩:=h;refine bR.mpr ⟨r,iB.mpr p,bR.mpr ⟨k,FP t,aY.mpr ⟨q,ja (by rw[uc];exact w) λi d y b m=>?_,rfl⟩⟩⟩;rw[(mf.mp (aZ b)).2];exact(hw y (aZ m)).ws P L
def Ql(B:BD)(x:P):List P:=.tup []::(Lg ((bq B.fams)[(iv (gF x 1)).toNat]?.getD .non)).map λl=>.tup [l]
theorem NT{t:List P}{f:P}(h:isFam t f):(Lg f).length≤4:=by
 obtain⟨p,w,r,e,o,s,F,rfl⟩:=h;have:=F.b1
 have x:=F.b3;refine au (jf (c:=2) λk hst=>?_) (by show s.length * 2≤4;lia);obtain⟨v,q,u,d,g,n,m,b,S,rfl⟩:=F.hst k hst;have:=S.sl
 refine au (jf (c:=2) λn a=>?_) (by show n.length * 2≤2;lia);rw[aQ];exact x
def Jt(B:BD):List P:=(eK ((bq B.fams).mapIdx hst)).flatMap λh=>(eK (B.PR.map (Ql B))).map λr=>.tup [.tup h,.tup r]
theorem A_:∀{s:List (List a)}{c:Nat},(∀e ∈ s,e.length≤c)->(eK s).length≤c ^ s.length
 | [],c,_=>by simp[eK]
 |e::r,c,h=>by have i:=A_ (s:=r) λx k=>h x (aG _ k);have n:=h e aH;rw[i9]at i ⊢;rw[aA,zL,aV,o_,kM];exact lW i n
theorem CS{B:BD}(P:BP B):(Jt B).length≤400:=by
 have q:(eK ((bq B.fams).mapIdx hst)).length≤16:=by
  obtain⟨w,i,e,l,t,_⟩:=oo P;have h:∀f ∈ bq B.fams,∀k,(hst k f).length≤4:=λf m k=>QR (je P.hf m) k;rw[e]at h ⊢;rw[i9];match w,l with
  | [],_=>
   rcases t with rfl|⟨z,rfl,_⟩
   .simp
   .have:=h z (by simp) 0;simp;lia
  | [f],_=>
   have q:=h f (by simp) 0;rcases t with rfl|⟨z,rfl,_⟩
   .simp;lia
   .have n:=h z (by simp) 1;have:=lW q n
    simpa using this
  | [f,g],_=>
   have q:=h f (by simp) 0;have n:=h g (by simp) 1;have s:=lW q n;rcases t with rfl|⟨z,rfl,t⟩
   .simpa using s
   .have:=lW s (QS t);simpa[pa] using this
 have n:(eK (B.PR.map (Ql B))).length≤25:=by
  refine au (A_ (c:=5) λj v=>?_) ?_
  .obtain⟨x,d,rfl⟩:=aY.mp v;obtain⟨r,_,a,b,rfl⟩:=rc d;have p:=(wW P d).2.2.1;unfold BD.N a8 at p;rw[bY]at p;cases m:(bq B.fams)[a]? with
   |none=>rw[m]at p;cases p
   |some f=>have:=NT (je P.hf (aZ m));unfold Ql;rw[show(iv (gF (pr r a b) 1)).toNat=a from rfl,m,aV,aQ];simp;lia
  .rw [aQ];exact au (tP (by decide) (Ma P)) (by decide)
 refine au (jf (c:=25) λu _=>by rw[aQ];exact n) ?_;lia
variable{k:P}
theorem j0.mem(P:BP B)(L:Places B)(h:j0 B k):k ∈ Jt B:=by
 obtain⟨q,d,rfl,S⟩:=h;refine bR.mpr ⟨q,ja (by rw[List.length_mapIdx];exact S.hl) λi w y e n=>?_,aY.mpr ⟨d,ja (by rw[aQ];exact S.hr.1) λi w y e n=>?_,rfl⟩⟩
 .rw [List.getElem?_mapIdx]at e;obtain⟨f,c,rfl⟩:=gU.mp e;exact(S.hh i f y c n).mem P L
 .rw [bY]at e;obtain⟨x,m,rfl⟩:=gU.mp e;obtain⟨v,s,rfl⟩:=S.hr.2 i y n;match v,s with
  | [],_=>exact aH
  | [l],s=>obtain⟨r,a,b,p,f,c,t⟩:=(s.2 l (by simp)).2;rw[p]at m;cases m;refine aG _ (aY.mpr ⟨l,?_,rfl⟩);rw[show(iv (gF (pr r a b) 1)).toNat=a from rfl,c];exact t
  |_::_::_,s=>have:=s.1;simp at this
variable{s:List P}
theorem lC(P:BP B)(L:Places B)(h:∀k ∈ s,j0 B k)(n:s.Nodup):s.length≤400:=au (xT n λk hk=>(h k hk).mem P L) (CS P)
noncomputable def EN(B:BD)(k:P):List P:=open Classical in if h:∃E,SE B k E then h.choose else []
theorem BN(P:BP B)(L:Places B)(h:j0 B k):SE B k (EN B k):=by obtain⟨s,r,rfl,S⟩:=h;have h:=Oe P L S;unfold EN;rw[dif_pos h];exact h.choose_spec
def rV(s:List P)(z:P):List P:=if lb (gF z 1) s=true then s else s++[gF z 1]
def stepK(s E:List P):List P:=E.foldl rV s
def KI(B:BD)(s:List P):Prop:=(∀k ∈ s,j0 B k)/\s.Nodup
theorem KI.good(h:KI B s):s.all eD=true:=a_.mpr λk hk=>(h.1 k hk).good
theorem Bb:∀{s:List P},x ∈ s->pd x ∈ i_ s
 |q::s,h=>by
  rw[i_];rcases aN.mp h with rfl|h
  .exact aH
  .exact aG _ (Bb h)
set_option tactic.hygienic true in
theorem KI.add(h:KI B s)(f:okE B z):KI B (rV s z):=by
 obtain⟨d,e,rfl,_,x⟩:=f;unfold rV;split
 .exact h
 .rename_i q;refine⟨eO h.1 x,jF.mpr ⟨h.2,by simp,λa n b k w=>?_⟩⟩;rw[cC.mp k]at w;have w:a=e:=w;subst w;exact q ((qM x.good h.good).mpr (Bb n))
theorem KI.step:∀{E s:List P},KI B s->(∀z ∈ E,okE B z)->KI B (stepK s E)
 | [],_,h,_=>h
 |z::E,s,h,x=>KI.step (E:=E) (h.add (x z aH)) λy a=>x y (aG _ a)
theorem IR(s:List P)(z:P):∃t,rV s z=s++t:=by
 unfold rV;split
 .exact⟨[],by simp⟩
 .exact⟨_,rfl⟩
theorem qm:∀(E s:List P),∃t,stepK s E=s++t
 | [],s=>⟨[],by simp[stepK]⟩
 |z::E,s=>by obtain⟨t,e⟩:=IR s z;obtain⟨x,h⟩:=qm E (rV s z);exact⟨t++x,by show stepK (rV s z) E=_;rw[h,e,eS]⟩
def BF(B:BD):Nat->Nat->List P->List P
 |0,_,s=>s
 |n+1,i,s=>match s[i]? with
  |some k=>BF B n (i+1) (stepK s (EN B k))
  |none=>s
theorem Gd(x:BP B)(L:Places B):∀(n i:Nat){s:List P},KI B s->KI B (BF B n i s)
 |0,_,_,h=>h
 |n+1,i,s,h=>by
  unfold BF;cases e:s[i]? with
  |none=>exact h
  |some k=>exact Gd x L n (i+1) (h.step (BN x L (h.1 k (aZ e))).2.1)
noncomputable def yes(s:List P):List D:=s.map λ_=>.p (.bl true)
theorem vD(s:List P)(k:P):yes (s++[k])=yes s++[.p (.bl true)]:=by simp[yes]
abbrev LL(sc p hd a:P)(q h x e:Option D):Lc:=[some (.p sc),some (.p p),some (.p hd),some (.ref 0),some (.ref 1),some (.p a),q,h,x,e]
def SS(s:List P):U:=[.lst (s.map .p),.dtn s (yes s)]
theorem EY(u:Str->GF)(v:BP B)(L:Places B)(sc p hd a:P)(f b:Option D):∀{E s:List P},KI B s->(∀z ∈ E,okE B z)->∀c m,∃x n,b_ (bF [av 6,av 7]) (lP u) E (LL sc p hd a c m f b) (SS s)=some (.nx,LL sc p hd a x n f b,SS (stepK s E))
 | [],s,_,_,c,m=>⟨c,m,rfl⟩
 |z::E,s,h,w,c,m=>by
  have k:=w z aH;have j:=h.add k;obtain⟨d,e,rfl,_,l⟩:=k;obtain⟨x,n,i⟩:=EY u v L sc p hd a f b (E:=E) j (λy o=>w y (aG _ o)) (some (.p d)) (some (.p e));refine⟨x,n,(cz (h:=LL sc p hd a (some (.p d)) (some (.p e)) f b) (L2:=LL sc p hd a (some (.p d)) (some (.p e)) f b) rfl ?_).trans i⟩;have g:=l.good;have t:=h.good;have S:=lC v L h.1 h.2;have r:s.length≤1000000:=by lia
  unfold lP rV;rw[show gF (.tup [d,e]) 1=e from rfl];by_cases q:lb e s=true
  .rw [ac q];simp[SS,hY,Mi,rF,g,t,q]
  .rw [af q];have H:lb e s=false:=by simpa using q
   simp[SS,hY,Mi,rF,g,t,H,se,r,dZ,vD]
noncomputable abbrev dL(f r w:List P):P:=.tup [.lst f,.lst r,.lst w]
theorem Of(P:Pln m r w)(h:j0 (iJ m r w) k):cG (Ph (n+15) "ends_from") [dL m r w,k]=some (.lst (EN (iJ m r w) k)):=by
 obtain⟨S,e,c,_⟩:=wS P (n:=n+9) [];obtain⟨_,_,b⟩:=BN (B:=iJ m r w) P (f8 ..) h;obtain⟨x,a,_,f⟩:=b _ _ _ c;have e:Ph (n+13) "Board.__init__" [.ref 0,.p (dL m r w)] [.ins "Board" [] []]=some (.p .non,S):=e;have s:Ph (n+15) "ends_from" [.p (dL m r w),.p k] []=some (.ref S.length,x):=by rw[rR];show k_ (i3 (Ph (n+14)) (Ph (n+13)) [some (.p (dL m r w)),some (.p k)] [])=_;rw[i3,Kh];simp only[be,gK,bB,qU,ak,fC,am,mj,kQ,pf,eR,e];rw[show Ph 14 "ends_on" [.ref 0,.p k] S=_ from a];rfl
 unfold cG;rw[aA,aA,dX,s];show(toP 9 (.ref S.length) x).map (·.1)=_;rw[fK f];rfl
theorem sv(u:Pln x r w)(sc hd:P)(c p:Option D):∀(m i:Nat){s:List P}(v d:Option D),KI (iJ x r w) s->m+i=1000->i≤s.length->∃j q f,hU (bV (kh IF (vE (ak 5)) (eG (ak 3)))) (jW (Ph (n+15))) m (LL sc (dL x r w) hd (.int (i:Int)) v d c p) (SS s)=some (.nx,LL sc (dL x r w) hd j q f c p,SS (BF (iJ x r w) m i s))
 |0,i,s,_,_,h,C,A=>by have:=lC (B:=iJ x r w) u (f8 ..) h.1 h.2;lia
 |m+1,i,s,v,d,h,C,A=>by
  have L:=f8 x r w;have G:=lC (B:=iJ x r w) u L h.1 h.2;have z:(bV (kh IF (vE (ak 5)) (eG (ak 3)))) (LL sc (dL x r w) hd (.int (i:Int)) v d c p) (SS s)=some (decide (i < s.length),SS s):=by simp[SS,dO]
  unfold hU BF;rw[z,am];cases e:s[i]? with
  |none=>
   have:¬i < s.length:=by simpa using e
   rw[af (by simpa using this)];exact⟨_,v,d,rfl⟩
  |some k=>
   have l:=bA e;rw[ac (by simpa using l)];have hst:=h.1 k (aZ e);have y:=BN (B:=iJ x r w) u L hst;obtain⟨q,f,o⟩:=EY (Ph (n+15)) u L sc (dL x r w) hd (.int (i:Int)) c p (E:=EN (iJ x r w) k) h y.2.1 v d;obtain⟨t,K⟩:=qm (EN (iJ x r w) k) s;obtain⟨j,a,b,H⟩:=sv (n:=n) u sc hd c p m (i+1) q f (h.step y.2.1) (by lia) (by rw[K,aX];lia);have g:L2.atI (s.map D.p) (i:Int)=some (.p k):=by rw[ni,bN e];rfl
   have F:=Of (n:=n) u hst;refine⟨j,a,b,?_⟩;have S:jW (Ph (n+15)) (LL sc (dL x r w) hd (.int (i:Int)) v d c p) (SS s)=some (.nx,LL sc (dL x r w) hd (.int ((i+1:Nat):Int)) q f c p,SS (stepK s (EN (iJ x r w) k))):=by
    unfold jW;rw[aq (e:=LL sc (dL x r w) hd (.int (i:Int)) q f c p) (c:=SS (stepK s (EN (iJ x r w) k))) (by rw[cw,show jc (cL (cG (Ph (n+15) "ends_from")) (aF (vE (ak 1)) (aF (vE (mV (ak 3) (vE (ak 5)))) aS))) (LL sc (dL x r w) hd (.int (i:Int)) v d c p) (SS s)=some (EN (iJ x r w) k,SS s) by simp[SS,g,F]];exact o)]
    simp
   rw[S];exact H
end My
namespace My
open PySem L2 Ev
noncomputable def kn(t:P×P×P):P:=.tup [t.1,t.2.1,t.2.2]
noncomputable abbrev vu(f:P)(j r:Nat)(a:P)(q h x:Option D):Lc:=[some (.p f),some (.ref j),some (.ref r),some (.ref (r+1)),some (.p a),q,h,x]
structure RI(b:Nat)(S0:U)(ks:List P)(rs:List (P×P×P))(S:U):Prop where
 fr:Fr b S0 S
 ro:S[S0.length]? = some (.lst ((rs.map kn).map .p))
 li:S[S0.length+1]? = some (.dtn ks (yes ks))
 ek:rs.map (·.1)=ks
variable{B:BD}{b:Nat}
theorem A4(T:Str->GF)(hP:BP B)(Z:Places B)(G:b≤f.length)(n:P)(j:Nat)(t:P)(c:Option D):∀{E s:List P}{x:List (P×P×P)}{S:U},KI B s->RI b f s x S->(∀z ∈ E,okE B z)->∀H F,∃m p v i,b_ (bF [av 6,av 7]) (d8 T) E (vu n j f.length t c H F) S=some (.nx,vu n j f.length t c m p,i)/\RI b f (stepK s E) v i
 | [],s,x,S,_,R,_,H,F=>⟨H,F,x,S,rfl,R⟩
 |z::E,s,x,S,h,R,hz,H,F=>by
  have u:=hz z aH;have h1:=h.add u;obtain⟨d,e,rfl,_,he⟩:=u;have W:=he.good;have X:=h.good;have hf:=lC hP Z h.1 h.2;have I:s.length≤1000000:=by lia
  have hl:x.length=s.length:=by rw[<- R.ek,aQ]
  have M:x.length≤1000000:=by lia
  have Q:¬((x.length:Int)=2000):=by lia
  have on:rF (.ref (f.length+1)) S=some (f.length+1,s,yes s):=by simp[rF,R.li]
  suffices hs:∃g K,d8 T (vu n j f.length t c (some (.p d)) (some (.p e))) S=some (.nx,vu n j f.length t c (some (.p d)) (some (.p e)),K)/\RI b f (rV s (.tup [d,e])) g K by obtain⟨g,K,e1,A⟩:=hs;obtain⟨m,p,v,i,e2,C⟩:=A4 T hP Z G n j t c (E:=E) h1 A (λy hy=>hz y (aG _ hy)) (some (.p d)) (some (.p e));exact⟨m,p,v,i,(cz (h:=vu n j f.length t c (some (.p d)) (some (.p e))) rfl e1).trans e2,C⟩
  unfold d8 jt rV;rw[show gF (.tup [d,e]) 1=e from rfl];have V:∀w:Bool,lb e s=w->(bV (dF hY (ak 7) (ak 3))) (vu n j f.length t c (some (.p d)) (some (.p e))) S=some (!w,S):=λw hw=>by simp[hY,Mi,on,W,X,hw]
  by_cases q:lb e s=true
  .rw [ac q];exact⟨x,S,by rw[dG,V true q];rfl,R⟩
  .rw [af q];have q':lb e s=false:=by simpa using q
   have N:f.length < S.length:=bA R.ro;have l:f.length+1 < S.length:=bA R.li;have o:(S.set (f.length+1) (.dtn (s++[e]) (yes s++[.p (.bl true)])))[f.length]? = some (.lst ((x.map kn).map .p)):=by rw[aP (by lia)];exact R.ro
   refine⟨x++[(e,t,d)],(S.set (f.length+1) (.dtn (s++[e]) (yes s++[.p (.bl true)]))).set f.length (.lst (((x++[(e,t,d)]).map kn).map .p)),?_,?_⟩
   .rw [dG,V false q',am];show ai _ _ _ _=_;rw [aq (e:=vu n j f.length t c (some (.p d)) (some (.p e))) (c:=S) (by simp [dO,R.ro,Q])];rw [aq (e:=vu n j f.length t c (some (.p d)) (some (.p e))) (c:=S.set (f.length+1) (.dtn (s++[e]) (yes s++[.p (.bl true)]))) (by
     simp[se,on,W,X,q',I])]
    have:=pM (r:=ak 2) (a:=O (aL (aF (vE (ak 7)) (aF (vE (ak 4)) (aF (vE (ak 6)) aS))))) (L:=vu n j f.length t c (some (.p d)) (some (.p e))) (k:=f.length) (c:=x.map kn) (y:=kn (e,t,d)) rfl o (x:=S.set (f.length+1) (.dtn (s++[e]) (yes s++[.p (.bl true)]))) (by simp[kn]) o (by rw[aQ];exact M);rw[this,show(x++[(e,t,d)]).map kn=x.map kn++[kn (e,t,d)] by simp]
   .refine⟨(R.fr.set G (by lia) _).set G (by lia) _,?_,?_,by simp[R.ek]⟩
    .rw [bv (by simpa using N)]
    .rw [aP (by lia),bv l,vD]
variable{q:P}
theorem OB(m:SE B q E)(x:Bd B b i S)(t:S[f]? = some (.fn (some (.ref i))))(hk:L[k]? = some (some (.ref f)))(p:L[j]? = some (some (.p q))):∃h,qd (Ph 14 "ends_on") k (vE (ak j)) L S=some (.lst E,h)/\Fr b S h:=by
 obtain⟨v,n,r,c⟩:=m.2.2 b i S x;refine⟨_,?_,(r.set x.le (ag _) (.fz (.lst E))).trunc⟩;have a:ak k L S=some (.ref f,S):=by simp[hk]
 have e:vE (ak j) L S=some (q,S):=by simp[p]
 have s:fnOf (.ref f) S=some (.ref i):=by simp[fnOf,t]
 unfold qd;rw[a,am,s];show bI (vE (ak j) L S) _=_;rw[e,am,n,am,fK c,am]
theorem qy{n:Nat}{B:BD}(C:BP B)(A:Places B){b i r:Nat}{s:U}(K:Bd B b i s)(hj:b≤r)(hf:s[r]? = some (.fn (some (.ref i))))(w:P):∀(m p:Nat){f:List P}{o:List (P×P×P)}{S:U}(G l z:Option D),KI B f->RI b s f o S->m+p=1000->p≤f.length->∃Z q5' v d F I,hU (bV (kh IF (vE (ak 4)) (eG (ak 2)))) (d7 (Ph (n+15)) (Ph (n+14))) m (vu w r s.length (.int (p:Int)) G l z) S=some (.nx,vu w r s.length Z q5' v d,I)/\RI b s (BF B m p f) F I
 |0,p,f,o,S,_,_,_,h,R,hm,hi=>by have:=lC C A h.1 h.2;lia
 |m+1,p,f,o,S,G,l,z,h,R,hm,hi=>by
  have hft:=lC C A h.1 h.2;have hl:o.length=f.length:=by rw[<- R.ek,aQ]
  have c1:(bV (kh IF (vE (ak 4)) (eG (ak 2)))) (vu w r s.length (.int (p:Int)) G l z) S=some (decide (p < f.length),S):=by simp[dO,R.ro,hl]
  unfold hU BF;rw[c1,am];cases e:f[p]? with
  |none=>
   have:¬p < f.length:=by simpa using e
   rw[af (by simpa using this)];exact⟨_,G,l,z,o,S,rfl,R⟩
  |some q=>
   have X:=bA e;rw[ac (by simpa using X)];have hst:=h.1 q (aZ e);have M:=BN C A hst;obtain⟨t,et⟩:=qm (EN B q) f;obtain⟨⟨g,x,y⟩,hr⟩:∃u,o[p]? = some u:=⟨_,bg (by lia)⟩;have W:g=q:=by have:=e;rw[<- R.ek,bY,hr]at this;exact cc this
   subst W;have V:L2.atI ((o.map kn).map D.p) (p:Int)=some (.p (.tup [g,x,y])):=by rw[ni,ni,bN hr];rfl
   obtain⟨S1,e1,H⟩:=OB (k:=1) (j:=5) (L:=vu w r s.length (.int (p:Int)) (some (.p g)) l z) M (K.fr R.fr) (R.fr.hi _ _ hj hf) rfl rfl;have N:RI b s f o S1:=⟨R.fr.trans H,H.hi _ _ K.le R.ro,H.hi _ _ (au K.le (iA _)) R.li,R.ek⟩;obtain⟨v,d,rs2,S2,e2,Q⟩:=A4 (Ph (n+15)) C A K.le w r (.int (p:Int)) (some (.p g)) (E:=EN B g) h N M.2.1 l z;obtain⟨Z,a,b',c,F,I,e3,T⟩:=qy (n:=n) C A K hj hf w m (p+1) (some (.p g)) v d (h.step M.2.1) Q (by lia) (by rw[et,aX];lia);refine⟨Z,a,b',c,F,I,?_,T⟩;have e4:d7 (Ph (n+15)) (Ph (n+14)) (vu w r s.length (.int (p:Int)) G l z) S=some (.nx,vu w r s.length (.int ((p+1:Nat):Int)) (some (.p g)) v d,S2):=by
    unfold d7;rw[aq (e:=vu w r s.length (.int (p:Int)) (some (.p g)) l z) (c:=S) (by simp[-kO,R.ro,V])];rw[Kh,aq (e:=vu w r s.length (.int (p:Int)) (some (.p g)) v d) (c:=S2) (by rw[cw,jc,e1];exact e2)]
    simp[D2]
   rw[e4];exact e3
noncomputable def CM(B:BD)(q:P):List P:=BF B 1000 0 [q]
theorem KI.one(h:j0 B q):KI B [q]:=⟨λk hk=>by rw[cC.mp hk];exact h,by simp⟩
variable{n:Nat}
theorem Ht(s:BP B)(L:Places B)(x:Bd B b i h)(m:b≤j)(f:h[j]? = some (.fn (some (.ref i))))(hst:j0 B q):∃(r:List (P×P×P))(S:U),Ph (n+16) "rows_from" [.p (.lst [q]),.ref j] h=some (.ref h.length,S)/\S[h.length]? = some (.lst ((r.map kn).map .p))/\r.map (·.1)=CM B q:=by have g:=hst.good;have hk:=KI.one hst;have k:RI b h [q] [(q,.non,.non)] (h++[.lst [.p (.tup [q,.non,.non])],.dtn [q] [.p (.bl true)]]):=⟨Fr.app ..,by simp[kn],by simp[yes],rfl⟩;obtain⟨p,a,t,c,r,S,e,R⟩:=qy (n:=n) s L x m f (.lst [q]) 1000 0 none none none hk k (by lia) (by simp);refine⟨r,S,?_,R.ro,R.ek⟩;rw[rJ];show k_ (i0 _ _ [some (.p (.lst [q])),some (.ref j),none,none,none,none,none,none] h)=_;unfold i0;rw[aq (e:=[some (.p (.lst [q])),some (.ref j),some (.ref h.length),none,none,none,none,none]) (c:=h++[.lst [.p (.tup [q,.non,.non])]]) (by simp[b8,bS,my])];rw[aq (e:=[some (.p (.lst [q])),some (.ref j),some (.ref h.length),some (.ref (h.length+1)),none,none,none,none]) (c:=h++[.lst [.p (.tup [q,.non,.non])],.dtn [q] [.p (.bl true)]]) (by simp[b8,bS,my,u7,vT,Jh,lb,g])];rw[aq (e:=vu (.lst [q]) j h.length (.int 0) none none none) (c:=h++[.lst [.p (.tup [q,.non,.non])],.dtn [q] [.p (.bl true)]]) (by simp)];rw[aq (by unfold nH;exact e)];simp
variable{s:List P}{a:List P}{x:List P}
theorem Ou(f:Pln s a x)(hst:j0 (iJ s a x) q)(p:cG (Ph (n+16) "begin") [dL s a x]=some q):∃r:List (P×P×P),cG (Ph (n+17) "coming_rows") [dL s a x]=some (.lst (r.map kn))/\r.map (·.1)=CM (iJ s a x) q:=by
 obtain⟨S,e,w,_⟩:=wS f (n:=n+11) [];have k:Bd (iJ s a x) S.length 0 (S++[.fn (some (.ref 0))]):=w.fr (Fr.app ..);obtain⟨r,h,m,v,u⟩:=Ht (n:=n) (B:=iJ s a x) f (f8 ..) k (j:=S.length) (ag _) (by simp) hst;refine⟨r,?_,u⟩;have e:Ph (n+15) "Board.__init__" [.ref 0,.p (dL s a x)] [.ins "Board" [] []]=some (.p .non,S):=e;have t:Ph (n+17) "coming_rows" [.p (dL s a x)] []=some (.ref (S++[SO.fn (some (.ref 0))]).length,h.map CO):=by
  rw[oO];show k_ (gO (Ph (n+16)) (Ph (n+15)) [some (.p (dL s a x)),none] [])=_;unfold gO;rw[aq (e:=[some (.p (dL s a x)),some (.ref 0)]) (c:=S) (by simp only[aC,bB,qU,ak,fC,am,mj,kQ,pf,eR,e];rfl)]
  have b:bu (aF (cL (cG (Ph (n+16) "begin")) (aF (vE (ak 0)) aS)) aS) [some (.p (dL s a x)),some (.ref 0)] S=some (.lst [q],S):=by simp[p]
  have c:ak 1 [some (.p (dL s a x)),some (.ref 0)] S=some (.ref 0,S):=rfl;rw[be,va,b,am,c,am,m,am,am];rfl
 have d:(h.map CO)[(S++[SO.fn (some (.ref 0))]).length]? = some (.lst ((r.map kn).map .p)):=by rw[bY,v];rfl
 unfold cG;rw[aA,dX,t];show(toP 9 (.ref _) (h.map CO)).map (·.1)=_;rw[fK d];rfl
theorem Oy(h:Pln s a x)(hst:j0 (iJ s a x) q)(i:cG (Ph (n+16) "begin") [dL s a x]=some q)(S:U):Ph (n+18) "comings" [.p (dL s a x)] S=some (.ref S.length,S++[.lst ((CM (iJ s a x) q).map .p)]):=by
 obtain⟨w,u,m⟩:=Ou (n:=n) h hst i;have hk:KI (iJ s a x) (CM (iJ s a x) q):=Gd h (f8 ..) _ _ (KI.one hst);have l:=lC (B:=iJ s a x) h (f8 ..) hk.1 hk.2;have k:w.length≤1000000:=by rw[<- m,aQ]at l;lia
 have r:=cN (g:=av 1) (c:=gP) (e:=kh oP (vE (ak 1)) (vC (.int 0))) (S:=S) (p:=λ_=>true) (f:=λc=>gF c 0) (s:=w.map kn) (L:=[some (.p (dL s a x)),none]) (Inv:=λb=>∃d,b=[some (.p (dL s a x)),d]) (λv y b j=>by obtain⟨d,rfl⟩:=j;obtain⟨t,_,rfl⟩:=aY.mp y;exact⟨_,rfl,⟨_,rfl⟩,rfl,λ_=>by simp[kn,gF,qe]⟩) ⟨none,rfl⟩
 rw[mi.mpr λ_ _=>rfl,kO,show(λc=>gF c 0) ∘ kn=(·.1) from rfl,m]at r;rw[wE];show k_ (kF _ [some (.p (dL s a x))] S)=_;unfold kF;simp[b8,my,u,r,k]
theorem vN(h:S[r]? = some (.lst (e.map .p))):eI S 9 (.ref r)=some (.lst e):=by simp[eI,h,Bh]
theorem EW(p:Pln s a x)(hst:j0 (iJ s a x) q)(i:cG (Ph (n+16) "begin") [dL s a x]=some q)(sc t:P)(f b c d:Option D)(T:U) :
  lO (Ph (n+18)) (LL sc (dL s a x) (dL s a x) t f b c d) (SS (CM (iJ s a x) q)++T)=some (.nx,LL sc (dL s a x) (dL s a x) t f b c (some (.ref (SS (CM (iJ s a x) q)++T).length)),SS (CM (iJ s a x) q)++(T++[.lst []])):=by
 have v:=Oy (n:=n) p hst i (SS (CM (iJ s a x) q)++T);have hk:KI (iJ s a x) (CM (iJ s a x) q):=Gd p (f8 ..) _ _ (KI.one hst);generalize CM (iJ s a x) q=e at v hk ⊢;have o:cE 20 (.lst e)=true:=HW λk h=>df (hk.1 k h).ok (by lia);have z:=df (Ce (B:=iJ s a x) p) (show 19≤20 by lia);have l:=v9 o;have y:CW (dL s a x) (dL s a x)=some false:=v9 z;let r:=(SS e++T).length
 have m:(SS e++T++[SO.lst (e.map .p)])[r]? = some (.lst (e.map .p)):=gy _ _;have j:(SS e++T++[SO.lst (e.map .p)])[0]? = some (.lst (e.map .p)):=rfl;have S:=vN m;have H:=vN j;unfold lO;rw[aq (e:=LL sc (dL s a x) (dL s a x) t f b c (some (.ref r))) (c:=SS e++T++[SO.lst (e.map .p)]) (by rw[aC,gK,show bB (ak 2) fC (LL sc (dL s a x) (dL s a x) t f b c d) (SS e++T)=some ([.p (dL s a x)],SS e++T) from rfl,am,v];rfl)]
 have w:bT (O (r_ "list" (ak 9))) (LL sc (dL s a x) (dL s a x) t f b c (some (.ref r))) (SS e++T++[SO.lst (e.map .p)])=some (true,SS e++T++[SO.lst (e.map .p)]):=by simp only[bT,O,r_,ak,kQ,mj,am,Bq,m];rfl
 have u:bV (dF CZ (ak 9) (ak 3)) (LL sc (dL s a x) (dL s a x) t f b c (some (.ref r))) (SS e++T++[SO.lst (e.map .p)])=some (false,SS e++T++[SO.lst (e.map .p)]):=by simp only[bV,dF,ak,kQ,mj,am,CZ,S,H,jx,l];rfl
 have g:bV (dF CZ (ak 2) (ak 1)) (LL sc (dL s a x) (dL s a x) t f b c (some (.ref r))) (SS e++T++[SO.lst (e.map .p)])=some (false,SS e++T++[SO.lst (e.map .p)]):=by simp only[bV,dF,ak,kQ,mj,am,CZ,uD,jx,y];rfl
 rw[aq (e:=LL sc (dL s a x) (dL s a x) t f b c (some (.ref r))) (c:=SS e++T++[SO.lst (e.map .p)]) (by rw[dG,C0,wT,w,am,am];simp only[ml];rw[C0,u,am];simp only[g];rfl)]
 rw[b9,u_,show ak 9 (LL sc (dL s a x) (dL s a x) t f b c (some (.ref r))) (SS e++T++[SO.lst (e.map .p)])=some (.ref r,SS e++T++[SO.lst (e.map .p)]) from rfl,am];simp only[dZ,m,am];rw[zX _ _ (ag _),zt];simp[r]
theorem Li{n:Nat}(h:List Int):cG (Ph (n+19) "law") [gH h]=some (.bl true):=by
 obtain⟨s,a,x,c,p⟩:=HI (n:=n+12) h;have p:cG (Ph (n+18) "_law_plan") [gH h,.int 2]=some (dL s a x):=p;have v:=F0 (B:=iJ s a x) c;have r:∀k,cG (Ph (k+4) "begin") [dL s a x]=some (.tup [.tup ((bq s).map io),.tup (List.replicate (bJ (a8 s) a).length (.tup []))]):=λk=>F5 c;have hst:j0 (iJ s a x) (.tup [.tup ((bq s).map io),.tup (List.replicate (bJ (a8 s) a).length (.tup []))]):=⟨_,_,rfl,v⟩;generalize P.tup [.tup ((bq s).map io),.tup (List.replicate (bJ (a8 s) a).length (.tup []))]=q at r hst;have m:cG (Ph (n+18) "begin") [dL s a x]=some q:=r (n+14);have g:=hst.good;obtain⟨i,f,b,w⟩:=sv (n:=n+3) c (gH h) (dL s a x) none none 1000 0 none none (KI.one hst) (by lia) (by simp);have t:=λu j T=>EW (n:=n) c hst (r (n+12)) (gH h) i f b u j T;rw[ID,aU];have e:pL (Ph (n+18)) [some (.p (gH h)),none,none,none,none,none,none,none,none,none] []=some (.rt (.p (.bl true)),LL (gH h) (dL s a x) (dL s a x) i f b (some (.p (.int 1))) (some (.ref 3)),SS (CM (iJ s a x) q)++[.lst [],.lst []]):=by
  unfold pL;rw[aq (e:=[some (.p (gH h)),some (.p (dL s a x)),none,none,none,none,none,none,none,none]) (c:=[]) (by simp[p])];rw[aq (e:=[some (.p (gH h)),some (.p (dL s a x)),some (.p (dL s a x)),none,none,none,none,none,none,none]) (c:=[]) (by simp[dL,iZ])];rw[aq (e:=[some (.p (gH h)),some (.p (dL s a x)),some (.p (dL s a x)),some (.ref 0),none,none,none,none,none,none]) (c:=[.lst [.p q]]) (by simp[m])];rw[aq (e:=[some (.p (gH h)),some (.p (dL s a x)),some (.p (dL s a x)),some (.ref 0),some (.ref 1),none,none,none,none,none]) (c:=SS [q]) (by simp[u9,g,SS,yes])];rw[aq (e:=LL (gH h) (dL s a x) (dL s a x) (.int 0) none none none none) (c:=SS [q]) (by simp)];rw[aq (by unfold nH;exact w)];rw[aq (e:=LL (gH h) (dL s a x) (dL s a x) i f b (some (.p (.int 1))) (some (.ref 3))) (c:=SS (CM (iJ s a x) q)++[.lst [],.lst []]) (by rw[cw,show iY (vC (.int 2)) (LL (gH h) (dL s a x) (dL s a x) i f b none none) (SS (BF (iJ s a x) 1000 0 [q]))=some ([.int 0,.int 1],SS (CM (iJ s a x) q)++[]) by rw[cZ];rfl,am];rw[cz (h:=LL (gH h) (dL s a x) (dL s a x) i f b (some (.p (.int 0))) none) rfl (t _ _ _)];rw[cz (h:=LL (gH h) (dL s a x) (dL s a x) i f b (some (.p (.int 1))) _) rfl (t _ _ _)];rfl)]
  rfl
 show (match pL (Ph (n+18)) [some (.p (gH h)),none,none,none,none,none,none,none,none,none] [] with
  |some (.rt d,_,S)=>(toP 9 d S).map Prod.fst
  |some (.nx,_,_)=>some P.non
  |_=>none)=_
 rw[e];rfl
theorem EX{K:FG}{H:Hp}{a:Addr}{s:List Int}(l:s.length≤63)(h:CV H)(S:iy K H a (s.map V.int)):nG K (IV Gv Att Tb 200 "law") [.ref a] H (λv _=>v=.bl true) (λ_ _ _=>False):=by have e:cG (IV Gv Att Tb 200 "law") [.ro (s.map .int)]=some (.bl true):=Li (n:=181) s;exact Lj h S e
end My
set_option tactic.hygienic true
namespace PySem.W.Fast
def tw1287622769141115363:=Nat
def tw3934754835809349432:=Nat
def tw14593643614445053598:=Nat
def tw11373336873423469795:=Nat
def tw7376811570492605140:=Nat
def tw3486015871514053559:=Nat
def tw6670149515691428570:=Nat
def tw6763236047685552171:=Nat
def tw17702331630972570435:=Nat
def tw3128712918912738111:=Nat
def tw14491968896914462924:=Nat
def tw22170315334374701:=Nat
def tw7760621534064880338:=Nat
def tw16473609608851187484:=Nat
def tw15159113500059417855:=Nat
def tw15858917240942802425:=Nat
def tw9521299892056737210:=Nat
def tw3418993139263370096:=Nat
def tw11843910425271537513:=Nat
def tw6567921856616269187:=Nat
def tw6773466016683850995:=Nat
def tw8835522542154334336:=Nat
def tw1850292025180194012:=Nat
def tw6257872378826629496:=Nat
def tw16717345842209062266:=Nat
def tw4573136106051197482:=Nat
def tw561649062172731537:=Nat
def tw16961673839331012945:=Nat
def tw8366693937589991933:=Nat
def tw14239745873995192782:=Nat
def tw12343891337621824763:=Nat
def tw579237080717841841:=Nat
def tw11950843385965661797:=Nat
def tw7737326853953786693:=Nat
def tw6592464017824013611:=Nat
def tw1035722799809164292:=Nat
def tw14709716000417901972:=Nat
def tw12401839386940292736:=Nat
def tw1254369075515869764:=Nat
def tw1243871167867404243:=Nat
def tw6932798365679494748:=Nat
def tw18135178174868535206:=Nat
def tw3623374979146499251:=Nat
def tw14510269531936444947:=Nat
def tw5357734216556272653:=Nat
def tw829258845777136483:=Nat
def tw10650974702406135183:=Nat
def tw2325802974606918311:=Nat
def tw5096366707348101874:=Nat
def tw1898694172789394856:=Nat
def tw10207050544732318366:=Nat
def tw8994623187749329750:=Nat
def tw14909143984081452564:=Nat
def tw15369077730898547451:=Nat
def tw6043311346469255343:=Nat
def tw6845070297580199100:=Nat
def tw17832289186780700357:=Nat
def tw12040902181649134597:=Nat
def tw14428157486483506266:=Nat
def tw4930750829528365496:=Nat
def tw16032636096105637815:=Nat
def tw13544286180036495881:=Nat
def tw17537967247043750570:=Nat
def tw7003043696873655500:=Nat
def tw13698751176171475696:=Nat
def tw490146105006525248:=Nat
def tw12651416534977631605:=Nat
def tw7757717960571971642:=Nat
def tw5958824971353948371:=Nat
def tw8943733748357946227:=Nat
def tw14490532658526090609:=Nat
def tw11050410387218464486:=Nat
def tw15564675408769980630:=Nat
def tw12553828867132416699:=Nat
def tw5542365989562118508:=Nat
def tw4906310453912176036:=Nat
def tw5146720648767127862:=Nat
def tw15753418573095194628:=Nat
def tw17194165512412668376:=Nat
def tw12741920659689298842:=Nat
def tw15348199446618462509:=Nat
def tw2543124538435301588:=Nat
def tw5327579303312598309:=Nat
def tw552703721868324955:=Nat
def tw8208589578801146028:=Nat
def tw18429659808320527293:=Nat
def tw12377935525458097843:=Nat
def tw579450204811834663:=Nat
def tw1751294609671546559:=Nat
def tw8943818827355749185:=Nat
def tw16407881923758360925:=Nat
def tw11574094058560633420:=Nat
def tw15312929153832327683:=Nat
def tw5952511973092533029:=Nat
def tw15164880116778054709:=Nat
def tw7524519342741861709:=Nat
def tw1626529515575402989:=Nat
def tw7320705011802345478:=Nat
def tw6509336184951247019:=Nat
def tw15823186286320757169:=Nat
def tw1214347585462140071:=Nat
def tw9298490465384580785:=Nat
def tw4380836070438519659:=Nat
def tw6251243335444464759:=Nat
def tw11741361602123270116:=Nat
def tw12433663242558257722:=Nat
def tw9343320481597060855:=Nat
def tw2967155613871904705:=Nat
def tw10004269832706196649:=Nat
def tw9628162748347026837:=Nat
def tw6322466525206339471:=Nat
def tw10316777027116607380:=Nat
def tw11655121169990065334:=Nat
def tw4002232696812776782:=Nat
def tw9046297990557539855:=Nat
def tw3031752411117481981:=Nat
def tw10462091300347681216:=Nat
def tw323765510877486490:=Nat
def tw3460843383670839038:=Nat
def tw5978720424264596906:=Nat
def tw11339187510051199248:=Nat
def tw7837065682611148480:=Nat
def tw10074302799501576430:=Nat
def tw17525802548349393146:=Nat
def tw16605655995013296705:=Nat
def tw7232540678960510687:=Nat
def tw6892698329185285010:=Nat
def tw11256231587273516677:=Nat
def tw6350924792994046559:=Nat
def tw6930877187900695999:=Nat
def tw6758068346115815770:=Nat
def tw15270238837286328887:=Nat
def tw4776074978408930286:=Nat
def tw2297042296435197727:=Nat
def tw257201710541918214:=Nat
def tw3659516550423214115:=Nat
def tw13235182361759782998:=Nat
def tw900065850539676330:=Nat
def tw14758074041927829236:=Nat
def tw15882302036427713630:=Nat
def tw11184270884806204281:=Nat
def tw6378792147644273289:=Nat
def tw5932409979277165643:=Nat
def tw3077954748270426947:=Nat
def tw5279985489058604392:=Nat
def tw2159171277927894231:=Nat
def tw2386302098834918952:=Nat
def tw13831145295848948949:=Nat
def tw5667443647038563669:=Nat
def tw12362682239206829128:=Nat
def tw4829123259871480250:=Nat
def tw5816046259555038127:=Nat
def tw4112888850166132040:=Nat
def tw5072585341837335610:=Nat
def tw16017022431228680327:=Nat
def tw15050239848420405427:=Nat
def tw7232160775593288909:=Nat
def tw1332571396297342542:=Nat
def tw7098044528766236783:=Nat
def tw9776996636596807927:=Nat
def tw9218381703501477043:=Nat
def tw12947991303496508348:=Nat
def tw8331983171430594981:=Nat
def tw16973798180006751694:=Nat
def tw15218784975678235399:=Nat
def tw15288730134074444207:=Nat
def tw16122657504984521429:=Nat
def tw8971546107156562932:=Nat
def tw7440690903450123594:=Nat
def tw13329923962531867182:=Nat
def tw5800746616243914559:=Nat
def tw12667382520427284636:=Nat
def tw10597702608142359708:=Nat
def tw15164551735564900652:=Nat
def tw15797049426226816263:=Nat
def tw836600756840974936:=Nat
def tw11765758072812610803:=Nat
def tw1887173253281907118:=Nat
def tw11142498869750306446:=Nat
def tw6419010127865659549:=Nat
end PySem.W.Fast
open PySem PySem.W PyProof.Rows
set_option maxRecDepth 100000 in
set_option maxHeartbeats 0 in
theorem PySem.Challenge.cw_roadsall_k40_all_that_can_come_holds : PySem.Challenge.rw_roadsall_k40_all_that_can_come.Holds := by
 w_on;o_law;k_head;(case hw=>w_witness2)
 k_fill
 refine L2.DE (l:=PySem.Challenge.rw_roadsall_k40_all_that_can_come) (n:=63) (k:=200) (x:="_law_script") (CX:=L2.oF) (sp:=fun K=>Ev.nG K (Ev.IV My.Gv My.Att My.Tb 200 "law")) rfl (by decide) rfl ⟨rfl,by decide,by decide⟩ (fun w h Y=>PySem.W.km_in_of Y) (fun w=>by kernel_rfl) (fun w h Y=>My.Hi Y (by kernel_rfl) (by kernel_rfl)) ?F ?S ?C
 case F=>
  intro w mg fa h KX G hmg
  have T:Ev.TOk w My.Gv My.Att My.Tb (L2.RJ KX) mg:=by
   dsimp only [L2.RJ]
   refine' My.L6 KX G ?cb ?hh ?lmk ?gv2 ?gv0 ?gv1 ?z
   case cb=>exact⟨⟨by k_is,by k_is,by k_is,by k_is,by k_is,by k_is,by k_is⟩,by k_is,by k_is,by k_is,by k_is,by k_is,⟨_,_,_,_,_,_,_,_,_,_,by k_is,by k_is,by k_is,by k_is,by k_is⟩,⟨_,_,_,_,_,_,_,_,_,_,by k_is,by k_is,by k_is,by k_is,by k_is⟩,⟨_,_,_,_,_,_,_,_,_,_,by k_is,by k_is,by k_is,by k_is,by k_is⟩⟩
   case hh=>
    intro d hd
    simp only [My.Mx,List.mem_cons,List.not_mem_nil,or_false] at hd
    rcases hd with rfl|rfl|rfl|rfl|rfl|rfl|rfl|rfl|rfl|rfl|rfl|rfl|rfl|rfl|rfl|rfl|rfl|rfl|rfl|rfl|rfl|rfl|rfl|rfl|rfl|rfl|rfl|rfl|rfl|rfl|rfl|rfl|rfl|rfl|rfl|rfl|rfl|rfl <;> (dsimp only [My.pJ,My.j5,My.QH];exact⟨_,_,_,_,_,_,_,_,_,_,by k_is,by k_is,by k_is,by k_is⟩)
   case lmk=>kernel_rfl
   case gv0|gv1|gv2=>exact⟨_,by k_is⟩
   case z=>
    intro x hx
    simp only [Ev.IN,List.mem_cons,List.not_mem_nil,or_false] at hx
    rcases hx with rfl|rfl|rfl|rfl|rfl|rfl|rfl|rfl|rfl|rfl|rfl|rfl|rfl|rfl|rfl|rfl|rfl|rfl|rfl <;> k_is
  obtain⟨f,fd,h1⟩:=T.fn My.pJ (by simp [My.Tb,My.Mx])
  have e0:=hmg.symm.trans (h1.gl (by decide +kernel))
  cases e0
  refine⟨fd,?_,fun base kb nb=>(Ev.BB T 200).1 My.pJ (by simp [My.Tb,My.Mx]) _ fd h1.fn⟩
  obtain⟨kV,doc,pm,an,cdv,ct,rfl⟩:=h1.pl (by decide +kernel)
  exact fun s v=>.of_eq rfl
 case S=>exact fun w H a ns hl hO hS=>My.EX hl hO hS
 case C=>exact fun _ _ _ _ z=>z
