import PyProof.Rows.All
import Wide.All
import OpenK.AllK
import Wide.FinOn
import Lean
import PyProof.EqAt
import PyProof.EqKinds
import PyProof.TupleCall
import PySem.Challenge.RW_roadsall_k53_quiet_hands_and_plain_facts
set_option Elab.async false
set_option linter.all false
set_option maxRecDepth 100000
set_option maxHeartbeats 4000000
noncomputable section
abbrev VP:=PySem.Value->PySem.Shared->Prop
abbrev PN:=List (PySem.Addr×PySem.Obj)
abbrev SV:=PySem.Str->Option PySem.Value
abbrev Aa:=PySem.Addr->Prop
abbrev LS:=List PySem.Str
abbrev LV:=List PySem.Value
abbrev Ab:=List PySem.Expr
abbrev OV:=Option PySem.Value
abbrev FG:=PySem.W.Frag
open PySem.PyData renaming strOk->aG,eqv->dO,depthAll->qJ,canLayAll0->wo,depth->sO,eqvAll->zb,canLay0->DN
open PySem.Builtin.Tuple renaming tupleExact->y',tupleItemsOf->DM,tupleHashOf->JH,tupleTooMany->Kr
open PySem.W renaming findIn->dS,keepIn->dZ,emptyDict->jY,codeIn->jj,instObj->kI,fnOf->ji,callWith_K->qL,plainGet->qK,nsIn->nU,tabObj->qI,CodeHd->qH,hasDictIn->uM,lookIn->uG,plainGet_of->x',mg_of->uA,plainOver->x_,methodObj->x8,isFn->uv,codeHdIn->x6,takerIn->x5,makesIn->x4,noTabs->x0,mem_of_lookupK->DY,cellsFrom_some->DX,methodCall_KW->DW,pyHash_slot->DV,codeHd_of_K->DU,specialIn->DT,handedIn->DS,kia_one->DR,OpenLaw->DQ,KasFin->DP,WalkO->DO
open PySem renaming wpAny_bind->ac,wpAny_pure->aq,wpAny_mono->cG,wpAny_field->dH,wpAny_Call_Name_kw->jg,wpAny_holding->fR,wpAny_seqItems->jf,wpAny_truthy_bool->kH,wpAny_callSpecial?_slot->qG,call_meets->iC,wpAny_passesOwn->lX,wpAny_loadPart'->lW,mem_of_lookup->qF,wpAny_call_entry->nT,wpAny_setField_rec->qE,tupleKind_room_in1->qD,wpAny_typeOf->lV,wpAny_newObj_type->qC,codeAny_mono->nS,wpAny_pyIter_tuple->tZ,wpAny_pyIter_enum->tY,sizeLine_eq->nR,wpAny_nextOf_list_item->xZ,call_meetsIn->qB,wpAny_execs_nil->tX,codeAny_builtin->tW,builtinLookup_eq_fast->xY,wpAny_loadName_local->xX,wpAny_standAt->tU,plainId_quiet->tT,wpAny_rule->qA,wpAny_call->qz,wpAny_Name->qy,typeIs_int->qx,wpAny_pyIter_list->xW,wpAny_assign_Name->xV,wpAny_Call_method->xU,noFill_tuple_add->xT,typeLookup_type->xS,Within->xR,wpAny_newTuple->xQ,wpAny_letOwnedTupleGo_enum->DL,wpAny_binaryOp_repeat_ref->DK,wpAny_onRaise->xP,seq_tuple_add->xO,wpAny_pyNext_list_item->DJ,wpAny_Call_method_late->DI,wpAny_Assign_Subscript->DH,seqSlot_of->DG,seqIndex_neg->xN,concat_meets->xM,wpAny_pyNext_list_end->DF,wpAny_notOrdered_dict->DE,wpAny_nextOf_list_end->DD,exec_Assign_Name_used->DC,wpAny_updateSeq_pair->DB,wpAny_newFunctionEnv->Bj,seqIndex_of->uT,wpAny_loadName_free->Bi,wpAny_loadName_cell->Bh,wpAny_setItem_heap->Bg,sub_AttributeError->Bf,wpAny_sequenceKey->Be,slot_list_getitem->Bc,slot_dict_getitem->Bb,wpAny_pyHash_str->Ba,wpAny_pyHash_int->A',wpAny_isInstance->A_,wpAny_forIn_list->A9,wpAny_execs_cons->A8,wpAny_eqBool_str->A7,wpAny_eqBool_int->A6,wpAny_Dict_empty->A5,kt_code_dict_new->A4,beq_builtin_none->A3,wpAny_tryCatch->A2,wpAny_setField->A1,callType_codes->A0,wpAny_newList->AZ,rangeSize_one->AY,eval_ListComp->AX,evalPart_none->AW,call_list_seq->AV
open Array renaming length_toList->mV,forIn_toList->qd,getElem?_eq_some_iff->AU,getElem?_append_left->AT,getElem?_eq_getElem->AS,size_append->AR,all_append->AQ,toList->AO
open PySem.Around renaming in1_units->mU,under_plainId->qc,under->uS,frames_deeper->AN
open Bool renaming and_eq_true->av,false_ne_true->bC,eq_iff_iff->jX,not_eq_true'->mS,false_or->lp,not_true->p',and_true->p_,false_eq_true->uR,or_eq_true->uQ,true_and->uP,or_eq_false_iff->AM
open List renaming mem_cons_of_mem->aH,mem_cons_self->aI,getElem?_set_ne->aV,mem_of_getElem?->aY,getElem?_eq_getElem->bo,map_cons->aC,length_cons->aR,getElem?_eq_some_iff->bB,length_append->a_,mem_cons->aL,length_map->aU,getElem?_set_self->bA,getElem?_append_right->b_,size_toArray->bg,all_eq_true->bb,getElem?_append_left->cA,mem_map->aZ,getElem?_map->b9,mem_append->bN,mem_flatMap->bX,replicate_succ->cJ,mem_singleton->cz,nodup_cons->bW,eq_nil_of_length_eq_zero->fY,not_mem_nil->cZ,mem_append_right->fh,length_set->dw,any_cons->cT,append_nil->dJ,set_set->cI,getElem?_take_of_lt->im,set_getElem_self->gR,length_filter_le->gQ,append_assoc->fg,all_cons->dv,nil_append->eD,flatMap_cons->fX,mem_filter->ff,flatten_cons->gP,foldl_cons->fW,mem_iff_getElem->i6,mem_append_left->i5,map_nil->eC,getD_eq_getElem?_getD->ll,length_take->il,getElem_mem->ik,filter_eq_self->jW,map_append->i4,forIn_cons->i3,find?_cons->i0,lookup->fV,mem_range->iZ,mem_filterMap->lj,nodup_append->lh,filterMap_cons->mR,mem_replicate->mQ,filter_cons_of_pos->p9,filter_cons_of_neg->p7,map_map->jV,length_singleton->p6,take_length->mP,isEmpty_iff->mO,length_nil->mN,drop_zero->mM,pairwise_iff_getElem->uO,lookup_cons->p0,getElem_map->pZ,getElem?_replicate->uN,drop_length->pY,cons_append->pX,any_eq_true->pW,length_replicate->uL,getElem?_eq_none->uK,nodup_nil->pV,mem_of_mem_take->uJ,length->mL,findIdx?_eq_some_iff_getElem->AL,all_nil->pU,range'_succ->uI,length_drop->uH,of_mem_zip->uF,filter_map->uE,foldl->pT,drop_drop->uD,mem_of_find?_eq_some->AK,getElem?_eq_none_iff->AJ,drop_eq_getElem_cons->AI,mem_of_mem_eraseIdx->AH,map_take->uC,length_eraseIdx_le->AG,getElem?_cons_zero->AF,getElem?_cons_succ->AE,take_of_length_le->AD,filter_eq_nil_iff->AC,pairwise_flatMap->AB,mem_of_mem_drop->AA,map_id->uB,map_congr_left->Az,length_pos_iff->Ay,zip_cons_cons->Ax,map_inj_right->Aw,take_sublist->Av,pairwise_map->Au,length_range->As,mem_reverse->Ar,flatMap_def->Aq,foldr_cons->Ap,find?_some->Ao,forIn_nil->An,all_map->Am,range'->Al
abbrev aN:=@of_decide_eq_true
abbrev af:=@if_pos
abbrev ah:=@if_neg
abbrev bt:=@decide_eq_false
abbrev iY:=@beq_eq_false_iff_ne
abbrev gO:=@decide_eq_true
abbrev cY:=@or_false
abbrev du:=@congrArg
abbrev jU:=@if_false
abbrev mK:=@beq_iff_eq
abbrev jT:=@if_true
abbrev ux:=@decide_eq_true_eq
abbrev lg:=@not_or
open PySem.SeqAt renaming eqv_refl->uw,readOf->mJ,shaped->Ak,eqAt_reads->HB
open Sum.inr renaming inj->ij
open PySem.Heap renaming get?_push_of_some->aW,lt_size->aD,get?_push_size->bx,SameBut->eB,size_push->mI,get?_update_self->uu,get?_update_other->Aj,get?_none_of_le->Ai,ExtBut->ut,NewAttrErr->Ah,IsTuple->Ag
open Option.some renaming inj->cm,injEq->HA
open Nat renaming le_refl->ak,le_trans->aA,lt_of_lt_of_le->bJ,ne_of_lt->bf,ne_of_gt->bU,zero_le->cH,lt_irrefl->e_,le_of_lt->eZ,pow_le_pow_right->jS,zero_add->fU,lt_of_le_of_lt->jR,lt_succ_self->jQ,le_succ->iX,mul_comm->jP,mul_le_mul_left->pS,pow_succ->lc,lt_trans->lb,mul_le_mul->mH,succ_mul->mG,mul_assoc->pR,le_of_succ_le->ur,add_sub_cancel_left->Af,sub_zero->uq,le_of_eq->uo,add_comm->um,not_lt->ul,add_sub_cancel->Ae,le_succ_of_le->Ad,ble->pQ,min_eq_right->Ac,le_add_right->z_,min_eq_left->z5,mul_succ->z4,lt_or_ge->z3,log2_lt->z0
open Ne renaming symm->aP
open PySem.Calls renaming spliced_cons->dI,spliced_nil->gN,callWith_builtin->mF,evalArgs_plain->mE,Name_function_global->uk,loadGlobal_global->zZ
open PyProof.Rows renaming callWith_type1->jO,slot_tuple_getitem->jN,boot_list->uj,boot_dict->zY,reads_list_at->ui,subscriptTail_builtinR->zX,tail_any->pP,lt_int->zW,entry_tuple_getitem->zV,args_tuple_getitem->zU,get?_update_seq->zT,callWith_builtin1->Hz,boot_zip->Hy,boot_tuple->Hx,boot_sorted->Hw,boot_isinstance->Hv,boot_int->Hu,boot_bool->Ht,boot_any->Hs,boot_all->Hr,boot_abs->Hq,slicePart_none->zS,boot_enumerate->zR,tupleItemsOf_->zQ,listUpdate_at->zP
open PySem.EqNone renaming ne_str_none->Ho,ne_none_str->Hn,ne_none_none->Hm,ne_none_int->Hl,ne_none_bool->Hk,ne_int_none->Hj,ne_bool_none->Hi,eq_str_none->Hh,eq_none_str->Hg,eq_none_none->Hf,eq_none_int->He,eq_none_bool->Hd,eq_int_none->Hc,eq_bool_none->Hb
open PySem.EqMixed renaming ne_str_int->Ha,ne_str_bool->G',ne_int_str->G_,ne_bool_str->G9,eq_str_int->G8,eq_str_bool->G7,eq_int_str->G6,eq_bool_str->G5
open Option renaming map_eq_some_iff->eA,bind_some->mD,isSome_iff_exists->uh,map->ug,isSome_map->zO,getD_none->zN
open PySem.F renaming slot_dict_get->k_,slot_tuple_iterator_next->pO,slot_tuple_mul->pN,entry_dict_get->pM,slot_int_rmul->pL,args_tuple_add_2->uf,plainAttrs_list->ue,plainAttrs_dict->ud,entry_tuple_add->uc,slot_tuple_add->ua,slot_list_getattribute->t_,slot_zip_getattribute->t8,slot_dict_setdefault->zM,slot_tuple_index->zL,args_tuple_mul_2->zK,slot_tuple_rmul->zJ,slot_list_index->zI,entry_tuple_mul->zH,args_dict_get_3->zG,args_dict_get_2->zF,args_tuple_iterator_next_1->zE,type_dict_get->zD,entry_tuple_iterator_next->zC,slot_list_extend->zB,slot_list_append->zA,args_int_rmul_2->zz,slot_int_index->zy,entry_int_rmul->zx,fills_int_mul->zw,kt_typeCall_dict_1->zu,args_dict_init_2->zt,entry_dict_init->zr,kt_called_dict->zq,slot_zip_next->zp
open Int renaming zero_add->cS,emod_nonneg->gM,emod_lt_of_pos->iW,toNat_natCast->pK,toNat_of_nonneg->zo,natCast_mul->zn,le_of_lt->zm
open PySem.Builtin.Slice renaming slicePlaces->pJ,sliceAdjust->t6,sliceApplied->zj,slicePartIndex->G4,sliceFields->G3
open PySem.Str renaming length->mB,ofString_eq_toList->zi
open PySem.Obj renaming mapSeq->jM,mapFields->zh
open PySem.Builtin.List renaming listTooLong->pI
open PySem.AutoSeq1 renaming wpAny_loadPart'->t5,sub_tuple_tuple->zg,idx_int->zf
open List.cons renaming injEq->iV
open PySem.Heap.SameBut renaming update->my
open PySem.Builtin.SmallTypes renaming nextOf->fS,ownedTupleIsFree->pH,ownedTupleHandOut->G2
open PySem.Builtin.Dict renaming updateFrom->pG,selfAndRest->ze,addKeywords->zd,pairItems->zc
set_option tactic.hygienic false
namespace Nk
open PySem
mutual
noncomputable def kd:PyData->Bool
 | .none=>true
 | .int _=>true
 | .str x=>DN (.str x)
 | .tuple xs=>kds xs
 | .bool _=>false
 | .list _=>false
 | .dict _=>false
noncomputable def kds:List PyData->Bool
 | []=>true
 |x::xs=>kd x && kds xs
end
mutual
noncomputable def hk(w:World):PyData->Int
 | .none=>PySem.W.hashW w.params .none
 | .int i=>hashInt i
 | .str x=>hashStr w x
 | .tuple xs=>reduceHash (JH (OS w xs))
 | .bool _=>0
 | .list _=>0
 | .dict _=>0
noncomputable def OS(w:World):List PyData->List Int
 | []=>[]
 |x::xs=>hk w x::OS w xs
end
mutual
noncomputable def dr:PyData->Nat
 | .tuple xs=>Qf xs+1
 | .none=>1
 | .int _=>1
 | .str _=>1
 | .bool _=>0
 | .list _=>0
 | .dict _=>0
noncomputable def Qf:List PyData->Nat
 | []=>0
 |x::xs=>dr x+Qf xs
end
noncomputable instance decPD:DecidableEq PyData:=λa b=>Classical.propDecidable (a=b)
section
variable{prog:Program}{w:World}{E:VP}
mutual
theorem B6:∀(d:PyData)(v:Value)(as:List Addr)(A:Around)(s:Shared)(Q:Int->Shared->Prop),kd d=true->Reads s.heap v d as->A.units+d.depth < cLine->Q (hk w d) { s with toks:=s.toks+dr d }->wpAny (model prog w) A (pyHash v) Q E s
 | .none,_,_,A,s,Q,_,r,hu,h=>by cases r;exact DV (T:="NoneType") rfl F.slot_NoneType_hash F.entry_NoneType_hash (F.args_NoneType_hash_1 _) (A3 _) (.inr (by lia)) (ac (aq (ac (wpAny_mkInt (aq ⟨_,_,rfl,h⟩)))))
 | .int _,_,_,_,_,_,_,r,_,h=>by cases r;exact A' h
 | .str _,_,_,_,_,_,_,r,_,h=>by cases r;exact Ba h
 | .tuple xs,_,_,A,s,Q,k,r,hu,h=>by
  cases r with
  | @tuple a o vs n _ _ g1 g2 g3 g4=>simp only[sO]at hu;refine DV ⟨o,g1,g2⟩ F.slot_tuple_hash F.entry_tuple_hash (F.args_tuple_hash_1 _) (A3 _) (.inr (by lia)) ?_;show wpAny _ _ (DM (.ref a) >>= _) _ _ s;refine ac (wpAny_tupleItemsOf g1 g3 (ac ?_));rw[<- qd];refine xf xs vs.toList _ A.in1 s #[] _ k g4 (by rw[mU];lia) λb e=>?_;show wpAny _ _ (retInt (JH b.toList)) _ _ _;rw[e];exact ac (wpAny_mkInt (aq ⟨_,_,rfl,h⟩))
 | .bool _,_,_,_,_,_,k,_,_,_ | .list _,_,_,_,_,_,k,_,_,_ | .dict _,_,_,_,_,_,k,_,_,_=>nomatch k
theorem xf:∀(xs:List PyData)(vs:LV)(as:List Addr)(A:Around)(s:Shared)(b:Array Int)(Q:Array Int->Shared->Prop),kds xs=true->ReadsAll s.heap vs xs as->A.units+qJ xs < cLine ->
  (∀b',b'.toList=b.toList++OS w xs->Q b' { s with toks:=s.toks+Qf xs })->wpAny (model prog w) A (forIn vs b λx r=>do let h <- pyHash x;pure PUnit.unit;pure (ForInStep.yield (r.push h))) Q E s
 | [],_,_,_,s,b,_,_,r,_,h=>by cases r;exact aq (h b (by simp[OS]))
 |d::xs,_,_,A,s,b,Q,k,r,hu,h=>by
  cases r with
  |cons r1 r2=>
   simp only[kds,av]at k;simp only[qJ]at hu;rw[i3];refine ac (ac (B6 d _ _ A s _ k.1 r1 (by lia) ?_));refine aq (xf xs _ _ A { s with toks:=s.toks+dr d } _ Q k.2 r2 (by lia) λb' e=>?_);have:=h b' (by rw[e];simp[OS])
   simpa[Qf,Nat.add_assoc] using this
end
end
mutual
theorem IW:∀d:PyData,kd d=true->d.canLay0=true
 | .none,_ | .int _,_=>rfl
 | .str _,k=>k
 | .tuple xs,k=>by have:=wZ xs k;simpa[DN] using this
 | .bool _,k | .list _,k | .dict _,k=>nomatch k
theorem wZ:∀xs:List PyData,kds xs=true->wo xs=true
 | [],_=>rfl
 |d::xs,k=>by simp only[kds,av]at k;simp[wo,IW d k.1,wZ xs k.2]
end
mutual
theorem eqv_kd:∀a b:PyData,kd a=true->kd b=true->(dO a b=true↔a=b)
 | .none,.none,_,_=>by simp[dO]
 | .none,.int _,_,_ | .none,.str _,_,_ | .none,.tuple _,_,_=>by simp[dO]
 | .int _,.none,_,_ | .int _,.str _,_,_ | .int _,.tuple _,_,_ | .int _,.int _,_,_=>by simp[dO]
 | .str _,.none,_,_ | .str _,.str _,_,_ | .str _,.tuple _,_,_ | .str _,.int _,_,_=>by simp[dO]
 | .tuple _,.none,_,_ | .tuple _,.str _,_,_ | .tuple _,.int _,_,_=>by simp[dO]
 | .tuple xs,.tuple ys,h,k=>by have:=B_ xs ys h k;simp[dO,this]
 | .bool _,_,k,_ | .list _,_,k,_ | .dict _,_,k,_=>nomatch k
 | .none,.bool _,_,k | .none,.list _,_,k | .none,.dict _,_,k | .int _,.bool _,_,k | .int _,.list _,_,k | .int _,.dict _,_,k=>nomatch k
 | .str _,.bool _,_,k | .str _,.list _,_,k | .str _,.dict _,_,k | .tuple _,.bool _,_,k | .tuple _,.list _,_,k | .tuple _,.dict _,_,k=>nomatch k
theorem B_:∀xs ys:List PyData,kds xs=true->kds ys=true->(zb xs ys=true↔xs=ys)
 | [],[],_,_=>by simp[zb]
 | [],_::_,_,_|_::_,[],_,_=>by simp[zb]
 |x::xs,y::ys,h,k=>by simp only[kds,av]at h k;simp[zb,eqv_kd x y h.1 k.1,B_ xs ys h.2 k.2]
end
mutual
theorem stay:∀(x:PyData){h h':Heap}{v:Value}{as:List Addr},kd x=true->Reads h v x as->(∀b o,h.get? b=some o->o.cls=.type "tuple"->(∃vs n,o.data=.seq vs n)->h'.get? b=some o)->Reads h' v x as
 | .none,_,_,_,_,_,r,_ | .int _,_,_,_,_,_,r,_ | .str _,_,_,_,_,_,r,_=>by cases r;constructor
 | .tuple xs,_,_,_,_,k,r,q=>by
  cases r with
  |tuple g1 g2 g3 g4=>exact .tuple (q _ _ g1 g2 ⟨_,_,g3⟩) g2 g3 (stays xs k g4 q)
 | .bool _,_,_,_,_,k,_,_ | .list _,_,_,_,_,k,_,_ | .dict _,_,_,_,_,k,_,_=>nomatch k
theorem stays:∀(xs:List PyData){h h':Heap}{vs:LV}{as:List Addr},kds xs=true->ReadsAll h vs xs as->(∀b o,h.get? b=some o->o.cls=.type "tuple"->(∃vs n,o.data=.seq vs n)->h'.get? b=some o)->ReadsAll h' vs xs as
 | [],_,_,_,_,_,r,_=>by cases r;constructor
 |x::xs,_,_,_,_,k,r,q=>by
  simp only[kds,av]at k;cases r with
  |cons r1 r2=>exact .cons (stay x k.1 r1 q) (stays xs k.2 r2 q)
end
section
variable{prog:Program}{w:World}{E:VP}
mutual
theorem wJ:∀(d:PyData)(n:Nat)(v:Value)(as:List Addr)(A:Around)(s:Shared)(Q:Bool->Shared->Prop),kd d=true->d.depth≤n->Reads s.heap v d as->Q true s->wpAny (model prog w) A (eqIsQuiet n v) Q E s
 | .none,n,_,_,_,_,_,_,_,r,q | .int _,n,_,_,_,_,_,_,_,r,q | .str _,n,_,_,_,_,_,_,_,r,q=>by cases r;rw[eqIsQuiet_byValue n rfl];exact aq q
 | .tuple xs,n,_,_,A,s,Q,k,l,r,q=>by
  simp only[sO]at l;obtain⟨n,rfl⟩:∃m,n=m+1:=⟨n-1,by lia⟩;cases r with
  | @tuple a o vs m _ _ g1 g2 g3 g4=>
   have T:s.TypeIs (.ref a) "tuple":=⟨o,g1,g2⟩;unfold eqIsQuiet;refine ac (wpAny_specialOf T F.slot_tuple_eq.lookup ?_);show wpAny _ _ (isInstance (.ref a) (.type "tuple") >>= _) _ _ s;refine ac (A_ T isSubtype_tuple_tuple ?_);simp only[p',uR,jU];refine ac (jf g1 g3 (ac ?_));show wpAny _ _ (forIn vs _ _) _ _ s;rw[<- qd];have all:=sU xs n vs.toList _ A s k (by lia) g4;refine A9 _ (λrest r s'=>r.1=none/\s'=s/\∀v ∈ rest,∀Q:Bool->Shared->Prop,Q true s->wpAny (model prog w) A (eqIsQuiet n v) Q E s) _ ?_ ?_ _ _ ⟨rfl,rfl,λv hv Q=>all v hv Q⟩
   .rintro v rest ⟨r1,r2⟩ s' ⟨e1,e2,hall⟩;subst e2;refine ac (hall v aI _ ?_);simp only[p',uR,jU];exact aq ⟨rfl,rfl,λu hu=>hall u (aH _ hu)⟩
   .rintro ⟨r1,r2⟩ s' ⟨e1,e2,_⟩;cases e1;cases e2;exact aq q
 | .bool _,_,_,_,_,_,_,k,_,_,_ | .list _,_,_,_,_,_,_,k,_,_,_ | .dict _,_,_,_,_,_,_,k,_,_,_=>nomatch k
theorem sU:∀(xs:List PyData)(n:Nat)(vs:LV)(as:List Addr)(A:Around)(s:Shared),kds xs=true->qJ xs≤n->ReadsAll s.heap vs xs as->∀v ∈ vs,∀Q:Bool->Shared->Prop,Q true s->wpAny (model prog w) A (eqIsQuiet n v) Q E s
 | [],_,_,_,_,_,_,_,r,v,hv,_,_=>by cases r;cases hv
 |x::xs,n,_,_,A,s,k,l,r,v,hv,Q,q=>by
  simp only[kds,av]at k;simp only[qJ]at l;cases r with
  |cons r1 r2=>
   rcases aL.mp hv with rfl|hv
   .exact wJ x n _ _ A s Q k.1 (by lia) r1 q
   .exact sU xs n _ _ A s k.2 (by lia) r2 v hv Q q
end
end
def nest(prog:Program)(w:World):HeapKind prog w PyData where
 is:=λh d a=>kd d=true/\d.depth≤8/\∃n,Reads h (.ref a) d n
 hash:=hk w
 draws:=dr
 room:=λA=>A.units+8 < cLine
 inj:=λx y=>by obtain⟨k,_,_,r⟩:=x;obtain⟨_,_,_,m⟩:=y;exact PySem.SeqAt.Reads.unique _ _ _ _ _ (IW _ k) r m
 keeps:=λx hd v j=>by obtain⟨k,l,n,r⟩:=x;refine⟨k,l,n,stay _ k r λb o c _ f=>?_⟩;refine(j.2 b λe=>?_).trans c;subst e;obtain⟨_,_,f⟩:=f;rw[hd]at c;cases c;rw[v]at f;cases f
 pyHash:=λu x q=>by obtain⟨k,l,n,r⟩:=x;exact B6 _ _ _ _ _ _ k r (by lia) q
 eqBool:=λ{A E s x y a b Q} u g i q=>by
  obtain⟨k,l,n,r⟩:=g;obtain⟨t,z,p,m⟩:=i;have e:=HB x y A s _ _ n p r m (IW _ k) (IW _ t) (by lia);refine e prog w E Q ?_;have:dO x y=decide (x=y):=by rw[jX,eqv_kd x y k t,decide_eq_true_iff]
  rw[this];exact q
 quiet:=λx q=>by obtain⟨k,l,n,r⟩:=x;exact wJ _ 8 _ _ _ _ _ k l r q
end Nk
set_option Elab.async false
set_option linter.all false
set_option maxRecDepth 100000
namespace L2
open PySem PySem.Spec PyProof.Rows
noncomputable abbrev cg:=Sum Int Str
noncomputable def tm:cg->Value->Bool
 | .inl k,v=>Value.isInt k v
 | .inr x,v=>Value.isStrOf x v
noncomputable def RC(w:World):cg->Int
 | .inl k=>hashInt k
 | .inr x=>hashStr w x
theorem db:∀{k:cg}{v:Value},tm k v=true->(∃i t,k=Sum.inl i/\v=Value.int i t)\/(∃x t,k=Sum.inr x/\v=Value.str x t)
 | .inl i,v,h=>by obtain⟨t,e⟩:=Value.isInt_shape (k:=i) (v:=v) h;exact .inl ⟨i,t,rfl,e⟩
 | .inr x,v,h=>by obtain⟨t,e⟩:=Value.isStrOf_shape (x:=x) (v:=v) h;exact .inr ⟨x,t,rfl,e⟩
theorem C3(i:Int)(t:Tok):tm (.inl i) (.int i t)=true:=by simp[tm,Value.isInt]
theorem C2(x:Str)(t:Tok):tm (.inr x) (.str x t)=true:=by simp[tm,Value.isStrOf]
theorem Md(a b:Int):decide ((Sum.inl a:cg)=Sum.inl b)=(a == b):=by
 by_cases e:a=b
 .subst e;simp
 .have h:¬(Sum.inl a:cg)=Sum.inl b:=λq=>e (Sum.inl.inj q);rw[bt h];exact(iY.mpr e).symm
theorem Ma(a b:Str):decide ((Sum.inr a:cg)=Sum.inr b)=decide (a=b):=by
 by_cases e:a=b
 .subst e;simp
 .have h:¬(Sum.inr a:cg)=Sum.inr b:=λq=>e (ij q);rw[bt h,bt e]
theorem Mc(a:Int)(b:Str):decide ((Sum.inl a:cg)=Sum.inr b)=false:=bt (λq=>nomatch q)
theorem Mb(a:Str)(b:Int):decide ((Sum.inr a:cg)=Sum.inl b)=false:=bt (λq=>nomatch q)
def cq(prog:Program)(w:World):PySem.KeyKind prog w cg where
 is:=tm
 hash:=RC w
 inj:=λv a b c f=>by
  rcases db c with ⟨i,t,rfl,rfl⟩|⟨x,t,rfl,rfl⟩
  .rcases db f with ⟨j,u,rfl,e⟩|⟨y,u,rfl,e⟩
   .injection e with s _;rw[s]
   .exact nomatch e
  .rcases db f with ⟨j,u,rfl,e⟩|⟨y,u,rfl,e⟩
   .exact nomatch e
   .injection e with s _;rw[s]
 byValue:=λk v h=>by rcases db h with ⟨i,t,rfl,rfl⟩|⟨x,t,rfl,rfl⟩<;>rfl
 pyHash:=λn h=>by
  rcases db n with ⟨i,t,rfl,rfl⟩|⟨x,t,rfl,rfl⟩
  .exact A' h
  .exact Ba h
 eqBool:=λm n h=>by
  rcases db m with ⟨i,t,rfl,rfl⟩|⟨x,t,rfl,rfl⟩
  .rcases db n with ⟨j,u,rfl,rfl⟩|⟨y,u,rfl,rfl⟩
   .rw [Md]at h;exact A6 h
   .rw [Mc]at h;exact SeqAt.EqAt.int_str i t y u _ _ _ _ h
  .rcases db n with ⟨j,u,rfl,rfl⟩|⟨y,u,rfl,rfl⟩
   .rw [Mb]at h;exact SeqAt.EqAt.str_int x t j u _ _ _ _ h
   .rw [Ma]at h;exact A7 h
 «strs»:=λk x t v h=>by
  rcases db h with ⟨i,u,rfl,e⟩|⟨y,u,rfl,e⟩
  .exact nomatch e
  .injection e with s _;subst s;cases v<;>rfl
theorem wV(prog:Program)(w:World)(i:Int)(t:Tok):(cq prog w).is (.inl i) (.int i t)=true:=C3 i t
theorem wU(prog:Program)(w:World)(x:Str)(t:Tok):(cq prog w).is (.inr x) (.str x t)=true:=C2 x t
inductive V where
 |non|bl (b:Bool)|int (i:Int)|str (x:Str)|byt (b:Array UInt8)|flt (b:UInt64)|ref (a:Addr)|ty (n:String)
 deriving DecidableEq
def RelV:V->Value->Prop
 | .non,u=>u=Value.none
 | .bl b,u=>u=Value.bool b
 | .int i,u=>∃t,u=Value.int i t
 | .str x,u=>∃t,u=Value.str x t
 | .byt b,u=>∃t,u=Value.bytes b t
 | .flt b,u=>∃t,u=Value.float b t
 | .ref a,u=>u=Value.ref a
 | .ty n,u=>u=Value.type n
abbrev bc:List V->LV->Prop:=Paired RelV
variable{j:LV}
theorem bc.length(r:bc xs j):xs.length=j.length:=Paired.length r
theorem bc.get:∀{xs:List V}{j:LV}{i:Nat}{x:V},bc xs j->xs[i]? = some x->∃u,j[i]? = some u/\RelV x u
 |_,_,_,_,.nil,e=>by simp at e
 |_,_,0,_,.cons r _,e=>by simp at e;subst e;exact⟨_,rfl,r⟩
 |_,_,i+1,x,.cons _ t,e=>by obtain⟨u,h1,h2⟩:=bc.get (i:=i) (x:=x) t (by simpa using e);exact⟨u,by simpa using h1,h2⟩
variable{u:Value}
theorem bc.set(r:RelV x u):∀{xs:List V}{j:LV}(i:Nat),bc xs j->bc (xs.set i x) (j.set i u)
 |_,_,_,.nil=>.nil
 |_,_,0,.cons _ t=>.cons r t
 |_,_,i+1,.cons q t=>.cons q (bc.set r i t)
theorem bc.append:∀{xs ys:List V}{j w:LV},bc xs j->bc ys w->bc (xs++ys) (j++w)
 |_,_,_,_,.nil,s=>s
 |_,_,_,_,.cons r t,s=>.cons r (bc.append t s)
theorem bc.take:∀{xs:List V}{j:LV}(n:Nat),bc xs j->bc (xs.take n) (j.take n)
 |_,_,0,_=>.nil
 |_,_,_+1,.nil=>.nil
 |_,_,n+1,.cons r t=>.cons r (bc.take n t)
theorem bc.drop:∀{xs:List V}{j:LV}(n:Nat),bc xs j->bc (xs.drop n) (j.drop n)
 |_,_,0,r=>r
 |_,_,_+1,.nil=>.nil
 |_,_,n+1,.cons _ t=>bc.drop n t
def kF:Option V->OV->Prop
 |some v,some u=>RelV v u
 |none,none=>True
 |_,_=>False
def KV:List (κ×V)->List (κ×Value)->Prop:=Paired λ(p:κ×V)(q:κ×Value)=>p.1=q.1/\RelV p.2 q.2
noncomputable def kV:cg->V
 | .inl i=>.int i
 | .inr x=>.str x
def oO(h:Heap)(a:Addr)(i:Array Value):Prop:=∃o,h.get? a=some o/\(o.cls=.type "tuple"/\∃n,o.data=.seq i n)/\o.dict=none
variable{h:Heap}{a:Addr}
theorem oO.tup(x:oO h a q):IsTup h a q:=by obtain⟨o,e,c,_⟩:=x;exact⟨o,e,c⟩
theorem oO.lt(x:oO h a q):a < h.objs.size:=x.tup.lt
theorem oO.new(h:Heap)(i:Array Value):oO (h.push { cls:=.type "tuple",data:=.seq i }) h.objs.size i:=⟨_,bx _ rfl,⟨rfl,_,rfl⟩,rfl⟩
inductive HO where
 |lst (xs:List V)
 |tup (xs:List V)
 |dK (kvs:List (cg×V))|dT (kvs:List (List cg×V))|dN (kvs:List (PyData×V×V))
 |set (S:Int->Bool) (n:Nat)
 |ins (C dx:Addr) (fs:List (Str×V))
 |own (x:Addr)
 |xd (fs:List (Str×V))
 |met (f x:Addr)
 |rng (lo hi:Int)
 |frz (o:Obj) (u:HO)
 |tbl
 |ext (φ:Heap->Prop)
noncomputable abbrev Hp:=Addr->Option HO
noncomputable def b7(H:Hp)(a:Addr)(o:HO):Hp:=λb=>if b=a then some o else H b
variable{H:Hp}
theorem aM:b7 H a o a=some o:=by unfold b7;rw[af rfl]
variable{b:Addr}
theorem ao(h:b≠a):b7 H a o b=H b:=by unfold b7;rw[ah h]
theorem OH{H:Hp}{a b:Addr}{o u:HO}(h:H a=some o)(h':H b=some u)(d:o≠u):a≠b:=by intro e;subst e;rw[h]at h';exact d (cm h')
theorem bE(h:H a=some o)(h':H b=none):a≠b:=by intro e;subst e;rw[h]at h';cases h'
noncomputable def FF:Str:="coming_rows"
noncomputable def yE:Str:="coming_rows.<locals>.<lambda>"
noncomputable def vq:Pos:=⟨216,36,216,77⟩
def El(p:Addr×Obj):Option Addr:=match p.2.data with
 | .fields v=>match (v[1]?:OV),(v[11]?:OV) with
  |some (.str q _),some (.ref P)=>if q=FF then some P else none
  |_,_=>none
 |_=>none
def cw(K:FG):List Addr:=K.filterMap El
def yJ(o:Obj):Prop:=∃v t,o.data=.fields v/\v[1]? = some (.str yE t)
def sf(H:Hp)(h:Heap)(a:Addr):Prop:=∃ps,h.get? a=some (qI ps)/\(ps=#[]\/∃c o,ps=#[rawInt vq.line,rawInt vq.col,.ref c]/\H c=some (.frz o (.own a))/\yJ o)
section
variable(P:Program)(w:World)
def dq(H:Hp)(h:Heap)(a:Addr):HO->Prop
 | .lst xs=>xs.length≤sizeLine/\∃(its:LV)(n:Nat),bc xs its/\h.get? a=some { cls:=.type "list",data:=.seq its.toArray n }
 | .tup xs=>xs.length≤sizeLine/\∃its:LV,bc xs its/\oO h a its.toArray
 | .dK kvs=>kvs.length≤sizeLine/\(a == sysModules)=false/\∃vs,KV kvs vs/\h.DictOf (cq P w) a vs
 | .dT kvs=>kvs.length≤sizeLine/\(a == sysModules)=false/\∃xs:List (List cg×Addr×Value),
   Paired (λ(p:List cg×V)(q:List cg×Addr×Value)=>p.1=q.1/\H q.2.1=some (.tup (p.1.map kV))/\RelV p.2 q.2.2) kvs xs /\
   ∃o es ep,h.get? a=some o/\o.ExactDict/\o.data=.dict es ep/\es.toList=xs.map (entryOfKey (tupleKind (cq P w)))/\(xs.map (·.1)).Nodup
 | .dN kvs=>kvs.length≤sizeLine/\(a == sysModules)=false/\∃xs:List (PyData×Addr×Value),Paired (λ(p:PyData×V×V)(q:PyData×Addr×Value)=>p.1=q.1/\p.2.1=V.ref q.2.1/\RelV p.2.2 q.2.2) kvs xs /\
   ∃o es ep,h.get? a=some o/\o.ExactDict/\o.data=.dict es ep/\es.toList=xs.map (entryOfKey (Nk.nest P w))/\(xs.map (·.1)).Nodup
 | .set S n=>h.SetOf (intKind P w) a S n
 | .ins C dx fs=>H dx=some (.own a)/\fs.length≤1000/\dx≠a/\h.get? a=some (kI C dx) /\
   ∃mA,h.Ns1 dx mA/\(∀f,kF (fs.lookup f) (mA f))/\xR mA (fs.map (·.1))
 | .own _=>∃o,h.get? a=some o
 | .xd fs=>∃mA,h.Ns1 a mA/\∀f,kF (fs.lookup f) (mA f)
 | .rng lo hi=>∃t u v,h.get? a=some { cls:=.type "range",data:=.fields #[.int lo t,.int hi u,.int 1 v] }
 | .frz o u=>h.get? a=some o/\dq H h a u
 | .tbl=>sf H h a
 | .met f x=>h.get? a=some (x8 (.ref f) (.ref x))
 | .ext φ=>φ h/\(∃o,h.get? a=some o)/\∀h1 h2:Heap,φ h1->(∀o,h1.get? a=some o->h2.get? a=some o)->φ h2
def jt(H:Hp)(h:Heap):Prop:=∀a o,H a=some o->dq P w H h a o
end
section
variable{P:Program}{w:World}{H H':Hp}{h h':Heap}{a:Addr}{o:HO}
theorem dq.lt(x:dq P w H h a o):a < h.objs.size:=by
 cases o with
 |lst xs=>obtain⟨_,_,_,_,e⟩:=x;exact aD e
 |tup xs=>obtain⟨_,_,_,p⟩:=x;exact p.lt
 |dK kvs=>obtain⟨_,_,_,_,o,_,_,e,_⟩:=x;exact aD e
 |dT kvs=>obtain⟨_,_,_,_,o,_,_,e,_⟩:=x;exact aD e
 |dN kvs=>obtain⟨_,_,_,_,o,_,_,e,_⟩:=x;exact aD e
 |set S n=>obtain⟨o,_,_,_,e,_⟩:=x;exact aD e
 |ins C dx fs=>obtain⟨_,_,_,e,_⟩:=x;exact aD e
 |own y=>obtain⟨_,e⟩:=x;exact aD e
 |xd fs=>obtain⟨_,⟨_,_,_,e,_⟩,_⟩:=x;exact aD e
 |rng lo hi=>obtain⟨_,_,_,e⟩:=x;exact aD e
 |frz ob u=>obtain⟨e,_⟩:=x;exact aD e
 |tbl=>obtain⟨_,e,_⟩:=(show sf H h a from x);exact aD e
 |met f y=>exact aD (show h.get? a=some _ from x)
 |ext φ=>obtain⟨_,⟨_,e⟩,_⟩:=x;exact aD e
theorem Paired.mapP:∀{l:List α}{h:List z},Paired F l h->(∀a b,F a b->q a b)->Paired q l h
 |_,_,.nil,_=>.nil
 |_,_,.cons r t,f=>.cons (f _ _ r) (Paired.mapP t f)
theorem dq.stay(x:dq P w H h a o)(k:∀b u,(b=a\/H b=some (.own a))->h.get? b=some u->h'.get? b=some u)
  (ho:∀b,H b=some (.own a)->H' b=some (.own a)) (ht:∀b xs,H b=some (.tup xs)->H' b=some (.tup xs))
  (hf:∀b oc,H b=some (.frz oc (.own a))->H' b=some (.frz oc (.own a)):=by first|exact λ_ _ q=>q|exact λ_ _ q=>(ao (bE q (by assumption))).trans q):dq P w H' h' a o:=by
 induction o with
 |lst xs=>obtain⟨z,its,n,r,e⟩:=x;exact⟨z,its,n,r,k _ _ (.inl rfl) e⟩
 |tup xs=>obtain⟨z,its,r,ob,e,c⟩:=x;exact⟨z,its,r,ob,k _ _ (.inl rfl) e,c⟩
 |dK kvs=>obtain⟨z,y,vs,r,ob,es,ep,e,c⟩:=x;exact⟨z,y,vs,r,ob,es,ep,k _ _ (.inl rfl) e,c⟩
 |dT kvs=>obtain⟨z,y,xs,r,ob,es,ep,e,c⟩:=x;exact⟨z,y,xs,Paired.mapP r λp q z=>⟨z.1,ht _ _ z.2.1,z.2.2⟩,ob,es,ep,k _ _ (.inl rfl) e,c⟩
 |dN kvs=>obtain⟨z,y,xs,r,ob,es,ep,e,c⟩:=x;exact⟨z,y,xs,r,ob,es,ep,k _ _ (.inl rfl) e,c⟩
 |set S n=>obtain⟨ob,es,ep,t,e,c⟩:=x;exact⟨ob,es,ep,t,k _ _ (.inl rfl) e,c⟩
 |ins C dx fs=>obtain⟨d,z,ne,e,mA,⟨od,es,ep,e2,c⟩,r⟩:=x;exact⟨ho _ d,z,ne,k _ _ (.inl rfl) e,mA,⟨od,es,ep,k _ _ (.inr d) e2,c⟩,r⟩
 |own y=>obtain⟨ob,e⟩:=x;exact⟨ob,k _ _ (.inl rfl) e⟩
 |xd fs=>obtain⟨mA,⟨od,es,ep,e,c⟩,r⟩:=x;exact⟨mA,⟨od,es,ep,k _ _ (.inl rfl) e,c⟩,r⟩
 |rng lo hi=>obtain⟨t,u,v,e⟩:=x;exact⟨t,u,v,k _ _ (.inl rfl) e⟩
 |frz ob u ih=>obtain⟨e,q⟩:=x;exact⟨k _ _ (.inl rfl) e,ih q⟩
 |tbl=>obtain⟨ps,e,z⟩:=(show sf H h a from x);refine⟨ps,k a _ (.inl rfl) e,z.imp id ?_⟩;rintro ⟨c,oc,e1,e2,e3⟩;exact⟨c,oc,e1,hf _ _ e2,e3⟩
 |met f y=>have e:h.get? a=some (x8 (.ref f) (.ref y)):=x;show h'.get? a=some (x8 (.ref f) (.ref y));exact k a _ (.inl rfl) e
 |ext φ=>obtain⟨p,⟨o,e⟩,st⟩:=x;exact⟨st _ _ p λo q=>k _ _ (.inl rfl) q,⟨o,k _ _ (.inl rfl) e⟩,st⟩
theorem jt.lt(x:jt P w H h)(e:H a=some o):a < h.objs.size:=(x a o e).lt
theorem jt.fresh(x:jt P w H h)(e:h.objs.size≤a):H a=none:=by
 cases q:H a with
 |none=>rfl
 |some u=>exact absurd (bJ (x.lt q) e) (e_ _)
theorem jt.kept(x:jt P w H h)(k:∀b u,h.get? b=some u->h'.get? b=some u):jt P w H h':=λa o e=>
 (x a o e).stay (λb u _ q=>k b u q) (λ_ q=>q) λ_ _ q=>q
theorem jt.laid(x:jt P w H h)(k:∀b u,h.get? b=some u->h'.get? b=some u)(p:h.objs.size≤a)(n:dq P w (b7 H a o) h' a o):jt P w (b7 H a o) h':=λb u e=>by
 have f:=x.fresh p;by_cases s:b=a
 .subst s;rw[aM]at e;cases e;exact n
 .rw [ao s]at e;exact(x b u e).stay (λc v _ q=>k c v q) (λc q=>by rw[ao (bE q f)];exact q) λc xs q=>by rw[ao (bE q f)];exact q
end
def Rd(H:Hp)(a:Addr)(u:HO):Prop:=H a=some u\/∃o,H a=some (.frz o u)
theorem Rd.ok{P:Program}{w:World}{H:Hp}{h:Heap}{a:Addr}{u:HO}(r:Rd H a u)(x:jt P w H h):dq P w H h a u:=by
 rcases r with r|⟨o,r⟩
 .exact x a u r
 .obtain⟨_,q⟩:=x a _ r;exact q
def PM:Option HO->Prop
 |some (.lst _)=>True
 |some (.dK _)=>True
 |some (.dT _)=>True
 |some (.dN _)=>True
 |some (.set _ _)=>True
 |some (.ins _ _ _)=>True
 |some (.ext _)=>True
 |_=>False
section
variable{P:Program}{w:World}{H:Hp}{h h':Heap}{x e:Addr}{o':HO}
theorem jt.write(ok:jt P w H h)(m:PM (H x))(i:e=x\/H e=some (.own x))(k:∀b u,b≠e->h.get? b=some u->h'.get? b=some u)(d:∃u,h'.get? e=some u)
  (g:dq P w (b7 H x o') h' x o'):jt P w (b7 H x o') h':=λb u q=>by
 have n:∀c y,H c=some (.own y)->c≠x:=λc y r z=>by subst z;rw[r]at m;exact m
 have t:∀c xs,H c=some (.tup xs)->c≠x:=λc xs r z=>by subst z;rw[r]at m;exact m
 have f:∀c o u,H c=some (.frz o u)->c≠x:=λc o u r z=>by subst z;rw[r]at m;exact m
 by_cases s:b=x
 .subst s;rw[aM]at q;cases q;exact g
 .rw [ao s]at q;by_cases a:b=e
  .have j:H b=some (.own x):=by
    rcases i with z|z
    .exact absurd (a.trans z) s
    .rw [a];exact z
   rw[q]at j;cases j;obtain⟨v,l⟩:=d;exact⟨v,by rw[a];exact l⟩
  .refine (ok b u q).stay (λc v p r=>k c v ?_ r) (λc r=>by rw[ao (n c b r)];exact r) (λc xs r=>by rw[ao (t c xs r)];exact r) (λc S r=>by rw[ao (f c _ _ r)];exact r);rcases p with rfl|p
   .exact a
   .rintro rfl;rcases i with z|z
    .exact n c b p z
    .rw [p]at z;cases z;exact s rfl
end
structure Un(fs ex:List Addr)(H H':Hp)(h h':Heap):Prop where
 keep:∀b o,h.get? b=some o->H b=none->b ∉ fs->b ∉ ex->h'.get? b=some o
 slot:∀b o,h.get? b=some o->H b=none->b ∈ fs->b ∉ ex->∃sl,h'.get? b=some { o with slots:=sl }
 free:∀b o,h.get? b=some o->H b=none->b ∉ ex->H' b=none
 there:∀b o,h.get? b=some o->b ∉ ex->∃o',h'.get? b=some o'
 tups:∀b xs,H b=some (.tup xs)->H' b=some (.tup xs)
 frzs:∀b o u,H b=some (.frz o u)->H' b=some (.frz o u)
 tbls:∀b,H b=some .tbl->H' b=some .tbl
section
variable{fs fs' ex ex':List Addr}{H G H2:Hp}{h h1 h2 h':Heap}{a x e:Addr}{o:HO}
theorem Un.any(u:Un fs ex H G h h1)(q:h.get? b=some z)(n:H b=none)(a:b ∉ ex):∃s,h1.get? b=some { z with slots:=s }:=by
 by_cases x:b ∈ fs
 .exact u.slot b z q n x a
 .exact⟨z.slots,u.keep b z q n x a⟩
theorem Un.kept(k:∀b u,h.get? b=some u->h'.get? b=some u):Un fs ex H H h h':=
 ⟨λb o q _ _ _=>k b o q,λb o q _ _ _=>⟨o.slots,k b o q⟩,λ_ _ _ n _=>n,λb o q _=>⟨o,k b o q⟩,λ_ _ q=>q,λ_ _ _ q=>q,λ_ q=>q⟩
theorem Un.refl:Un fs ex H H h h:=Un.kept λ_ _ q=>q
theorem Un.laid(k:∀b u,h.get? b=some u->h'.get? b=some u)(p:h.objs.size≤a)(x:H a=none):Un fs ex H (b7 H a o) h h' where
 keep:=λb u q _ _ _=>k b u q
 slot:=λb u q _ _ _=>⟨u.slots,k b u q⟩
 free:=λb u q n _=>by rw[ao (bf (bJ (aD q) p))];exact n
 there:=λb u q _=>⟨u,k b u q⟩
 tups:=λb xs q=>by rw[ao (bE q x)];exact q
 frzs:=λb u xs q=>by rw[ao (bE q x)];exact q
 tbls:=λb q=>by rw[ao (bE q x)];exact q
theorem Un.write(m:PM (H x))(p:e=x\/H e=some (.own x))(k:∀b u,b≠e->h.get? b=some u->h'.get? b=some u)(s:∃u,h'.get? e=some u):Un fs ex H (b7 H x o) h h':=by
 have t:∀b,H b=none->b≠x:=λb n z=>by subst z;rw[n]at m;exact m
 have c:∀b,H b=none->b≠e:=λb n z=>by
  subst z;rcases p with r|r
  .exact t b n r
  .rw [n]at r;cases r
 have f:∀b u,H b=some u->¬PM (some u)->b≠x:=λb u q nm z=>by subst z;rw[q]at m;exact nm m
 refine⟨fun b u q n _ _=>k b u (c b n) q,fun b u q n _ _=>⟨u.slots,k b u (c b n) q⟩,fun b u q n _=>by rw [ao (t b n)];exact n,fun b u q _=>?_,
  λb xs q=>by rw[ao (f b _ q λz=>z)];exact q,λb u xs q=>by rw[ao (f b _ q λz=>z)];exact q,λb q=>by rw[ao (f b _ q λz=>z)];exact q⟩
 by_cases a:b=e
 .subst a;exact s
 .exact⟨u,k b u a q⟩
end
noncomputable def trk(h:Heap)(H:Hp):List Addr:=(List.range h.objs.size).filter λa=>(H a).isSome
def vI(h:Heap)(H:Hp):Heap:=PySem.W.hideAll h (trk h H)
theorem C7(h:Heap)(H:Hp):(vI h H).objs.size=h.objs.size:=PySem.W.hideAll_size _ _
variable{o:Obj}
theorem F5(e:h.get? b=some o)(n:H b=none):(vI h H).get? b=some o:=
 PySem.W.hideAll_get _ e λm=>by have q:(H b).isSome=true:=(ff.mp m).2;rw[n]at q;simp at q
theorem IM(e:(vI h H).get? b=some o):h.get? b=some o/\H b=none:=by
 have a:h.get? b=some o:=PySem.W.of_hideAll (trk h H) e;refine⟨a,?_⟩;cases q:H b with
 |none=>rfl
 |some x=>have m:b ∈ trk h H:=ff.mpr ⟨iZ.mpr (aD a),by simp[q]⟩;have z:(vI h H).get? b=none:=PySem.W.hideAll_none (trk h H) m;rw[z]at e;cases e
noncomputable def nN(g h:Heap)(L:Addr):PN:=(List.range h.objs.size).filterMap λa=>if a=L\/(g.get? a).isSome=true then none else (h.get? a).map λo=>(a,o)
variable{g:Heap}{L:Addr}
theorem wW(h1:a≠L)(h2:g.get? a=none)(x:h.get? a=some o):(a,o) ∈ nN g h L:=
 lj.mpr ⟨a,iZ.mpr (aD x),by simp[h1,h2,x]⟩
set_option tactic.hygienic true in
theorem rj(x:p ∈ nN g h L):p.1≠L/\g.get? p.1=none/\h.get? p.1=some p.2:=by
 obtain⟨b,_,e⟩:=lj.mp x;split at e
 .cases e
 .rename_i n;cases q:h.get? b with
  |none=>rw[q]at e;simp at e
  |some u=>
   rw[q]at e;simp only[Option.map_some,HA]at e;subst e;refine⟨λz=>n (.inl z),?_,q⟩;show g.get? b=none;cases r:g.get? b with
   |none=>rfl
   |some v=>exact(n (.inr (by simp[r]))).elim
theorem rk:News g L h (nN g h L):=λp x=>let ⟨a,b,c⟩:=rj x;⟨c,a,b⟩
structure Mod(K:FG)(mg:SV)(base:Heap):Prop where
 kin:K.In base
 glob:base.Ns mainGlobals mg
 blt:∃mb,base.Ns builtinsNs mb/\∀x:Str,x≠"__name__"->mb x=bootBuiltins x
 nolimit:base.NoLimit
 bmain:∃bm ob,mg "__builtins__"=some (.ref bm)/\bm≠builtinsNs/\base.get? bm=some ob/\ob.cls=.type "module"/\ob.dict=some builtinsNs/\ob.data=.plain
structure Cx where
 p:Program
 w:World
 K:FG
 g:SV
 b:Heap
 A:Around
 N:LS
 z:Shared
 y:Hp
 e:Env
 o:List Env
 k:List Env
 ex:List Addr
 fn:Str->Bool
 c:Bool
 pn:PN
 xe:VP
noncomputable def Db(l:List Env):List Addr:=l.filterMap (·.frame)
abbrev Cx.fs(X:Cx):List Addr:=Db X.o
def JE(sc:Scope)(x:Str):Prop:=sc.names.lookup x=some .local\/sc.names.lookup x=some .cell\/sc.names.lookup x=some .free
def Loc(sc:Scope)(x:Str):Prop:=sc.names.lookup x=some .local\/sc.names.lookup x=some .cell
def Look(e:Env)(h:Heap)(m:SV)(x:Str)(u:Value):Prop:=
 (e.kindOf x=some .local/\m x=some u)\/((e.kindOf x=some .cell\/e.kindOf x=some .free)/\∃c,e.cells.lookup x=some c/\h.IsCell c (some u))
structure Cx.Ok(X:Cx):Prop where
 mod:Mod X.K X.g X.b
 kind:X.e.scope.kind=.function
 glob:X.e.globals=mainGlobals
 blt:X.e.builtins=builtinsNs
 above:X.z.heap.objs.size≤X.e.locals
 inj:∀x y c,X.e.cells.lookup x=some c->X.e.cells.lookup y=some c->x=y
 has:∀x,(X.e.kindOf x=some .cell\/X.e.kindOf x=some .free)->∃c,X.e.cells.lookup x=some c
 cab:∀x c,X.fn x=true->X.e.cells.lookup x=some c->X.z.heap.objs.size≤c
 hd:X.c=true->X.A.handled=none
 frames:X.A.frames=some X.k
 stk:X.k=X.o\/(X.k=X.e::X.o/\X.e.frame=some X.e.locals)
 exf:∀b ∈ X.ex,b≠X.e.locals/\∀x c,X.e.cells.lookup x=some c->c≠b
 bs:∀b o,X.b.get? b=some o->X.z.heap.get? b=some o/\X.y b=none
 bsz:X.b.objs.size≤X.z.heap.objs.size
 noex:∀b o,X.b.get? b=some o->b ∉ X.ex
 exfs:∀b ∈ X.ex,b ∉ X.fs
 funs:X.z.heap.FunFrames X.b X.o
 frf:∀b ∈ X.fs,X.y b=none
 tab:∀P ∈ cw X.K,X.y P=some .tbl
structure Inv(X:Cx)(pins:PN)(J:List (Option V))(H:Hp)(s:Shared):Prop where
 o:X.Ok
 os:s.os=X.z.os
 bare:AllBare s.gens
 base:Un X.fs X.ex X.y H X.z.heap s.heap
 loc:∃m,s.heap.Ns X.e.locals m/\∀(i:Nat)(x:Str)(v:V),X.N[i]? = some x->J[i]? = some (some v)->JE X.e.scope x->∃u,RelV v u/\Look X.e s.heap m x u
 cell:∀x c,X.e.cells.lookup x=some c->∃v,s.heap.IsCell c v
 free:H X.e.locals=none
 freeC:∀x c,X.e.cells.lookup x=some c->H c=none
 pin:∀p ∈ X.pn++pins,s.heap.get? p.1=some p.2/\H p.1=none/\p.1≠X.e.locals/\p.1 ∉ X.fs/\∀v,p.2.data≠.cell v
 h:jt X.p X.w H s.heap
 len:J.length=X.N.length
section
variable{X:Cx}{pins:PN}{J:List (Option V)}{H H':Hp}{s:Shared}{h':Heap}
theorem Cx.Ok.nofr(ok:X.Ok)(e:X.b.get? b=some o):b ∉ X.fs:=λh=>by have:=(ok.funs.mem h).1;rw[e]at this;cases this
theorem Inv.bs(I:Inv X pins J H s):∀b o,X.b.get? b=some o->s.heap.get? b=some o/\H b=none:=λb o e=>
 ⟨I.base.keep b o (I.o.bs b o e).1 (I.o.bs b o e).2 (I.o.nofr e) (I.o.noex b o e),I.base.free b o (I.o.bs b o e).1 (I.o.bs b o e).2 (I.o.noex b o e)⟩
theorem Inv.bk(I:Inv X pins J H s):∀b o,X.b.get? b=some o->s.heap.get? b=some o:=λb o e=>(I.bs b o e).1
theorem Inv.mod(I:Inv X pins J H s):Mod X.K X.g X.b:=I.o.mod
theorem Inv.kIn(I:Inv X pins J H s):X.K.In s.heap:=I.o.mod.kin.keeps I.bk
theorem Inv.nolimit(I:Inv X pins J H s):s.heap.NoLimit:=I.o.mod.nolimit.keeps I.bk
theorem Inv.fr(I:Inv X pins J H s):∃m,Fr X.b X.e.locals s.heap m:=
 let ⟨m,h,_⟩:=I.loc
 ⟨m,h,I.bk,aA I.o.bsz I.o.above⟩
theorem Inv.lt(I:Inv X pins J H s):X.e.locals < s.heap.objs.size:=let ⟨_,h,_⟩:=I.loc;h.lt
theorem Inv.sz(I:Inv X pins J H s):X.z.heap.objs.size≤s.heap.objs.size:=aA I.o.above (eZ I.lt)
theorem Inv.nofs(I:Inv X pins J H s)(h:s.heap.objs.size≤a):a ∉ X.fs:=λb=>by obtain⟨_,o,x,_⟩:=I.o.funs.mem b;exact absurd (bJ (aD x) (aA I.sz h)) (e_ _)
theorem Inv.cne(I:Inv X pins J H s):∀x c,X.e.cells.lookup x=some c->c≠X.e.locals:=λx c e z=>by obtain⟨v,o,n,hd⟩:=I.cell x c e;obtain⟨m,⟨o',es,p,a,h,_⟩,_⟩:=I.loc;rw[z,a]at n;cases n;rw[h]at hd;cases hd
theorem Inv.funs(I:Inv X pins J H s):s.heap.FunFrames X.b X.o:=by
 have all:∀(l:List Env),(∀b ∈ Db l,b ∈ X.fs)->X.z.heap.FunFrames X.b l->s.heap.FunFrames X.b l:=by
  intro l;induction l with
  |nil=>intro _ _;trivial
  |cons n r i=>
   intro a k;obtain⟨hk,⟨L,o,f,c,m,hd⟩,t⟩:=k;have h:L ∈ X.fs:=a L (by unfold Db;rw[mR,f];exact aI);obtain⟨p,e⟩:=I.base.slot L o m (I.o.frf L h) h λz=>I.o.exfs L z h
   exact⟨hk,⟨L,_,f,c,e,hd⟩,i (λb x=>a b (by unfold Db;rw[mR,f];exact aH _ x)) t⟩
 exact all X.o (λ_ x=>x) I.o.funs
theorem Inv.stack(I:Inv X pins J H s):s.heap.FunFrames X.b X.k:=by
 rcases I.o.stk with e|⟨e,h⟩
 .rw [e];exact I.funs
 .rw [e];obtain⟨m,n,_⟩:=I.loc;refine .cons (by rw[I.o.kind];decide) h n ?_ I.funs;exact Ai (aA I.o.bsz I.o.above)
theorem Inv.stkSub(I:Inv X pins J H s):∀b ∈ Db X.k,b ∈ X.e.locals::X.fs:=λb h=>by
 rcases I.o.stk with e|⟨e,f⟩
 .rw [e]at h;exact aH _ h
 .rw [e]at h;unfold Db at h;rw[mR,f]at h;exact h
theorem Inv.stkFree(I:Inv X pins J H s):∀b ∈ Db X.k,H b=none:=λb h=>by
 rcases aL.mp (I.stkSub b h) with e|h
 .rw [e];exact I.free
 .obtain⟨_,o,x,_⟩:=I.o.funs.mem h;exact I.base.free b o x (I.o.frf b h) λz=>I.o.exfs b z h
theorem Inv.step{g':Array GenState}{t':Nat}{d':Drawn}{ch:List Addr}(I:Inv X pins J H s)
  (a:∀b ∈ ch,(b ∈ X.ex\/X.z.heap.objs.size≤b)/\b≠X.e.locals/\(∀x c,X.e.cells.lookup x=some c->c≠b)/\∀p ∈ X.pn++pins,p.1≠b)
  (t:∀b o,b≠X.e.locals->b ∉ X.fs->b ∉ ch->s.heap.get? b=some o->H b=none->h'.get? b=some o)
  (slot:∀b o,b≠X.e.locals->b ∈ X.fs->b ∉ ch->s.heap.get? b=some o->H b=none->∃E,h'.get? b=some { o with slots:=E }) (f:∀b o,b ∉ ch->s.heap.get? b=some o->H b=none->H' b=none)
  (y:∀b o,b ∉ ch->s.heap.get? b=some o->∃o',h'.get? b=some o')
  (A:∀b xs,H b=some (.tup xs)->H' b=some (.tup xs)) (F:∀b o u,H b=some (.frz o u)->H' b=some (.frz o u)) (P:∀b,H b=some .tbl->H' b=some .tbl)
  (ns:∀m,s.heap.Ns X.e.locals m->h'.Ns X.e.locals m) (D:jt X.p X.w H' h') (V:AllBare g') :
  Inv X pins J H' { s with heap:=h',gens:=g',drawn:=d',toks:=t' }:=by
 have L:∀b o,X.z.heap.get? b=some o->b≠X.e.locals:=λb o e=>bf (bJ (aD e) I.o.above);have C:∀b o,X.z.heap.get? b=some o->b ∉ X.ex->b ∉ ch:=λb o e h j=>by
  rcases(a b j).1 with z|z
  .exact h z
  .exact absurd (bJ (aD e) z) (e_ _)
 have K:∀x c,X.e.cells.lookup x=some c->∀v,s.heap.IsCell c v->h'.IsCell c v:=λx c e v hz=>by
  obtain⟨o,S,hd⟩:=hz;have w:c ∉ ch:=λz=>(a c z).2.2.1 x c e rfl;by_cases M:c ∈ X.fs
  .obtain⟨E,q⟩:=slot c o (I.cne x c e) M w S (I.freeC x c e);exact⟨_,q,hd⟩
  .exact⟨o,t c o (I.cne x c e) M w S (I.freeC x c e),hd⟩
 refine⟨I.o,I.os,V,⟨λb o e n j h=>?_,λb o e n j h=>?_,λb o e n h=>?_,λb o e h=>?_,λb xs e=>A b xs (I.base.tups b xs e),λb o xs e=>F b o xs (I.base.frzs b o xs e),λb e=>P b (I.base.tbls b e)⟩,?_,λx c e=>?_,?_,λx c e=>?_,λp N=>?_,D,I.len⟩
 .exact t b o (L b o e) j (C b o e h) (I.base.keep b o e n j h) (I.base.free b o e n h)
 .obtain⟨E,g⟩:=I.base.slot b o e n j h;obtain⟨G,B⟩:=slot b _ (L b o e) j (C b o e h) g (I.base.free b o e n h);exact⟨G,B⟩
 .obtain⟨o',g⟩:=I.base.there b o e h;exact f b o' (C b o e h) g (I.base.free b o e n h)
 .obtain⟨o',g⟩:=I.base.there b o e h;exact y b o' (C b o e h) g
 .obtain⟨m,Z,W⟩:=I.loc;refine⟨m,ns m Z,λi x v g B T=>?_⟩;obtain⟨u,r,l⟩:=W i x v g B T;refine⟨u,r,?_⟩;rcases l with l|⟨k,c,e,z⟩
  .exact .inl l
  .exact .inr ⟨k,c,e,K x c e _ z⟩
 .obtain⟨v,z⟩:=I.cell x c e;exact⟨v,K x c e v z⟩
 .obtain⟨m,⟨o,_,_,S,_⟩,_⟩:=I.loc;exact f _ o (λz=>(a _ z).2.1 rfl) S I.free
 .obtain⟨v,o,S,hd⟩:=I.cell x c e;exact f c o (λz=>(a c z).2.2.1 x c e rfl) S (I.freeC x c e)
 .obtain⟨e,n,Q,R,d⟩:=I.pin p N;have w:p.1 ∉ ch:=λz=>(a p.1 z).2.2.2 p N rfl;exact⟨t p.1 p.2 Q R w e n,f p.1 p.2 w e n,Q,R,d⟩
theorem Inv.un{t':Nat}(I:Inv X pins J H s)(u:Un X.fs [] H H' s.heap h')(k:jt X.p X.w H' h'):Inv X pins J H' { s with heap:=h',toks:=t' }:=by
 obtain⟨m,⟨o,es,q,f,r⟩,_⟩:=id I.loc;obtain⟨l,L⟩:=u.any f I.free (by simp);exact I.step (g':=s.gens) (d':=s.drawn) (ch:=[]) (λ_ z=>nomatch z) (λb o _ a _ e n=>u.keep b o e n a (by simp)) (λb o _ a _ e n=>u.slot b o e n a (by simp)) (λb o _ e n=>u.free b o e n (by simp)) (λb o _ e=>u.there b o e (by simp)) u.tups u.frzs u.tbls (λv c=>by obtain⟨o',x,p,h,t⟩:=c;rw[f]at h;cases h;exact⟨_,x,p,L,t⟩) k I.bare
theorem Inv.call{g':Array GenState}{t':Nat}{d':Drawn}{ch:List Addr}(I:Inv X pins J H s)(u:Un (Db X.k) ch H H' s.heap h')(q:jt X.p X.w H' h')(g:AllBare g')
  (a:∀b ∈ ch,(b ∈ X.ex\/X.z.heap.objs.size≤b)/\b≠X.e.locals/\(∀x c,X.e.cells.lookup x=some c->c≠b)/\∀p ∈ X.pn++pins,p.1≠b) :
  Inv X pins J H' { s with heap:=h',gens:=g',drawn:=d',toks:=t' }:=by
 obtain⟨m,⟨o,es,j,v,r⟩,_⟩:=id I.loc;obtain⟨y,L⟩:=u.any v I.free λz=>(a _ z).2.1 rfl;exact I.step (ch:=ch) a (λb o L d h e n=>u.keep b o e n (λz=>(aL.mp (I.stkSub b z)).elim L d) h) (λb o _ _ h e n=>u.any e n h) (λb o h e n=>u.free b o e n h) (λb o h e=>u.there b o e h) u.tups u.frzs u.tbls (λl w=>by obtain⟨o',t,f,k,i⟩:=w;rw[v]at k;cases k;exact⟨_,t,f,L,i⟩) q g
theorem Inv.turned{t':Nat}{i:Addr}(I:Inv X pins J H s)(k:∀b o,b≠i->s.heap.get? b=some o->h'.get? b=some o)(g:H i=none)(L:i≠X.e.locals)
  (h1:i ∈ X.ex\/X.z.heap.objs.size≤i) (h2:∀x c,X.e.cells.lookup x=some c->c≠i) (f:∀p ∈ X.pn++pins,p.1≠i):Inv X pins J H { s with heap:=h',toks:=t' }:=by
 have t:∀b u,H b=some u->b≠i:=λb u e z=>by rw[z,g]at e;cases e
 refine I.step (g':=s.gens) (d':=s.drawn) (ch:=[i]) (λb d=>?_) (λb o _ _ h e _=>k b o (λz=>h (by simp[z])) e) (λb o _ _ h e _=>⟨o.slots,k b o (λz=>h (by simp[z])) e⟩) (λ_ _ _ _ n=>n)
  (λb o h e=>⟨o,k b o (λz=>h (by simp[z])) e⟩) (λ_ _ e=>e) (λ_ _ _ e=>e) (λ_ e=>e) (λm w=>?_) (λb u e=>?_) I.bare
 .have e:b=i:=by simpa using d
  subst e;exact⟨h1,L,h2,f⟩
 .obtain⟨o,es,a,j,r⟩:=w;exact⟨o,es,a,k _ o (aP L) j,r⟩
 .refine (I.h b u e).stay (λc v h q=>k c v ?_ q) (λ_ q=>q) λ_ _ q=>q;rcases h with z|z
  .rw [z];exact t b u e
  .exact t c _ z
theorem Inv.tok(I:Inv X pins J H s)(t:Nat):Inv X pins J H { s with toks:=t }:=I.un (h':=s.heap) (t':=t) Un.refl I.h
theorem Inv.kept{t':Nat}(I:Inv X pins J H s)(k:∀b u,s.heap.get? b=some u->h'.get? b=some u):Inv X pins J H { s with heap:=h',toks:=t' }:=I.un (Un.kept k) (I.h.kept k)
theorem Inv.laid{a:Addr}{o:HO}{t':Nat}(I:Inv X pins J H s)(k:∀b u,s.heap.get? b=some u->h'.get? b=some u)(h:s.heap.objs.size≤a)(n:dq X.p X.w (b7 H a o) h' a o) :
  Inv X pins J (b7 H a o) { s with heap:=h',toks:=t' }:=I.un (Un.laid k h (I.h.fresh h)) (I.h.laid k h n)
theorem Inv.write{x e:Addr}{o:HO}{t:Nat}(I:Inv X pins J H s)(m:PM (H x))(a:e=x\/H e=some (.own x))(k:∀b u,b≠e->s.heap.get? b=some u->h'.get? b=some u)(h:∃u,h'.get? e=some u)
  (n:dq X.p X.w (b7 H x o) h' x o):Inv X pins J (b7 H x o) { s with heap:=h',toks:=t }:=I.un (Un.write m a k h) (I.h.write m a k h n)
theorem Inv.pins_of(I:Inv X pins J H s)(h:∀p ∈ q,s.heap.get? p.1=some p.2/\H p.1=none/\p.1≠X.e.locals/\p.1 ∉ X.fs/\∀v,p.2.data≠.cell v):Inv X q J H s:=
 ⟨I.o,I.os,I.bare,I.base,I.loc,I.cell,I.free,I.freeC,λp x=>(bN.mp x).elim (λz=>I.pin p (i5 _ z)) (h p),I.h,I.len⟩
theorem wR{N:LS}(s:N.Nodup){i j:Nat}{x:Str}(a:N[i]? = some x)(b:N[j]? = some x):i=j:=by obtain⟨h1,e⟩:=bB.mp a;obtain⟨h2,h⟩:=bB.mp b;exact(List.getElem_inj s).mp (e.trans h.symm)
theorem n_{M:Model}{A:Around}{E:VP}{i:Nat}{x:Str}{v:V}{u:Value}{Q:Unit->Shared->Prop}(I:Inv X pins J H s)(hN:X.N.Nodup)(hi:X.N[i]? = some x)(l:Loc X.e.scope x)(r:RelV v u)
  (h:∀s',Inv X pins (J.set i (some v)) H s'->(∃a,eB a s.heap s'.heap/\(a=X.e.locals\/X.e.cells.lookup x=some a))->Q () s') (hf:X.fn x=true\/X.e.scope.names.lookup x=some .local:=by first|exact .inl rfl|exact .inr rfl|assumption):wpAny M A (storeName X.e x u) Q E s:=by
 obtain⟨m,hn,hl⟩:=id I.loc;have L:(X.e.scope.kind == .class ||(X.e.scope.kind == .module && X.e.locals != X.e.globals))=false:=by rw[I.o.kind];rfl
 have N:i < J.length:=by rw[I.len];exact(bB.mp hi).1
 have K:=I.cne;have w:∀{a:Addr}{h':Heap},(∃o,s.heap.get? a=some o/\H a=none)->eB a s.heap h'->jt X.p X.w H h':=λ{a h'} ha f b ob e=>by
  obtain⟨_,_,S⟩:=ha;refine(I.h b ob e).stay (λc w' g q=>(f.2 c ?_).trans q) (λ_ q=>q) λ_ _ q=>q;rintro rfl;rcases g with rfl|g
  .rw [S]at e;cases e
  .rw [S]at g;cases g
 rcases l with hk|hk
 .refine wpAny_storeName_local hk hn (λh' hn' f=>?_) L;obtain⟨oL,_,_,hoL,_⟩:=id hn;refine h _ ⟨I.o,I.os,I.bare,⟨λb o e n P l=>?_,λb o e n P l=>?_,I.base.free,λb o e l=>?_,I.base.tups,I.base.frzs,I.base.tbls⟩,⟨_,hn',λj y v' t F e3=>?_⟩,λy c e=>?_,I.free,I.freeC,λp hp=>?_,w ⟨oL,hoL,I.free⟩ f,by simpa using I.len⟩ ⟨_,f,.inl rfl⟩
  .exact (f.2 b (bf (bJ (aD e) I.o.above))).trans (I.base.keep b o e n P l)
  .obtain⟨sl,t⟩:=I.base.slot b o e n P l;exact⟨sl,(f.2 b (bf (bJ (aD e) I.o.above))).trans t⟩
  .obtain⟨o',t⟩:=I.base.there b o e l;exact⟨o',(f.2 b (bf (bJ (aD e) I.o.above))).trans t⟩
  .by_cases C:j=i
   .subst C;rw[hi]at t;cases t;rw[bA N]at F;cases F;exact⟨u,r,.inl ⟨hk,by simp⟩⟩
   .rw [aV (aP C)]at F;obtain⟨u',r',q⟩:=hl j y v' t F e3;refine⟨u',r',?_⟩;rcases q with ⟨k,e⟩|⟨k,c,e,z⟩
    .refine .inl ⟨k,?_⟩;have:y≠x:=λe=>C (wR hN t (e ▸ hi));simp[this,e]
    .exact .inr ⟨k,c,e,z.sameBut f (K y c e)⟩
  .obtain⟨w',z⟩:=I.cell y c e;exact⟨w',z.sameBut f (K y c e)⟩
  .obtain⟨e,n,Z,nf,d⟩:=I.pin p hp;exact⟨(f.2 p.1 Z).trans e,n,Z,nf,d⟩
 .have B:X.fn x=true:=by
   rcases hf with z|z
   .exact z
   .rw [z]at hk;cases hk
  obtain⟨c,g⟩:=I.o.has x (.inl hk);obtain⟨w',z⟩:=I.cell x c g;refine wpAny_storeName_cell I.o.kind hk g z (λh' D f=>?_);obtain⟨oc,R,T⟩:=id z;refine h { s with heap:=h' } ⟨I.o,I.os,I.bare,⟨λb o e n P l=>?_,λb o e n P l=>?_,I.base.free,λb o e l=>?_,I.base.tups,I.base.frzs,I.base.tbls⟩,⟨m,hn.sameBut f (aP (K x c g)),λj y v' t F e3=>?_⟩,λy W e=>?_,I.free,I.freeC,λp hp=>?_,w ⟨oc,R,I.freeC x c g⟩ f,by simpa using I.len⟩ ⟨c,f,.inr g⟩
  .exact (f.2 b (bf (bJ (aD e) (I.o.cab x c B g)))).trans (I.base.keep b o e n P l)
  .obtain⟨sl,t⟩:=I.base.slot b o e n P l;exact⟨sl,(f.2 b (bf (bJ (aD e) (I.o.cab x c B g)))).trans t⟩
  .obtain⟨o',t⟩:=I.base.there b o e l;exact⟨o',(f.2 b (bf (bJ (aD e) (I.o.cab x c B g)))).trans t⟩
  .by_cases C:j=i
   .subst C;rw[hi]at t;cases t;rw[bA N]at F;cases F;exact⟨u,r,.inr ⟨.inl hk,c,g,D⟩⟩
   .rw [aV (aP C)]at F;obtain⟨u',r',q⟩:=hl j y v' t F e3;refine⟨u',r',?_⟩;rcases q with q|⟨k,W,e,z'⟩
    .exact .inl q
    .refine .inr ⟨k,W,e,z'.sameBut f ?_⟩;rintro rfl;exact C (wR hN t (I.o.inj _ _ _ e g ▸ hi))
  .by_cases G:W=c
   .subst G;exact⟨_,D⟩
   .obtain⟨w2,z2⟩:=I.cell y W e;exact⟨w2,z2.sameBut f G⟩
  .obtain⟨e,n,Z,nf,d⟩:=I.pin p hp;refine⟨(f.2 p.1 ?_).trans e,n,Z,nf,d⟩;intro q;rw[q,R]at e;have q':oc=p.2:=cm e;exact d w' (by rw[<- q'];exact T)
theorem qU(I:Inv X pins J H s)(N:X.N.Nodup)(hi:X.N[i]? = some x)(e:Loc X.e.scope x)(r:RelV v u)
  (h:∀s',Inv X pins (J.set i (some v)) H s'->Q () s') (f:X.fn x=true\/X.e.scope.names.lookup x=some .local:=by first|exact .inl rfl|exact .inr rfl|assumption):wpAny M A (storeName X.e x u) Q E s:=
 n_ I N hi e r (λs' a _=>h s' a) f
theorem Inv.call'(I:Inv X pins J H s)(n:s'.os=s.os)(u:Un (Db X.k) q H H' s.heap s'.heap)(o:jt X.p X.w H' s'.heap)(a:AllBare s'.gens)
  (h:∀b ∈ q,(b ∈ X.ex\/X.z.heap.objs.size≤b)/\b≠X.e.locals/\(∀x c,X.e.cells.lookup x=some c->c≠b)/\∀p ∈ X.pn++pins,p.1≠b):Inv X pins J H' s':=by
 obtain⟨h',g,d,t,o'⟩:=s';have e:o'=s.os:=n;subst e;exact I.call (g':=g) (t':=t) (d':=d) u o a h
end
noncomputable abbrev XK:=Value->Option Addr->Hp->Prop
noncomputable abbrev St:=List (Option V)
noncomputable abbrev VK:=V->Hp->Prop
noncomputable abbrev TE:=St->Hp->VK->Prop
noncomputable abbrev TT:=St->Hp->(Bool->Hp->Prop)->Prop
noncomputable abbrev TA:=St->Hp->(List V->Hp->Prop)->Prop
structure Ends where
 nx:St->Hp->Prop
 rt:VK
 bk:St->Hp->Prop:=λ_ _=>False
 ct:St->Hp->Prop:=λ_ _=>False
noncomputable abbrev TS:=Ends->St->Hp->Prop
def EP(X:Cx)(pins:PN)(J:St)(Q:VK)(u:Value)(s':Shared):Prop:=∃v H',Inv X pins J H' s'/\RelV v u/\Q v H'
def TP(X:Cx)(pins:PN)(J:St)(Q:Bool->Hp->Prop)(b:Bool)(s':Shared):Prop:=∃H',Inv X pins J H' s'/\Q b H'
def AP(X:Cx)(pins:PN)(J:St)(Q:List V->Hp->Prop)(j:LV)(s':Shared):Prop:=∃v H',Inv X pins J H' s'/\bc v j/\Q v H'
def SP(X:Cx)(pins:PN)(D:Ends)(f:Flow)(s':Shared):Prop:=
 match f with
 | .next=>∃h H',Inv X pins h H' s'/\D.nx h H'
 | .brk=>∃h H',Inv X pins h H' s'/\D.bk h H'
 | .cont=>∃h H',Inv X pins h H' s'/\D.ct h H'
 | .ret u=>∃v h H',Inv X pins h H' s'/\RelV v u/\D.rt v H'
variable{α:Type}
noncomputable abbrev wx(X:Cx)(m:Sem α):=wpAny (model X.p X.w) X.A m
def PE(X:Cx)(e:Expr)(t:TE):Prop:=
 ∀(pins:PN)(s:Shared)(J:St)(H:Hp)(Q:VK),Inv X pins J H s->t J H Q->wx X (eval e X.e) (EP X pins J Q) X.xe s
def PT(X:Cx)(e:Expr)(t:TT):Prop:=
 ∀(pins:PN)(s:Shared)(J:St)(H:Hp)(Q:Bool->Hp->Prop),Inv X pins J H s->t J H Q->wx X (isTrue e X.e (eval e X.e)) (TP X pins J Q) X.xe s
def PW(X:Cx)(e:Expr)(t:TT):Prop:=
 ∀(w:Sem Value)(pins:PN)(s:Shared)(J:St)(H:Hp)(Q:Bool->Hp->Prop),Inv X pins J H s->t J H Q->wx X (isTrue e X.e w) (TP X pins J Q) X.xe s
variable{X:Cx}{e:Expr}
theorem PW.pt(h:PW X e t):PT X e t:=h _
def PA(X:Cx)(es:Ab)(t:TA):Prop:=
 ∀(B:Pos)(pins:PN)(s:Shared)(J:St)(H:Hp)(Q:List V->Hp->Prop),Inv X pins J H s->t J H Q->wx X (spliced (backTo B (starEach es X.e))) (AP X pins J Q) X.xe s
def PS(X:Cx)(st:Stmt)(t:TS):Prop:=
 ∀(pins:PN)(s:Shared)(J:St)(H:Hp)(D:Ends),Inv X pins J H s->t D J H->wx X (exec st X.e) (SP X pins D) X.xe s
def oQ(X:Cx)(st:List Stmt)(t:TS):Prop:=
 ∀(pins:PN)(s:Shared)(J:St)(H:Hp)(D:Ends),Inv X pins J H s->t D J H->wx X (execs st X.e) (SP X pins D) X.xe s
variable{M:Model}{A:Around}{E:VP}{s:Shared}
theorem cN(h:wpAny M A t Q E s)(e:∀a s,Q a s->q a s):wpAny M A t q E s:=cG h e λ_ _ x=>x
section
variable{X:Cx}
noncomputable def QW(i:Nat):TE:=λJ H Q=>∃v,J[i]? = some (some v)/\Q v H
noncomputable def tC(v:V):TE:=λ_ H Q=>Q v H
theorem Lw(N:X.N[i]? = some x)(p:JE X.e.scope x)(hd:(x == ("__debug__":Str))=false:=by decide)(d:(x == ("__classdict__":Str))=false:=by decide):PE X (.Name x B) (QW i):=by
 intro pins s J H Q I h;obtain⟨v,e,h⟩:=h;obtain⟨m,t,k⟩:=I.loc;obtain⟨u,r,l⟩:=k i x v N e p;have f:EP X pins J Q u s:=⟨v,H,I,r,h⟩;rcases l with ⟨hk,b⟩|⟨hk,c,n,a⟩
 .exact qy (xX I.o.kind hk t b f) hd
 .rcases hk with hk|hk
  .exact qy (Bh I.o.kind hk n a f) hd
  .exact qy (Bi I.o.kind hk n a f d) hd
theorem LC {i q B}:PE X (.Constant (.int i) q B) (tC (.int i)):=λ_ _ _ H _ I h=>wpAny_Constant_int ⟨.int i,H,I.tok _,⟨_,rfl⟩,h⟩
theorem Oj {b q B}:PE X (.Constant (.bool b) q B) (tC (.bl b)):=λ_ _ _ H _ I h=>Constant_bool ⟨.bl b,H,I,rfl,h⟩
theorem LB {q B}:PE X (.Constant .none q B) (tC .non):=λ_ _ _ H _ I h=>Constant_none ⟨.non,H,I,rfl,h⟩
theorem Lx {x q B}:PE X (.Constant (.str x) q B) (tC (.str x)):=λ_ _ _ H _ I h=>Calls.Constant_str ⟨.str x,H,I.tok _,⟨_,rfl⟩,h⟩
def Gl(X:Cx)(x:Str):Prop:=X.e.kindOf x=some .globalImplicit
theorem qh(I:Inv X pins J H s)(g:Gl X x)(m:X.g x=some u)(h:Q u s)
  (hd:(x == ("__debug__":Str))=false:=by decide):wx X (eval (.Name x B) X.e) Q E s:=
 uk I.o.kind g (zZ (by rw[I.o.glob];exact I.mod.glob.keeps I.bk) m h) hd
theorem j7(I:Inv X pins J H s)(g:Gl X x)(m:X.g x=none)(v:bootBuiltins x=some u)(h:Q u s)
  (n:x≠"__name__":=by decide) (hd:(x == ("__debug__":Str))=false:=by decide):wx X (eval (.Name x B) X.e) Q E s:=by
 obtain⟨b,h1,h2⟩:=I.mod.blt;exact uk I.o.kind g (Calls.loadGlobal_builtin (by rw[I.o.glob];exact I.mod.glob.keeps I.bk) m (by rw[I.o.blt];exact h1.keeps I.bk) ((h2 x n).trans v) h) hd
theorem IF(g:Gl X x)(m:X.g x=some u)(r:RelV v u)(hd:(x == ("__debug__":Str))=false:=by decide):PE X (.Name x B) (tC v):=
 λ_ _ _ H _ I h=>qh I g m ⟨v,H,I,r,h⟩ hd
theorem IG(g:Gl X x)(m:X.g x=none)(a:bootBuiltins x=some u)(r:RelV v u)(n:x≠"__name__":=by decide)(hd:(x == ("__debug__":Str))=false:=by decide):PE X (.Name x B) (tC v):=
 λ_ _ _ H _ I h=>j7 I g m a ⟨v,H,I,r,h⟩ n hd
variable{a b:Expr}{ta tb:TE}{B:Pos}
variable{tA tB':TT}{rest:Ab}
noncomputable def Q9(t u:TT):TT:=λJ H Q=>t J H λc G=>if c=true then u J G Q else Q false G
noncomputable def S4(t u:TT):TT:=λJ H Q=>t J H λc G=>if c=true then Q true G else u J G Q
noncomputable def Q2(t:TT):TT:=λJ H Q=>t J H λc G=>Q (!c) G
theorem Im(x:PT X a tA):PW X (.BoolOp .And [a] B) tA:=by
 intro w pins s J H Q I h;refine isTrue_and (cN (x pins s J H Q I h) λc n e=>?_);cases c with
 |true=>exact isTrue_and_nil e
 |false=>exact e
theorem Li(x:PT X a tA):PW X (.BoolOp .Or [a] B) tA:=by
 intro w pins s J H Q I h;refine isTrue_or (cN (x pins s J H Q I h) λc n e=>?_);cases c with
 |false=>exact isTrue_or_nil e
 |true=>exact e
theorem Lj(e:PT X a tA)(n:PW X (.BoolOp .And (b::rest) B) tB'):PW X (.BoolOp .And (a::b::rest) B) (Q9 tA tB'):=by
 intro w pins s J H Q I h;refine isTrue_and (cN (e pins s J H _ I h) λc k z=>?_);obtain⟨G,x,q⟩:=z;cases c with
 |true=>exact n w pins k J G Q x q
 |false=>exact⟨G,x,q⟩
theorem Od(e:PT X a tA)(n:PW X (.BoolOp .Or (b::rest) B) tB'):PW X (.BoolOp .Or (a::b::rest) B) (S4 tA tB'):=by
 intro w pins s J H Q I h;refine isTrue_or (cN (e pins s J H _ I h) λc k z=>?_);obtain⟨G,x,q⟩:=z;cases c with
 |true=>exact⟨G,x,q⟩
 |false=>exact n w pins k J G Q x q
theorem Lk(x:PT X a tA):PT X (.UnaryOp .Not a B) (Q2 tA):=by intro pins s J H Q I h;exact isTrue_not (x pins s J H (λc G=>Q (!c) G) I h)
noncomputable def NY(ta tb:TE):TE:=λJ H Q=>ta J H λx G=>∃c,x=.bl c/\if c=true then tb J G Q else Q (.bl false) G
noncomputable def Q0(ta tb:TE):TE:=λJ H Q=>ta J H λx G=>∃c,x=.bl c/\if c=true then Q (.bl true) G else tb J G Q
noncomputable def NQ(ta:TE):TE:=λJ H Q=>ta J H λx G=>∃c,x=.bl c/\Q (.bl (!c)) G
theorem Ly {q} (h:PE X a t):PE X (.BoolOp q [a] B) t:=λpins s J H Q I hw=>BoolOp_one (h pins s J H Q I hw)
theorem LF(n:PE X a ta)(k:PE X (.BoolOp .And (b::rest) B) tb):PE X (.BoolOp .And (a::b::rest) B) (NY ta tb):=by
 intro pins s J H Q I h;refine BoolOp_and (cN (n pins s J H _ I h) λv f z=>?_);obtain⟨x,G,e,r,q⟩:=z;obtain⟨c,rfl,q⟩:=q;cases r;refine kH ?_;cases c with
 |true=>exact k pins f J G Q e q
 |false=>exact⟨.bl false,G,e,rfl,q⟩
theorem Oh(n:PE X a ta)(k:PE X (.BoolOp .Or (b::rest) B) tb):PE X (.BoolOp .Or (a::b::rest) B) (Q0 ta tb):=by
 intro pins s J H Q I h;refine BoolOp_or (cN (n pins s J H _ I h) λv f z=>?_);obtain⟨x,G,e,r,q⟩:=z;obtain⟨c,rfl,q⟩:=q;cases r;refine kH ?_;cases c with
 |false=>exact k pins f J G Q e q
 |true=>exact⟨.bl true,G,e,rfl,q⟩
theorem Lz(n:PE X a ta):PE X (.UnaryOp .Not a B) (NQ ta):=by intro pins s J H Q I h;refine UnaryOp_ (cN (n pins s J H _ I h) λv k z=>?_);obtain⟨x,G,e,r,q⟩:=z;obtain⟨c,rfl,q⟩:=q;cases r;exact not_of (kH ⟨.bl (!c),G,e,rfl,q⟩)
noncomputable def S6(t:TT)(ta tb:TE):TE:=λJ H Q=>t J H λc G=>if c=true then ta J G Q else tb J G Q
theorem E8(f:PT X c tA)(n:PE X a ta)(k:PE X b tb):PE X (.IfExp c a b B) (S6 tA ta tb):=by
 intro pins s J H Q I h;refine wpAny_IfExp (cN (f pins s J H _ I h) λd e z=>?_);obtain⟨G,x,q⟩:=z;cases d with
 |true=>exact n pins e J G Q x q
 |false=>exact k pins e J G Q x q
end
def iT(K:FG)(H:Hp)(a:Addr)(xs:List V):Prop:=
 Rd H a (.lst xs) \/
  ∃(o:Obj)(i:Array Value)(n:Nat),K.lookup a=some o/\o.cls=.type "list"/\o.dict=none/\o.data=.seq i n/\i.size≤sizeLine/\bc xs i.toList
def nQ(K:FG)(H:Hp)(a:Addr)(xs:List V):Prop:=
 Rd H a (.tup xs) \/
  ∃(o:Obj)(i:Array Value)(n:Nat),K.lookup a=some o/\o.cls=.type "tuple"/\o.dict=none/\o.data=.seq i n/\i.size≤sizeLine/\bc xs i.toList
noncomputable def R3:Value->Option V
 | .none=>some .non
 | .bool b=>some (.bl b)
 | .int i _=>some (.int i)
 | .str x _=>some (.str x)
 | .bytes b _=>some (.byt b)
 | .float b _=>some (.flt b)
 | .ref a=>some (.ref a)
 | .type n=>some (.ty n)
 |_=>none
theorem RelV.abs(r:RelV x u):R3 u=some x:=by
 cases x with
 |non=>cases r;rfl
 |bl _=>cases r;rfl
 |int _=>obtain⟨t,rfl⟩:=r;rfl
 |str _=>obtain⟨t,rfl⟩:=r;rfl
 |byt _=>obtain⟨t,rfl⟩:=r;rfl
 |flt _=>obtain⟨t,rfl⟩:=r;rfl
 |ref _=>cases r;rfl
 |ty _=>cases r;rfl
variable{y:V}
theorem RelV.inj(r:RelV x u)(q:RelV y u):x=y:=cm (r.abs.symm.trans q.abs)
theorem bc.inj:∀{xs ys:List V}{j:LV},bc xs j->bc ys j->xs=ys
 |_,_,_,.nil,.nil=>rfl
 |_,_,_,.cons r t,.cons h x=>by rw[r.inj h,bc.inj t x]
section
variable{X:Cx}{pins:PN}{J:St}{H:Hp}{s:Shared}{a:Addr}{xs ys:List V}
theorem iT.of{K:FG}(h:H a=some (.lst xs)):iT K H a xs:=.inl (.inl h)
theorem Inv.list(I:Inv X pins J H s)(h:iT X.K H a xs):∃i:LV,bc xs i/\PlainL s.heap a i.toArray/\xs.length≤sizeLine:=by
 rcases h with h|⟨o,i,n,hk,c,hd,x,k,r⟩
 .obtain⟨z,i,n,r,e⟩:=h.ok I.h;exact⟨i,r,⟨_,n,e,rfl,rfl,rfl⟩,z⟩
 .refine⟨i.toList,r,⟨o,n,I.kIn a o hk,c,hd,by simpa using x⟩,?_⟩;have e:=r.length;simp only[mV]at e;lia
theorem Inv.tuple(I:Inv X pins J H s)(h:nQ X.K H a xs):∃i:LV,bc xs i/\IsTup s.heap a i.toArray/\xs.length≤sizeLine:=by
 rcases h with h|⟨o,i,n,hk,c,_,x,k,r⟩
 .obtain⟨z,i,r,p⟩:=h.ok I.h;exact⟨i,r,p.tup,z⟩
 .refine⟨i.toList,r,⟨o,I.kIn a o hk,c,n,by simpa using x⟩,?_⟩;have e:=r.length;simp only[mV]at e;lia
theorem Inv.tupleN(I:Inv X pins J H s)(h:nQ X.K H a xs):∃its:LV,bc xs its/\oO s.heap a its.toArray:=by
 rcases h with q|⟨ob,vs,m,e1,e2,e3,e4,_,rv⟩
 .exact⟨_,(q.ok I.h).2.choose_spec⟩
 .exact⟨vs.toList,rv,ob,I.kIn a ob e1,⟨e2,m,by simpa using e4⟩,e3⟩
theorem Inv.list_inj(I:Inv X pins J H s)(h:iT X.K H a xs)(h':iT X.K H a ys):xs=ys:=by
 obtain⟨t,r,⟨o,n,e,_,_,d⟩,_⟩:=I.list h;obtain⟨i,b,⟨o',c,k,_,_,x⟩,_⟩:=I.list h';rw[e]at k;cases k;rw[d]at x;injection x with f _;have:t=i:=by simpa using du AO f
 subst this;exact r.inj b
theorem Inv.tuple_inj(I:Inv X pins J H s)(h:nQ X.K H a xs)(h':nQ X.K H a ys):xs=ys:=by
 obtain⟨t,r,⟨o,e,_,n,d⟩,_⟩:=I.tuple h;obtain⟨i,b,⟨o',k,_,c,x⟩,_⟩:=I.tuple h';rw[e]at k;cases k;rw[d]at x;injection x with f _;have:t=i:=by simpa using du AO f
 subst this;exact r.inj b
end
noncomputable abbrev Cx.wish(X:Cx)(E:VP):Cx:={ X with xe:=E }
abbrev Cx.nox(X:Cx):Cx:=X.wish λ_ _=>False
theorem Cx.Ok.wish(ok:X.Ok)(E:VP):(X.wish E).Ok:=
 ⟨ok.mod,ok.kind,ok.glob,ok.blt,ok.above,ok.inj,ok.has,ok.cab,ok.hd,ok.frames,ok.stk,ok.exf,ok.bs,ok.bsz,ok.noex,ok.exfs,ok.funs,ok.frf,ok.tab⟩
theorem Cx.Ok.unwish(ok:(X.wish E).Ok):X.Ok:=
 ⟨ok.mod,ok.kind,ok.glob,ok.blt,ok.above,ok.inj,ok.has,ok.cab,ok.hd,ok.frames,ok.stk,ok.exf,ok.bs,ok.bsz,ok.noex,ok.exfs,ok.funs,ok.frf,ok.tab⟩
section
variable{X:Cx}{pins:PN}{J:St}{H:Hp}{s:Shared}{E:VP}
theorem Inv.wish(I:Inv X pins J H s)(E:VP):Inv (X.wish E) pins J H s:=⟨I.o.wish E,I.os,I.bare,I.base,I.loc,I.cell,I.free,I.freeC,I.pin,I.h,I.len⟩
theorem Inv.unwish(I:Inv (X.wish E) pins J H s):Inv X pins J H s:=⟨I.o.unwish,I.os,I.bare,I.base,I.loc,I.cell,I.free,I.freeC,I.pin,I.h,I.len⟩
set_option tactic.hygienic true in
theorem SP.unwish(h:SP (X.wish E) pins D f s'):SP X pins D f s':=by
 cases f with
 |next=>obtain⟨x,H',I,q⟩:=h;exact⟨x,H',I.unwish,q⟩
 |brk=>obtain⟨x,H',I,q⟩:=h;exact⟨x,H',I.unwish,q⟩
 |cont=>obtain⟨x,H',I,q⟩:=h;exact⟨x,H',I.unwish,q⟩
 |ret u=>obtain⟨v,x,H',I,r,q⟩:=h;exact⟨v,x,H',I.unwish,r,q⟩
theorem oQ.nox{st:List Stmt}{t:TS}(h:oQ X.nox st t):oQ X st t:=λpins s J H D I hw=>
 cG (h pins s J H D (I.wish _) hw) (λ_ _ q=>q.unwish) λ_ _ z=>False.elim z
end
section
variable{X:Cx}{st:Stmt}{rest:List Stmt}{t u:TS}{e:Expr}{te:TE}{B:Pos}
noncomputable def NS:TS:=λD J H=>D.nx J H
noncomputable def QY(t u:TS):TS:=λD J H=>t { D with nx:=u D } J H
theorem Ip:oQ X [] NS:=λ_ _ J H _ I h=>tX ⟨J,H,I,h⟩
set_option tactic.hygienic true in
theorem ER(h1:PS X st t)(h2:oQ X rest u):oQ X (st::rest) (QY t u):=by
 intro pins s J H D I h;refine A8 (cN (h1 pins s J H { D with nx:=u D } I h) λf e q=>?_);cases f with
 |next=>obtain⟨a,H',x,q⟩:=q;exact h2 pins e a H' D x q
 |ret v=>exact q
 |brk=>exact q
 |cont=>exact q
set_option tactic.hygienic true in
theorem Io(h1:PS X st t):oQ X [st] t:=by
 intro pins s J H D I h;refine A8 (cN (h1 pins s J H D I h) λf x q=>?_);cases f with
 |next=>exact tX q
 |ret v=>exact q
 |brk=>exact q
 |cont=>exact q
theorem Inv.quiet(I:Inv X pins J H s):interactive X.e=false:=by simp[interactive,I.o.kind]
noncomputable def NU(te:TE):TS:=λD J H=>te J H λ_ G=>D.nx J G
theorem Ir(n:PE X e te)(k:swapsWith e none B.line X.e=pure false:=by rfl):PS X (.Expr e B) (NU te):=by intro pins s J H D I h;exact wpAny_Expr_any (cN (n pins s J H _ I h) λv f z=>by obtain⟨x,G,a,r,q⟩:=z;exact⟨J,G,a,q⟩) I.quiet k
noncomputable def QZ(te:TE):TS:=λD J H=>te J H D.rt
theorem Lm(n:PE X e te):PS X (.Return (some e) B) (QZ te):=by intro pins s J H D I h;exact wpAny_Return_some (cN (n pins s J H _ I h) λv k z=>by obtain⟨x,G,a,r,q⟩:=z;exact⟨x,J,G,a,r,q⟩)
noncomputable def Q4(c:TT)(t u:TS):TS:=λD J H=>c J H λb G=>if b=true then t D J G else u D J G
theorem Oe{c:Expr}{a b:List Stmt}{tc:TT}(f:PT X c tc)(n:oQ X a t)(k:oQ X b u):PS X (.If c a b B) (Q4 tc t u):=by
 intro pins s J H D I h;refine wpAny_If (cN (f pins s J H _ I h) λd e z=>?_);obtain⟨G,x,q⟩:=z;cases d with
 |true=>exact n pins e J G D x q
 |false=>exact k pins e J G D x q
noncomputable def Eo:TS:=λ_ _ _=>False
theorem EU:PS X st Eo:=λ_ _ _ _ _ _ h=>h.elim
theorem CN:oQ X q Eo:=λ_ _ _ _ _ _ h=>h.elim
end
noncomputable abbrev TG:=V->St->Hp->(St->Hp->Prop)->Prop
noncomputable abbrev MS:=List V->St->Hp->(St->Hp->Prop)->Prop
def PG(X:Cx)(a:Expr)(t:TG):Prop:=
 ∀(pins:PN)(s:Shared)(J:St)(H:Hp)(v:V)(u:Value)(Q:St->Hp->Prop),Inv X pins J H s->RelV v u->t v J H Q ->
  wx X (assign a X.e u) (λ_ s'=>∃h H',Inv X pins h H' s'/\Q h H') X.xe s
def PK(X:Cx)(x:Ab)(t:MS):Prop:=
 ∀(pins:PN)(s:Shared)(J:St)(H:Hp)(v:List V)(j:LV)(Q:St->Hp->Prop),Inv X pins J H s->bc v j->t v J H Q ->
  wx X (assignInOrder ((assignEach x X.e).map (·.2)) j) (λ_ s'=>∃h H',Inv X pins h H' s'/\Q h H') X.xe s
noncomputable abbrev MR:=V->V->V->Hp->(Hp->Prop)->Prop
def PH(X:Cx)(t:MR):Prop:=
 ∀(pins:PN)(s:Shared)(J:St)(H:Hp)(o i v:V)(h iv u:Value)(Q:Hp->Prop),Inv X pins J H s->RelV o h->RelV i iv->RelV v u->t o i v H Q ->
  wx X (setItem h iv u) (λ_ s'=>∃H',Inv X pins J H' s'/\Q H') X.xe s
noncomputable abbrev R6:=V->V->Hp->VK->Prop
def Sz(X:Cx)(o:Operator)(t:R6):Prop:=
 ∀(pins:PN)(s:Shared)(J:St)(H:Hp)(x y:V)(v u:Value)(Q:VK),Inv X pins J H s->RelV x v->RelV y u->t x y H Q ->
  wx X (inplaceOp o v u) (EP X pins J Q) X.xe s
section
variable{X:Cx}{B:Pos}
noncomputable def Ka(i:Nat):TG:=λv J H Q=>Q (J.set i (some v)) H
theorem IC(N:X.N.Nodup)(hi:X.N[i]? = some x)(e:Loc X.e.scope x)(f:X.fn x=true\/X.e.scope.names.lookup x=some .local:=by first|exact .inl rfl|exact .inr rfl|assumption):PG X (.Name x B) (Ka i):=by intro pins s J H v u Q I r h;exact xV (qU I N hi e r (λs' a=>⟨_,H,a,h⟩) f)
noncomputable def RS:MS:=λv J H Q=>v=[]/\Q J H
noncomputable def O2(t:TG)(u:MS):MS:=λs J H Q=>∃v r,s=v::r/\t v J H λh H'=>u r h H' Q
theorem IB:PK X [] RS:=by intro pins s J H v j Q I r h;obtain⟨e,h⟩:=h;subst e;cases r;exact assignInOrder_nil ⟨J,H,I,h⟩
theorem E2{e:Expr}{es:Ab}{t:TG}{u:MS}(h1:PG X e t)(h2:PK X es u)
  (k:(assignEach (e::es) X.e).map (·.2)=assign e X.e::(assignEach es X.e).map (·.2):=by rfl):PK X (e::es) (O2 t u):=by
 intro pins s J H m j Q I r h;obtain⟨v,c,n,h⟩:=h;subst n;cases r with
 |cons r f=>rw[k];refine assignInOrder_cons (cN (h1 pins s J H _ _ _ I r h) λ_ b z=>?_);obtain⟨a,G,x,q⟩:=z;exact h2 pins b a G _ _ Q x f q
noncomputable def RQ(K:FG)(n:Nat)(t:MS):TG:=λv J H Q=>∃a xs,v=.ref a/\nQ K H a xs/\xs.length=n/\t xs J H Q
theorem Lu(m:X.c=true)(h:PK X es t)
  (p:(assignEach es X.e).length=n:=by rfl) (hst:(assignEach es X.e).findIdx? (·.1)=none:=by rfl):PG X (.Tuple es k B) (RQ X.K n t):=by
 intro pins s J H v u Q I r hw;obtain⟨a,xs,c,q,l,hw⟩:=hw;subst c;cases r;obtain⟨i,x,d,z⟩:=I.tuple q;refine assign_Tuple_tuple (I.o.hd m) d (by simp[p,<- l,x.length]) hst λh' w=>?_
 have f:Inv X pins J H { s with heap:=h' }:=I.kept (t':=s.toks) λb o e=>w b o (bf (aD e)) e;exact h pins _ J H xs _ Q f (by simpa using x) hw
noncomputable def RR(to x:TE)(t:MR):TG:=λv J H Q=>to J H λo G=>x J G λi H2=>t o i v H2 λh=>Q J h
theorem Lv{o i:Expr}{to a:TE}{t:MR}(c:PE X o to)(hi:PE X i a)(m:PH X t)
  (b:∀v,assign (.Subscript o i B) X.e v=(do
   let q <- holding [v] (eval o X.e)
   let iv <- holding [v,q] (eval i X.e)
   standAt B
   holding [v,q,iv] (setItem q iv v)
   release [v,q,iv] []):=by intro _;rfl):PG X (.Subscript o i B) (RR to a t):=by
 intro pins s J H v u Q I r h;rw[b];refine ac (fR (cN (c pins s J H _ I h) λq l z=>?_));obtain⟨x,G,n,g,p⟩:=z;refine ac (fR (cN (hi pins l J G _ n p) λiv S z=>?_));obtain⟨y,H2,k,j,d⟩:=z;refine ac (tU (ac (fR (cN (m pins S J H2 x y v q iv u _ k g j r d) λ_ F z=>?_))));obtain⟨e,f,w⟩:=z;exact wpAny_release ⟨J,e,f,w⟩
noncomputable def NX(te:TE)(g:TG):TS:=λD J H=>te J H λx G=>g x J G D.nx
theorem EW{tg e:Expr}{te:TE}{g:TG}(n:PE X e te)(k:PG X tg g)(f:swapsWithSole [tg] e B.line X.e=pure false:=by rfl)(hw:swappedStores [tg] e X.e=pure none:=by rfl)
  (h1:(assignEach [tg] X.e).map (·.2)=[assign tg X.e]:=by rfl):PS X (.Assign [tg] e B) (NX te g):=by
 intro pins s J H D I h;refine wpAny_Assign_stores (cN (n pins s J H _ I h) λv c z=>?_) f hw;obtain⟨x,G,a,r,b⟩:=z;rw[h1];exact cN (k pins c J G x v _ a r b) λ_ m q=>q
theorem Ll(N:X.N.Nodup)(hi:X.N[i]? = some x)(c:Loc X.e.scope x)(k:PE X e te)(b:swapsWith e (some (.Name x pos')) B.line X.e=pure false:=by rfl)(f:X.fn x=true\/X.e.scope.names.lookup x=some .local:=by first|exact .inl rfl|exact .inr rfl|assumption) :
  PS X (.Assign [.Name x pos'] e B) (NX te (Ka i)):=by
 intro pins s J H D I h;refine wpAny_Assign_Name (cN (k pins s J H _ I h) λv m z=>?_) b;obtain⟨y,G,a,r,q⟩:=z;exact qU a N hi c r (λt n=>⟨_,G,n,q⟩) f
noncomputable def Q8(i:Nat)(te:TE)(t:R6):TS:=λD J H=>∃x,J[i]? = some (some x)/\te J H λy G=>t x y G λz H2=>D.nx (J.set i (some z)) H2
set_option tactic.hygienic true in
theorem Lp(N:X.N.Nodup)(hi:X.N[i]? = some x)(b:Loc X.e.scope x)(K:PE X e te)(L:Sz X q ti)(P:X.fn x=true\/X.e.scope.names.lookup x=some .local:=by first|exact .inl rfl|exact .inr rfl|assumption) :
  PS X (.AugAssign (.Name x pos') q e B) (Q8 i te ti):=by
 intro pins s J H D I h;obtain⟨v,S,h⟩:=h;obtain⟨m,E,A⟩:=I.loc;have p:JE X.e.scope x:=by rcases b with k|k;exact .inl k;exact .inr (.inl k)
 obtain⟨u,r,l⟩:=A i x v hi S p;refine wpAny_AugAssign_Name ?_;have g:wx X (eval e X.e) (λw n=>wx X (inplaceOp q u w) (λr f=>wx X (storeName X.e x r) (λ_=>SP X pins D .next) X.xe f) X.xe n) X.xe s:=by refine cN (K pins s J H _ I h) λw V t=>?_;obtain⟨y,G,d,R,M⟩:=t;refine cN (L pins V J G v y u w _ d r R M) λz W t=>?_;obtain⟨zv,H2,j,T,Q⟩:=t;exact qU j N hi b T (λZ o=>⟨_,H2,o,Q⟩) P
 rcases l with ⟨hk,C⟩|⟨hk,c,F,a⟩
 .exact xX I.o.kind hk E C g
 .rcases hk with hk|hk
  .exact Bh I.o.kind hk F a g
  .rcases b with k|k
   .have:X.e.scope.names.lookup x=some .free:=hk;rw[k]at this;cases this
   .have:X.e.scope.names.lookup x=some .free:=hk;rw[k]at this;cases this
noncomputable def Tp(f:Int->Int->Int):R6:=λx y H Q=>∃i j,x=.int i/\y=.int j/\Q (.int (f i j)) H
theorem Mj:Sz X .Add (Tp λi j=>i+j):=by intro pins s J H x y v u Q I r n h;obtain⟨i,j,e,a,q⟩:=h;subst e;subst a;obtain⟨t,rfl⟩:=r;obtain⟨k,rfl⟩:=n;exact iadd_int ⟨.int _,H,I.tok _,⟨_,rfl⟩,q⟩
end
section
variable{X:Cx}{B:Pos}
noncomputable def K6(c:TT)(tb:TS):TS:=λD J H=>∃W:Nat->St->Hp->Prop,(∃m,W m J H)/\∀m J H,W m J H ->
 c J H λb G=>if b=true then ∃N:St->Hp->Prop,(∀h H',N h H'->∃x,x < m/\W x h H')/\tb { D with nx:=N,ct:=N,bk:=D.nx } J G else D.nx J G
set_option tactic.hygienic true in
theorem ET(l:PassesOwn (model X.p X.w) X.A X.e X.xe)(o:PT X c tc)(z:oQ X q tb):PS X (.While c q [] B) (K6 tc tb):=by
 intro pins s J H D I h;obtain⟨W,⟨F,A⟩,t⟩:=h;refine wpAny_While (codeAny_whileLoop (λn s'=>∃i H',Inv X pins i H' s'/\W n i H') ?_ F ⟨J,H,I,A⟩);rintro n K ⟨e,G,y,C⟩;refine lX l (cN (o pins K e G _ y (t n e G C)) λb P S=>?_);obtain⟨H2,g,k⟩:=S;cases b with
 |true=>
  obtain⟨N,j,k⟩:=k;rw[af rfl];refine lX l (cN (z pins P e H2 _ g k) λf E m=>?_);cases f with
  |next=>obtain⟨a,x,r,w⟩:=m;obtain⟨d,p,u⟩:=j a x w;exact⟨d,p,a,x,r,u⟩
  |cont=>obtain⟨a,x,r,w⟩:=m;obtain⟨d,p,u⟩:=j a x w;exact⟨d,p,a,x,r,u⟩
  |brk=>exact m
  |ret v=>exact m
 |false=>rw[ah bC];exact tX ⟨e,H2,g,k⟩
end
structure It where
 go:Nat->Hp->Prop
 yld:Nat->Hp->V->Hp->Prop
 stop:Nat->Hp->Prop
def wm(X:Cx)(pins:PN)(H:Hp)(b:Addr):Prop:=
 H b=none/\b≠X.e.locals/\b ∉ X.fs/\(b ∈ X.ex\/X.z.heap.objs.size≤b)/\(∀x c,X.e.cells.lookup x=some c->c≠b)/\∀p ∈ X.pn++pins,p.1≠b
variable{pins:PN}{J:St}
theorem Inv.fpOk(I:Inv X pins J H s)(h:s.heap.objs.size≤b)(n:H' b=none):wm X pins H' b:=by
 refine⟨n,bU (bJ I.lt h),I.nofs h,.inr (aA I.sz h),λx c e z=>?_,λp a z=>?_⟩
 .obtain⟨v,q⟩:=I.cell x c e;exact absurd (bJ q.lt (by rw[z];exact h)) (e_ _)
 .exact absurd (bJ (aD (I.pin p a).1) (by rw[z];exact h)) (e_ _)
structure Turn(P:Program)(w:World)(K:FG)(tg:Expr)(J9:It)(fp:List Addr)(it:Addr)(tn:Nat->Heap->Prop):Prop where
 mem:it ∈ fp
 obj:∀i h,tn i h->∀b ∈ fp,∃o,h.get? b=some o/\∀v,o.data≠.cell v
 keep:∀i h h',tn i h->(∀b ∈ fp,∀o,h.get? b=some o->h'.get? b=some o)->tn i h'
 item:∀(X:Cx),X.p=P->X.w=w->X.K=K->X.c=true->∀(i:Nat)(pins:PN)(s:Shared)(J:St)(H:Hp)(E:VP),Inv X pins J H s->(∀b ∈ fp,wm X pins H b)->tn i s.heap->J9.go i H ->
  wpAny (model P w) X.A (pyNext (.ref it)) (fun r s1=>∃u,r=some u /\
   wpAny (model P w) X.A (letOwnedTupleGo tg (.ref it) u) (λ_ s2=>∃x H',Inv X pins J H' s2/\RelV x u/\J9.yld i H x H'/\tn (i+1) s2.heap/\∀b ∈ fp,H' b=none) E s1) E s
 done:∀(X:Cx),X.p=P->X.w=w->X.K=K->X.c=true->∀(i:Nat)(pins:PN)(s:Shared)(J:St)(H:Hp)(E:VP),Inv X pins J H s->(∀b ∈ fp,wm X pins H b)->tn i s.heap->J9.stop i H ->
  wpAny (model P w) X.A (pyNext (.ref it)) (λr s1=>r=none/\Inv X pins J H s1) E s
 self:∀(A:Around)(i:Nat)(s:Shared)(Q:VP)(E:VP),tn i s.heap->Q (.ref it) s->wpAny (model P w) A (pyIter (.ref it)) Q E s
noncomputable abbrev TI:=St->Hp->(It->Hp->Prop)->Prop
def Qo(X:Cx)(pins:PN)(J:St)(tg:Expr)(R:It->Hp->Prop)(i:Value)(s:Shared):Prop:=
 ∃(t:Addr)(f:List Addr)(n:Nat->Heap->Prop)(h:It)(H':Hp),i=.ref t/\Inv X pins J H' s/\Turn X.p X.w X.K tg h f t n/\n 0 s.heap/\(∀b ∈ f,wm X pins H' b)/\R h H'
def PI(X:Cx)(tg iter:Expr)(w:TI):Prop:=
 ∀(pins:PN)(s:Shared)(J:St)(H:Hp)(R:It->Hp->Prop),Inv X pins J H s->w J H R ->
  wx X (eval iter X.e) (λv h=>wx X (pyIter v) (Qo X pins J tg R) X.xe h) X.xe s
variable{tg:Expr}
theorem F6(e:s.heap.get? q=some o)(c:o.cls=.type n)(hd:o.data=.fields z)
    (a:["enumerate","zip","dict_itemiterator","dict_reverseitemiterator","odict_iterator","itertools.zip_longest","itertools.pairwise"].contains n=false) (x:Q () s):wpAny M A (letOwnedTupleGo tg (.ref q) u) Q E s:=by
  unfold letOwnedTupleGo;cases tg<;>first
    |exact aq x
    | (cases u <;> first
        |exact aq x
        | (refine ac (wpAny_load e ?_)
           rw[c,hd];show wpAny M A (if (["enumerate","zip","dict_itemiterator","dict_reverseitemiterator","odict_iterator","itertools.zip_longest","itertools.pairwise"].contains n && z[0]? == some (rawInt _))=true then _ else _) Q E s;rw[ah (by intro h;rw[a,Bool.false_and]at h;cases h)];exact aq x))
noncomputable def Qr(K:FG)(a:Addr):It:=
 ⟨λi H=>∃xs x,iT K H a xs/\xs[i]? = some x,λi H x H'=>H'=H/\∀xs,iT K H a xs->xs[i]? = some x,λi H=>∃xs,iT K H a xs/\xs.length≤i⟩
noncomputable def SF(K:FG)(a:Addr):It:=
 ⟨λi H=>∃xs x,nQ K H a xs/\xs[i]? = some x,λi H x H'=>H'=H/\∀xs,nQ K H a xs->xs[i]? = some x,λi H=>∃xs,nQ K H a xs/\xs.length≤i⟩
noncomputable def Qq(lo:Int)(n:Nat):It:=⟨λi _=>i < n,λi H x H'=>H'=H/\x=.int (lo+i),λi _=>n≤i⟩
variable{w:World}{K:FG}
theorem CA(a t:Addr):Turn P w K tg (Qr K a) [t] t (λi h=>h.IsListIter t a i) where
 mem:=by simp
 obj:=λi h st b n=>by
  have e:b=t:=by simpa using n
  subst e;obtain⟨o,e,c,d⟩:=st;exact⟨o,e,λv z=>by rw[d]at z;cases z⟩
 keep:=λi h h' st k=>st.at λo e=>k t (by simp) o e
 item:=by
  intro X F hw S G i pins s J H E I m st A;subst F hw S;obtain⟨xs,x,q,B⟩:=A;obtain⟨C,D,p,T⟩:=I.list q;obtain⟨u,Q,V⟩:=D.get B;obtain⟨r,g,N,j,l,y⟩:=m t (by simp);refine DJ st p.isList (x:=u) (by simpa using Q) λh' f W=>?_
  have L:Inv X pins J H { s with heap:=h' }:=I.turned (t':=s.toks) (λb o n e=>(W.2 b n).trans e) r g j l y;obtain⟨o,e,c,d⟩:=id f;exact⟨u,rfl,F6 (s:={ s with heap:=h' }) e c d (by decide) ⟨x,H,L,V,⟨rfl,λys R=>by rw[I.list_inj R q];exact B⟩,f,λb n=>(m b n).1⟩⟩
 done:=by intro X F hw S G i pins s J H E I m st A;subst F hw S;obtain⟨xs,q,B⟩:=A;obtain⟨C,D,p,T⟩:=I.list q;obtain⟨r,g,N,j,l,y⟩:=m t (by simp);have Z:=D.length;exact DF (I.o.hd G) st p.isList (by simp;lia) λh' M=>⟨rfl,I.turned (t':=s.toks) (λb o n e=>M b o n e) r g j l y⟩
 self:=λ_ _ _ _ _ st h=>wpAny_pyIter_listiter st h
theorem ye(a t:Addr):Turn P w K tg (SF K a) [t] t (λi h=>h.IsTupleIter t a i) where
 mem:=by simp
 obj:=λi h st b n=>by
  have e:b=t:=by simpa using n
  subst e;obtain⟨o,e,c,d⟩:=st;exact⟨o,e,λv z=>by rw[d]at z;cases z⟩
 keep:=λi h h' st k=>st.at λo e=>k t (by simp) o e
 item:=by
  intro X A hw F G i pins s J H E I r st B;subst A hw F;obtain⟨xs,x,q,C⟩:=B;obtain⟨f,D,p,T⟩:=I.tuple q;obtain⟨u,Q,V⟩:=D.get C;obtain⟨g,j,N,l,y,S⟩:=r t (by simp);refine wpAny_pyNext_tuple_item st (show s.heap.IsTuple a f.toArray from p) (x:=u) (by simpa using Q) λh' m W=>?_
  have L:Inv X pins J H { s with heap:=h' }:=I.turned (t':=s.toks) (λb o n e=>(W.2 b n).trans e) g j l y S;obtain⟨o,e,c,d⟩:=id m;exact⟨u,rfl,F6 (s:={ s with heap:=h' }) e c d (by decide) ⟨x,H,L,V,⟨rfl,λys R=>by rw[I.tuple_inj R q];exact C⟩,m,λb n=>(r b n).1⟩⟩
 done:=by intro X A hw F G i pins s J H E I r st B;subst A hw F;obtain⟨xs,q,C⟩:=B;obtain⟨f,D,p,T⟩:=I.tuple q;obtain⟨g,j,N,l,y,S⟩:=r t (by simp);have Z:=D.length;exact wpAny_pyNext_tuple_end (I.o.hd G) st (show s.heap.IsTuple a f.toArray from p) (by simp;lia) λh' M=>⟨rfl,I.turned (t':=s.toks) (λb o n e=>M b o n e) g j l y S⟩
 self:=λ_ _ _ _ _ st h=>wpAny_pyIter_tupleiter st h
theorem yf(x:Addr)(lo:Int)(n:Nat):Turn P w K tg (Qq lo n) [x] x (λi h=>IsRangeIter h x (lo+(i:Nat) * 1) ((n:Int)-(i:Nat)) 1) where
 mem:=by simp
 obj:=λi h st b a=>by
  have e:b=x:=by simpa using a
  subst e;exact⟨_,st,λv z=>by have C:Data.fields _=Data.cell v:=z;cases C⟩
 keep:=λi h h' st k=>k x (by simp) _ st
 item:=by
  intro X g hw u j i pins s J H E I c st l;subst g hw u;obtain⟨m,r,F,p,q,d⟩:=c x (by simp);have W:=Walks.range (prog:=X.p) (w:=X.w) (I.o.hd j) x lo 1 n;refine W.item i s _ _ l st λv h' tk A f B=>?_
  obtain⟨t,rfl⟩:=A;have y:Inv X pins J H { s with heap:=h',toks:=tk }:=I.turned (λb o a e=>B b o (by simpa using a) e) m r p q d;refine⟨_,rfl,F6 (s:={ s with heap:=h',toks:=tk }) (n:="range_iterator") f rfl rfl (by decide) ⟨.int (lo+i),H,y,⟨t,?_⟩,⟨rfl,rfl⟩,f,λb a=>(c b a).1⟩⟩;rw[Int.mul_one]
 done:=by intro X g hw u j i pins s J H E I c st l;subst g hw u;obtain⟨m,r,F,p,q,d⟩:=c x (by simp);exact wpAny_pyNext_range_end (I.o.hd j) st (by have:n≤i:=l;lia) λh' S=>⟨rfl,I.turned (t':=s.toks) (λb o a e=>S b o a e) m r p q d⟩
 self:=λ_ _ _ _ _ st h=>wpAny_pyIter_rangeiter st h
section
variable{X:Cx}{tg:Expr}
theorem EJ{lo hi:Int}{t u v:Tok}{tk:Nat}(I:Inv X pins J H s)(h1:-(2 ^ 62)≤lo)(h2:lo < 2 ^ 62)(n:-(2 ^ 62)≤hi)(k:hi < 2 ^ 62)
  (q:R (Qq lo (hi-lo).toNat) H):wx X (pyIter (.ref s.heap.objs.size)) (Qo X pins J tg R) E { s with heap:=s.heap.push { cls:=.type "range",data:=.fields #[.int lo t,.int hi u,.int 1 v] },toks:=tk }:=by
 refine wpAny_pyIter_range (IsRange.new ..) (small_one h1 h2 n k) ?_;have h:Inv X pins J H { s with heap:=s.heap.push { cls:=.type "range",data:=.fields #[.int lo t,.int hi u,.int 1 v] },toks:=tk }:=I.kept fun b o e=>aW _ e;refine⟨(s.heap.push { cls:=.type "range",data:=.fields #[.int lo t,.int hi u,.int 1 v] }).objs.size,[(s.heap.push { cls:=.type "range",data:=.fields #[.int lo t,.int hi u,.int 1 v] }).objs.size],_,_,H,rfl,
  h.kept (t':=tk) λb o e=>aW _ e,yf _ lo (hi-lo).toNat,?_,λb f=>?_,q⟩
 .have x:lo+((0:Nat):Int) * 1=lo:=by simp
  have a:(((hi-lo).toNat:Nat):Int)-((0:Nat):Int)=Builtin.Range.rangeSize lo hi 1:=by rw[AY];split<;>lia
  show IsRangeIter _ _ (lo+((0:Nat):Int) * 1) ((((hi-lo).toNat:Nat):Int)-((0:Nat):Int)) 1;rw[x,a];exact bx _ rfl
 .have e:b=(s.heap.push { cls:=.type "range",data:=.fields #[.int lo t,.int hi u,.int 1 v] }).objs.size:=by simpa using f
  subst e;exact h.fpOk (ak _) (h.h.fresh (ak _))
noncomputable def OR(ta:TA):TI:=λJ H R=>ta J H λv G=>∃j:Int,v=[.int j]/\-(2 ^ 62)≤j/\j < 2 ^ 62/\R (Qq 0 j.toNat) G
theorem CU{a:Expr}{ta:TA}{p B:Pos}(g:Gl X "range")(m:X.g "range"=none)(f:PA X [a] ta)(b:starEach [a] X.e=[(false,eval a X.e)]:=by rfl):PI X tg (.Call (.Name "range" p) [a] [] B) (OR ta):=by
 intro pins s J H R I h;refine Call_ (j7 I g m boot_range (jO (cN (f B pins s J H _ I h) λj w z=>?_) b rfl));obtain⟨u,G,k,v,n⟩:=z;obtain⟨x,e,n,c,q⟩:=n;subst e;cases v with
 |cons r d=>cases d;obtain⟨t,rfl⟩:=r;exact call_range_1 (EJ k (by lia) (by lia) n c (by simpa using q))
noncomputable def Q5(w:TI)(g:TG)(tb:TS):TS:=λD J H=>w J H λh G=>∃W:Nat->Nat->St->Hp->Prop,(∃m,W 0 m J G)/\∀i m J H,W i m J H ->
 (h.stop i H/\D.nx J H)\/(h.go i H/\∃N:St->Hp->Prop,(∀a H',N a H'->∃e,e < m/\W (i+1) e a H')/\∀x H',h.yld i H x H'->g x J H' λs H2=>tb { D with nx:=N,ct:=N,bk:=D.nx } s H2)
noncomputable def ol(f:List Addr)(h:Heap):PN:=f.filterMap λb=>(h.get? b).map λo=>(b,o)
theorem j6(x:b ∈ q)(e:h.get? b=some o):(b,o) ∈ ol q h:=lj.mpr ⟨b,x,by rw[e];rfl⟩
theorem CW(s:p ∈ ol z h):p.1 ∈ z/\h.get? p.1=some p.2:=by
 obtain⟨b,a,e⟩:=lj.mp s;cases q:h.get? b with
 |none=>rw[q]at e;cases e
 |some o=>rw[q]at e;have x:(b,o)=p:=cm e;subst x;exact⟨a,q⟩
theorem Inv.pinned(I:Inv X pins J H s)(k:∀b ∈ q,wm X pins H b)(c:∀b ∈ q,∃o,s.heap.get? b=some o/\∀v,o.data≠.cell v):Inv X (pins++ol q s.heap) J H s:=
 I.pins_of λp m=>(bN.mp m).elim (λz=>I.pin p (fh _ z)) λz=>by obtain⟨x,e⟩:=CW z;obtain⟨f,a,n,_⟩:=k p.1 x;obtain⟨o,h,d⟩:=c p.1 x;rw[e]at h;cases h;exact⟨e,f,a,n,d⟩
theorem Inv.unpinned(I:Inv X (pins++q) J H s):Inv X pins J H s:=I.pins_of λp h=>I.pin p (fh _ (i5 _ h))
set_option tactic.hygienic true in
theorem Ln{iter:Expr}{y:List Stmt}{wi:TI}{g:TG}{tb:TS}{B:Pos}(F:PassesOwn (model X.p X.w) X.A X.e X.xe)(hc:X.c=true)(hi:PI X tg iter wi)(hg:PG X tg g)(t:oQ X y tb)
  (hs:∀x,foldedSetIterable iter X.e x=pure x:=by intro _;rfl):PS X (.For tg iter y [] B) (Q5 wi g tb):=by
 intro pins s J H D I h;refine wpAny_For (cN (hi pins s J H _ I h) λv s1 h1=>cN h1 λitv s2 h2=>?_) hs;obtain⟨it,l,tn,J9,H2,e,I2,T,Q,Z,W,⟨m0,w0⟩,A⟩:=h2;subst e;have p:∀{H':Hp},(∀b ∈ l,H' b=none)->∀b ∈ l,wm X pins H' b:=λhn b t=>⟨hn b t,(Z b t).2⟩
 refine codeAny_forLoop_any (λn s'=>∃i w H',Inv X pins w H' s'/\tn i s'.heap/\(∀b ∈ l,H' b=none)/\W i n w H') ?_ m0 ⟨0,J,H2,I2,Q,λb t=>(Z b t).1,w0⟩;rintro n s3 ⟨i,j,C,V,sS,S,w3⟩;rcases A i n j C w3 with ⟨P,qn⟩|⟨go,N,hN,step⟩
 .refine lX F (cN (T.done X rfl rfl rfl hc i pins s3 j C X.xe V (p S) sS P) λr s4 z=>?_);obtain⟨L,I4⟩:=z;subst L;exact tX ⟨j,C,I4,qn⟩
 .refine lX F (cN (T.item X rfl rfl rfl hc i pins s3 j C X.xe V (p S) sS go) λr s4 z=>?_);obtain⟨u,L,h4⟩:=z;subst L;refine lX F (cN h4 λ_ s5 z=>?_);obtain⟨x,R,I5,r5,y5,N1,G⟩:=z;have E:=I5.pinned (p G) (T.obj _ _ N1);refine lX F (cN (hg _ s5 j R x u _ E r5 (step x R y5)) λ_ s6 z=>?_);obtain⟨J6,H6,I6,q6⟩:=z;refine lX F (cN (t _ s6 J6 H6 _ I6 q6) λf M q=>?_);have again:∀{c:St}{a:Hp},Inv X (pins++ol l s5.heap) c a M->N c a->∃m,m < n/\∃i w H',Inv X pins w H' M/\tn i M.heap/\(∀b ∈ l,H' b=none)/\W i m w H':=λ{c a} k K=>by
   obtain⟨m',hm,w7⟩:=hN c a K;refine⟨m',hm,i+1,c,a,k.unpinned,T.keep _ _ _ N1 λb t o e=>(k.pin (b,o) (fh _ (fh _ (j6 t e)))).1,λb t=>?_,w7⟩;obtain⟨o,e,d⟩:=T.obj _ _ N1 b t;exact(k.pin (b,o) (fh _ (fh _ (j6 t e)))).2.1
  cases f with
  |next=>obtain⟨c,a,k,K⟩:=q;exact again k K
  |cont=>obtain⟨c,a,k,K⟩:=q;exact again k K
  |brk=>obtain⟨c,a,k,q⟩:=q;exact⟨c,a,k.unpinned,q⟩
  |ret v=>obtain⟨x7,c,a,k,r7,q⟩:=q;exact⟨x7,c,a,k.unpinned,r7,q⟩
end
noncomputable abbrev R2:=V->V->Hp->VK->Prop
def je(X:Cx)(f:Value->Value->Sem Value)(r:R2):Prop:=
 ∀(pins:PN)(s:Shared)(J:St)(H:Hp)(x y:V)(v u:Value)(Q:VK),Inv X pins J H s->RelV x v->RelV y u->r x y H Q ->
  wx X (f v u) (EP X pins J Q) X.xe s
def R4(X:Cx)(f:Value->Sem Value)(r:V->Hp->VK->Prop):Prop:=
 ∀(pins:PN)(s:Shared)(J:St)(H:Hp)(x:V)(v:Value)(Q:VK),Inv X pins J H s->RelV x v->r x H Q ->
  wx X (f v) (EP X pins J Q) X.xe s
def dG(X:Cx)(f:Value)(r:List V->Hp->VK->Prop):Prop:=
 ∀(pins:PN)(s:Shared)(J:St)(H:Hp)(xs:List V)(j:LV)(Q:VK),Inv X pins J H s->bc xs j->r xs H Q ->
  wx X (call f j) (EP X pins J Q) X.xe s
def R5(X:Cx)(r:V->Hp->(Bool->Hp->Prop)->Prop):Prop:=
 ∀(pins:PN)(s:Shared)(J:St)(H:Hp)(x:V)(v:Value)(Q:Bool->Hp->Prop),Inv X pins J H s->RelV x v->r x H Q ->
  wx X (truthy v) (TP X pins J Q) X.xe s
noncomputable def K7(r:R2)(ta tb:TE):TE:=λJ H Q=>ta J H λx G=>tb J G λy H2=>r x y H2 Q
noncomputable def SX(r:V->Hp->VK->Prop)(ta:TE):TE:=λJ H Q=>ta J H λx G=>r x G Q
noncomputable def rI(C:Int->Int->Prop)(g:Int->Int->V):R2:=λx y H Q=>∃i j,x=.int i/\y=.int j/\C i j/\Q (g i j) H
noncomputable def Ij(g:Int->Int->V):R2:=λx y H Q=>∃i j,x=.int i/\y=.int j/\Q (g i j) H
def rU(g:Int->V):V->Hp->VK->Prop:=λx H Q=>∃i,x=.int i/\Q (g i) H
section
variable{X:Cx}{a b c:Expr}{ta tb tc:TE}{B:Pos}
theorem MM(r:PE X a ta)(t:PE X b tb){pins:PN}{s:Shared}{J:St}{H:Hp}{R:V->V->Hp->Prop}(I:Inv X pins J H s)
  (h:ta J H λx G=>tb J G λy H2=>R x y H2) {Q:VP}{f:Value->Value->Sem Value}
  (p:∀v u k x y H2,Inv X pins J H2 k->RelV x v->RelV y u->R x y H2->wx X (f v u) Q X.xe k) :
  wx X (eval a X.e) (λv e=>wx X (eval b X.e) (λu n=>wx X (f v u) Q X.xe n) X.xe e) X.xe s:=by
 refine cN (r pins s J H _ I h) λv i z=>?_;obtain⟨x,G,c,w,q⟩:=z;refine cN (t pins i J G _ c q) λu k z=>?_;obtain⟨y,H2,m,g,d⟩:=z;exact p v u k x y H2 m w g d
theorem Oi{o:Operator}{r:R2}(f:je X (binaryOp o) r)(n:PE X a ta)(k:PE X b tb):PE X (.BinOp a o b B) (K7 r ta tb):=by intro pins s J H Q I h;exact wpAny_BinOp (MM n k I h λv u t x y H2 e c m q=>f pins t J H2 x y v u Q e c m q)
theorem Og(o:R4 X (unaryOp q) r)(n:PE X a ta):PE X (.UnaryOp q a B) (SX r ta):=by intro pins s J H Q I h;exact UnaryOp_ (cN (n pins s J H _ I h) λv b z=>by obtain⟨x,G,e,f,k⟩:=z;exact o pins b J G x v Q e f k)
theorem P1{f:Value->Value->Sem Value}{C:Int->Int->Prop}{g:Int->Int->Int}
  (rule:∀(i j:Int)(t u:Tok)(s:Shared)(Q:VP)(E:VP),C i j->Q (.int (g i j) s.toks) { s with toks:=s.toks+1 }->wx X (f (.int i t) (.int j u)) Q E s) :
  je X f (rI C λi j=>.int (g i j)):=by
 intro pins s J H x y v u Q I r a h;obtain⟨i,j,rfl,rfl,c,q⟩:=h;obtain⟨t,rfl⟩:=r;obtain⟨e,rfl⟩:=a;exact rule i j t e s _ _ c ⟨.int (g i j),H,I.tok _,⟨_,rfl⟩,q⟩
theorem OA{f:Value->Value->Sem Value}{g:Int->Int->Int}
  (rule:∀(i j:Int)(t u:Tok)(s:Shared)(Q:VP)(E:VP),Q (.int (g i j) s.toks) { s with toks:=s.toks+1 }->wx X (f (.int i t) (.int j u)) Q E s) :
  je X f (Ij λi j=>.int (g i j)):=by
 intro pins s J H x y v u Q I r a h;obtain⟨i,j,rfl,rfl,q⟩:=h;obtain⟨t,rfl⟩:=r;obtain⟨e,rfl⟩:=a;exact rule i j t e s _ _ ⟨.int (g i j),H,I.tok _,⟨_,rfl⟩,q⟩
theorem IL{f:Value->Value->Sem Value}{g:Int->Int->Bool}
  (rule:∀(i j:Int)(t u:Tok)(s:Shared)(Q:VP)(E:VP),Q (.bool (g i j)) s->wx X (f (.int i t) (.int j u)) Q E s) :
  je X f (Ij λi j=>.bl (g i j)):=by
 intro pins s J H x y v u Q I r a h;obtain⟨i,j,rfl,rfl,q⟩:=h;obtain⟨t,rfl⟩:=r;obtain⟨e,rfl⟩:=a;exact rule i j t e s _ _ ⟨.bl (g i j),H,I,rfl,q⟩
def Sa(i j:Int):Prop:=0≤j/\j≤1000000/\i.natAbs < 2 ^ 64
theorem LN:je X (binaryOp .Add) (Ij λi j=>.int (i+j)):=OA λ_ _ _ _ _ _ _ q=>add_int q
theorem LG:je X (binaryOp .Sub) (Ij λi j=>.int (i-j)):=OA λ_ _ _ _ _ _ _ q=>sub_int q
theorem LK:je X (binaryOp .Mod) (rI (λ_ j=>0 < j) λi j=>.int (i % j)):=P1 λi j _ _ _ _ _ h q=>by have h1:(0:Int) < j:=h;exact mod_int' (by lia) (by rw[Int.fmod_eq_emod_of_nonneg i (by lia)];exact q)
theorem LJ:je X (binaryOp .Pow) (rI Sa λi j=>.int (i ^ j.toNat)):=P1 λ_ _ _ _ _ _ _ h q=>pow_int_small h.1 h.2.1 h.2.2 q
theorem SU{f:Value->Sem Value}{g:Int->Int}
  (rule:∀(i:Int)(t:Tok)(s:Shared)(Q:VP)(E:VP),Q (.int (g i) s.toks) { s with toks:=s.toks+1 }->wx X (f (.int i t)) Q E s) :
  R4 X f (rU λi=>.int (g i)):=by
 intro pins s J H x v Q I r h;obtain⟨i,rfl,q⟩:=h;obtain⟨t,rfl⟩:=r;exact rule i t s _ _ ⟨.int (g i),H,I.tok _,⟨_,rfl⟩,q⟩
theorem KU:R4 X (unaryOp .USub) (rU λi=>.int (-i)):=SU λ_ _ _ _ _ q=>neg_int q
end
noncomputable def N6:V->V->Bool
 | .non,.non=>true | .non,.int _=>true | .int _,.non=>true | .non,.bl _=>true | .bl _,.non=>true | .non,.str _=>true | .str _,.non=>true
 | .int _,.int _=>true | .bl _,.bl _=>true | .str _,.str _=>true | .byt _,.byt _=>true
 | .int _,.str _=>true | .str _,.int _=>true | .bl _,.str _=>true | .str _,.bl _=>true
 |_,_=>false
def Tg:R2:=λx y H Q=>N6 x y=true/\Q (.bl (decide (x=y))) H
def Tf:R2:=λx y H Q=>N6 x y=true/\Q (.bl (!decide (x=y))) H
theorem Cd{i j:Int}:decide (V.int i=V.int j)=(i == j):=by rw[jX];simp
theorem Gj:decide (V.bl i=V.bl q)=(i == q):=by rw[jX];simp
theorem Cc:decide (V.str i=V.str q)=(i == q):=by rw[jX];simp
theorem Ce:decide (V.byt i=V.byt q)=(i.toList == q.toList):=by rw[jX];cases i;cases q;simp
section
variable{X:Cx}{a b c:Expr}{ta tb tc:TE}{B:Pos}
theorem bM(I:Inv X pins J H s)(q:Q (.bl k) H)(e:k=z):EP X pins J Q (.bool z) s:=by subst e;exact⟨.bl k,H,I,rfl,q⟩
theorem Fg:je X (compareOp .Eq) Tg:=by
 intro pins s J H x y v u Q I n r h;obtain⟨e,q⟩:=h;cases x with
 |non=>
  cases n;cases y with
  |non=>cases r;exact Hf (bM I q (by simp))
  |bl j=>cases r;exact Hd (bM I q (by simp))
  |int j=>obtain⟨a,rfl⟩:=r;exact He (bM I q (by simp))
  |str j=>obtain⟨a,rfl⟩:=r;exact Hg (bM I q (by simp))
  |_=>exact absurd (show false=true from e) bC
 |bl i=>
  cases n;cases y with
  |non=>cases r;exact Hb (bM I q (by simp))
  |bl j=>cases r;exact eq_bool (bM I q Gj)
  |str j=>obtain⟨a,rfl⟩:=r;exact G5 (bM I q (by simp))
  |_=>exact absurd (show false=true from e) bC
 |int i=>
  obtain⟨t,rfl⟩:=n;cases y with
  |non=>cases r;exact Hc (bM I q (by simp))
  |int j=>obtain⟨a,rfl⟩:=r;exact eq_int (bM I q Cd)
  |str j=>obtain⟨a,rfl⟩:=r;exact G6 (bM I q (by simp))
  |_=>exact absurd (show false=true from e) bC
 |str i=>
  obtain⟨t,rfl⟩:=n;cases y with
  |non=>cases r;exact Hh (bM I q (by simp))
  |bl j=>cases r;exact G7 (bM I q (by simp))
  |int j=>obtain⟨a,rfl⟩:=r;exact G8 (bM I q (by simp))
  |str j=>obtain⟨a,rfl⟩:=r;exact eq_str (bM I q Cc)
  |_=>exact absurd (show false=true from e) bC
 |byt i=>
  obtain⟨t,rfl⟩:=n;cases y with
  |byt j=>obtain⟨a,rfl⟩:=r;exact PySem.W.eq_bytes (bM I q Ce)
  |_=>exact absurd (show false=true from e) bC
 |_=>cases y<;>exact absurd (show false=true from e) bC
theorem Fe:je X (compareOp .NotEq) Tf:=by
 intro pins s J H x y v u Q I n r h;obtain⟨e,q⟩:=h;cases x with
 |non=>
  cases n;cases y with
  |non=>cases r;exact Hm (bM I q (by simp))
  |bl j=>cases r;exact Hk (bM I q (by simp))
  |int j=>obtain⟨a,rfl⟩:=r;exact Hl (bM I q (by simp))
  |str j=>obtain⟨a,rfl⟩:=r;exact Hn (bM I q (by simp))
  |_=>exact absurd (show false=true from e) bC
 |bl i=>
  cases n;cases y with
  |non=>cases r;exact Hi (bM I q (by simp))
  |bl j=>cases r;exact ne_bool (bM I q (du not Gj))
  |str j=>obtain⟨a,rfl⟩:=r;exact G9 (bM I q (by simp))
  |_=>exact absurd (show false=true from e) bC
 |int i=>
  obtain⟨t,rfl⟩:=n;cases y with
  |non=>cases r;exact Hj (bM I q (by simp))
  |int j=>obtain⟨a,rfl⟩:=r;exact ne_int (bM I q (du not Cd))
  |str j=>obtain⟨a,rfl⟩:=r;exact G_ (bM I q (by simp))
  |_=>exact absurd (show false=true from e) bC
 |str i=>
  obtain⟨t,rfl⟩:=n;cases y with
  |non=>cases r;exact Ho (bM I q (by simp))
  |bl j=>cases r;exact G' (bM I q (by simp))
  |int j=>obtain⟨a,rfl⟩:=r;exact Ha (bM I q (by simp))
  |str j=>obtain⟨a,rfl⟩:=r;exact ne_str (bM I q (du not Cc))
  |_=>exact absurd (show false=true from e) bC
 |byt i=>
  obtain⟨t,rfl⟩:=n;cases y with
  |byt j=>obtain⟨a,rfl⟩:=r;exact PySem.W.ne_bytes (bM I q (du not Ce))
  |_=>exact absurd (show false=true from e) bC
 |_=>cases y<;>exact absurd (show false=true from e) bC
theorem Ol:je X (compareOp .Lt) (Ij λi j=>.bl (decide (i < j))):=IL λ_ _ _ _ _ _ _ q=>zW q
theorem Om:je X (compareOp .LtE) (Ij λi j=>.bl (decide (i≤j))):=IL λ_ _ _ _ _ _ _ q=>le_int q
theorem Oo:je X (compareOp .Gt) (Ij λi j=>.bl (decide (j < i))):=IL λ_ _ _ _ _ _ _ q=>gt_int q
theorem Op:je X (compareOp .GtE) (Ij λi j=>.bl (decide (j≤i))):=IL λ_ _ _ _ _ _ _ q=>ge_int q
theorem LL:je X (compareOp .Is) (λx y H Q=>y=.non/\Q (.bl (decide (x=.non))) H):=by
 intro pins s J H x y v u Q I r a h;obtain⟨rfl,q⟩:=h;cases a;refine is_none_gen (bM I q ?_);cases x<;>first
  |(cases r;rfl)
  |(obtain⟨t,rfl⟩:=r;rfl)
theorem IH:je X (compareOp .IsNot) (λx y H Q=>y=.non/\Q (.bl (!decide (x=.non))) H):=by
 intro pins s J H x y v u Q I r a h;obtain⟨rfl,q⟩:=h;cases a;refine isnot_none_gen (bM I q ?_);cases x<;>first
  |(cases r;rfl)
  |(obtain⟨t,rfl⟩:=r;rfl)
theorem BL{o:CmpOp}{r:R2}(f:je X (compareOp o) r)(n:PE X a ta)(k:PE X b tb)(m:behindInMarks o b=false):PE X (.Compare a [o] [b] B) (K7 r ta tb):=by intro pins s J H Q I h;exact wpAny_Compare1 (MM n k I h λv u p x y H2 e c t q=>f pins p J H2 x y v u Q e c t q) m
noncomputable def En(t:TE):TT:=λJ H Q=>t J H λx H'=>∃k,x=.bl k/\Q k H'
theorem BG(o:je X (compareOp q) r)(p:PE X a ta)(d:PE X b tb)(w:behindInMarks q b=false):PT X (.Compare a [q] [b] B) (En (K7 r ta tb)):=by
 intro pins s J H Q I h;refine wpAny_isTrue_Compare1 (cN (p pins s J H _ I h) fun v K ⟨x,G,f,l,g⟩=>cN (d pins K J G _ f g) fun u P ⟨y,H2,m,S,i⟩=>
  cN (o pins P J H2 x y v u _ m l S i) λc A ⟨z,n,t,F,k,e,j⟩=>?_) w
 subst e;cases F;exact kH ⟨n,t,j⟩
noncomputable def yi(r e:R2)(ta tb tc:TE):TE:=λJ H Q=>ta J H λx G=>tb J G λy H2=>r x y H2 λz h=>∃k,z=.bl k /\
 (if k=true then tc J h λw a=>e y w a Q else Q (.bl false) h)
theorem Fc(K:je X (compareOp N) r)(o:je X (compareOp q) r')(j:PE X a ta)(l:PE X b tb)(S:PE X c tc)
  (F:lastMarks [N,q] [b,c]=false:=by with_unfolding_all rfl):PE X (.Compare a [N,q] [b,c] B) (yi r r' ta tb tc):=by
 intro pins s J H Q I h;refine Compare_chain (cN (j pins s J H _ I h) fun v M ⟨x,G,w,D,P⟩=>chain_link (cN (l pins M J G _ w P) fun u R ⟨y,H2,g,t,A⟩=>
  cN (K pins R J H2 x y v u _ g D t A) λd T ⟨z,n,f,E,k,e,m⟩=>?_)) F
 subst e;cases E;refine kH ?_;cases k with
 |false=>exact ite_ff ⟨.bl false,n,f,rfl,m⟩
 |true=>exact ite_tt (chain_last (cN (S pins T J n _ f m) λW V ⟨Z,p,i,L,C⟩=>o pins V J p y Z u W Q i t L C))
theorem EM(D:je X (compareOp N) r)(o:je X (compareOp q) r')(K:PE X a ta)(P:PE X b tb)(A:PE X c tc)
  (C:lastMarks [N,q] [b,c]=false:=by with_unfolding_all rfl):PT X (.Compare a [N,q] [b,c] B) (En (yi r r' ta tb tc)):=by
 intro pins s J H Q I h;refine isTrue_chain (cN (K pins s J H _ I h) fun v s1 ⟨x,G,g,W,M⟩=>test_link (cN (P pins s1 J G _ g M) fun u s2 ⟨y,H2,i,t,R⟩=>
  cN (D pins s2 J H2 x y v u _ i W t R) λd s3 ⟨z,n,f,Z,k,e,m⟩=>?_)) C
 subst e;cases Z;refine kH ?_;cases k with
 |false=>obtain⟨k',S,L⟩:=m;cases S;exact ite_ff ⟨n,f,L⟩
 |true=>refine ite_tt (test_last (cN (A pins s3 J n _ f m) λw' s4 ⟨z',p,j,r4,T⟩=>cN (o pins s4 J p y z' u w' _ j t r4 T) λd' s5 E=>?_));obtain⟨z2,w,l,r5,k2,F,V⟩:=E;subst F;cases r5;exact kH ⟨w,l,V⟩
def MQ(K:FG)(x:V)(H:Hp)(k:Bool):Prop:=
 match x with
 | .non=>k=false
 | .bl b=>k=b
 | .int i=>k=(i != 0)
 | .str y=>y.length≤sizeLine/\k=((y.length:Int) != 0)
 | .byt y=>y.size≤sizeLine/\k=((y.size:Int) != 0)
 | .ref p=>(∃xs,iT K H p xs/\k=!xs.isEmpty)\/(∃xs,nQ K H p xs/\k=!xs.isEmpty)\/∃kvs,H p=some (.dK kvs)/\k=!kvs.isEmpty
 |_=>False
theorem yK(r:KV kvs q):(!q.isEmpty)=!kvs.isEmpty:=by cases r<;>rfl
theorem rH(r:bc xs q):(!q.toArray.isEmpty)=!xs.isEmpty:=by cases r<;>simp
theorem kM:(sizeLine:Nat) < 2 ^ 63:=by rw[nR];decide
theorem KY:R5 X (λx H Q=>∃k,MQ X.K x H k/\Q k H):=by
 intro pins s J H x v Q I rx h;obtain⟨k,e,q⟩:=h;have hl:=kM;have hs:sizeLine=16777216:=nR;cases x with
 |non=>cases rx;have e':k=false:=e;subst e';exact truthy_none ⟨H,I,q⟩
 |bl b=>cases rx;have e':k=b:=e;subst e';exact kH ⟨H,I,q⟩
 |int i=>obtain⟨t,rfl⟩:=rx;have e':k=(i != 0):=e;subst e';exact PySem.P.truthy_int ⟨H,I,q⟩
 |str y=>obtain⟨t,rfl⟩:=rx;obtain⟨hy,e'⟩:y.length≤sizeLine/\k=((y.length:Int) != 0):=e;subst e';exact PySem.P.truthy_str (by lia) ⟨H,I.tok _,q⟩
 |byt y=>obtain⟨t,rfl⟩:=rx;obtain⟨hy,e'⟩:y.size≤sizeLine/\k=((y.size:Int) != 0):=e;subst e';exact PySem.W.truthy_bytes (by lia) ⟨H,I.tok _,q⟩
 |ref p=>
  cases rx;have e':(∃xs,iT X.K H p xs/\k=!xs.isEmpty)\/(∃xs,nQ X.K H p xs/\k=!xs.isEmpty)\/∃kvs,H p=some (.dK kvs)/\k=!kvs.isEmpty:=e;rcases e' with ⟨xs,hx,e'⟩|⟨xs,hx,e'⟩|⟨kvs,hx,e'⟩
  .subst e';obtain⟨its,r,pl,hz⟩:=I.list hx;have hlen:=r.length;exact wpAny_truthy_list pl.isList (by simp only[bg];lia) ⟨H,I.tok _,by rw[rH r];exact q⟩
  .subst e';obtain⟨its,r,pl,hz⟩:=I.tuple hx;have hlen:=r.length;exact truthy_tuple pl (by simp only[bg];lia) ⟨H,I.tok _,by rw[rH r];exact q⟩
  .subst e';obtain⟨hz,hS,vs,r,m⟩:kvs.length≤sizeLine/\(p == sysModules)=false/\∃vs,KV kvs vs/\s.heap.DictOf (cq X.p X.w) p vs:=I.h p _ hx;have hlen:kvs.length=vs.length:=Paired.length r;exact wpAny_truthy_dict hS m (by lia) ⟨H,I.tok _,by rw[yK r];exact q⟩
 |_=>exact(show False from e).elim
theorem EL(n:PE X a ta)(f:∀w,isTrue a X.e w=(do let v <- w;standAt a.pos;holding [v] (truthy v))) :
  PT X a (λJ H Q=>ta J H λx H'=>∃k,MQ X.K x H' k/\Q k H'):=by
 intro pins s J H Q I h;exact isTrue_plain (cN (n pins s J H _ I h) λv b z=>by obtain⟨x,G,e,r,q⟩:=z;exact KY pins b J G x v Q e r q) (f _)
theorem yx:je X (binaryOp .Add) (λx y H Q=>∃i j,x=.str i/\y=.str j/\i.length+j.length≤sizeLine/\Q (.str (i++j)) H):=by intro pins s J H x y v u Q I r a h;obtain⟨i,j,rfl,rfl,z,q⟩:=h;obtain⟨t,rfl⟩:=r;obtain⟨e,rfl⟩:=a;exact add_str (λe tk=>⟨.str (i++j),H,I.tok _,⟨_,rfl⟩,q⟩) z
theorem vals1(r:bc [x] j):∃u,j=[u]/\RelV x u:=by
 cases r with
 |cons h a=>cases a;exact⟨_,rfl,h⟩
theorem vals2(r:bc [x,y] j):∃u w,j=[u,w]/\RelV x u/\RelV y w:=by
 cases r with
 |cons h a=>
  cases a with
  |cons e s=>cases s;exact⟨_,_,rfl,h,e⟩
theorem GA:dG X (.builtin "abs") (λxs H Q=>∃i,xs=[.int i]/\Q (.int (if i < 0 then -i else i)) H):=by intro pins s J H xs j Q I r h;obtain⟨i,rfl,q⟩:=h;obtain⟨u,rfl,t,rfl⟩:=vals1 r;exact call_abs_int λu tk=>⟨.int (if i < 0 then -i else i),H,I.tok _,⟨_,rfl⟩,q⟩
theorem tG:dG X (.type "int") (λxs H Q=>(∃i,xs=[.int i]/\Q (.int i) H)\/∃k,xs=[.bl k]/\Q (.int (if k then 1 else 0)) H):=by
 intro pins s J H xs j Q I r h;rcases h with ⟨i,rfl,q⟩|⟨k,rfl,q⟩
 .obtain⟨u,rfl,t,rfl⟩:=vals1 r;exact call_int_int ⟨.int i,H,I,⟨_,rfl⟩,q⟩
 .obtain⟨u,rfl,x⟩:=vals1 r;cases x;exact call_int_bool ⟨.int (if k then 1 else 0),H,I.tok _,⟨_,rfl⟩,q⟩
end
structure ObjM(h:Heap)(x dx C:Addr)(mA:SV):Prop where
 obj:h.get? x=some (kI C dx)
 ns:h.Ns1 dx mA
 ne:dx≠x
set_option tactic.hygienic true in
theorem C1(n:h.Ns1 dx mA):∃d,h.get? dx=some d/\∀name,uG name d=some (mA name):=by
 obtain⟨o,es,p,s,hd,hk,_,m⟩:=n;refine⟨o,s,λname=>?_⟩;have e:=m name;unfold nsFind findBy at e;rw[<- Array.find?_toList]at e;unfold uG;rw[hd];dsimp only;split
 .rename_i y q;rw[q]at e;exact du some e
 .rename_i q;rw[q]at e;have a:es.toList.any (·.refKey)=false:=by
   rw[List.any_eq_false];intro y f;obtain⟨z,t,k⟩:=hk y (Array.mem_toList_iff.mp f);simp[DictEntry.refKey,k]
  have x:¬es.toList.any (·.refKey)=true:=by rw[a];exact bC
  rw[ah x];exact du some e
variable{C:Addr}
theorem ObjM.look(I:ObjM h x dx C mA):∃o,PySem.W.InstAt h x (kI C dx) C (some o)/\∀name,uG name o=some (mA name):=
 let ⟨o,a,l⟩:=C1 I.ns
 ⟨o,⟨I.obj,rfl,rfl,a⟩,l⟩
section
variable{prog:Program}{w:World}{A:Around}{E:VP}{s:Shared}{K:FG}{x dx C f:Addr}{mA:SV}{name:Str}{v:Value}
theorem Jh(X:K.In s.heap)(I:ObjM s.heap x dx C mA)(g:qK K C name=true)(k:uM K C=true)
  (n:dS K (.ref C) name=some none) (f:mA name=some v) (a:DS v=true) (h:Q v { s with toks:=s.toks+1 }) :
  wpAny (model prog w) A (getAttr (.ref x) name q) Q E s:=by
 obtain⟨o,e,l⟩:=I.look;exact PySem.W.get_value X e (x' g).1 (PySem.W.findObj_own k n rfl (by rw[l,f])) a h
theorem F9(X:K.In s.heap)(I:ObjM s.heap x dx C mA)(g:qK K C name=true)
  (e:dS K (.ref C) name=some (some (.ref f))) (t:uv K (.ref f)=true) (v:mA name=none) (h:Q (.ref f,[.ref x]) s) :
  wpAny (model prog w) A (getMethod (.ref x) name q) Q E s:=by
 obtain⟨o,a,l⟩:=I.look;exact PySem.W.method_fn X a (x' g).1 (x' g).2 e (mK.mp t) (by show(uG name o).map (·.isSome)=some false;rw[l,v];rfl) h
theorem Ib(X:K.In s.heap)(I:ObjM s.heap x dx C mA)
  (u:dS K (.ref C) "__setattr__"=some (some (.builtin "object.__setattr__"))) (q:x_ K C=true) (g:x5 K C name=some none) (t:uM K C=true)
  (hw:xR mA N) (z:N.length≤sizeLine)
  (h:∀h',ObjM h' x dx C (λy=>if y=name then some v else mA y)->eB dx s.heap h'->Q () { s with heap:=h',toks:=s.toks+2 }) :
  wpAny (model prog w) A (setAttr (.ref x) name v) Q E s:=by
 obtain⟨S,k,l⟩:=I.look;refine PySem.W.set_plain X k u (PySem.W.osa_open (s:={ s with toks:=s.toks+1 }) (r:=none) X k q g λb=>?_);obtain⟨j,m,d⟩:=PySem.W.any_some t;have i:s.heap.get? x=some ⟨.ref C,some dx,.plain,#[]⟩:=I.obj;refine ac (aq (ac (ac (wpAny_loadPart i (ac (PySem.W.Looks.here (s:={ s with toks:=s.toks+1 }) (PySem.W.looks_clsIn X m) ?_))))));rw[d];refine aq (a:=some dx) (ac (aq (ac ?_)));refine wpAny_nsSet1 (s:={ s with toks:=s.toks+1 }) I.ns λh' n e=>?_;obtain⟨H,f,p,o,D,c⟩:=n.count (PySem.Within.cons name v hw);refine ac (wpAny_lookBehind o (by rw[D];exact pastItsLine_dict (aA c (by rw[aR];lia))) ?_);exact aq (h _ ⟨(e.2 _ (aP I.ne)).trans I.obj,n,I.ne⟩ e)
theorem Fw(X:K.In s.heap)(m:x4 K C=true)
  (hi:dS K (.ref C) "__init__"=some (some (.ref f))) (x:PySem.W.typeIn K (.ref f)=some (.type "function"))
  (h:codeAny (model prog w) (A.under (.builtin "type.__call__" ⟨.ref C::q,kw⟩)) (.call (.ref f) ⟨.ref (s.heap.objs.size+1)::q,kw⟩) (PySem.W.InitBack (s.heap.objs.size+1) R)
   { s with heap:=(s.heap.push jY).push (kI C s.heap.objs.size) }) :
  codeAny (model prog w) A (.call (.ref C) ⟨q,kw⟩) R s:=by
 obtain⟨a,g,d,t,os⟩:=s;exact PySem.W.make_core (PySem.W.makes_of X m) (PySem.W.looks_findIn X hi) (λe=>PySem.W.bind_fn X e x) (.inl rfl) h
end
noncomputable def jn(f:Str)(v:V):List (Str×V)->List (Str×V)
 | []=>[(f,v)]
 |(g,x)::r=>if g=f then (g,v)::r else (g,x)::jn f v r
theorem oU(f g:Str)(v:V):∀fs:List (Str×V),(jn f v fs).lookup g=if g=f then some v else fs.lookup g
 | []=>by
  show fV g [(f,v)]=_;by_cases h:g=f
  .have b:(g == f)=true:=mK.mpr h;simp only[fV,b,af h]
  .have b:(g == f)=false:=iY.mpr h;simp only[fV,b,ah h]
 |(k,x)::r=>by
  have i:=oU f g v r;rw[show jn f v ((k,x)::r)=(if k=f then (k,v)::r else (k,x)::jn f v r) from rfl];by_cases hk:k=f
  .rw [af hk];by_cases h:g=k
   .have b:(g == k)=true:=mK.mpr h;simp only[fV,b,af (h.trans hk)]
   .have b:(g == k)=false:=iY.mpr h;simp only[fV,b,ah (λe:g=f=>h (e.trans hk.symm))]
  .rw [ah hk];by_cases h:g=k
   .have b:(g == k)=true:=mK.mpr h;simp only[fV,b,ah (λe:g=f=>hk (h.symm.trans e))]
   .have b:(g == k)=false:=iY.mpr h;simp only[fV,b];exact i
theorem oA(f:Str)(v:V):∀fs:List (Str×V),f ∈ (jn f v fs).map (·.1)/\∀g,g ∈ fs.map (·.1)->g ∈ (jn f v fs).map (·.1)
 | []=>⟨by simp[jn],λg h=>by simp at h⟩
 |(k,x)::r=>by
  obtain⟨i,a⟩:=oA f v r;rw[show jn f v ((k,x)::r)=(if k=f then (k,v)::r else (k,x)::jn f v r) from rfl];by_cases hk:k=f
  .rw [af hk];subst hk;exact⟨by simp,λg h=>by simpa using h⟩
  .rw [ah hk];refine⟨?_,λg h=>?_⟩
   .rw [aC];exact aH _ i
   .rw [aC]at h ⊢;rcases aL.mp h with e|e
    .exact aL.mpr (.inl e)
    .exact aH _ (a g e)
theorem oV(f:Str)(v:V):∀fs:List (Str×V),(jn f v fs).length≤fs.length+1
 | []=>by simp[jn]
 |(k,x)::r=>by
  have i:=oV f v r;rw[show jn f v ((k,x)::r)=(if k=f then (k,v)::r else (k,x)::jn f v r) from rfl];by_cases hk:k=f
  .rw [af hk,aR,aR];lia
  .rw [ah hk,aR,aR];lia
theorem kF.some_of{v:V}{o:OV}(r:kF (some v) o):∃u,o=some u/\RelV v u:=by
 cases o with
 |none=>exact(show False from r).elim
 |some u=>exact⟨u,rfl,r⟩
theorem kF.none_of{o:OV}(r:kF none o):o=none:=by
 cases o with
 |none=>rfl
 |some u=>exact(show False from r).elim
variable{v:V}
theorem C9(r:RelV v u):DS u=true:=by
 cases v with
 |non=>cases (show u=Value.none from r);rfl
 |bl b=>cases (show u=Value.bool b from r);rfl
 |int i=>obtain⟨t,e⟩:=(show ∃t,u=Value.int i t from r);cases e;rfl
 |str x=>obtain⟨t,e⟩:=(show ∃t,u=Value.str x t from r);cases e;rfl
 |byt b=>obtain⟨t,e⟩:=(show ∃t,u=Value.bytes b t from r);cases e;rfl
 |flt b=>obtain⟨t,e⟩:=(show ∃t,u=Value.float b t from r);cases e;rfl
 |ref a=>cases (show u=Value.ref a from r);rfl
 |ty n=>cases (show u=Value.type n from r);rfl
section
variable{P:Program}{w:World}{H H':Hp}{h h':Heap}{a C dx:Addr}{fs fs':List (Str×V)}
theorem vF(o:jt P w H h)(e:H a=some (.ins C dx fs)):∃mA,ObjM h a dx C mA/\(∀f,kF (fs.lookup f) (mA f))/\xR mA (fs.map (·.1))/\fs.length≤1000/\H dx=some (.own a):=by obtain⟨d,z,x,b,mA,n,r,q⟩:=(show dq P w H h a (.ins C dx fs) from o a _ e);exact⟨mA,⟨b,n,x⟩,r,q,z,d⟩
end
structure Cls(K:FG)(C:Addr):Prop where
 pg:qK K C Str.empty=true
 hd:uM K C=true
 po:x_ K C=true
 sa:dS K (.ref C) "__setattr__"=some (some (.builtin "object.__setattr__"))
theorem Cls.get(c:Cls K C)(f:Str):qK K C f=true:=c.pg
def mx(K:FG)(C:Addr)(f:Str):Prop:=dS K (.ref C) f=some none
theorem mx.taker(n:mx K C f):x5 K C f=some none:=by unfold x5;rw[show dS K (.ref C) f=some none from n];rfl
structure Con(K:FG)(C:Addr)(f:Str)(v:V)(u:Value):Prop where
 at_:dS K (.ref C) f=some (some u)
 rel:RelV v u
 get:DT K u "__get__"=some none
 cp:PySem.W.copiedNames.contains f=false
structure Meth(K:FG)(C:Addr)(m:Str)(f:Addr):Prop where
 at_:dS K (.ref C) m=some (some (.ref f))
 fn:uv K (.ref f)=true
 kp:dZ K (.ref f)=true
section
variable{X:Cx}{pins:PN}{J:St}{H:Hp}{s:Shared}{a C dx:Addr}{fs:List (Str×V)}{f:Str}{v:V}{A:Around}{E:VP}
theorem yR{b:Bool}{Q:VP}(I:Inv X pins J H s)(e:H a=some (.ins C dx fs))(c:Cls X.K C)(n:mx X.K C f)(l:fs.lookup f=some v)
  (h:∀u s',Inv X pins J H s'->RelV v u->Q u s'):wpAny (model X.p X.w) A (getAttr (.ref a) f b) Q E s:=by
 obtain⟨mA,k,r,_,_,_⟩:=vF I.h e;obtain⟨u,m,x⟩:=kF.some_of (v:=v) (o:=mA f) (by rw[<- l];exact r f);exact Jh I.kIn k (c.get f) c.hd n m (C9 x) (h u _ (I.tok _) x)
theorem rQ{m:Str}{g:Addr}{p:Sem Bool}{Q:Value×LV->Shared->Prop}(I:Inv X pins J H s)(e:H a=some (.ins C dx fs))(c:Cls X.K C)(k:Meth X.K C m g)(l:fs.lookup m=none)
  (h:Q (.ref g,[.ref a]) s):wpAny (model X.p X.w) A (getMethod (.ref a) m p) Q E s:=by
 obtain⟨mA,x,r,_,_,_⟩:=vF I.h e;have n:mA m=none:=kF.none_of (by rw[<- l];exact r m);exact F9 I.kIn x (c.get m) k.at_ k.fn n h
theorem yo(I:Inv X pins J H s)(e:H a=some (.ins C dx fs))(c:Cls X.K C)(n:mx X.K C f)(hl:fs.length < 1000)(ry:RelV y u)
  (h:∀s',Inv X pins J (b7 H a (.ins C dx (jn f y fs))) s'->Q () s'):wpAny (model X.p X.w) A (setAttr (.ref a) f u) Q E s:=by
 obtain⟨mA,O9,r,wi,_,ho⟩:=vF I.h e;have hz:(fs.map (·.1)).length≤sizeLine:=by rw[aU,nR];lia
 refine Ib I.kIn O9 c.sa c.po n.taker c.hd wi hz λh' O' sb=>h _ ?_;have hd:∃o,h'.get? dx=some o:=let ⟨o,_,_,e',_⟩:=O'.ns;⟨o,e'⟩
 refine I.write (x:=a) (e:=dx) (by rw[e];exact True.intro) (.inr ho) (λb q hb z=>(sb.2 b hb).trans z) hd ?_;refine⟨by rw[ao O9.ne];exact ho,?_,O9.ne,O'.obj,_,O'.ns,λg=>?_,λg hg=>?_⟩
 .have:=oV f y fs;lia
 .show kF ((jn f y fs).lookup g) (if g=f then some u else mA g);rw[oU];by_cases q:g=f
  .rw [af q,af q];exact ry
  .rw [ah q,ah q];exact r g
 .by_cases q:g=f
  .rw [q];exact(oA f y fs).1
  .refine (oA f y fs).2 g (wi g λz=>hg ?_);show(if g=f then some u else mA g)=none;rw[ah q];exact z
theorem Inv.made(I:Inv X pins J H s):Inv X pins J (b7 (b7 H s.heap.objs.size (.own (s.heap.objs.size+1))) (s.heap.objs.size+1) (.ins C s.heap.objs.size []))
  { s with heap:=(s.heap.push jY).push (kI C s.heap.objs.size) }:=by
 have h:(s.heap.push jY).get? s.heap.objs.size=some jY:=bx s.heap rfl;have k:((s.heap.push jY).push (kI C s.heap.objs.size)).get? (s.heap.objs.size+1)=some (kI C s.heap.objs.size):=by have:=bx (s.heap.push jY) (o:=kI C s.heap.objs.size) rfl;rwa [mI]at this
 have f:(s.heap.push jY).Ns s.heap.objs.size (λ_=>none):=⟨jY,#[],_,h,rfl,(λe c=>absurd c (by simp)),λ_=>rfl⟩;have x:=I.laid (a:=s.heap.objs.size) (o:=.own (s.heap.objs.size+1)) (h':=s.heap.push jY) (t':=s.toks) (λb u q=>aW _ q) (ak _) ⟨_,h⟩;refine x.laid (a:=s.heap.objs.size+1) (o:=.ins C s.heap.objs.size []) (t':=s.toks) (λb u q=>aW _ q) (uo (mI _ _)) ?_;have n:s.heap.objs.size≠s.heap.objs.size+1:=bf (jQ _);refine⟨by rw[ao n,aM],cH _,n,k,λ_=>none,(Heap.Ns1.of_empty f).at λo q=>aW _ q,λ_=>True.intro,λy m=>absurd rfl m⟩
theorem Jz(b:attributeBase e f q (eval e q)=eval e q)
  (h:wpAny (model prog w) A (eval e q) (λo x=>wpAny (model prog w) A (getAttr o f true) Q E x) E s):wpAny (model prog w) A (eval (.Attribute e f B) q) Q E s:=
 Attribute_any_ h (by rw[arm_eval_Attribute,b])
end
def Q6(K:FG)(ta:TE)(f:Str):TE:=λJ H Q=>ta J H λx G=>∃a C dx fs v,x=.ref a/\G a=some (.ins C dx fs)/\Cls K C/\mx K C f/\fs.lookup f=some v/\Q v G
def Q'(K:FG)(ta tv:TE)(f:Str):TS:=λD J H=>tv J H λy G=>ta J G λx H2=>∃a C dx fs,x=.ref a/\H2 a=some (.ins C dx fs)/\Cls K C/\mx K C f/\fs.length < 1000 /\
 D.nx J (b7 H2 a (.ins C dx (jn f y fs)))
section
variable{X:Cx}{o e value:Expr}{f:Str}{B pos' tpos:Pos}{ta tv:TE}
theorem LD(t:PE X e ta)(r:attributeBase e f X.e (eval e X.e)=eval e X.e):PE X (.Attribute e f B) (Q6 X.K ta f):=by intro pins s J H Q I h;refine Jz r (cN (t pins s J H _ I h) λu w z=>?_);obtain⟨x,G,k,d,a,C,dx,fs,v,ex,m,c,n,l,q⟩:=z;subst ex;obtain rfl:u=Value.ref a:=d;exact yR k m c n l λi g b p=>⟨v,G,b,p,q⟩
theorem Lo(r:PE X o ta)(v:PE X value tv)(t:swapsWith value (some (.Attribute o f pos')) B.line X.e=pure false):PS X (.Assign [.Attribute o f pos'] value B) (Q' X.K ta tv f):=by intro pins s J H D I h;refine plainObj_wpAny_Assign_Attribute (cN (v pins s J H _ I h) λu i ⟨y,G,e,g,q⟩=>cN (r pins i J G _ e q) λp j z=>?_) t;obtain⟨x,H2,k,w,a,C,dx,fs,ex,m,c,n,l,d⟩:=z;subst ex;obtain rfl:p=Value.ref a:=w;exact yo k m c n l g λS b=>⟨J,_,b,d⟩
end
section
variable{X:Cx}{pins:PN}{J:St}{H:Hp}{s:Shared}{A:Around}{E:VP}{Q:VP}{c:Value}{b:Bool}
inductive TyOf(K:FG)(H:Hp):V->Value->Prop where
 |non:TyOf K H .non (.type "NoneType")
 |bl (x:Bool):TyOf K H (.bl x) (.type "bool")
 |int (i:Int):TyOf K H (.int i) (.type "int")
 |str (x:Str):TyOf K H (.str x) (.type "str")
 |flt (x:UInt64):TyOf K H (.flt x) (.type "float")
 |lst {a:Addr}{xs:List V} (e:H a=some (.lst xs)):TyOf K H (.ref a) (.type "list")
 |frz {a:Addr}{o:Obj}{xs:List V} (e:H a=some (.frz o (.lst xs))):TyOf K H (.ref a) (.type "list")
 |tup {a:Addr}{xs:List V} (e:H a=some (.tup xs)):TyOf K H (.ref a) (.type "tuple")
 |dK {a:Addr}{kvs:List (cg×V)} (e:H a=some (.dK kvs)):TyOf K H (.ref a) (.type "dict")
 |dT {a:Addr}{kvs:List (List cg×V)} (e:H a=some (.dT kvs)):TyOf K H (.ref a) (.type "dict")
 |ins {a C dx:Addr}{fs:List (Str×V)} (e:H a=some (.ins C dx fs)) (cl:Cls K C) (ha:dS K (.ref C) "__class__"=some (some (.builtin "object.__class__")))
   (hn:DT K (.builtin "object.__class__") "__get__"=some (some (.builtin "getset_descriptor.__get__"))) (htk:PySem.W.takesIn K (.builtin "object.__class__")=some true)
   (hm:PySem.W.mroIn K C (.type "object")=some true):TyOf K H (.ref a) (.ref C)
end
structure Room(k:Nat)(A:Around):Prop where
 hd:A.handled=none
 dp:A.depth+3 * k+5 < recursionLimit
 un:A.units+16 * k+200 < cLine
variable{k:Nat}
theorem Room.mono(r:Room k A)(h:q≤k):Room q A:=⟨r.hd,by have:=r.dp;lia,by have:=r.un;lia⟩
theorem Room.deeper(r:Room (k+1) A)(e:Env):Room k (A.deeper e):=
 ⟨r.hd,by have:=r.dp;show A.depth+1+3 * k+5 < _;lia,by have:=r.un;show A.units+3+16 * k+200 < _;lia⟩
variable{kw:List (Str×Value)}
theorem yC:(A.under (.builtin "type.__call__" ⟨.ref C::j,kw⟩)).depth=A.depth+1:=by first|rfl|simp[uS,Code.weight,Code.isCreation,Code.isGuard,Code.isCaller,Code.frames,Code.isFrame,guardIds]
theorem yB:(A.under (.builtin "type.__call__" ⟨.ref C::j,kw⟩)).units=A.units+1:=by first|rfl|simp[uS,Code.cUnits,Code.frames,Code.isFrame]
theorem Room.make(r:Room (k+1) A)(C:Addr)(j:LV)(kw:List (Str×Value)):Room k (A.under (.builtin "type.__call__" ⟨.ref C::j,kw⟩)):=
 ⟨r.hd,by have:=r.dp;rw[yC];lia,by have:=r.un;rw[yB];lia⟩
theorem Room.depth(r:Room k A):A.depth < recursionLimit:=by have:=r.dp;lia
noncomputable def NR:TA:=λ_ H Q=>Q [] H
noncomputable def NV(ta:TE)(tr:TA):TA:=λJ H Q=>ta J H λx G=>tr J G λxs H2=>Q (x::xs) H2
section
variable{X:Cx}{e:Expr}{es:Ab}{te:TE}{t:TA}{B:Pos}
theorem iH:PA X [] NR:=λ_ _ _ _ H Q I h=>gN ⟨[],H,I,.nil,h⟩
theorem fm(k:PE X e te)(r:PA X es t)(f:starEach (e::es) X.e=(false,eval e X.e)::starEach es X.e:=by rfl):PA X (e::es) (NV te t):=by intro B pins s J H Q I h;rw[f];show wpAny _ _ (spliced ((false,eval e X.e)::backTo B (starEach es X.e))) _ _ s;refine dI (cN (k pins s J H _ I h) λu p z=>?_);obtain⟨x,G,a,c,q⟩:=z;exact cN (r B pins p J G _ a q) λj v z=>by obtain⟨xs,H2,n,m,b⟩:=z;exact⟨x::xs,H2,n,.cons c m,b⟩
def QX(t:TA):TE:=λJ H Q=>t J H λxs G=>xs.length≤sizeLine/\∀p,G p=none->Q (.ref p) (b7 G p (.tup xs))
def Q3(t:TA):TE:=λJ H Q=>t J H λxs G=>xs.length≤sizeLine/\∀p,G p=none->Q (.ref p) (b7 G p (.lst xs))
theorem ve {N} (h:PA X es t):PE X (.Tuple es N B) (QX t):=by intro pins s J H Q I n;refine wpAny_Tuple_spliced (cN (h B pins s J H _ I n) λj x k=>?_);obtain⟨xs,G,a,r,z,q⟩:=k;refine⟨by rw[<- r.length];exact z,?_⟩;have f:G x.heap.objs.size=none:=a.h.fresh (ak _);refine⟨.ref x.heap.objs.size,b7 G x.heap.objs.size (.tup xs),a.laid (t':=x.toks) (λb u e=>aW _ e) (ak _) ?_,rfl,q _ f⟩;exact⟨z,j,r,oO.new _ _⟩
theorem E6(h:PA X es t):PE X (.List es B) (Q3 t):=by intro pins s J H Q I n;refine wpAny_List_spliced (cN (h B pins s J H _ I n) λj x k=>?_);obtain⟨xs,G,a,r,z,q⟩:=k;refine⟨by rw[<- r.length];exact z,?_⟩;have f:G x.heap.objs.size=none:=a.h.fresh (ak _);refine⟨.ref x.heap.objs.size,b7 G x.heap.objs.size (.lst xs),a.laid (t':=x.toks) (λb u e=>aW _ e) (ak _) ?_,rfl,q _ f⟩;exact⟨z,j,0,r,bx _ rfl⟩
end
noncomputable abbrev Sp:=List V->Hp->VK->XK->Prop
noncomputable abbrev DA:=List Env->Hp->Shared->XK->VP
structure Env0(P:Program)(w:World)(K:FG)(mg:SV)(base:Heap)(A:Around)(outer:List Env)(s:Shared)(H:Hp):Prop where
 frames:A.frames=some outer
 mod:Mod K mg base
 bs:∀b o,base.get? b=some o->s.heap.get? b=some o/\H b=none
 bsz:base.objs.size≤s.heap.objs.size
 funs:s.heap.FunFrames base outer
 frf:∀b ∈ Db outer,H b=none
 tab:∀P ∈ cw K,H P=some .tbl
 h:jt P w H s.heap
 bare:AllBare s.gens
def CE(o:List Env)(P:Program)(w:World)(H:Hp)(s:Shared)(Q:VK)(u:Value)(s':Shared):Prop:=
 ∃v H',s'.os=s.os/\AllBare s'.gens/\Un (Db o) [] H H' s.heap s'.heap/\jt P w H' s'.heap/\RelV v u/\Q v H'
def CR(CX:DA)(o:List Env)(P:Program)(w:World)(H:Hp)(s:Shared)(Q:VK)(E:XK)(r:Result)(s':Shared):Prop:=
 match r with
 | .ok (.ret u)=>CE o P w H s Q u s'
 | .ok _=>False
 | .error e=>CX o H s E e s'
structure FnOk(P:Program)(w:World)(K:FG)(mg:SV)(base:Heap)(CX:DA)(k:Nat)(f:Addr)(fd:FuncData)(ps:LS)(sp:Sp):Prop where
 len:∀vs H Q E,sp vs H Q E->vs.length=ps.length
 run:∀(A:Around)(outer:List Env)(s:Shared)(H:Hp)(args:Args)(us:LV)(vs:List V)(Q:VK)(E:XK),Room k A->Env0 P w K mg base A outer s H->BindsTo s fd args (ps.zip us)->bc vs us->sp vs H Q E ->
  codeAny (model P w) A (.call (.ref f) args) (CR CX outer P w H s Q E) s
variable{mg:SV}{base:Heap}{fd:FuncData}{ps:LS}
theorem FnOk.mono(F:FnOk P w K mg base CX q f fd ps sp)(h:q≤k) :
  FnOk P w K mg base CX k f fd ps sp:=⟨F.len,λA o s H a j v Q E r=>F.run A o s H a j v Q E (r.mono h)⟩
theorem FnOk.imp(F:FnOk P w K mg base CX k f fd ps sp)
  (h:∀v H Q E,z v H Q E->sp v H Q E):FnOk P w K mg base CX k f fd ps z:=
 ⟨λv H Q E q=>F.len v H Q E (h _ _ _ _ q),λA o s H a j v Q E r e b n x=>F.run A o s H a j v Q E r e b n (h _ _ _ _ x)⟩
theorem Env0.make(e:Env0 P w K mg base A q s H)(C:Addr)(j:LV)(kw:List (Str×Value)) :
  Env0 P w K mg base (A.under (.builtin "type.__call__" ⟨.ref C::j,kw⟩)) q s H:=⟨by first|exact e.frames|(simpa[uS,Code.envs,Code.isFrame,pushEnvs] using e.frames),e.mod,e.bs,e.bsz,e.funs,e.frf,e.tab,e.h,e.bare⟩
section
variable{X:Cx}{pins:PN}{J:St}{H:Hp}{s s':Shared}
theorem Inv.env0(I:Inv X pins J H s):Env0 X.p X.w X.K X.g X.b X.A X.k s H:=
 ⟨I.o.frames,I.o.mod,I.bs,aA I.o.bsz I.sz,I.stack,I.stkFree,λP h=>I.base.tbls P (I.o.tab P h),I.h,I.bare⟩
theorem Inv.after(I:Inv X pins J H s)(h:CE X.k X.p X.w H s Q u s'):EP X pins J Q u s':=by obtain⟨v,H',os,a,un,o,r,q⟩:=h;obtain⟨e,g,d,t,x⟩:=s';obtain rfl:x=s.os:=os;exact⟨v,H',I.call (h':=e) (g':=g) (d':=d) (t':=t) (ch:=[]) un o a (λb z=>absurd z (by simp)),r,q⟩
end
noncomputable def NW(sp:Sp)(dvs:List V)(E:XK)(t:TA):TE:=λJ H Q=>t J H λv G=>sp (v++dvs) G Q E
def Ep(C:Addr)(m:Str)(sp:Sp)(dvs:List V)(E:XK)(ta:TE)(t:TA):TE:=λJ H Q=>ta J H λx G=>∃a dx fs,x=.ref a/\G a=some (.ins C dx fs)/\fs.lookup m=none /\
 t J G λv H2=>sp (x::(v++dvs)) H2 Q E
def NT(C:Addr)(sp:Sp)(dvs:List V)(E:XK)(t:TA):TE:=λJ H Q=>t J H λs G=>∀x dx,G x=none->G dx=none->dx≠x ->
 sp (.ref x::(s++dvs)) (b7 (b7 G dx (.own x)) x (.ins C dx [])) (λv H2=>v=.non/\Q (.ref x) H2) E
def Binds(K:FG)(fd:FuncData)(ps:LS)(ds:LV):Prop:=
 ∀(s:Shared)(j:LV),K.In s.heap->(j++ds).length=ps.length->BindsTo s fd ⟨j,[]⟩ (ps.zip (j++ds))
theorem Binds.all(h:∀j:LV,j.length=ps.length->bindArgs fd ⟨j,[]⟩=pure (ps.zip j)):Binds K fd ps []:=λs j _ l=>by rw[dJ]at l ⊢;exact .of_eq (h j l)
def mw(CX:DA)(X:Cx)(E:XK):Prop:=∀(pins:PN)(J:St)(H:Hp)(s:Shared)(e:Value)(s':Shared),Inv X pins J H s->CX X.k H s E e s'->X.xe e s'
section
variable{X:Cx}{CX:DA}{k:Nat}{f C:Addr}{fd:FuncData}{ps:LS}{sp:Sp}{dvs:List V}{ds:LV}{E:XK}{x m:Str}{p B apos:Pos}{e o:Expr}{es:Ab}{ta:TE}{t:TA}
set_option tactic.hygienic true in
theorem yr(F:FnOk X.p X.w X.K X.g X.b CX k f fd ps sp)(n:Room k X.A)(b:Binds X.K fd ps ds)(hd:bc dvs ds)(c:mw CX X E)
  (I:Inv X pins J H s) (r:bc z j) (h:sp (z++dvs) H Q E):wx X (call (.ref f) j) (EP X pins J Q) X.xe s:=by
 have x:bc (z++dvs) (j++ds):=r.append hd;have a:(j++ds).length=ps.length:=by rw[<- x.length];exact F.len _ _ _ _ h
 refine qz (nS (F.run X.A X.k s H ⟨j,[]⟩ (j++ds) (z++dvs) Q E n I.env0 (b s j I.kIn a) x h) λr s' q=>?_);cases r with
 |error e=>exact c pins J H s e s' I q
 |ok l=>
  cases l with
  |ret u=>exact I.after q
  |next=>exact False.elim q
  |brk=>exact False.elim q
  |cont=>exact False.elim q
theorem vg(F:FnOk X.p X.w X.K X.g X.b CX k f fd ps sp)(v:Room k X.A)(g:Gl X x)(m:X.g x=some (.ref f))(hk:dZ X.K (.ref f)=true)(b:Binds X.K fd ps ds)(hd:bc dvs ds)(w:mw CX X E)
  (n:PA X (e::es) t) (d:(x == ("__debug__":Str))=false:=by decide) (c:starEach (e::es) X.e=(false,eval e X.e)::starEach es X.e:=by rfl) (l:(backTo B (starEach es X.e)).any (·.1)=false:=by rfl) :
  PE X (.Call (.Name x p) (e::es) [] B) (NW sp dvs E t):=by
 intro pins s J H Q I h;refine jg (qh I g m ?_ d);refine qL (h₀:=X.b) I.o.mod.kin hk (cN (n B pins s J H _ I h) λj u z=>?_) c l;obtain⟨i,G,a,r,q⟩:=z;refine⟨a.kIn,?_⟩;exact yr F v b hd w a r q
theorem ID(i:PE X o ta)(c:Cls X.K C)(v:Meth X.K C m f)(F:FnOk X.p X.w X.K X.g X.b CX k f fd ps sp)(y:Room k X.A)(g:Binds X.K fd ps ds)(hd:bc dvs ds)(K:mw CX X E)(w:PA X (e::es) t)
  (hst:starEach (e::es) X.e=(false,eval e X.e)::starEach es X.e:=by rfl) (p:(backTo B (starEach es X.e)).any (·.1)=false:=by rfl)
  (S:eval (.Call (.Attribute o m apos) (e::es) [] B) X.e=(do
   let N <- eval o X.e
   standAt apos.atName
   let (f,first) <- holding [N] (getMethod N m pl)
   callWith B f first (backTo B (starEach (e::es) X.e)) (backToKw B (keywordEach [] X.e))):=by rfl) :
  PE X (.Call (.Attribute o m apos) (e::es) [] B) (Ep C m sp dvs E ta t):=by
 intro pins s J H Q I h;refine DW (pl:=pl) (cN (i pins s J H _ I h) λu D z=>?_) S;obtain⟨x,G,n,A,a,dx,fs,ex,d,l,q⟩:=z;subst ex;obtain rfl:u=Value.ref a:=A;refine rQ n d c v l ?_;refine qL (first:=[.ref a]) (h₀:=X.b) I.o.mod.kin v.kp (cN (w B pins D J G _ n q) λj M z=>?_) hst p;obtain⟨L,H2,b,r,P⟩:=z;refine⟨b.kIn,?_⟩;exact yr (j:=.ref a::j) (z:=.ref a::L) F y g hd K b (.cons rfl r) P
theorem E5(t:PE X o ta)(c:Cls X.K C)(n:Meth X.K C m f)(F:FnOk X.p X.w X.K X.g X.b CX k f fd ps sp)(p:Room k X.A)(r:Binds X.K fd ps ds)(hd:bc dvs ds)(d:mw CX X E)
  (v:eval (.Call (.Attribute o m apos) [] [] B) X.e=(do
   let z <- eval o X.e
   standAt apos.atName
   let (f,first) <- holding [z] (getMethod z m N)
   callWith B f first (backTo B (starEach [] X.e)) (backToKw B (keywordEach [] X.e))):=by rfl) :
  PE X (.Call (.Attribute o m apos) [] [] B) (Ep C m sp dvs E ta NR):=by
 intro pins s J H Q I h;refine DW (pl:=N) (cN (t pins s J H _ I h) λu i w=>?_) v;obtain⟨x,G,e,g,a,dx,fs,ex,b,l,q⟩:=w;subst ex;obtain rfl:u=Value.ref a:=g;refine rQ e b c n l ?_;exact PySem.W.callWith_K0 (first:=[.ref a]) e.kIn n.kp (yr (j:=[.ref a]) (z:=[.ref a]) F p r hd d e (.cons rfl .nil) q)
structure Mk(K:FG)(C f:Addr):Prop where
 makes:x4 K C=true
 init:dS K (.ref C) "__init__"=some (some (.ref f))
 fn:uv K (.ref f)=true
 kp:dZ K (.ref C)=true
set_option tactic.hygienic true in
theorem EC(M:Mk X.K C f)(F:FnOk X.p X.w X.K X.g X.b CX k f fd ps sp)(d:Room (k+1) X.A)(t:Binds X.K fd ps ds)(hd:bc dvs ds)
  (w:mw CX X E) (I:Inv X pins J H s) (r:bc z j)
  (h:∀x dx,H x=none->H dx=none->dx≠x->sp (.ref x::(z++dvs)) (b7 (b7 H dx (.own x)) x (.ins C dx [])) (λv H2=>v=.non/\Q (.ref x) H2) E) :
  wx X (call (.ref C) j) (EP X pins J Q) X.xe s:=by
 have n:=h (s.heap.objs.size+1) s.heap.objs.size (I.h.fresh (iX _)) (I.h.fresh (ak _)) (bf (jQ _));have a:=Inv.made (C:=C) I;have b:bc (V.ref (s.heap.objs.size+1)::(z++dvs)) (Value.ref (s.heap.objs.size+1)::(j++ds)):=.cons rfl (r.append hd);have p:(Value.ref (s.heap.objs.size+1)::j++ds).length=ps.length:=by have e:=b.length;rw[F.len _ _ _ _ n]at e;exact e.symm
 refine qz (Fw (f:=f) I.kIn M.makes M.init (mK.mp M.fn) (nS (F.run _ X.k _ _ ⟨Value.ref (s.heap.objs.size+1)::j,[]⟩ (Value.ref (s.heap.objs.size+1)::(j++ds)) _ _ E (d.make C j [])
  (a.env0.make C j []) (t _ (Value.ref (s.heap.objs.size+1)::j) a.kIn p) b n) λr s' q=>?_))
 cases r with
 |error e=>exact w pins J _ _ e s' a q
 |ok l=>
  cases l with
  |ret u=>obtain⟨v,H',c,i,m,g⟩:=a.after q;subst m;exact⟨i,⟨V.ref (s.heap.objs.size+1),H',c,rfl,g⟩⟩
  |next=>exact False.elim q
  |brk=>exact False.elim q
  |cont=>exact False.elim q
theorem IE(M:Mk X.K C f)(F:FnOk X.p X.w X.K X.g X.b CX k f fd ps sp)(v:Room (k+1) X.A)(g:Gl X x)(m:X.g x=some (.ref C))(b:Binds X.K fd ps ds)(hd:bc dvs ds)(w:mw CX X E)
  (n:PA X (e::es) t) (d:(x == ("__debug__":Str))=false:=by decide) (c:starEach (e::es) X.e=(false,eval e X.e)::starEach es X.e:=by rfl) (l:(backTo B (starEach es X.e)).any (·.1)=false:=by rfl) :
  PE X (.Call (.Name x p) (e::es) [] B) (NT C sp dvs E t):=by
 intro pins s J H Q I h;refine jg (qh I g m ?_ d);refine qL (h₀:=X.b) I.o.mod.kin M.kp (cN (n B pins s J H _ I h) λj u z=>?_) c l;obtain⟨i,G,a,r,q⟩:=z;refine⟨a.kIn,?_⟩;exact EC M F v b hd w a r q
end
section
variable{X:Cx}{CX:DA}{k:Nat}{f C:Addr}{fd:FuncData}{ps ks:LS}{sp:Sp}{E:XK}{x m:Str}{p B apos kpos:Pos}{e o:Expr}{es:Ab}{kws:List Keyword}{te ta:TE}{t tk:TA}{nm:Option Str}
structure KBinds(K:FG)(fd:FuncData)(ps ks:LS)(g:LV->LV->LV)(gV:List V->List V->List V):Prop where
 to:∀(s:Shared)(us ws:LV),K.In s.heap->(g us ws).length=ps.length->BindsTo s fd ⟨us,ks.zip ws⟩ (ps.zip (g us ws))
 rel:∀{vs:List V}{us:LV}{zs:List V}{ws:LV},bc vs us->bc zs ws->bc (gV vs zs) (g us ws)
variable{g:LV->LV->LV}{gV:List V->List V->List V}
end
structure FnScope(N P:LS)(sc:Scope):Prop where
 kind:sc.kind=.function
 co:sc.isCoroutine=false
 gen:sc.isGenerator=false
 nd:N.Nodup
 pre:N.take P.length=P
 par:∀x ∈ P,sc.names.lookup x=some .local\/sc.names.lookup x=some .cell
 nofree:∀y ∈ sc.names,y.2≠.free
theorem tM{kindOf:Str->Option NameKind}{x:Str}:∀{b:List (Str×Value)}{m:SV},(∀v,(x,v) ∉ b)->bindL kindOf b m x=m x
 | [],_,_=>rfl
 |(n,v)::r,m,h=>by
  unfold bindL;rw[tM λw hw=>h w (aH _ hw)];split
  .have:x≠n:=by rintro rfl;exact h v aI
   simp[this]
  .rfl
theorem tP{kindOf:Str->Option NameKind}{x:Str}:∀{b:List (Str×Value)}{m:SV},(∀v,(x,v) ∉ b)->bindC kindOf b m x=m x
 | [],_,_=>rfl
 |(n,v)::r,m,h=>by
  unfold bindC;rw[tP λw hw=>h w (aH _ hw)];split
  .rfl
  .have:x≠n:=by rintro rfl;exact h v aI
   simp[this]
theorem tN{kindOf:Str->Option NameKind}{x:Str}{v:Value}:∀{P:LS}{s:LV}{i:Nat}{m:SV},P.Nodup->P[i]? = some x->s[i]? = some v->kindOf x=some .local ->
  bindL kindOf (P.zip s) m x=some v
 | [],_,_,_,_,h,_,_=>by simp at h
 |_::_,[],_,_,_,_,h,_=>by simp at h
 |p::P,w::s,0,m,n,h1,h2,hk=>by simp at h1 h2;subst h1;subst h2;show bindL kindOf ((p,w)::P.zip s) m p=_;unfold bindL;rw[tM λv a=>(bW.mp n).1 (uF a).1,af hk];simp
 |p::P,w::s,i+1,m,n,h1,h2,hk=>by show bindL kindOf ((p,w)::P.zip s) m x=_;unfold bindL;exact tN (i:=i) (bW.mp n).2 (by simpa using h1) (by simpa using h2) hk
theorem tR{kindOf:Str->Option NameKind}{x:Str}{v:Value}:∀{P:LS}{s:LV}{i:Nat}{m:SV},P.Nodup->P[i]? = some x->s[i]? = some v->kindOf x≠some .local ->
  bindC kindOf (P.zip s) m x=some v
 | [],_,_,_,_,h,_,_=>by simp at h
 |_::_,[],_,_,_,_,h,_=>by simp at h
 |p::P,w::s,0,m,n,h1,h2,hk=>by simp at h1 h2;subst h1;subst h2;show bindC kindOf ((p,w)::P.zip s) m p=_;unfold bindC;rw[tP λv a=>(bW.mp n).1 (uF a).1,ah hk];simp
 |p::P,w::s,i+1,m,n,h1,h2,hk=>by show bindC kindOf ((p,w)::P.zip s) m x=_;unfold bindC;exact tR (i:=i) (bW.mp n).2 (by simpa using h1) (by simpa using h2) hk
noncomputable def start(N:LS)(v:List V):St:=v.map some++List.replicate (N.length-v.length) none
noncomputable def xq(CX:DA)(P:Program)(w:World)(K:FG)(mg:SV)(base:Heap)(N:LS)(q:Str)(h:Scope)(f:Addr)(d:Value)(A:Around)(u:List Env)(s:Shared)(H:Hp)(E:XK):Cx where
 p:=P
 w:=w
 K:=K
 g:=mg
 b:=base
 A:=A.deeper (envOfC q h s.heap.objs.size f d)
 N:=N
 z:=s
 y:=H
 e:=envOfC q h s.heap.objs.size f d
 o:=u
 k:=envOfC q h s.heap.objs.size f d::u
 ex:=[]
 c:=true
 fn:=λ_=>true
 pn:=[]
 xe:=λe s'=>wpAny (model P w) (A.deeper (envOfC q h s.heap.objs.size f d)) (leaving (envOfC q h s.heap.objs.size f d) e) (λ_ x=>CX u H s E e x) (λa x=>CX u H s E a x) s'
variable{x:Str}
theorem xA{sc:Scope}(h:sc.names.lookup x=some .cell):∃c,(cellsFrom n sc.names []).lookup x=some c:=by have q:=DX sc.names n [] (.inl h);exact uh.mp q
theorem C4{CX:DA}{P:Program}{w:World}{K:FG}{mg:SV}{base:Heap}{N ps:LS}{l:Str}{o:Scope}{f:Addr}{C:Value}{A:Around}{t:List Env}{s G:Shared}{H:Hp}{E:XK}{j:LV}{F:List V}
  (S:FnScope N ps o) (hd:A.handled=none) (m:Env0 P w K mg base A t s H) (R:F.length=ps.length) (r:bc F j)
  (x:InCallC s s.heap.objs.size (bindL (envOfC l o s.heap.objs.size f C).kindOf (ps.zip j) λ_=>none) (cellsFrom (s.heap.objs.size+1) o.names []) (bindC (envOfC l o s.heap.objs.size f C).kindOf (ps.zip j) λ_=>none) G) :
  Inv (xq CX P w K mg base N l o f C A t s H E) [] (start N F) H G:=by
 have L:ps.length≤N.length:=by have:=du mL S.pre;rw[il]at this;lia
 obtain⟨h1,tk,rfl,hk⟩:=x.done;have g:∀b:Addr,b ∉ (xq CX P w K mg base N l o f C A t s H E).ex:=fun b z=>absurd (show b ∈ ([]:List Addr) from z) (by simp);refine⟨⟨m.mod,S.kind,rfl,rfl,ak _,fun y z c h1 h2=>?_,fun y d=>?_,fun y c _ h=>?_,fun _=>hd,AN m.frames,.inr ⟨rfl,rfl⟩,fun b z=>absurd z (g b),m.bs,m.bsz,fun b _ _=>g b,fun b z=>absurd z (g b),m.funs,m.frf,m.tab⟩,
  rfl,m.bare,Un.kept hk,⟨_,x.toInCall.ns,λi y v h1 h2 Q=>?_⟩,λy c h=>⟨_,x.cell y c h⟩,m.h.fresh (ak _),λy c h=>?_,λp B=>absurd (show p ∈ ([]:PN) from B) (by simp),m.h.kept hk,?_⟩
 .exact name_of_addr x.apart (qF h1) (qF h2)
 .have d:o.names.lookup y=some .cell\/o.names.lookup y=some .free:=d;rcases d with d|d
  .exact xA d
  .exact absurd rfl (S.nofree _ (qF d))
 .exact eZ (x.above y c (qF h))
 .have hi:i < F.length:=by
   unfold start at h2;by_cases hi:i < F.length
   .exact hi
   .rw [b_ (by simpa using hi)]at h2;rw[uN]at h2;split at h2<;>cases h2
  have I:F[i]? = some v:=by
   unfold start at h2;rw[cA (by simpa using hi),b9]at h2;cases e:F[i]? with
   |none=>rw[e]at h2;cases h2
   |some a=>rw[e]at h2;cases h2;rfl
  obtain⟨u,D,M⟩:=r.get I;have B:ps[i]? = some y:=by rw[<- S.pre,im (by lia)];exact h1
  have JV:ps.Nodup:=by rw[<- S.pre];exact S.nd.sublist (Av _ _)
  refine⟨u,M,?_⟩;rcases S.par y (aY B) with k|k
  .exact .inl ⟨k,tN JV B D k⟩
  .obtain⟨c,e⟩:=xA (n:=s.heap.objs.size+1) k;refine .inr ⟨.inl k,c,e,?_⟩;have q:=x.cell y c e;rw[tR JV B D (by show o.names.lookup y≠_;rw[k];decide)]at q;exact q
 .exact m.h.fresh (eZ (x.above y c (qF h)))
 .unfold start;show _=N.length;rw[a_,aU,uL];lia
set_option tactic.hygienic true in
theorem O3{CX:DA}{P:Program}{w:World}{K:FG}{mg:SV}{base:Heap}{k:Nat}{f:Addr}{name a:Str}{p:Arguments}{m:List Stmt}{c:Scope}{dV kV B pm d ct oc:Value}{an od:Option Addr}
  {W:Array (OV)}{N ps:LS}{sp:Sp} (lk:K.lookup f=some ⟨oc,od,.func (ji name a p m c dV kV B pm an d ct),W⟩) (M:jj K d a=true) (S:FnScope N ps c)
  (len:∀g H Q E,sp g H Q E->g.length=ps.length)
  (l:∀(A:Around) (h:List Env) (s:Shared) (H:Hp) (g:List V) (Q:VK) (E:XK),Room k (A.deeper (envOfC a c s.heap.objs.size f d))->sp g H Q E ->
   ∃t,oQ (xq CX P w K mg base N a c f d A h s H E) m t/\t { nx:=λ_ H'=>Q .non H',rt:=Q } (start N g) H) :
  FnOk P w K mg base CX (k+1) f (ji name a p m c dV kV B pm an d ct) ps sp:=by
 refine⟨len,λA h s H args j g Q E R C hb r G=>?_⟩;have hl:=len _ _ _ _ G;have Z:K.In s.heap:=C.mod.kin.keeps λb o e=>(C.bs b o e).1;have T:s.heap.NoLimit:=C.mod.nolimit.keeps λb o e=>(C.bs b o e).1;have z:∀y ∈ ps.zip j,c.names.lookup y.1=some .local\/(c.names.lookup y.1=some .cell/\((cellsFrom (s.heap.objs.size+1) c.names []).lookup y.1).isSome=true):=λ⟨n,v⟩ hy=>by
  rcases S.par n (uF hy).1 with q|q
  .exact .inl q
  .exact .inr ⟨q,DX _ _ _ (.inl q)⟩
 refine codeAny_call_function R.depth (Z _ _ lk) rfl S.co S.gen rfl (PySem.W.codeRec_of Z M) (hb _ _ _ _ ?_);refine wpAny_newFunctionEnv_cells S.kind z λenv he s1 x=>?_;subst he;refine⟨T.keeps x.toInCall.keep,codeAny_func ?_⟩;obtain⟨t,ht,hq⟩:=l A h s H g Q E (R.deeper _) G;have I:Inv (xq CX P w K mg base N a c f d A h s H E) [] (start N g) H s1:=C4 S R.hd C hl r x;refine cG (ht [] s1 (start N g) H _ I hq) (λfl s' F=>?_) λe s' F=>F;have D:∀{L:St}{H':Hp}{v:V}{u:Value},Inv (xq CX P w K mg base N a c f d A h s H E) [] L H' s'->RelV v u->Q v H'->CE h P w H s Q u s':=
  λ{L H' v u} i X q=>⟨v,H',i.os,i.bare,i.base,i.h,X,q⟩
 cases fl with
 |ret u=>obtain⟨v,L,H',i,X,q⟩:=F;exact D i X q
 |next=>obtain⟨L,H',i,q⟩:=F;exact D (v:=V.non) (u:=Value.none) i rfl q
 |brk=>obtain⟨_,_,_,q⟩:=F;exact False.elim q
 |cont=>obtain⟨_,_,_,q⟩:=F;exact False.elim q
section
variable{X:Cx}{x:Str}{p B:Pos}{e:Expr}{es:Ab}{t:TA}{id T:String}{r:List V->Hp->VK->Prop}
noncomputable def Sg(r:List V->Hp->VK->Prop)(t:TA):TE:=λJ H Q=>t J H λv G=>r v G Q
theorem m_(c:dG X (.builtin id) r)(g:Gl X x)(m:X.g x=none)(v:bootBuiltins x=some (.builtin id))(n:PA X (e::es) t)(f:x≠"__name__":=by decide)(d:(x == ("__debug__":Str))=false:=by decide)
  (k:starEach (e::es) X.e=(false,eval e X.e)::starEach es X.e:=by rfl) (l:(backTo B (starEach es X.e)).any (·.1)=false:=by rfl):PE X (.Call (.Name x p) (e::es) [] B) (Sg r t):=by
 intro pins s J H Q I h;refine jg (j7 I g m v ?_ f d);exact Hz (cN (n B pins s J H _ I h) λj w z=>by obtain⟨u,G,a,b,q⟩:=z;exact c pins w J G u j Q a b q) k l
theorem om(c:dG X (.type T) r)(g:Gl X x)(m:X.g x=none)(v:bootBuiltins x=some (.type T))(n:PA X (e::es) t)(f:x≠"__name__":=by decide)(d:(x == ("__debug__":Str))=false:=by decide)
  (k:starEach (e::es) X.e=(false,eval e X.e)::starEach es X.e:=by rfl) (l:(backTo B (starEach es X.e)).any (·.1)=false:=by rfl):PE X (.Call (.Name x p) (e::es) [] B) (Sg r t):=by
 intro pins s J H Q I h;refine jg (j7 I g m v ?_ f d);exact jO (cN (n B pins s J H _ I h) λj w z=>by obtain⟨u,G,a,b,q⟩:=z;exact c pins w J G u j Q a b q) k l
end
end L2
set_option tactic.hygienic true
namespace HT
open PySem PyProof.Rows
section
variable{prog:Program}{w:World}{A:Around}{E:VP}{s:Shared}
theorem Jt(g:IsTup s.heap t z.toArray)(u:IsTup s.heap b q.toArray)(v:z≠[])
  (h1:q=[]->Q (.ref t) s) (h2:q≠[]->Q (.ref s.heap.objs.size) { s with heap:=s.heap.push { cls:=.type "tuple",data:=.seq (z++q).toArray } })
  (a:z.length+q.length≤sizeLine):wpAny (model prog w) A (binaryOp .Add (.ref t) (.ref b)) Q E s:=by
 obtain⟨⟨N,f,I,p⟩,o,m,n,hd⟩:=id g;obtain⟨⟨k,d,data2,l⟩,h,c,r,x⟩:=id u;simp only at m hd c x;subst m hd c x;have e:z.toArray++q.toArray=(z++q).toArray:=by simp
 by_cases hw:q=[]
 .exact xM ⟨_,o,rfl⟩ ⟨_,h,rfl⟩ xT xO ua uc (uf _ _)
   (tuple_addW1 t b z.toArray q.toArray n r f d p l (by simpa using v) (by simp[hw])) ⟨o,h,h1 hw⟩
 .refine xM ⟨_,o,rfl⟩ ⟨_,h,rfl⟩ xT xO ua uc (uf _ _)
   (tuple_addW2 t b z.toArray q.toArray n r f d p l (by simpa using v) (by simpa using hw) (by rw[bg,bg];exact a)) ⟨o,h,?_⟩
  rw[e];exact h2 hw
noncomputable def eS(n d:Nat):Option Int->Nat
 |none=>d
 |some v=>if v < 0 then (v+(n:Int)).toNat else min v.toNat n
theorem qZ(n d:Nat):eS n d none=d:=rfl
theorem BA(n d k:Nat):eS n d (some (k:Int))=min k n:=by show(if (k:Int) < 0 then ((k:Int)+(n:Int)).toNat else min (k:Int).toNat n)=min k n;rw[ah (by lia),pK]
theorem Lf(n d:Nat)(hd:d≤n)(o:Option Int):eS n d o≤n:=by
 cases o with
 |none=>exact hd
 |some v=>
  show(if v < 0 then (v+(n:Int)).toNat else min v.toNat n)≤n;by_cases h:v < 0
  .rw [af h];lia
  .rw [ah h];exact Nat.min_le_right _ _
theorem Cg(v:Int)(n d:Nat):(if v < 0 then max (v+(n:Int)) 0 else min v (n:Int))=((eS n d (some v):Nat):Int):=by
 show(if v < 0 then max (v+(n:Int)) 0 else min v (n:Int))=(((if v < 0 then (v+(n:Int)).toNat else min v.toNat n):Nat):Int);by_cases h:v < 0
 .simp only[af h];lia
 .simp only[ah h];lia
theorem y_(lo hi:Option Int)(n:Nat):t6 lo hi 1 (n:Int)=(((eS n 0 lo:Nat):Int),((eS n n hi:Nat):Int)):=by
 have h1:¬((1:Int) < 0):=by lia
 unfold t6;simp only[h1,jU];refine Prod.ext ?_ ?_
 .cases lo with
  |none=>rfl
  |some v=>exact Cg v n 0
 .cases hi with
  |none=>rfl
  |some v=>exact Cg v n n
theorem yw(i j:Nat):pJ (i:Int) (j:Int) 1=j-i:=by
 unfold pJ;have h1:(1:Int) > 0:=by lia
 simp only[h1,jT,Int.ediv_one];split<;>lia
theorem qY(p:IsPart v o)(h:Q o s):wpAny (model prog w) A (G4 v) Q E s:=by
 cases p with
 |none=>exact zS h
 |int i t=>exact slicePart_int h
theorem jv{l:Addr}{v u:Value}{lo hi:Option Int}{n:Nat}{Q:Int×Int×Nat->Shared->Prop}(a:s.heap.IsSliceOf l v u .none)(p:IsPart v lo)(e:IsPart u hi)
  (h:Q (((eS n 0 lo:Nat):Int),1,eS n n hi-eS n 0 lo) s):wpAny (model prog w) A (zj (.ref l) (pure (n:Int))) Q E s:=by
 obtain⟨os,o,c,d⟩:=id a;unfold zj G3;refine ac (ac (dH o d (x:=v) rfl (ac (dH o d (x:=u) rfl (ac (dH o d (x:=.none) rfl (aq ?_)))))));refine ac (zS ?_);show wpAny _ _ (if ((1:Int) == 0)=true then _ else _) _ _ s;rw[ah (by decide)];refine ac (qY p (ac (qY e (ac (aq ?_)))));show wpAny _ _ (match t6 lo hi 1 (n:Int) with|(lo,hi)=>pure (lo,(1:Int),pJ lo hi 1)) _ _ s;rw[y_ lo hi n];show wpAny _ _ (pure (((eS n 0 lo:Nat):Int),(1:Int),pJ ((eS n 0 lo:Nat):Int) ((eS n n hi:Nat):Int) 1)) _ _ s;rw[yw];exact aq h
theorem EY(xs:Array Value)(i k:Nat):((List.range k).filterMap λ(m:Nat)=>xs[((i:Int)+(m:Int) * 1).toNat]?).toArray=((xs.toList.drop i).take k).toArray:=by
 have e:(λ(m:Nat)=>xs[((i:Int)+(m:Int) * 1).toNat]?)=λm=>xs[i+m]?:=by
  funext m;have:((i:Int)+(m:Int) * 1).toNat=i+m:=by lia
  rw[this]
 rw[e];have:=pick_run xs i k
 rw[List.filterMap_map]at this;have h:((λx=>xs[x]?) ∘ λx=>i+x)=λm=>xs[i+m]?:=rfl;rw[h]at this;rw[this]
theorem nu{t l:Addr}{i:Array Value}{v u:Value}{lo hi:Option Int}{Q:VP}(x:IsTup s.heap t i)(e:s.heap.IsSliceOf l v u .none)(p:IsPart v lo)(k:IsPart u hi)
  (hw:¬(eS i.size 0 lo=0/\eS i.size i.size hi=i.size))
  (h:Q (.ref s.heap.objs.size) { s with heap:=s.heap.push { cls:=.type "tuple",data:=.seq ((i.toList.drop (eS i.size 0 lo)).take (eS i.size i.size hi-eS i.size 0 lo)).toArray } })
  (z:i.size≤sizeLine):wpAny (model prog w) A (getItem (.ref t) (.ref l)) Q E s:=by
 have a:sizeOk (.seq ((i.toList.drop (eS i.size 0 lo)).take (eS i.size i.size hi-eS i.size 0 lo)).toArray):=by show((i.toList.drop (eS i.size 0 lo)).take (eS i.size i.size hi-eS i.size 0 lo)).toArray.size≤sizeLine;rw[bg,il,uH,mV];lia
 have j:eS i.size i.size hi≤i.size:=Lf _ _ (ak _) hi;obtain⟨os,o,c,d⟩:=id e;have T:s.TypeIs (.ref l) "slice":=⟨os,o,c⟩;unfold getItem;try with_reducible refine fR ?_
 first|refine ac (aq ?_)|skip
 refine ac (Be x.typeIs (by decide) ?_);refine ac (qG (name:=Str.ofString "__getitem__") x.typeIs jN
  (nT jN x.typeIs zV ?_ (zU _ _)))
 show wpAny _ _ (DM (.ref t) >>= _) _ _ s;refine ac (zQ x ?_);refine ac (lV T ?_);rw[af (by decide)];refine ac (jv e p k ?_);have n:¬((((eS i.size 0 lo:Nat):Int) == 0 && (1:Int) == 1 && (eS i.size i.size hi-eS i.size 0 lo) == i.size)=true):=by intro q;rw[av,av]at q;have f:((eS i.size 0 lo:Nat):Int)=0:=eq_of_beq q.1.1;have b:eS i.size i.size hi-eS i.size 0 lo=i.size:=eq_of_beq q.2;exact hw ⟨by lia,by lia⟩
 show wpAny _ _ (if (((eS i.size 0 lo:Nat):Int) == 0 && (1:Int) == 1 && (eS i.size i.size hi-eS i.size 0 lo) == i.size)=true then _ else _) _ _ s;rw[ah n,EY];first
  |exact ac (m:=y' _) (qC (aq ⟨_,rfl,aq h⟩) a)
  |exact ac (m:=y' _) (qC (ac (aq (aq ⟨_,rfl,aq h⟩))) a)
  |exact ac (ac (m:=y' _) (qC (aq (aq ⟨_,rfl,aq h⟩)) a))
  |exact ac (ac (m:=y' _) (qC (aq ⟨_,rfl,aq h⟩) a))
end
end HT
set_option tactic.hygienic false
namespace L2
open PySem PySem.Spec PyProof.Rows
noncomputable abbrev TO:=St->Hp->(Option Int->Hp->Prop)->Prop
def PO(X:Cx)(e:Option Expr)(t:TO):Prop:=
 ∀(pins:PN)(s:Shared)(J:St)(H:Hp)(Q:Option Int->Hp->Prop),Inv X pins J H s->t J H Q ->
  wx X (evalPart e X.e) (λu s'=>∃o H',Inv X pins J H' s'/\IsPart u o/\Q o H') X.xe s
noncomputable def HX:TO:=λ_ H Q=>Q none H
noncomputable def NP(t:TE):TO:=λJ H Q=>t J H λx G=>∃i,x=.int i/\Q (some i) G
section
variable{X:Cx}{e:Expr}{te:TE}{lo hi:Option Expr}{tl th:TO}{B p2:Pos}
theorem Iy:PO X none HX:=by intro pins s J H Q I h;rw[AW];exact aq ⟨none,H,I,.none,h⟩
theorem Iw(h:PE X e te):PO X (some e) (NP te):=by
 intro pins s J H Q I hw;rw[evalPart_some];refine cN (h pins s J H _ I hw) λu k z=>?_
 obtain⟨x,G,a,r,n⟩:=z;obtain⟨i,rfl,q⟩:=n;obtain⟨t,rfl⟩:=r;exact⟨some i,G,a,.int i t,q⟩
def Kk(X:Cx)(r:V->Option Int->Option Int->Hp->VK->Prop):Prop:=
 ∀(pins:PN)(s:Shared)(J:St)(H:Hp)(x:V)(v h u:Value)(lo hi:Option Int)(l:Addr)(Q:VK),Inv X pins J H s->RelV x v->s.heap.IsSliceOf l h u .none->IsPart h lo->IsPart u hi->r x lo hi H Q ->
  ∃T id,typeLookup (.type T) "__getitem__"=pure (some (.builtin id))/\s.TypeIs v T/\wx X (getItem v (.ref l)) (EP X pins J Q) X.xe s
theorem Kk.or(h:Kk X r)(h':Kk X z):Kk X (λx lo hi H Q=>r x lo hi H Q\/z x lo hi H Q):=by
 intro pins s J H x v n k lo hi l Q I e a p u q;rcases q with q|q
 .exact h pins s J H x v n k lo hi l Q I e a p u q
 .exact h' pins s J H x v n k lo hi l Q I e a p u q
noncomputable def SY(r:V->Option Int->Option Int->Hp->VK->Prop)(te:TE)(tl th:TO):TE:=λJ H Q=>te J H λx G=>tl J G λl H2=>th J H2 λu h=>r x l u h Q
theorem E4(j:Kk X r)(w:PE X e te)(i:PO X lo tl)(o:PO X hi th):PE X (.Subscript e (.Slice lo hi none p2) B) (SY r te tl th):=by
 intro pins s J H Q I h;refine Subscript_ (cN (w pins s J H _ I h) λv D z=>?_);obtain⟨x,G,c,C,K⟩:=z;refine wpAny_Slice (cN (i pins D J G _ c K) λn E ⟨l,H2,m,S,P⟩=>cN (o pins E J H2 _ m P) λk a z=>?_);obtain⟨u,f,t,F,A⟩:=z;rw[AW];refine aq ?_;have p:Inv X pins J f { a with heap:=a.heap.push { cls:=.type "slice",data:=.fields #[n,k,.none] } }:=t.kept (t':=a.toks) λb L q=>aW _ q
 obtain⟨T,id,d,y,g⟩:=j pins { a with heap:=a.heap.push { cls:=.type "slice",data:=.fields #[n,k,.none] } } J f x v n k l u a.heap.objs.size Q p C (Heap.IsSliceOf.new ..) S F A;show wx X (subscriptTail e (.Slice lo hi none p2) v (.ref a.heap.objs.size)) (EP X pins J Q) X.xe { a with heap:=a.heap.push { cls:=.type "slice",data:=.fields #[n,k,.none] } };exact pP (ops:=[.ref a.heap.objs.size,v]) y d g (by with_unfolding_all rfl)
def xt(xs:List V)(lo hi:Option Int):List V:=(xs.drop (HT.eS xs.length 0 lo)).take (HT.eS xs.length xs.length hi-HT.eS xs.length 0 lo)
theorem pa(xs:List V)(lo hi:Option Int):(xt xs lo hi).length≤xs.length:=by unfold xt;rw[il,uH];lia
def Rc(K:FG):V->Option Int->Option Int->Hp->VK->Prop:=λx lo hi H Q=>∃a xs,x=.ref a/\nQ K H a xs /\
 ¬(HT.eS xs.length 0 lo=0/\HT.eS xs.length xs.length hi=xs.length)/\∀p,H p=none->Q (.ref p) (b7 H p (.tup (xt xs lo hi)))
theorem La:Kk X (Rc X.K):=by
 intro pins s J H x v m d lo hi c Q I k e p u h;obtain⟨a,xs,rfl,n,hw,q⟩:=h;cases k;obtain⟨i,r,t,z⟩:=I.tuple n;have l:i.toArray.size=xs.length:=by rw[bg];exact r.length.symm
 refine⟨"tuple",_,jN.lookup,t.typeIs,?_⟩;refine HT.nu t e p u (by rw[l];exact hw) ?_ (by rw[l];exact z);rw[l];refine⟨.ref s.heap.objs.size,_,I.laid (t':=s.toks) (o:=.tup (xt xs lo hi)) (λb f q=>aW _ q) (ak _) ?_,rfl,q _ (I.h.fresh (ak _))⟩;exact⟨aA (pa xs lo hi) z,_,(r.drop (HT.eS xs.length 0 lo)).take (HT.eS xs.length xs.length hi-HT.eS xs.length 0 lo),oO.new _ _⟩
def Oa(K:FG):R2:=λx y H Q=>∃a b xs ys,x=.ref a/\y=.ref b/\nQ K H a xs/\nQ K H b ys/\xs≠[]/\xs.length+ys.length≤sizeLine /\
 (ys=[]->Q (.ref a) H)/\(ys≠[]->∀p,H p=none->Q (.ref p) (b7 H p (.tup (xs++ys))))
theorem bc.nil_iff(r:bc xs j):j=[]↔xs=[]:=by
 cases r with
 |nil=>simp
 |cons _ _=>simp
theorem IJ:je X (binaryOp .Add) (Oa X.K):=by intro pins s J H x y v u Q I g j h;obtain⟨a,b,xs,ys,rfl,rfl,k,f,c,n,m,d⟩:=h;cases g;cases j;obtain⟨t,e,p,_⟩:=I.tuple k;obtain⟨i,r,p2,_⟩:=I.tuple f;refine HT.Jt p p2 (λz=>c (e.nil_iff.mp z)) (λz=>⟨.ref a,H,I,rfl,m (r.nil_iff.mp z)⟩) (λz=>?_) (by rw[<- e.length,<- r.length];exact n);refine⟨.ref s.heap.objs.size,_,I.laid (t':=s.toks) (o:=.tup (xs++ys)) (λb l q=>aW _ q) (ak _) ?_,rfl,d (λw=>z (r.nil_iff.mpr w)) _ (I.h.fresh (ak _))⟩;exact⟨by rw[a_];exact n,_,e.append r,oO.new _ _⟩
end
noncomputable def Dy(n:Nat)(i:Int):Option Nat:=if 0≤i then (if i < n then some i.toNat else none) else if -(n:Int)≤i then some (i+n).toNat else none
variable{α:Type}
def atI(xs:List α)(i:Int):Option α:=(Dy xs.length i).bind λj=>xs[j]?
variable{n:Nat}
theorem B2{i:Int}(h:Dy n i=some q):seqIndex? i n=some q/\q < n/\-(n:Int)≤i/\i < n:=by
 unfold Dy at h;by_cases x:0≤i
 .rw [af x]at h;by_cases h1:i < n
  .rw [af h1]at h;have e:i.toNat=q:=cm h;exact⟨by rw[uT x h1,e],by lia,by lia,h1⟩
  .rw [ah h1]at h;cases h
 .rw [ah x]at h;by_cases h1:-(n:Int)≤i
  .rw [af h1]at h;have e:(i+n).toNat=q:=cm h;exact⟨by rw[xN (by lia) h1,e],by lia,h1,by lia⟩
  .rw [ah h1]at h;cases h
theorem wd{i:Int}(h:atI xs i=some v):∃j,seqIndex? i xs.length=some j/\xs[j]? = some v/\j < xs.length/\-(xs.length:Int)≤i/\i < xs.length:=by
 unfold atI at h;cases e:Dy xs.length i with
 |none=>rw[e]at h;cases h
 |some j=>rw[e]at h;obtain⟨h1,h2,x,a⟩:=B2 e;exact⟨j,h1,h,h2,x,a⟩
def nO(b:Expr):Prop:=∀o i,subscripted b false o i=operate [o,i] (getItem o i)
def GV(X:Cx)(r:R2):Prop:=
 ∀(value l:Expr)(pins:PN)(s:Shared)(J:St)(H:Hp)(x y:V)(v u:Value)(Q:VK),Inv X pins J H s->RelV x v->RelV y u->r x y H Q ->
  subscripted l false v u=operate [v,u] (getItem v u)->wx X (subscriptTail value l v u) (EP X pins J Q) X.xe s
def TQ(X:Cx)(id:String)(r:V->List V->Hp->VK->Prop):Prop:=
 ∀(pins:PN)(s:Shared)(J:St)(H:Hp)(x:V)(xs:List V)(v:Value)(j:LV)(Q:VK),Inv X pins J H s->RelV x v->bc xs j->r x xs H Q ->
  wx X (call (.builtin id) (v::j)) (EP X pins J Q) X.xe s
section
variable{X:Cx}{a b:Expr}{ta tb:TE}{B:Pos}
theorem GV.or(h:GV X r)(h':GV X z):GV X (λx y H Q=>r x y H Q\/z x y H Q):=by
 intro value l pins s J H x y v u Q I e n q a;rcases q with q|q
 .exact h value l pins s J H x y v u Q I e n q a
 .exact h' value l pins s J H x y v u Q I e n q a
theorem E7(f:GV X r)(n:PE X a ta)(k:PE X b tb)(c:nO b):PE X (.Subscript a b B) (K7 r ta tb):=by intro pins s J H Q I h;exact Subscript_ (MM n k I h λv u p x y H2 e m t q=>f a b pins p J H2 x y v u Q e m t q (c _ _))
def Rk(K:FG):R2:=λx y H Q=>∃p xs i v,x=.ref p/\y=.int i/\iT K H p xs/\atI xs i=some v/\Q v H
def Ri(K:FG):R2:=λx y H Q=>∃p xs i v,x=.ref p/\y=.int i/\nQ K H p xs/\atI xs i=some v/\Q v H
def Rj:R2:=λx y H Q=>∃z i c,x=.str z/\y=.int i/\z.length≤sizeLine/\atI z.cps.toList i=some c/\Q (.str ⟨#[c]⟩) H
theorem vx:GV X (Rk X.K):=by
 intro value c pins s J H x y v u Q I K P h m;obtain⟨p,xs,i,z,rfl,rfl,F,o,q⟩:=h;cases K;obtain⟨t,rfl⟩:=P;obtain⟨e,r,l,C⟩:=I.list F;obtain⟨j,h1,h2,A,d,g⟩:=wd o;obtain⟨w,k,n⟩:=r.get h2;have S:=r.length;have B:=kM;have f:EP X pins J Q w s:=⟨z,H,I,n,q⟩;by_cases b:0≤i
 .have a:i.toNat=j:=by
   rw[uT b g]at h1;exact cm h1
  exact item_listR l.isList b (by lia) (by rw[a];simpa using k) f m
 .have a:(i+(e.toArray.size:Int)).toNat=j:=by
   rw[xN (by lia) d]at h1;rw[bg,<- S];exact cm h1
  exact zX (x:=w) l.isList.typeIs Bc.lookup
   (wpAny_getItem_list_neg (Q:=λr s'=>r=w/\EP X pins J Q r s') l.isList (by lia) (by rw[bg]<;>lia) (by lia) (by rw[a];simpa using k) ⟨rfl,f⟩) m
theorem FI:GV X (Ri X.K):=by
 intro value l pins s J H x y v u Q I g o h m;obtain⟨p,xs,i,z,rfl,rfl,c,k,q⟩:=h;cases g;obtain⟨t,rfl⟩:=o;obtain⟨d,r,e,A⟩:=I.tuple c;obtain⟨j,h1,h2,S,F,K⟩:=wd k;obtain⟨w,n,a⟩:=r.get h2;have b:=r.length;have P:=kM;have f:EP X pins J Q w s:=⟨z,H,I,a,q⟩;exact zX (x:=w) e.typeIs jN.lookup
  (getItem_tuple (j:=j) (Q:=λr s'=>r=w/\EP X pins J Q r s') e (by lia) (by lia) (by rw[bg,<- b];exact h1) (by simpa using n) ⟨rfl,f⟩) m
theorem Me:GV X Rj:=by
 intro value l pins s J H x y v u Q I r p h m;obtain⟨z,i,c,rfl,rfl,g,f,q⟩:=h;obtain⟨t,rfl⟩:=r;obtain⟨o,rfl⟩:=p;obtain⟨j,h1,h2,d,n,k⟩:=wd f;have b:z.cps.toList.length=z.length:=by simp[mB]
 rw[b]at h1 n k;have w:=kM;exact pP (typeIs_str s z t) slot_str_getitem.lookup (getItem_str (c:=c) (by have e:decide (i < -(2 ^ 63:Int))=false:=bt (by lia);have a:decide (i ≥ 2 ^ 63)=false:=bt (by lia);rw[e,a,Bool.or_false]) (by rw[h1];simpa using h2) ⟨.str ⟨#[c]⟩,H,I.tok _,⟨_,rfl⟩,q⟩) m
theorem yA(i:LV)(n j:Nat)(u:Value):jM (·.setIfInBounds j u) { cls:=.type "list",data:=.seq i.toArray n }={ cls:=.type "list",data:=.seq (i.set j u).toArray n }:=by simp[jM]
theorem Inv.lst(I:Inv X pins J H s)(h:H p=some (.lst xs)) :
  ∃(i:LV)(n:Nat),bc xs i/\s.heap.get? p=some { cls:=.type "list",data:=.seq i.toArray n }/\xs.length≤sizeLine:=by
 obtain⟨z,i,n,r,e⟩:=I.h p _ h;exact⟨i,n,r,e,z⟩
theorem Inv.lstUpd{i:LV}(I:Inv X pins J H s)(h:H p=some (.lst xs))
  (o:s.heap.get? p=some { cls:=.type "list",data:=.seq i.toArray n }) (a:f { cls:=.type "list",data:=.seq i.toArray n }={ cls:=.type "list",data:=.seq z.toArray N }) (r:bc ys z) (c:ys.length≤sizeLine) (t:Nat) :
  Inv X pins J (b7 H p (.lst ys)) { s with heap:=s.heap.update p f,toks:=t }:=by
 have e:(s.heap.update p f).get? p=some { cls:=.type "list",data:=.seq z.toArray N }:=by rw[uu f o (by rw[a]<;>rfl),a]
 refine I.write (x:=p) (e:=p) (by rw[h];trivial) (.inl rfl) (λb u k q=>(Aj _ _ (aP k)).trans q) ⟨_,e⟩ ?_;exact⟨c,z,N,r,e⟩
def N_:V->V->V->Hp->(Hp->Prop)->Prop:=λo i v H Q=>∃p xs k j,o=.ref p/\i=.int k/\H p=some (.lst xs)/\Dy xs.length k=some j/\Q (b7 H p (.lst (xs.set j v)))
theorem Eu:PH X N_:=by
 intro pins s J H o i v F iv u Q I g w y h;obtain⟨p,xs,k,j,rfl,rfl,m,d,q⟩:=h;cases g;obtain⟨t,rfl⟩:=w;obtain⟨x,n,r,a,z⟩:=I.lst m;obtain⟨h1,h2,b,c⟩:=B2 d;have l:=r.length;have S:=kM;have e:Inv X pins J (b7 H p (.lst (xs.set j v))) { s with heap:=s.heap.update p (jM (·.setIfInBounds j u)) }:=
  I.lstUpd m a (yA x n j u) (r.set y j) (by rw[dw];exact z) s.toks
 by_cases f:0≤k
 .have hk:k.toNat=j:=by
   rw[uT f c]at h1;exact cm h1
  exact PySem.W.ki_setAt a f (by lia) (by rw[bg,<- l];exact c) (by rw[hk];exact⟨_,e,q⟩)
 .have hk:(k+(x.toArray.size:Int)).toNat=j:=by
   rw[xN (by lia) b]at h1;rw[bg,<- l];exact cm h1
  exact PySem.W.ki_setBack a (by lia) (by rw[bg,<- l];exact b) (by lia) (by rw[hk];exact⟨_,e,q⟩)
theorem u9(lo hi:Option Int)(n:Nat):(sliceBounds lo hi none n).1=((HT.eS n 0 lo:Nat):Int)/\(sliceBounds lo hi none n).2.1=((HT.eS n n hi:Nat):Int)/\(sliceBounds lo hi none n).2.2=1:=by
 refine⟨?_,?_,rfl⟩
 .cases lo with
  |none=>simp[sliceBounds,HT.eS]
  |some i=>
   simp only[sliceBounds,HT.eS,zN,show(1:Int) > 0 by decide,jT];by_cases h:i < 0
   .simp only[h,jT]<;>lia
   .simp only[h,jU]<;>lia
 .cases hi with
  |none=>simp[sliceBounds,HT.eS]
  |some i=>
   simp only[sliceBounds,HT.eS,zN,show(1:Int) > 0 by decide,jT];by_cases h:i < 0
   .simp only[h,jT]<;>lia
   .simp only[h,jU]<;>lia
theorem sm(i:LV)(lo hi:Option Int):slicePick i.toArray lo hi none=((i.drop (HT.eS i.length 0 lo)).take (HT.eS i.length i.length hi-HT.eS i.length 0 lo)).toArray:=by obtain⟨h1,h2,h⟩:=u9 lo hi i.toArray.size;unfold slicePick;rw[h1,h2,h];simp only[sliceRange_one,pick_run,bg]<;>rfl
def Rf(K:FG):V->Option Int->Option Int->Hp->VK->Prop:=λx lo hi H Q=>∃a xs,x=.ref a/\iT K H a xs/\∀p,H p=none->Q (.ref p) (b7 H p (.lst (xt xs lo hi)))
theorem Ia:Kk X (Rf X.K):=by intro pins s J H x v m d lo hi c Q I k e p u h;obtain⟨a,xs,rfl,n,q⟩:=h;cases k;obtain⟨i,r,t,z⟩:=I.list n;have l:=r.length;refine⟨"list",_,Bc.lookup,t.isList.typeIs,?_⟩;refine wpAny_getItem_list_slice t.isList e p u .none (by simp) ?_ (by rw[bg]<;>lia);rw[sm,<- l];refine⟨.ref s.heap.objs.size,_,I.laid (t':=s.toks) (o:=.lst (xt xs lo hi)) (λb f q=>aW _ q) (ak _) ?_,rfl,q _ (I.h.fresh (ak _))⟩;exact⟨aA (pa xs lo hi) z,_,0,(r.drop (HT.eS xs.length 0 lo)).take (HT.eS xs.length xs.length hi-HT.eS xs.length 0 lo),bx _ rfl⟩
theorem v_:dG X (.builtin "len") (λxs H Q=>∃p ys,xs=[.ref p]/\(iT X.K H p ys\/nQ X.K H p ys)/\Q (.int ys.length) H):=by
 intro pins s J H xs j Q I r h;obtain⟨p,ys,rfl,x,q⟩:=h;obtain⟨u,rfl,n⟩:=vals1 r;cases n;have k:=kM;rcases x with x|x
 .obtain⟨i,e,a,z⟩:=I.list x;have l:=e.length;exact Calls.call_len_list a.isList (by simp only[bg]<;>lia) ⟨.int ys.length,H,I.tok _,⟨s.toks+1,by rw[bg,l]⟩,q⟩
 .obtain⟨i,e,a,z⟩:=I.tuple x;have l:=e.length;exact len_tuple a (by simp only[bg]<;>lia) ⟨.int ys.length,H,I.tok _,⟨s.toks+1,by rw[bg,l]⟩,q⟩
theorem v9:dG X (.builtin "len") (λxs H Q=>∃z,xs=[.str z]/\z.length≤sizeLine/\Q (.int z.length) H):=by intro pins s J H xs j Q I r h;obtain⟨z,rfl,x,q⟩:=h;obtain⟨u,rfl,t,rfl⟩:=vals1 r;have n:=kM;exact len_str (by lia) ⟨.int z.length,H,I.tok _,⟨_,rfl⟩,q⟩
theorem dG.or(h:dG X f r)(h':dG X f z):dG X f (λxs H Q=>r xs H Q\/z xs H Q):=by
 intro pins s J H xs j Q I x q;rcases q with q|q
 .exact h pins s J H xs j Q I x q
 .exact h' pins s J H xs j Q I x q
theorem nD:dG X (.type "list") (λxs H Q=>∃p ys,xs=[.ref p]/\(iT X.K H p ys\/nQ X.K H p ys)/\∀l,H l=none->Q (.ref l) (b7 H l (.lst ys))):=by
 intro pins s J H xs j Q I r h;obtain⟨p,ys,rfl,k,q⟩:=h;obtain⟨u,rfl,w⟩:=vals1 r;cases w;have f:∀(i:LV),bc ys i->ys.length≤sizeLine->∀(h':Heap)(c:Nat),(∀b o',s.heap.get? b=some o'->h'.get? b=some o') ->
   h'.get? s.heap.objs.size=some { cls:=.type "list",dict:=none,data:=.seq i.toArray c,slots:=#[] }->EP X pins J Q (.ref s.heap.objs.size) { s with heap:=h' }:=λi x z h' c m e=>
  ⟨.ref s.heap.objs.size,_,I.laid (t':=s.toks) m (ak _) (show dq X.p X.w _ h' _ (.lst ys) from ⟨z,i,c,x,e⟩),rfl,q _ (I.h.fresh (ak _))⟩
 rcases k with k|k
 .obtain⟨i,x,d,z⟩:=I.list k;have a:=x.length;obtain⟨o,v,t,n,hd⟩:=d.isList;exact AV p (.inl rfl) v t hd (λh' c m e=>f i x z h' c m e) (by simp only[bg]<;>lia)
 .obtain⟨i,x,d,z⟩:=I.tuple k;have a:=x.length;obtain⟨o,v,t,n,hd⟩:=d;exact AV p (.inr rfl) v t hd (λh' c m e=>f i x z h' c m e) (by simp only[bg]<;>lia)
theorem lP:dG X (.type "tuple") (λxs H Q=>∃p ys,xs=[.ref p]/\((iT X.K H p ys/\∀l,H l=none->Q (.ref l) (b7 H l (.tup ys)))\/(nQ X.K H p ys/\Q (.ref p) H))):=by
 intro pins s J H xs j Q I r h;obtain⟨p,ys,rfl,h⟩:=h;obtain⟨u,rfl,t⟩:=vals1 r;cases t;rcases h with ⟨x,q⟩|⟨x,q⟩
 .obtain⟨i,n,a,z⟩:=I.list x;have f:=n.length;refine call_tuple_list a.isList (λh' m=>?_) (by simp only[bg]<;>lia);have k:Inv X pins J H { s with heap:=h' }:=I.kept (t':=s.toks) m;have c:Inv X pins J (b7 H h'.objs.size (.tup ys)) { s with heap:=h'.push { cls:=.type "tuple",data:=.seq i.toArray } }:=
   k.laid (t':=s.toks) (λb o e=>aW _ e) (ak _) (show dq X.p X.w _ _ _ (.tup ys) from ⟨z,i,n,oO.new _ _⟩)
  exact⟨.ref h'.objs.size,_,c,rfl,q _ (k.h.fresh (ak _))⟩
 .obtain⟨i,n,a,z⟩:=I.tuple x;exact call_tuple_same a ⟨.ref p,H,I,rfl,q⟩
def tyV(K:FG)(T:String)(x:V)(H:Hp):Prop:=match x with
 | .str _=>T="str"
 | .int _=>T="int"
 | .ref p=>(T="list"/\∃xs,iT K H p xs)\/(T="tuple"/\∃o,K.lookup p=some o/\o.cls=.type "tuple"/\o.dict=none) \/
   (T="dict"/\((∃kvs,H p=some (.dK kvs))\/∃kvs,H p=some (.dT kvs)))\/(T="set"/\∃S n,H p=some (.set S n))
 |_=>False
theorem KW(I:Inv X pins J H s)(r:RelV x v)(ty:tyV X.K T x H) :
  s.TypeIs v T/\∀a,v=.ref a->∃b,s.heap.get? a=some b/\b.dict=none:=by
 cases x with
 |str z=>obtain⟨t,rfl⟩:=r;cases (show T="str" from ty);exact⟨typeIs_str s z t,λ_ e=>nomatch e⟩
 |int i=>obtain⟨t,rfl⟩:=r;cases (show T="int" from ty);exact⟨qx s i t,λ_ e=>nomatch e⟩
 |ref p=>
  cases r;rcases ty with ⟨rfl,xs,q⟩|⟨rfl,o,hk,k,hd⟩|⟨rfl,hk⟩|⟨rfl,S,n,hk⟩
  .obtain⟨f,_,l,_⟩:=I.list q;refine⟨l.isList.typeIs,λa e=>?_⟩;cases e;obtain⟨o,n,e,c,hd,_⟩:=l;exact⟨o,e,hd⟩
  .refine⟨⟨o,I.kIn p o hk,k⟩,λa e=>?_⟩;cases e;exact⟨o,I.kIn _ o hk,hd⟩
  .have z:∃o,s.heap.get? p=some o/\o.ExactDict:=by
    rcases hk with ⟨kvs,hk⟩|⟨kvs,hk⟩
    .obtain⟨_,_,_,_,o,_,_,e,ex,_⟩:=I.h p _ hk;exact⟨o,e,ex⟩
    .obtain⟨_,_,_,_,o,_,_,e,ex,_⟩:=I.h p _ hk;exact⟨o,e,ex⟩
   obtain⟨o,e,ex⟩:=z;refine⟨⟨o,e,ex.1⟩,λa h=>?_⟩;cases h;exact⟨o,e,ex.2.1⟩
  .obtain⟨o,_,_,_,e,ex,_⟩:=I.h p _ hk;refine⟨⟨o,e,ex.1⟩,λa h=>?_⟩;cases h;exact⟨o,e,ex.2.1⟩
 |_=>exact False.elim ty
noncomputable def S7(K:FG)(T:String)(r:V->List V->Hp->VK->Prop)(to:TE)(t:TA):TE:=λJ H Q=>to J H λx G=>tyV K T x G/\t J G λxs H2=>r x xs H2 Q
variable{o e:Expr}{es:Ab}{to:TE}{t:TA}{name:Str}{apos cpos:Pos}{T id:String}{r:V->List V->Hp->VK->Prop}
theorem JQ(w:PlainAttrs T)(slot:Slot T name id)(y:typeOf (.builtin id)=pure (.type "method_descriptor"))(m:TQ X id r)(q:PE X o to)(c:PA X (e::es) t)
  (b:attributeBase o name X.e (eval o X.e)=eval o X.e:=by rfl)
  (f:((backTo cpos (starEach (e::es) X.e)).all (fun x=>!x.1) && (backToKw cpos (keywordEach [] X.e)).all (fun x=>x.1.isSome)
   && decide ((e::es).length+([]:List Keyword).length+(if ([]:List Keyword).isEmpty then 0 else 1) < 30))=true:=by rfl)
  (l:(apos.endLine == cpos.line)=true:=by rfl) (d:starEach (e::es) X.e=(false,eval e X.e)::starEach es X.e:=by rfl) (p:(backTo cpos (starEach es X.e)).any (·.1)=false:=by rfl) :
  PE X (.Call (.Attribute o name apos) (e::es) [] cpos) (S7 X.K T r to t):=by
 intro pins s J H Q I h;refine DI b f l rfl (cN (q pins s J H _ I h) λv S z=>?_);obtain⟨x,G,a,n,ty,u⟩:=z;obtain⟨h1,h2⟩:=KW a n ty;refine⟨T,id,w,slot,y,h1,h2,?_⟩;have A:=c cpos pins S J G _ a u;rw[d]at A ⊢;refine mF (by show(false ||(backTo cpos (starEach es X.e)).any (·.1))=false;rw[p]<;>rfl) (mE ?_);exact cN A λj F z=>by obtain⟨K,H2,k,i,g⟩:=z;exact m pins F J H2 x K v j Q k n i g
end
def SA(X:Cx)(id:String)(r:V->List V->Hp->VK->Prop):Prop:=
 ∀(pins:PN)(s:Shared)(J:St)(H:Hp)(x:V)(xs:List V)(v:Value)(j:LV)(Q:VK),Inv X pins J H s->RelV x v->bc xs j->r x xs H Q ->
  wx X (call (.builtin id) (v::j)) (EP X pins J Q) X.xe s
theorem bc.one:∀{x:V}{j:LV},bc [x] j->∃u,j=[u]/\RelV x u
 |_,_,.cons r .nil=>⟨_,rfl,r⟩
theorem bc.rep(h:bc xs j):∀k:Nat,bc (List.replicate k xs).flatten (List.replicate k j).flatten
 |0=>.nil
 |k+1=>by rw[cJ,cJ,gP,gP];exact bc.append h (bc.rep h k)
theorem foldl_rep(i:LV):∀(k:Nat)(a:LV),
  pT (λx s=>x++s) a.toArray (List.replicate k i.toArray)=(a++(List.replicate k i).flatten).toArray
 |0,a=>by simp
 |k+1,a=>by
  have e:a.toArray++i.toArray=(a++i).toArray:=by simp
  have h:(a++i)++(List.replicate k i).flatten=a++(List.replicate (k+1) i).flatten:=by rw[cJ,gP,fg]
  rw[<- h,<- foldl_rep i k (a++i),<- e,cJ,fW]
section
variable{X:Cx}{pins:PN}{J:St}{H:Hp}{s:Shared}{l b:Addr}{xs ys zs:List V}
theorem Inv.lset{i:LV}{t:Nat}(I:Inv X pins J H s)(h:H l=some (.lst xs))
  (e:s.heap.get? l=some { cls:=.type "list",data:=.seq i.toArray n }) (a:f i.toArray=z.toArray) (v:bc ys z) (c:ys.length≤sizeLine) :
  Inv X pins J (b7 H l (.lst ys)) { s with heap:=s.heap.update l (jM f),toks:=t }:=by
 have q:=PySem.IsL.update e f;rw[a]at q;refine I.write (x:=l) (e:=l) (by rw[h];exact trivial) (.inl rfl) (λm u b k=>(Aj s.heap (jM f) (aP b)).trans k) ⟨_,q⟩ ?_;exact⟨c,z,_,v,q⟩
theorem Inv.lnew{t:Nat}(I:Inv X pins J H s)(h:bc ys z)(x:ys.length≤sizeLine) :
  Inv X pins J (b7 H s.heap.objs.size (.lst ys)) { s with heap:=s.heap.push { cls:=.type "list",data:=.seq z.toArray },toks:=t }:=
 I.laid (λ_ _ q=>aW _ q) (ak _) ⟨x,z,0,h,bx _ rfl⟩
theorem Inv.fresh(I:Inv X pins J H s):H s.heap.objs.size=none:=I.h.fresh (ak _)
theorem Inv.lstM(I:Inv X pins J H s)(h:H l=some (.lst xs)):xs.length≤sizeLine/\∃(i:LV)(n:Nat),bc xs i/\xs.length=i.length/\s.heap.get? l=some { cls:=.type "list",data:=.seq i.toArray n }:=by obtain⟨z,i,n,r,e⟩:=I.h l _ h;exact⟨z,i,n,r,r.length,e⟩
theorem wQ(h:n≤sizeLine):pI n=false:=by unfold pI;exact bt (by lia)
end
section
variable{X:Cx}
def Il:V->List V->Hp->VK->Prop:=λx v H Q=>∃l xs y,x=.ref l/\v=[y]/\H l=some (.lst xs)/\xs.length < sizeLine/\Q .non (b7 H l (.lst (xs++[y])))
theorem s_:SA X "list.append" Il:=by intro pins s J H x t v j Q I b f h;obtain⟨l,xs,y,rfl,rfl,a,m,q⟩:=h;cases b;obtain⟨u,rfl,k⟩:=f.one;obtain⟨z,i,n,r,c,e⟩:=I.lstM a;refine iC zA ⟨_,e,rfl⟩ F.entry_list_append (F.args_list_append_2 _ _) (PySem.list_append l i.toArray n u (by rw[bg];lia)) ⟨e,?_⟩;refine⟨.non,_,I.lset (z:=i++[u]) a e (by simp) (r.append (.cons k .nil)) ?_,rfl,q⟩;rw[a_,p6];lia
def Ik:V->List V->Hp->VK->Prop:=λx v H Q=>∃l b xs zs,x=.ref l/\v=[.ref b]/\H l=some (.lst xs)/\H b=some (.lst zs)/\xs.length+zs.length≤sizeLine/\Q .non (b7 H l (.lst (xs++zs)))
theorem C0:SA X "list.extend" Ik:=by
 intro pins s J H x K v j Q I g w h;obtain⟨l,b,xs,zs,rfl,rfl,k,B,S,q⟩:=h;cases g;obtain⟨u,rfl,d⟩:=w.one;cases d;obtain⟨z,t,n,r,y,e⟩:=I.lstM k;obtain⟨P,i,m,p,c,f⟩:=I.lstM B;have a:t.toArray.size+i.toArray.size≤sizeLine:=by rw[bg,bg];lia
 have o:¬(!t.toArray.isEmpty && pI (t.toArray.size+i.toArray.size))=true:=by rw[wQ a,Bool.and_false];exact bC
 refine iC zB ⟨_,e,rfl⟩ F.entry_list_extend (F.args_list_extend_2 _ _)
  (AutoSeq1.list_extend_list_list_0 l t.toArray n b i.toArray m o (by rw[bg];lia) (by lia)) ⟨e,f,?_⟩
 refine⟨.non,_,I.lset (z:=t++i) k e (by simp) (r.append p) ?_,rfl,q⟩;rw[a_];lia
def Rl:R2:=λx y H Q=>∃l b xs zs,x=.ref l/\y=.ref b/\H l=some (.lst xs)/\H b=some (.lst zs)/\xs.length+zs.length≤sizeLine/\∀p,H p=none->Q (.ref p) (b7 H p (.lst (xs++zs)))
theorem LM:je X (binaryOp .Add) Rl:=by
 intro pins s J H x y v u Q I p d h;obtain⟨l,b,xs,zs,rfl,rfl,f,B,g,q⟩:=h;cases p;cases d;obtain⟨z,t,n,r,w,e⟩:=I.lstM f;obtain⟨o,i,j,m,c,a⟩:=I.lstM B;refine PySem.P.add_list e a ?_ (by rw[bg,bg];lia);have k:t.toArray++i.toArray=(t++i).toArray:=by simp
 rw[k];exact⟨.ref _,_,I.lnew (t:=s.toks) (r.append m) (by rw[a_];lia),rfl,q _ I.fresh⟩
def Rg:R2:=λx y H Q=>∃l k xs,x=.ref l/\y=.int k/\H l=some (.lst xs)/\-(2 ^ 63)≤k/\k < 2 ^ 63/\xs.length * k.toNat≤sizeLine /\
 ∀p,H p=none->Q (.ref p) (b7 H p (.lst (List.replicate k.toNat xs).flatten))
theorem IV(xs:List α)(k:Nat):(List.replicate k xs).flatten.length=k * xs.length:=by
 induction k with
 |zero=>simp
 |succ k i=>rw[cJ,gP,a_,i,mG,um]
theorem LI:je X (binaryOp .Mult) Rg:=by
 intro pins s J H x y v u Q I P A h;obtain⟨l,k,xs,rfl,rfl,S,h1,h2,g,q⟩:=h;cases P;obtain⟨t,rfl⟩:=A;obtain⟨z,i,n,r,K,e⟩:=I.lstM S;have b:i.toArray.size * k.toNat≤sizeLine:=by rw[bg,<- K];exact g
 have c:¬i.toArray.size * k.toNat > (2 ^ 63-1) / 8:=by
  have:(sizeLine:Nat)≤(2 ^ 63-1) / 8:=by decide
  lia
 have f:¬(!Builtin.List.listFitsIndex k)=true:=by rw[fitsIndex_both h1 h2];exact bC
 have o:¬pI (i.toArray.size * k.toNat)=true:=by rw[wQ b];exact bC
 have w:pT (λp d=>p++d) #[] (List.replicate (if i.toArray.isEmpty=true then 0 else k.toNat) i.toArray)=(List.replicate k.toNat i).flatten.toArray:=by
  have j:∀m:Nat,pT (λp d=>p++d) #[] (List.replicate m i.toArray)=(List.replicate m i).flatten.toArray:=λm=>by have:=foldl_rep i m [];rw[eD]at this;exact this
  rw[j];cases i with
  |nil=>simp
  |cons a B=>rw[ah (by simp)]
 refine DK (T:="list") (U:="int") (by decide) ⟨_,e,rfl⟩ (λs'=>qx s' k t) noFill_list_mul zw pL repeat_list zy.lookup
  (iC pL (qx s k t) zx (zz _ _) (int___rmul___int_list k t l i.toArray n)
   ⟨e,rfl,⟨_,e,rfl⟩,iC F.slot_list_mul ⟨_,e,rfl⟩ F.entry_list_mul (F.args_list_mul_2 _ _) (AutoListH.list___mul___list_int_3 l i.toArray n k t f c o) ⟨e,?_⟩⟩)
 rw[w];exact⟨.ref _,_,I.lnew (t:=s.toks) (r.rep k.toNat) (by rw[IV,jP];exact g),rfl,q _ I.fresh⟩
end
section
variable{κ:Type}[DecidableEq κ]
noncomputable def g7(kvs:List (κ×V))(k:κ):Option V:=(kvs.find? λv=>decide (v.1=k)).map (·.2)
noncomputable def putK(kvs:List (κ×V))(k:κ)(v:V):List (κ×V):=
 if (kvs.any λh=>decide (h.1=k))=true then kvs.map (λh=>if h.1=k then (h.1,v) else h) else kvs++[(k,v)]
theorem iD{p:κ×V}{r:List (κ×V)}{k:κ}(e:p.1=k):g7 (p::r) k=some p.2:=by simp[g7,i0,e]
theorem g6{p:κ×V}{r:List (κ×V)}{k:κ}(e:¬p.1=k):g7 (p::r) k=g7 r k:=by simp[g7,i0,e]
theorem ww(k:κ):∀kvs:List (κ×V),(kvs.any λv=>decide (v.1=k))=(g7 kvs k).isSome
 | []=>rfl
 |p::r=>by
  rw[cT];by_cases e:p.1=k
  .simp only[iD e,gO e,Bool.true_or,Option.isSome_some]
  .rw [g6 e,bt e,lp];exact ww k r
theorem kN(kvs:List (κ×V))(k:κ)(v:V):(putK kvs k v).length≤kvs.length+1:=by
 unfold putK;split
 .rw [aU];lia
 .rw [a_,aR,mN];lia
theorem kF.isSome_eq(r:kF o u):o.isSome=u.isSome:=by
 cases o with
 |none=>cases u with
  |none=>rfl
  |some _=>exact(show False from r).elim
 |some _=>cases u with
  |none=>exact(show False from r).elim
  |some _=>rfl
theorem kF.getD(r:kF o u)(h:RelV d q):RelV (o.getD d) (u.getD q):=by
 cases o with
 |none=>cases u with
  |none=>exact h
  |some _=>exact(show False from r).elim
 |some _=>cases u with
  |none=>exact(show False from r).elim
  |some _=>exact r
theorem KV.val{kvs:List (κ×V)}{v:List (κ×Value)}(r:KV kvs v)(k:κ):kF (g7 kvs k) (valueAt v k):=by
 unfold KV at r;induction r with
 |nil=>exact True.intro
 | @cons p q ps qs h t i=>
  obtain⟨h1,h2⟩:=h;by_cases e:p.1=k
  .have x:q.1=k:=h1.symm.trans e;have b:valueAt (q::qs) k=some q.2:=by simp[valueAt,i0,x]
   rw[iD e,b];exact h2
  .have x:¬q.1=k:=λz=>e (h1.trans z);have b:valueAt (q::qs) k=valueAt qs k:=by simp[valueAt,i0,x]
   rw[g6 e,b];exact i
theorem KV.any(r:KV kvs q)(k:κ):(kvs.any λv=>decide (v.1=k))=q.any λv=>decide (v.1=k):=by
 unfold KV at r;induction r with
 |nil=>rfl
 |cons h t i=>rw[cT,cT,i,h.1]
theorem KV.repl(r:KV kvs I)(k:κ)(x:RelV y u) :
  KV (kvs.map λv=>if v.1=k then (v.1,y) else v) (I.map λv=>if v.1=k then (v.1,u) else v):=by
 unfold KV at r ⊢;induction r with
 |nil=>exact .nil
 | @cons p q ps qs h t i=>
  rw[aC,aC];refine .cons ?_ i;obtain⟨h1,h2⟩:=h;by_cases e:p.1=k
  .rw [af e,af (h1.symm.trans e)];exact⟨h1,x⟩
  .rw [ah e,ah (λz=>e (h1.trans z))];exact⟨h1,h2⟩
theorem KV.put(r:KV kvs q)(k:κ)(h:RelV y u):KV (putK kvs k y) (stored q k u):=by
 unfold putK stored;rw[r.any k];by_cases e:(q.any λv=>decide (v.1=k))=true
 .rw [af e,af e];exact r.repl k h
 .rw [ah e,ah e];exact Paired.snoc r ⟨rfl,h⟩
theorem KV.length(r:KV kvs q):kvs.length=q.length:=Paired.length r
end
variable{w:World}{u:Value}
theorem oW(r:RelV (kV k) u):(cq P w).is k u=true:=by
 cases k with
 |inl i=>obtain⟨t,e⟩:=(show ∃t,u=Value.int i t from r);subst e;exact wV P w i t
 |inr x=>obtain⟨t,e⟩:=(show ∃t,u=Value.str x t from r);subst e;exact wU P w x t
theorem tq:∀{ks:List cg}{j:LV},bc (ks.map kV) j->ItemsAre (cq P w) ks j
 | [],_,r=>by rw[eC]at r;cases r;exact .nil
 |k::ks,_,r=>by
  rw[aC]at r;cases r with
  |cons h t=>exact .cons (oW h) (tq t)
abbrev KT(H:Hp):List (List cg×V)->List (List cg×Addr×Value)->Prop:=Paired λp q=>p.1=q.1/\H q.2.1=some (.tup (p.1.map kV))/\RelV p.2 q.2.2
theorem KT.val{H:Hp}{kvs:List (List cg×V)}{xs:List (List cg×Addr×Value)}(r:KT H kvs xs)(k:List cg):kF (g7 kvs k) ((atKey xs k).map (·.2)):=by
 induction r with
 |nil=>exact True.intro
 | @cons p q ps qs h t i=>
  obtain⟨h1,_,h2⟩:=h;by_cases e:p.1=k
  .have x:q.1=k:=h1.symm.trans e;have b:atKey (q::qs) k=some q.2:=by simp[atKey,i0,x]
   rw[iD e,b];exact h2
  .have x:¬q.1=k:=λz=>e (h1.trans z);have b:atKey (q::qs) k=atKey qs k:=by simp[atKey,i0,x]
   rw[g6 e,b];exact i
variable{H:Hp}{kvs:List (List cg×V)}{xs:List (List cg×Addr×Value)}{y:V}
theorem KT.repl(r:KT H kvs xs)(k:List cg)(a:RelV y u) :
  KT H (kvs.map λv=>if v.1=k then (v.1,y) else v) (xs.map (putAt k u)):=by
 induction r with
 |nil=>exact .nil
 | @cons p q ps qs h t i=>
  rw[aC,aC];refine .cons ?_ i;obtain⟨h1,h2,x⟩:=h;unfold putAt;by_cases e:p.1=k
  .rw [af e,af (h1.symm.trans e)];exact⟨h1,h2,a⟩
  .rw [ah e,ah (λz=>e (h1.trans z))];exact⟨h1,h2,x⟩
theorem KT.put(r:KT H kvs xs)(k:List cg)(x:H b=some (.tup (k.map kV)))(h:RelV y u) :
  KT H (putK kvs k y) (storedH xs k b u):=by
 have e:(kvs.any λv=>decide (v.1=k))=(atKey xs k).isSome:=by rw[ww,(r.val k).isSome_eq,zO]
 unfold putK storedH;rw[e];by_cases q:(atKey xs k).isSome=true
 .rw [af q,af q];exact r.repl k h
 .rw [ah q,ah q];exact Paired.snoc r ⟨rfl,x,h⟩
theorem KT.keeps(r:KT H kvs xs)(h:∀b ys,H b=some (.tup ys)->H' b=some (.tup ys)):KT H' kvs xs:=
 Paired.mapP r λ_ _ z=>⟨z.1,h _ _ z.2.1,z.2.2⟩
section
variable{P:Program}{w:World}{H:Hp}{h:Heap}{a:Addr}
theorem rd_of{u:HO}(ok:jt P w H h)(e:Rd H a u):dq P w H h a u:=e.ok ok
theorem tz{kvs:List (cg×V)}(ok:jt P w H h)(e:Rd H a (.dK kvs)):kvs.length≤sizeLine/\(a == sysModules)=false/\∃vs,KV kvs vs/\h.DictOf (cq P w) a vs:=
 show dq P w H h a (.dK kvs) from rd_of ok e
theorem Kf{kvs:List (cg×V)}(ok:jt P w H h)(e:H a=some (.dK kvs)):kvs.length≤sizeLine/\(a == sysModules)=false/\∃v,KV kvs v/\h.DictOf (cq P w) a v:=tz ok (.inl e)
theorem oB(ok:jt P w H h)(e:H a=some (.tup (ks.map kV))):(tupleKind (cq P w)).is h ks a:=by obtain⟨_,i,r,o,h1,⟨h2,n,x⟩,_⟩:=(show dq P w H h a (.tup (ks.map kV)) from ok a _ e);exact⟨o,i.toArray,n,h1,h2,x,by simpa using tq r⟩
theorem tw(ok:jt P w H h)(e:Rd H a (.dT kvs)):kvs.length≤sizeLine/\(a == sysModules)=false /\
  ∃xs,KT H kvs xs/\h.DictOfH (tupleKind (cq P w)) a xs:=by
 obtain⟨z,y,xs,r,o,es,k,h1,h2,f,b,c⟩:=(show dq P w H h a (.dT kvs) from rd_of ok e);refine⟨z,y,xs,r,o,es,k,h1,h2,f,b,λx s=>?_,c⟩;have all:∀{l:List (List cg×V)}{m:List (List cg×Addr×Value)},KT H l m->∀x ∈ m,(tupleKind (cq P w)).is h x.1 x.2.1:=by
  intro l m q;induction q with
  |nil=>intro x s;exact nomatch s
  | @cons p q ps qs n t i=>
   intro x s;rcases aL.mp s with e|s
   .subst e;exact oB ok (by rw[<- n.1];exact n.2.1)
   .exact i x s
 exact all r x s
theorem Pb(ok:jt P w H h)(e:H a=some (.dT kvs)):kvs.length≤sizeLine/\(a == sysModules)=false /\
  ∃xs,KT H kvs xs/\h.DictOfH (tupleKind (cq P w)) a xs:=tw ok (.inl e)
end
def ko(H:Hp)(a:Addr)(y:V)(r:Option V):Prop:=
 (∃kvs k,Rd H a (.dK kvs)/\y=kV k/\r=g7 kvs k)\/∃kvs k b,Rd H a (.dT kvs)/\y=.ref b/\H b=some (.tup (k.map kV))/\r=g7 kvs k
def xK(H:Hp)(a:Addr)(y v:V)(H':Hp):Prop:=
 (∃kvs k,H a=some (.dK kvs)/\y=kV k/\kvs.length < sizeLine/\H'=b7 H a (.dK (putK kvs k v))) \/
 ∃kvs k b,H a=some (.dT kvs)/\y=.ref b/\H b=some (.tup (k.map kV))/\kvs.length < sizeLine/\H'=b7 H a (.dT (putK kvs k v))
theorem ko.k{H:Hp}{a:Addr}{kvs:List (cg×V)}{k:cg}(e:H a=some (.dK kvs)):ko H a (kV k) (g7 kvs k):=.inl ⟨kvs,k,.inl e,rfl,rfl⟩
theorem ko.t{H:Hp}{a b:Addr}{kvs:List (List cg×V)}{k:List cg}(e:H a=some (.dT kvs))(h:H b=some (.tup (k.map kV))):ko H a (.ref b) (g7 kvs k):=.inr ⟨kvs,k,b,.inl e,rfl,h,rfl⟩
theorem xK.k{H:Hp}{a:Addr}{kvs:List (cg×V)}{k:cg}{v:V}(e:H a=some (.dK kvs))(h:kvs.length < sizeLine):xK H a (kV k) v (b7 H a (.dK (putK kvs k v))):=.inl ⟨kvs,k,e,rfl,h,rfl⟩
theorem xK.t{H:Hp}{a b:Addr}{kvs:List (List cg×V)}{k:List cg}{v:V}(e:H a=some (.dT kvs))(h:H b=some (.tup (k.map kV)))(l:kvs.length < sizeLine) :
  xK H a (.ref b) v (b7 H a (.dT (putK kvs k v))):=.inr ⟨kvs,k,b,e,rfl,h,l,rfl⟩
section
variable{X:Cx}{pins:PN}{J:St}{H:Hp}{s:Shared}{a:Addr}{y v:V}{u r:Value}{o:Option V}{A:Around}{E:VP}
theorem Inv.big(I:Inv X pins J H s):sysModules < s.heap.objs.size:=by have h:mainGlobals < s.heap.objs.size:=(I.mod.glob.keeps I.bk).lt;exact lb (by decide) h
theorem tB(q:A.units+1 < cLine)(I:Inv X pins J H s)(g:ko H a y (some v))(c:RelV y u)(h:∀x s',Inv X pins J H s'->RelV v x->Q x s') :
  wpAny (model X.p X.w) A (getItem (.ref a) u) Q E s:=by
 rcases g with ⟨kvs,k,e,n,l⟩|⟨kvs,k,b,e,n,m,l⟩
 .subst n;obtain⟨z,hd,i,r,d⟩:=tz I.h e;obtain⟨x,hw,w⟩:=kF.some_of (v:=v) (o:=valueAt i k) (by rw[l];exact r.val k);exact wpAny_getItem_of (oW c) d.mapOf hw (h x _ (I.tok _) w)
 .subst n;cases (show u=Value.ref b from c);obtain⟨z,hd,xs,r,d⟩:=tw I.h e;obtain⟨x,hw,w⟩:=kF.some_of (v:=v) (o:=(atKey xs k).map (·.2)) (by rw[l];exact r.val k);obtain⟨p,t,f⟩:=eA.mp hw;refine wpAny_getItem_heap (qD q) (oB I.h m) d t ?_;rw[f];exact h x _ (I.tok _) w
theorem RV(c:A.units+1 < cLine)(I:Inv X pins J H s)(g:ko H a y o)(n:RelV y u)(h:∀s',Inv X pins J H s'->Q (.bool o.isSome) s') :
  wpAny (model X.p X.w) A (compareOp .In u (.ref a)) Q E s:=by
 rcases g with ⟨kvs,k,e,x,l⟩|⟨kvs,k,b,e,x,f,l⟩
 .subst x;obtain⟨z,hd,v,r,d⟩:=tz I.h e;refine wpAny_in_of (oW n) hd d.mapOf ?_;rw[<- (r.val k).isSome_eq,<- l];exact h _ (I.tok _)
 .subst x;cases (show u=Value.ref b from n);obtain⟨z,hd,xs,r,d⟩:=tw I.h e;refine wpAny_in_heap (qD c) (oB I.h f) hd d ?_;have q:=(r.val k).isSome_eq;rw[zO]at q;rw[<- q,<- l];exact h _ (I.tok _)
theorem qk{t:Nat}(I:Inv X pins J H s)(m:PM (H a))(f:eB a s.heap h')(k:∃q,h'.get? a=some q)(n:dq X.p X.w (b7 H a N) h' a N) :
  Inv X pins J (b7 H a N) { s with heap:=h',toks:=t }:=
 I.write (x:=a) (e:=a) m (.inl rfl) (λb q h z=>(f.2 b h).trans z) k n
theorem Gg{P:Program}{w:World}{H':Hp}{h':Heap}{kvs:List (cg×V)}{v:List (cg×Value)}(z:kvs.length≤sizeLine)(hd:(a == sysModules)=false)(r:KV kvs v)(d:h'.DictOf (cq P w) a v) :
  dq P w H' h' a (.dK kvs):=⟨z,hd,v,r,d⟩
theorem Di{H':Hp}{Q:Unit->Shared->Prop}(hu:A.units+1 < cLine)(I:Inv X pins J H s)(g:xK H a y v H')(ry:RelV y u)(rv:RelV v r)(h:∀s',Inv X pins J H' s'->Q () s') :
  wpAny (model X.p X.w) A (setItem (.ref a) u r) Q E s:=by
 rcases g with ⟨kvs,k,e,ey,l,eH⟩|⟨kvs,k,b,e,ey,eb,l,eH⟩
 .subst ey eH;obtain⟨z,hd,vs,rel,dd⟩:=Kf I.h e;have hz:vs.length≤sizeLine:=by rw[<- rel.length];exact z
  have hl:(putK kvs k v).length≤sizeLine:=by have:=kN kvs k v;lia
  refine wpAny_setItem_pairs (hsz:=hz) (oW ry) dd λh' dd' hs=>h _ ?_;have he:∃q,h'.get? a=some q:=let ⟨q,_,_,hq,_⟩:=dd';⟨q,hq⟩
  exact qk I (by rw[e];exact True.intro) hs he (Gg hl hd (rel.put k rv) dd')
 .subst ey eH;cases (show u=Value.ref b from ry);obtain⟨z,hd,xs,rel,dd⟩:=Pb I.h e;have hz:xs.length≤sizeLine:=by rw[<- Paired.length rel];exact z
  have hl:(putK kvs k v).length≤sizeLine:=by have:=kN kvs k v;lia
  refine Bg (hsz:=hz) (qD hu) (oB I.h eb) dd λh' dd' hs=>h _ ?_;obtain⟨q,es,ep,hq,h2,h3,h4,_,h5⟩:=dd';refine qk I (by rw[e];exact True.intro) hs ⟨q,hq⟩ ⟨hl,hd,_,(rel.put k eb rv).keeps λc ys ec=>?_,q,es,ep,hq,h2,h3,h4,h5⟩;rw[ao (OH ec e (λz=>nomatch z))];exact ec
end
noncomputable def N9(td ty tv:TE):TS:=λD J H=>tv J H λv G=>td J G λx H2=>ty J H2 λy e=>∃a h,x=.ref a/\xK e a y v h/\D.nx J h
section
variable{X:Cx}{o i e value:Expr}{B pos' tpos:Pos}{td ty tv:TE}
theorem BH(t:X.A.units+1 < cLine)(c:PE X o td)(hi:PE X i ty)(p:PE X value tv)(m:swapsWith value (some (.Subscript o i pos')) B.line X.e=pure false) :
  PS X (.Assign [.Subscript o i pos'] value B) (N9 td ty tv):=by
 intro pins s J H D I h;refine DH (cN (p pins s J H _ I h) λr F ⟨v,G,n,j,q⟩=>cN (c pins F J G _ n q) λu K ⟨x,H2,k,l,d⟩=>cN (hi pins K J H2 _ k d) λiv A z=>?_) m;obtain⟨y,P,f,S,a,e,ex,g,w⟩:=z;subst ex;obtain rfl:u=Value.ref a:=l;exact Di t f g S j λC b=>⟨J,e,b,w⟩
end
theorem Gh(h:Heap)(b:sysModules < h.objs.size):dq P w H (h.push { cls:=.type "dict",data:=.dict #[] }) h.objs.size (.dK []):=
 ⟨cH _,iY.mpr (aP (bf b)),[],.nil,Heap.DictOf.new h⟩
theorem Gf(h:Heap)(b:sysModules < h.objs.size):dq P w H (h.push { cls:=.type "dict",data:=.dict #[] }) h.objs.size (.dT []):=
 ⟨cH _,iY.mpr (aP (bf b)),[],.nil,_,#[],0,bx _ rfl,⟨rfl,rfl,rfl⟩,rfl,rfl,pV⟩
def K9:TE:=λ_ H Q=>∀p,H p=none->Q (.ref p) (b7 H p (.dK []))
def K8:TE:=λ_ H Q=>∀p,H p=none->Q (.ref p) (b7 H p (.dT []))
section
variable{X:Cx}{B:Pos}
theorem E_:PE X (.Dict [] [] B) K9:=λpins s J H Q I h=>
 A5 ⟨.ref s.heap.objs.size,_,I.laid (a:=s.heap.objs.size) (o:=.dK []) (t':=s.toks) (λ_ _ q=>aW _ q) (ak _) (Gh s.heap I.big),rfl,h _ (I.h.fresh (ak _))⟩
theorem E9:PE X (.Dict [] [] B) K8:=λpins s J H Q I h=>
 A5 ⟨.ref s.heap.objs.size,_,I.laid (a:=s.heap.objs.size) (o:=.dT []) (t':=s.toks) (λ_ _ q=>aW _ q) (ak _) (Gf s.heap I.big),rfl,h _ (I.h.fresh (ak _))⟩
end
structure M1(X:Cx)(o:Expr)(m:Str)(apos:Pos)(e:Expr)(cpos:Pos):Prop where
 base:attributeBase o m X.e (eval o X.e)=eval o X.e
 few:((backTo cpos (starEach [e] X.e)).all (fun x=>!x.1) && (backToKw cpos (keywordEach [] X.e)).all (fun x=>x.1.isSome)
  && decide (([e]:Ab).length+([]:List Keyword).length+(if ([]:List Keyword).isEmpty then 0 else 1) < 30))=true
 line:(apos.endLine == cpos.line)=true
 trees:backTo cpos (starEach [e] X.e)=[(false,eval e X.e)]
structure M2(X:Cx)(o:Expr)(m:Str)(apos:Pos)(e f:Expr)(cpos:Pos):Prop where
 base:attributeBase o m X.e (eval o X.e)=eval o X.e
 few:((backTo cpos (starEach [e,f] X.e)).all (fun x=>!x.1) && (backToKw cpos (keywordEach [] X.e)).all (fun x=>x.1.isSome)
  && decide (([e,f]:Ab).length+([]:List Keyword).length+(if ([]:List Keyword).isEmpty then 0 else 1) < 30))=true
 line:(apos.endLine == cpos.line)=true
 trees:backTo cpos (starEach [e,f] X.e)=[(false,eval e X.e),(false,eval f X.e)]
def R_(H:Hp)(a:Addr):Prop:=(∃kvs,Rd H a (.dK kvs))\/∃kvs,Rd H a (.dT kvs)
variable{pins:PN}{J:St}{s:Shared}
theorem yL(I:Inv X pins J H s)(d:R_ H a) :
  s.TypeIs (.ref a) "dict"/\(∀b,Value.ref a=.ref b->∃o,s.heap.get? b=some o/\o.dict=none)/\(a == sysModules)=false:=by
 rcases d with ⟨kvs,e⟩|⟨kvs,e⟩
 .obtain⟨_,hd,v,_,h⟩:=tz I.h e;refine⟨h.typeIs,λb q=>?_,hd⟩;cases q;obtain⟨o,_,_,h1,h2,_⟩:=h;exact⟨o,h1,h2.2.1⟩
 .obtain⟨_,hd,xs,_,h⟩:=tw I.h e;refine⟨h.typeIs,λb q=>?_,hd⟩;cases q;obtain⟨o,_,_,h1,h2,_⟩:=h;exact⟨o,h1,h2.2.1⟩
section
variable{X:Cx}{pins:PN}{J:St}{H:Hp}{s:Shared}{a:Addr}{y d:V}{u r:Value}{o:Option V}{A:Around}{E:VP}
theorem Mw(c:A.units+1 < cLine)(I:Inv X pins J H s)(g:ko H a y o)(n:RelV y u)(h:∀w s',Inv X pins J H s'->RelV (o.getD .non) w->Q w s') :
  wpAny (model X.p X.w) A (call (.builtin "dict.get") [.ref a,u]) Q E s:=by
 rcases g with ⟨kvs,k,e,x,l⟩|⟨kvs,k,b,e,x,f,l⟩
 .subst x;obtain⟨z,hd,v,r,d⟩:=tz I.h e;refine qB k_ d.typeIs pM (zF _ _) (meets_dict_get (cq X.p X.w) a (oW n) hd) ⟨_,d.mapOf,h _ _ (I.tok _) ?_⟩;rw[l];exact(r.val k).getD rfl
 .subst x;cases (show u=Value.ref b from n);obtain⟨z,hd,xs,r,d⟩:=tw I.h e;refine qB k_ d.typeIs pM (zF _ _) (meetsH_dict_get (tupleKind (cq X.p X.w)) a b hd) ⟨qD c,k,xs,oB I.h f,d,h _ _ (I.tok _) ?_⟩;rw[l];exact(r.val k).getD rfl
theorem Mv(p:A.units+1 < cLine)(I:Inv X pins J H s)(g:ko H a y o)(m:RelV y u)(c:RelV d r)(h:∀w s',Inv X pins J H s'->RelV (o.getD d) w->Q w s') :
  wpAny (model X.p X.w) A (call (.builtin "dict.get") [.ref a,u,r]) Q E s:=by
 rcases g with ⟨kvs,k,e,f,l⟩|⟨kvs,k,b,e,f,t,l⟩
 .subst f;obtain⟨z,hd,v,x,n⟩:=tz I.h e;refine qB k_ n.typeIs pM (zG _ _ _) (meets_dict_get_default (cq X.p X.w) a (oW m) hd r) ⟨_,n.mapOf,h _ _ (I.tok _) ?_⟩;rw[l];exact(x.val k).getD c
 .subst f;cases (show u=Value.ref b from m);obtain⟨z,hd,xs,x,n⟩:=tw I.h e;refine qB k_ n.typeIs pM (zG _ _ _) (meetsH_dict_get_default (tupleKind (cq X.p X.w)) a b hd r) ⟨qD p,k,xs,oB I.h t,n,h _ _ (I.tok _) ?_⟩;rw[l];exact(x.val k).getD c
end
noncomputable def K'(td ty:TE):TE:=λJ H Q=>td J H λx G=>∃a,x=.ref a/\R_ G a/\ty J G λy H2=>∃o,ko H2 a y o/\Q (o.getD .non) H2
noncomputable def K_(td ty tx:TE):TE:=λJ H Q=>td J H λx G=>∃a,x=.ref a/\R_ G a/\ty J G λy H2=>tx J H2 λz h=>∃o,ko h a y o/\Q (o.getD z) h
section
variable{X:Cx}{o e f:Expr}{apos cpos:Pos}{td ty tx:TE}
theorem Fb(t:X.A.units+1 < cLine)(c:PE X o td)(b:PE X e ty)(m:M1 X o "get" apos e cpos):PE X (.Call (.Attribute o "get" apos) [e] [] cpos) (K' td ty):=by intro pins s J H Q I h;refine xU m.base m.few m.line ud k_ zD (cN (c pins s J H _ I h) λu i z=>?_);obtain⟨x,G,n,v,a,ex,d,q⟩:=z;subst ex;obtain rfl:u=Value.ref a:=v;obtain⟨j,l,_⟩:=yL n d;refine⟨j,l,?_⟩;rw[m.trees];refine mF rfl (mE (dI (cN (b pins i J G _ n q) λiv F ⟨y,H2,k,w,S,g,p⟩=>gN ?_)));exact Mw t k g w λP K f r=>⟨_,H2,f,r,p⟩
theorem Fa(w:X.A.units+1 < cLine)(v:PE X o td)(p:PE X e ty)(q:PE X f tx)(m:M2 X o "get" apos e f cpos):PE X (.Call (.Attribute o "get" apos) [e,f] [] cpos) (K_ td ty tx):=by
 intro pins s J H Q I h;refine xU m.base m.few m.line ud k_ zD (cN (v pins s J H _ I h) fun u A i=>?_);obtain⟨x,G,n,F,a,ex,d,j⟩:=i;subst ex;obtain rfl:u=Value.ref a:=F;obtain⟨C,D,_⟩:=yL n d;refine⟨C,D,?_⟩;rw [m.trees];refine mF rfl (mE (dI (cN (p pins A J G _ n j) fun iv B ⟨y,H2,b,K,l⟩=>
  dI (cN (q pins B J H2 _ b l) λE M ⟨z,k,c,P,L,g,S⟩=>gN ?_))))
 exact Mv w c g K P λR N t r=>⟨_,k,t,r,S⟩
end
end L2
set_option tactic.hygienic true
namespace Att
open PySem PySem.W PySem.Calls PyProof.Rows
theorem pA:∀(s:List Int)(v:LV),WellAll P h v (s.map WData.int)->IntsAre v s:=by
 intro s;induction s with
 |nil=>intro v w;rw[eC]at w;cases w;exact .nil
 |cons n s i=>
  intro v w;rw[aC]at w;cases w with
  |cons a b=>cases a;exact .cons _ _ (i _ b)
theorem CK{l:OpenLaw}(t:l.most=some n)
  (p:l.row.toRowW.claim.pre z=true) (w:WellAll P h I z) :
  ∃a v s,I=[Value.ref a]/\z=[WData.list (s.map WData.int)]/\h.get? a=some { cls:=.type "list",data:=.seq v.toArray }/\IntsAre v s/\s.length≤n:=by
 have b:WShape.hasAll [] z [.list .int]=true:=(pre_splitW p).1;have c:l.pre.holds [] { args:=z }=true:=(pre_splitW p).2;obtain⟨d,r,rfl,h1,h2⟩:=hasAllW_cons b;obtain rfl:=hasAllW_nil h2;obtain⟨xs,rfl,m⟩:=hasW_list h1;obtain⟨s,rfl⟩:=items_int m;have e:s.length≤n:=by
  unfold OpenLaw.pre at c;have k:(WTm.not (.lt (.lit (.int (n:Int))) (.len (.arg 0)))).holds [] { args:=[.list (s.map .int)] }=true:=by have k:=(holds_andW c).1;rw[t]at k;exact k
  have f:=condW_of k (w_not (w_lt w_lit (w_len_list (w_arg rfl))));rw[aU]at f;refine Nat.le_of_not_lt λq=>?_;have u:(n:Int) < ((s.length:Nat):Int):=by lia
  first
   |(rw[gO u]at f;exact absurd f (by decide))
   |(simp at f;lia)
 cases w with
 |cons g i=>
  cases i;cases g with
  |list o x=>exact⟨_,_,s,rfl,rfl,o,pA s _ x,e⟩
theorem CQ(l:OpenLaw)(a:List WData):l.row.toRowW.claim.post a (.bool true) a=true:=
 postW_of (r:=l.row.toRowW) (X:=(true == true))
  (show WShape.has [] (.bool true) .bool=true by first|rfl|decide|simp[WShape.has,WShape.arms,WShape.armsAll])
  (show(WTm.eq .res (.lit (.bool true))).value [] { args:=a,res:=some (.bool true),after:=a }=some (.bool (true == true)) from w_eq_bool (w_res rfl) w_lit) rfl
theorem attach_call{l:OpenLaw}
  (M:l.most=some n) (u:d.params.defaults=[])
  (call:∀(w:World) (h s:Shared) (mg y:SV) (x:Addr) (o:Obj) (H k c:Value) (a:Addr) (v:LV) (m:List Int),
   Ground q z [] I w h mg y s.heap->N w s.heap ->
   s.heap.get? x=some o->o.data=.func (docDef d.name d.params d.body d.scope H k c)->s.heap.CodeRec k d.name->mg d.name=some (.ref x) ->
   s.heap.get? a=some { cls:=.type "list",data:=.seq v.toArray }->IntsAre v m->m.length≤n->s.gens=#[] ->
   codeAny (model l.prog w) callerA (.call (.ref x) ⟨[.ref a],[]⟩) (λr s'=>r=.ok (.ret (.bool true))/\OldK s.heap s'.heap/\s'.os=s.os/\AllBare s'.gens) s) :
  WalkO q z I N l.row.toRowW d [] (λf v=>PySem.call f v):=by
 intro w h s mg y G P x o H k c V kV Q hd t D g C S K W p F T j E;obtain rfl:V=.none:=Dflts.none D u;obtain rfl:kV=.none:=Dflts.noKw D;obtain⟨a,v,m,rfl,rfl,b,i,e⟩:=CK M p j;refine enter_call (nS (call w h s mg y x o H k c a v m G P Q (fd_plain hd) t g b i e C) λr s' R=>?_);obtain⟨rfl,h2,A,B⟩:=R;exact⟨.inl ⟨.bool true,.bool true,[],rfl,λ_=>rfl,.bool true,CQ l _,λ_=>⟨List.Pairwise.nil,λ_ L=>(nomatch L)⟩⟩,h2,A,B⟩
end Att
set_option tactic.hygienic false
namespace L2
open PySem PySem.Spec PyProof.Rows
theorem sQ:∀{v:LV}{s:List Int},IntsAre v s->bc (s.map V.int) v
 |_,_,.nil=>.nil
 |_,_,.cons n t h=>.cons ⟨t,rfl⟩ (sQ h)
def Dv(H:Hp):Prop:=∀b,H b=none\/H b=some .tbl\/∃o xs,H b=some (.frz o (.lst xs))
set_option tactic.hygienic true in
theorem FA{P:Program}{w:World}{K:FG}{mg mb:SV}{CX:DA}{k:Nat}{fa a:Addr}{fd:FuncData}{x:Str}{sp:Sp}{f:Shared}{C:LV}{Z:List Int}
  (KX:K.In f.heap) (hNT:x0 K=true) (T:∀P ∈ cw K,f.heap.get? P=some (qI #[])/\∃c,qH f.heap c P) (R:f.heap.Ns mainGlobals mg) (t:f.heap.Ns builtinsNs mb) (hbb:∀x:Str,x≠"__name__"->mb x=bootBuiltins x) (Q:f.heap.NoLimit) (hbm:∃G A,mg "__builtins__"=some (.ref G)/\G≠builtinsNs/\f.heap.get? G=some A/\A.cls=.type "module"/\A.dict=some builtinsNs/\A.data=.plain) (hg:f.gens=#[])
  (D:f.heap.get? a=some { cls:=.type "list",data:=.seq C.toArray }) (hi:IntsAre C Z) (hl:Z.length≤sizeLine) (hr:Room k callerA)
  (F:∀base:Heap,K.In base->base.Ns mainGlobals mg->FnOk P w K mg base CX k fa fd [x] sp) (B:∀(s:Shared)(u:Value),BindsTo s fd ⟨[u],[]⟩ [(x,u)])
  (hsp:∀H:Hp,Dv H->iT K H a (Z.map V.int)->sp [.ref a] H (λv _=>v=.bl true) λ_ _ _=>False)
  (hCX:∀H e s',CX [] H f (λ_ _ _=>False) e s'->False) :
  codeAny (model P w) callerA (.call (.ref fa) ⟨[.ref a],[]⟩) (λr s'=>r=.ok (.ret (.bool true))/\OldK f.heap s'.heap/\s'.os=f.os/\AllBare s'.gens) f:=by
 have rv:=sQ hi;have X:=hi.length;have y:∀H:Hp,Dv H->iT K H a (Z.map V.int)->jt P w H f.heap->(∀b,H b≠none->b=a\/b ∈ cw K)->(∀b,H b=some .tbl->b ∈ cw K)->(∀b ∈ cw K,H b=some .tbl)->(H a≠none->K.lookup a=none) ->
   codeAny (model P w) callerA (.call (.ref fa) ⟨[.ref a],[]⟩) (λr s'=>r=.ok (.ret (.bool true))/\OldK f.heap s'.heap/\s'.os=f.os/\AllBare s'.gens) f:=by
  intro H hO hS W hA hB hC hK;have hKT:∀b ∈ cw K,K.lookup b=none:=λb t=>by
   cases q:K.lookup b with
   |none=>rfl
   |some o=>have e:=KX b o q;rw[(T b t).1]at e;cases e;have h2:=bb.mp hNT (b,_) (DY q);exact absurd (show false=true from h2) bC
  have p:∀{b:Addr}{o:Obj},f.heap.get? b=some o->H b=none->(vI f.heap H).get? b=some o:=λe n=>F5 e n;have noA:∀{b:Addr}{o:Obj}{es:Array DictEntry}{L:Nat},f.heap.get? b=some o->o.data=.dict es L->H b=none:=λ{b o es L} e d=>by
   cases q:H b with
   |none=>rfl
   |some u=>
    rcases hA b (by rw[q];simp) with j|j
    .subst j;rw[D]at e;cases e;have d':Data.seq C.toArray _=Data.dict es L:=d;cases d'
    .rw [(T b j).1]at e;cases e;cases d
  have noM:∀{b:Addr}{o:Obj},f.heap.get? b=some o->o.cls=.type "module"->H b=none:=λ{b o} e d=>by
   cases q:H b with
   |none=>rfl
   |some u=>
    rcases hA b (by rw[q];simp) with j|j
    .subst j;rw[D]at e;cases e;exact absurd (show Value.type "list"=Value.type "module" from d) (by decide)
    .rw [(T b j).1]at e;cases e;cases d
  have l:∀{b:Addr}{m:SV},f.heap.Ns b m->(vI f.heap H).Ns b m:=fun {b m} ⟨o,es,L,e,d,r⟩=>⟨o,es,L,p e (noA e d),d,r⟩;have M:K.In (vI f.heap H):=fun b o e=>p (KX b o e) (by
   cases q:H b with
   |none=>rfl
   |some u=>
    rcases hA b (by rw[q];simp) with j|j
    .subst j;rw[hK (by rw[q];simp)]at e;cases e
    .rw [hKT b j]at e;cases e)
  have hM:Mod K mg (vI f.heap H):=⟨M,l R,⟨mb,l t,hbb⟩,let ⟨mc,h1,h2⟩:=Q;⟨mc,l h1,h2⟩,let ⟨G,A,c1,c2,c3,c4,c5⟩:=hbm;⟨G,A,c1,c2,p c3 (noM c3 c4),c4,c5⟩⟩;have e0:Env0 P w K mg (vI f.heap H) callerA [] f H:=⟨rfl,hM,λb o e=>IM e,uo (C7 _ _),trivial,λb t=>absurd (show b ∈ ([]:List Addr) from t) (by simp),hC,W,.of_eq hg⟩;refine nS ((F _ M (l R)).run callerA [] f H ⟨[.ref a],[]⟩ [.ref a] [.ref a] _ _ hr e0 (B f (.ref a)) (.cons rfl .nil) (hsp H hO hS)) λr s' h=>?_;cases r with
  |error e=>exact(hCX H e s' h).elim
  |ok fl=>
   cases fl with
   |next=>exact False.elim h
   |brk=>exact False.elim h
   |cont=>exact False.elim h
   |ret u=>
    obtain⟨v,H',os,E,un,S,r',q⟩:=h;have q':v=.bl true:=q;subst q';obtain rfl:u=Value.bool true:=r';have aw:∀b o,f.heap.get? b=some o->asItWas f.heap s'.heap b o:=λb o e=>by
     rcases hO b with q|z|⟨A,xs,z⟩
     .exact .inl (un.keep b o e q (by intro z;exact absurd (show b ∈ ([]:List Addr) from z) (by simp)) (by simp))
     .obtain⟨I,c,e2⟩:=T b (hB b z);obtain⟨ps,e3,_⟩:=(show sf H' s'.heap b from S b _ (un.tbls b z));rw[I]at e;cases e;exact .inr (.inl ⟨(e2.tab I).isCodeTable,rfl,#[],ps,rfl,by rw[Array.empty_append];exact e3⟩)
     .have z2:=un.frzs b A _ z;obtain⟨I,_⟩:=W b _ z;obtain⟨e2,_⟩:=S b _ z2;rw[e]at I;cases I;exact .inl e2
    refine⟨rfl,⟨aw,λb o e=>?_⟩,os,E⟩;rcases aw b o e with x|⟨_,_,_,_,_,x⟩|⟨_,_,⟨_,_,_,x,_⟩,_⟩<;>exact⟨_,x⟩
 have N:a ∉ cw K:=λz=>by have e:=(T a z).1;rw[D]at e;cases e
 have tk:∀b,b ∈ cw K->∀H:Hp,sf H f.heap b:=λb t H=>⟨#[],(T b t).1,.inl rfl⟩;cases hk:K.lookup a with
 |some o=>
  have e:=KX a o hk;rw[D]at e;cases e;refine y (λb=>if b ∈ cw K then some .tbl else none) (λb=>?_) (.inr ⟨_,C.toArray,_,hk,rfl,rfl,rfl,by rw[bg,X];exact hl,by simpa using rv⟩) (λb u z=>?_) (λb z=>?_) (λb z=>?_) (λb z=>af z) λz=>absurd (ah N) z
  .by_cases t:b ∈ cw K
   .exact .inr (.inl (af t))
   .exact .inl (ah t)
  .by_cases t:b ∈ cw K
   .have g:=(af t).symm.trans z;cases g;exact tk b t _
   .have g:=(ah t).symm.trans z;cases g
  .by_cases t:b ∈ cw K
   .exact .inr t
   .exact absurd (ah t) z
  .by_cases t:b ∈ cw K
   .exact t
   .have g:=(ah t).symm.trans z;cases g
 |none=>
  refine y (λb=>if b=a then some (.frz { cls:=.type "list",data:=.seq C.toArray } (.lst (Z.map V.int))) else if b ∈ cw K then some .tbl else none) (λb=>?_) (.inl (.inr ⟨{ cls:=.type "list",data:=.seq C.toArray },af rfl⟩)) (λb u z=>?_) (λb z=>?_) (λb z=>?_) (λb z=>?_) λ_=>hk
  .by_cases t:b=a
   .exact .inr (.inr ⟨_,_,af t⟩)
   .by_cases i:b ∈ cw K
    .exact .inr (.inl ((ah t).trans (af i)))
    .exact .inl ((ah t).trans (ah i))
  .by_cases t:b=a
   .have g:=(af t).symm.trans z;cases g;subst t;exact⟨D,by rw[aU];exact hl,C,_,rv,D⟩
   .have z1:=(ah t).symm.trans z;by_cases i:b ∈ cw K
    .have g:=(af i).symm.trans z1;cases g;exact tk b i _
    .have g:=(ah i).symm.trans z1;cases g
  .by_cases t:b=a
   .exact .inl t
   .by_cases i:b ∈ cw K
    .exact .inr i
    .exact absurd ((ah t).trans (ah i)) z
  .by_cases t:b=a
   .have g:=(af t).symm.trans z;cases g
   .by_cases i:b ∈ cw K
    .exact i
    .have g:=(ah i).symm.trans ((ah t).symm.trans z);cases g
  .have t:b≠a:=λq=>N (q ▸ z);exact(ah t).trans (af z)
noncomputable abbrev SD{K:FG}(_:K.In h):FG:=K
theorem HJ{l:DQ}{n k:Nat}{q:Program}{m:LS}{I:(SV)->Heap->Prop}{g:World->Heap->Prop}{d:DefRec}{K:Params->FG}{CX:World->DA}{sp:World->Sp}{x:Str}
  (hn:l.most=some n) (S:n≤sizeLine) (y:d.params.defaults=[]) (hr:Room k callerA)
  (W:∀(w:World)(h:Heap),g w h->(K w.params).In h) (N:∀w:World,x0 (K w.params)=true) (T:∀(w:World)(h:Heap),g w h->∀P ∈ cw (K w.params),h.get? P=some (qI #[])/\∃c,qH h c P)
  (F:∀(w:World) (mg:SV) (t:Addr) (h:Heap),(K w.params).In h->h.Ns mainGlobals mg->mg d.name=some (.ref t) ->
   ∃fd:FuncData,(∀(s:Shared)(u:Value),BindsTo s fd ⟨[u],[]⟩ [(x,u)]) /\
    ∀base:Heap,(K w.params).In base->base.Ns mainGlobals mg->FnOk l.prog w (K w.params) mg base (CX w) k t fd [x] (sp w))
  (A:∀(w:World)(H:Hp)(a:Addr)(p:List Int),p.length≤n->Dv H->iT (K w.params) H a (p.map V.int)->sp w [.ref a] H (λv _=>v=.bl true) λ_ _ _=>False)
  (C:∀(w:World)(H:Hp)(s:Shared)(e:Value)(s':Shared),CX w [] H s (λ_ _ _=>False) e s'->False) :
  DO q m I g l.row.toRowW d [] (λf E=>PySem.call f E):=by
 refine Att.attach_call hn y λw D r mg mb t o pm cd L a E p G B ho hd hcd z j i b hg=>?_;have X:=W w _ B;obtain⟨fd,Z,M⟩:=F w mg t _ X G.T.g z;exact FA X (N w) (T w _ B) G.T.g G.T.b G.T.builtins G.T.nolimit G.T.bmain hg j i (aA b S) hr M Z (λH Q R=>A w H a p b Q R) λH e s'=>C w H r e s'
theorem Eb{l:DQ}{n k:Nat}{q:Program}{o:LS}{X:(SV)->Heap->Prop}{m:World->Heap->Prop}{d:DefRec}{K:Params->FG}{CX:DA}{sp:FG->Sp}{x:Str}
  (y:l.most=some n) (t:n≤sizeLine) (r:d.params.defaults=[]) (z:Room k callerA)
  (j:∀(w:World)(h:Heap),m w h->(K w.params).In h) (N:∀w:World,x0 (K w.params)=true) (T:∀(w:World)(h:Heap),m w h->∀P ∈ cw (K w.params),h.get? P=some (qI #[])/\∃c,qH h c P)
  (F:∀(w:World) (mg:SV) (g:Addr) (h:Heap),(K w.params).In h->h.Ns mainGlobals mg->mg d.name=some (.ref g) ->
   ∃fd:FuncData,(∀(s:Shared)(u:Value),BindsTo s fd ⟨[u],[]⟩ [(x,u)]) /\
    ∀base:Heap,(K w.params).In base->base.Ns mainGlobals mg->FnOk l.prog w (K w.params) mg base CX k g fd [x] (sp (K w.params)))
  (p:∀(K:FG)(H:Hp)(a:Addr)(b:List Int),b.length≤n->Dv H->iT K H a (b.map V.int)->sp K [.ref a] H (λv _=>v=.bl true) λ_ _ _=>False)
  (C:∀(H:Hp)(s:Shared)(e:Value)(s':Shared),CX [] H s (λ_ _ _=>False) e s'->False) :
  DO q o X m l.row.toRowW d [] (λf S=>PySem.call f S):=
 HJ (K:=K) (CX:=λ_=>CX) (sp:=λw=>sp (K w.params)) y t r z j N T F (λw H a b h1 h2 i=>p (K w.params) H a b h1 h2 i) λ_ H s e s'=>C H s e s'
noncomputable def ly(s:Stmt)(j:Nat):Stmt:=match s with
 | .ClassDef _ _ _ b _ _ _ _ _ _ _=>b.getD j (.Pass ⟨0,0,0,0⟩)
 |_=>.Pass ⟨0,0,0,0⟩
noncomputable def iu(s:Stmt):Arguments:=match s with
 | .FunctionDef _ a _ _ _ _ _ _ _ _=>a
 |_=>{ posonlyargs:=[],args:=[],vararg:=none,kwonlyargs:=[],kw_defaults:=[],kwarg:=none,defaults:=[] }
noncomputable def fw(s:Stmt):List Stmt:=match s with
 | .FunctionDef _ _ b _ _ _ _ _ _ _=>b
 |_=>[]
noncomputable def br(s:Stmt):Scope:=match s with
 | .FunctionDef _ _ _ _ _ _ sc _ _ _=>sc
 |_=>{ kind:=.function,names:=[],isGenerator:=false,isCoroutine:=false }
noncomputable abbrev pf:DA:=λ_ _ _ _ _ _=>False
noncomputable abbrev E0:XK:=λ_ _ _=>False
theorem sW:mw pf X E0:=λ_ _ _ _ _ _ _ h=>h.elim
structure Fun(K:FG)(x qual:Str)(st:Stmt)(f:Addr)(fd:FuncData):Prop where
 ex:∃(oc:Value)(od:Option Addr)(dV kV doc pm:Value)(an:Option Addr)(cdv ct:Value)(osl:Array (OV)),
  fd=ji x qual (iu st) (fw st) (br st) dV kV doc pm an cdv ct/\K.lookup f=some ⟨oc,od,.func fd,osl⟩/\jj K cdv qual=true
 kp:dZ K (.ref f)=true
section
variable{P:Program}{w:World}{K:FG}{mg:SV}{base:Heap}
theorem F_{x q:Str}{st:Stmt}{f:Addr}{h:Value}{e a:Option Addr}{s:Array (OV)}{V kV o p d t:Value}(l:K.lookup f=some ⟨h,e,.func (ji x q (iu st) (fw st) (br st) V kV o p a d t),s⟩)
  (c:jj K d q=true) (k:dZ K (.ref f)=true):Fun K x q st f (ji x q (iu st) (fw st) (br st) V kV o p a d t):=⟨⟨h,e,V,kV,o,p,a,d,t,s,rfl,l,c⟩,k⟩
end
section
variable{X:Cx}
end
abbrev KN:List (PyData×V×V)->List (PyData×Addr×Value)->Prop:=Paired λp q=>p.1=q.1/\p.2.1=V.ref q.2.1/\RelV p.2.2 q.2.2
def wg(h:Heap)(d:PyData)(v:V):Prop:=∃b,v=.ref b/\Nk.kd d=true/\d.depth≤8/\∃as,Reads h (.ref b) d as
noncomputable def yP(kvs:List (PyData×V×V))(d:PyData):Bool:=kvs.any λp=>decide (p.1=d)
section
variable{P:Program}{w:World}{H:Hp}{h:Heap}{a:Addr}
theorem KN.has(r:KN kvs xs)(d:PyData):(atKey xs d).isSome=yP kvs d:=by
 induction r with
 |nil=>rfl
 | @cons p q ps qs h t i=>
  unfold yP at i ⊢;rw[cT];by_cases e:p.1=d
  .have x:q.1=d:=h.1.symm.trans e;simp[atKey,i0,e,x]
  .have x:¬q.1=d:=λz=>e (h.1.trans z);rw[bt e,lp,<- i];simp[atKey,i0,x]
theorem Ke(ok:jt P w H h)(e:H a=some (.dN kvs))(ks:∀p ∈ kvs,wg h p.1 p.2.1):kvs.length≤sizeLine/\(a == sysModules)=false/\∃xs,KN kvs xs/\h.DictOfH (Nk.nest P w) a xs:=by
 obtain⟨z,y,xs,r,o,es,ep,h1,h2,h3,h4,h5⟩:=(show dq P w H h a (.dN kvs) from ok a _ e);refine⟨z,y,xs,r,o,es,ep,h1,h2,h3,h4,?_,h5⟩;clear h4 h5 e z;induction r with
 |nil=>exact λx hx=>nomatch hx
 | @cons p q ps qs hq t ih=>
  intro x hx;rcases aL.mp hx with rfl|hx
  .obtain⟨b,e1,k,l,as,rd⟩:=ks p aI;have e2:=hq.2.1;rw[e1]at e2;cases e2;rw[<- hq.1];exact⟨k,l,as,rd⟩
  .exact ih (λp hp=>ks p (aH _ hp)) x hx
end
section
variable{X:Cx}{pins:PN}{J:St}{H:Hp}{s:Shared}{a:Addr}{d:PyData}{y v:V}{u r:Value}{A:Around}{E:VP}{kvs:List (PyData×V×V)}
theorem IP(hu:A.units+9 < cLine)(I:Inv X pins J H s)(e:H a=some (.dN kvs))(ks:∀p ∈ kvs,wg s.heap p.1 p.2.1)(ky:wg s.heap d y)(ry:RelV y u)(h:∀s',Inv X pins J H s'->Q (.bool (!yP kvs d)) s') :
  wpAny (model X.p X.w) A (compareOp .NotIn u (.ref a)) Q E s:=by
 obtain⟨b,rfl,k⟩:=ky;cases (show u=Value.ref b from ry);obtain⟨z,hd,xs,rel,dd⟩:=Ke I.h e ks;refine wpAny_notIn_heap (knd:=Nk.nest X.p X.w) (show(A.in1).units+8 < cLine by rw[mU];lia) k hd dd ?_;rw[rel.has];exact h _ (I.tok _)
theorem OI(hu:A.units+9 < cLine)(I:Inv X pins J H s)(e:H a=some (.dN kvs))(ks:∀p ∈ kvs,wg s.heap p.1 p.2.1)(ky:wg s.heap d y)(ry:RelV y u)(rv:RelV v r)(new:yP kvs d=false)(hl:kvs.length < sizeLine)
  (h:∀s',Inv X pins J (b7 H a (.dN (kvs++[(d,y,v)]))) s'->Q () s'):wpAny (model X.p X.w) A (setItem (.ref a) u r) Q E s:=by
 obtain⟨b,rfl,k⟩:=ky;cases (show u=Value.ref b from ry);obtain⟨z,hd,xs,rel,dd⟩:=Ke I.h e ks;have hz:xs.length≤sizeLine:=by rw[<- Paired.length rel];exact z
 refine Bg (knd:=Nk.nest X.p X.w) (hsz:=hz) (show(A.in1).units+8 < cLine by rw[mU];lia) k dd λh' dd' hs=>h _ ?_;have nn:atKey xs d=none:=by have:=rel.has d;rw[new]at this;simpa using this
 rw[storedH_new nn]at dd';obtain⟨q,es,ep,hq,h2,h3,h4,_,h5⟩:=dd';exact qk I (by rw[e];exact True.intro) hs ⟨q,hq⟩ ⟨by simp;lia,hd,_,Paired.snoc rel ⟨rfl,rfl,rv⟩,q,es,ep,hq,h2,h3,h4,h5⟩
end
end L2
set_option tactic.hygienic true
namespace PySem
open PySem PyProof.Rows
namespace F
theorem entry_dict_update_loop:entryFor table "dict.update.loop"=some Builtin.«dict.update.loop»:=entryFor_of_tree (by kernel_rfl)
theorem plain_dict_update_loop:plainId "dict.update.loop"=true:=by decide +kernel
theorem list_no_keys:typeLookup (.type "list") "keys"=pure none:=by rw[xS,xY];kernel_rfl
end F
section
variable{prog:Program}{w:World}{A:Around}{E:VP}{s:Shared}
theorem yD 
  (hx:s.heap.get? a=some o) (hc:o.cls=.type "list") (hdat:o.data=.seq xs k0) (hd:o.dict=none) (hmiss:typeLookup (.type "list") name=pure none) (hname:(["__module__","__name__","__qualname__","__doc__","__annotations__"]:LS).contains name=false) (hA:A.handled=none)
  (h:∀h' tk,(∀b o,s.heap.get? b=some o->h'.get? b=some o)->Q none { s with heap:=h',toks:=tk }) (hsz:name.length+100≤sizeLine:=by size_fits) :
  wpAny (model prog w) A (getAttr? (.ref a) name) Q E s:=by
 obtain⟨c,dct,dat,sl⟩:=o;simp only at hc hdat hd;subst hc hdat hd;obtain⟨hp,g,d,tk,os⟩:=s;have hT:∀tk',(⟨hp,g,d,tk',os⟩:Shared).TypeIs (.ref a) "list":=λ_=>⟨_,hx,rfl⟩;have f1:=Bf;have f3:=t_.lookup;have f4:=t_.bind (.ref a);have f5:=am_list_getattr_none;have step:∀(tk1:Nat)(u:Tok)(Q1:VP)(E1:VP),(∀h' tk2 e,Ah hp h' e (.ref a) name->E1 (.ref e) ⟨h',g,d,tk2,os⟩) ->
   wpAny (model prog w) A (call (Value.builtin "list.__getattribute__") ([Value.ref a]++[Value.str name u]) []) Q1 E1 ⟨hp,g,d,tk1,os⟩:=λtk1 u Q1 E1 k=>
  iC t_ (hT _) am_entry_list_getattribute (F.args_list_getattribute_2 _ _) (meets_getattribute_miss_list a xs k0 sl name u hmiss hname hsz) ⟨hx,hA,k⟩
 unfold getAttr?;unfold getAttrBy?;unfold getAttrBy;repeat any_goals first|assumption|exact hT _|(with_reducible refine step _ _ _ _ λh' tk' e hx'=>?_)|wp_step
 have he:=hx'.there;obtain⟨t',u',he⟩:=he;repeat any_goals first|assumption|wp_step
 exact h _ _ hx'.keeps
inductive PairsAt{K:Type}[DecidableEq K](knd:KeyKind prog w K)(h:Heap):LV->List (K×Value)->Prop
 |nil:PairsAt knd h [] []
 |cons {t:Addr}{key v:Value}{k:K}{us:LV}{kvs:List (K×Value)}:IsTup h t #[key,v]->knd.is k key=true->PairsAt knd h us kvs->PairsAt knd h (.ref t::us) ((k,v)::kvs)
end
end PySem
namespace Ev
open PySem L2
noncomputable abbrev w4(p:Pos):Arguments:={ posonlyargs:=[],args:=[{ arg:="standing",annotation:=none,pos:=p }],vararg:=none,kwonlyargs:=[],kw_defaults:=[],kwarg:=none,defaults:=[] }
noncomputable abbrev vr(p q r t:Pos):Expr:=.Call (.Name "ends_on" p) [.Name "board" q,.Name "standing" r] [] t
noncomputable abbrev pu:Scope:={ kind:=.function,names:=[(Str.ofString "standing",.local),(Str.ofString "board",.free),(Str.ofString "ends_on",.globalImplicit)],isGenerator:=false,isCoroutine:=false,more:=[] }
abbrev w1(p x a e s:Pos)(c:Addr)(m:Value)(h:Addr)(t:Value):Obj:=PySem.W.kla_obj "<lambda>" yE (w4 p) (vr x a e s) pu [(Str.ofString "board",c)] m h t
inductive P where
 |non|bl (b:Bool)|int (i:Int)|str (x:Str)|tup (xs:List P)|lst (xs:List P)|ro (xs:List P)|dct (ks:List cg) (vs:List P)
inductive D where
 |p (v:P)|ref (i:Nat)
inductive SO where
 |lst (xs:List D)|dct (ks:List cg) (vs:List D)|fz (v:P)|ins (c:Str) (ks:LS) (vs:List D)|dtn (ks:List P) (vs:List D)|fn (d:Option D)|dtt (ks:List (List cg)) (vs:List D)
noncomputable abbrev Y:=List SO
noncomputable abbrev Lc:=List (Option D)
mutual
noncomputable def pd:P->PyData
 | .non=>.none
 | .bl b=>.bool b
 | .int i=>.int i
 | .str x=>.str x
 | .tup xs=>.tuple (jy xs)
 | .lst xs=>.list (jy xs)
 | .ro xs=>.list (jy xs)
 | .dct _ _=>.none
noncomputable def jy:List P->List PyData
 | []=>[]
 |x::r=>pd x::jy r
end
def R8(K:FG)(a:Addr)(xs:List V):Prop:=nQ K (λ_=>none) a xs
def R9(K:FG)(a:Addr)(xs:List V):Prop:=iT K (λ_=>none) a xs
def TupAt(K:FG)(H:Hp)(a:Addr)(xs:List V):Prop:=H a=some (.tup xs)\/R8 K a xs
def LstAt(F:Aa)(H:Hp)(a:Addr)(xs:List V):Prop:=F a/\H a=some (.lst xs)
def Du(K:FG)(F:Aa)(H:Hp)(a:Addr)(xs:List V):Prop:=(F a/\∃o,H a=some (.frz o (.lst xs)))\/R9 K a xs
variable{K:FG}{H:Hp}{a:Addr}{xs:List V}
theorem TupAt.sq(h:TupAt K H a xs):nQ K H a xs:=by
 rcases h with h|(h|h)
 .exact .inl (.inl h)
 .rcases h with h|⟨o,h⟩<;>cases h
 .exact .inr h
variable{F:Aa}
theorem LstAt.sq(h:LstAt F H a xs):iT K H a xs:=.inl (.inl h.2)
theorem Du.sq(h:Du K F H a xs):iT K H a xs:=by
 rcases h with ⟨_,o,h⟩|(h|h)
 .exact .inl (.inr ⟨o,h⟩)
 .rcases h with h|⟨o,h⟩<;>cases h
 .exact .inr h
section
variable(K:FG)(F:Aa)(H:Hp)
mutual
noncomputable def RP:P->V->Prop
 | .non,v=>v=.non
 | .bl b,v=>v=.bl b
 | .int i,v=>v=.int i
 | .str x,v=>v=.str x
 | .tup ds,v=>∃a xs,v=.ref a/\TupAt K H a xs/\cf ds xs
 | .lst ds,v=>∃a xs,v=.ref a/\LstAt F H a xs/\cf ds xs
 | .ro ds,v=>∃a xs,v=.ref a/\Du K F H a xs/\cf ds xs
 | .dct ks ds,v=>∃a kvs,v=.ref a/\F a/\H a=some (.dK kvs)/\kvs.map (·.1)=ks/\cf ds (kvs.map (·.2))
noncomputable def cf:List P->List V->Prop
 | [],xs=>xs=[]
 |d::ds,xs=>∃x r,xs=x::r/\RP d x/\cf ds r
end
def RD(m:List Addr):D->V->Prop
 | .p d,v=>RP K F H d v
 | .ref i,v=>∃a,v=.ref a/\m[i]? = some a
def dh(m:List Addr):List D->List V->Prop
 | [],xs=>xs=[]
 |d::s,xs=>∃x r,xs=x::r/\RD K F H m d x/\dh m s r
inductive FnI(H:Hp)(a:Addr)(v:V):Prop
 |mk (p1 p2 p3 p4 p5:Pos) (cr c' P:Addr) (o oc:Obj) (pm ctv ub:Value) (f:H a=some (.frz (w1 p1 p2 p3 p4 p5 cr pm c' ctv) (.own a))) (c:H cr=some (.frz o (.own cr))) (d:o.data=.cell (some ub)) (r:RelV v ub) (e:H c'=some (.frz oc (.own P))) (l:yJ oc):FnI H a v
def RO(m:List Addr)(a:Addr):SO->Prop
 | .lst s=>∃xs,H a=some (.lst xs)/\dh K F H m s xs
 | .dct h s=>∃k,H a=some (.dK k)/\k.map (·.1)=h/\dh K F H m s (k.map (·.2))
 | .fz v=>RP K F H v (.ref a)
 | .ins c h s=>∃C x k,nU K mainGlobals c=some (some (.ref C))/\H a=some (.ins C x k)/\k.map (·.1)=h/\dh K F H m s (k.map (·.2))
 | .dtn h s=>∃k,H a=some (.dN k)/\k.map (·.1)=jy h/\cf K F H h (k.map (·.2.1))/\dh K F H m s (k.map (·.2.2))
 | .fn o=>∀d,o=some d->∃v,FnI H a v/\RD K F H m d v
 | .dtt h s=>∃k,H a=some (.dT k)/\k.map (·.1)=h/\dh K F H m s (k.map (·.2))
def SO.own:SO->Prop
 | .fz _=>False
 | .fn _=>False
 |_=>True
structure Rel(m:List Addr)(S:Y):Prop where
 len:m.length=S.length
 nd:m.Nodup
 obj:∀(i:Nat) a o,m[i]? = some a->S[i]? = some o->RO K F H m a o
 sep:∀(i:Nat) a o,m[i]? = some a->S[i]? = some o->o.own->¬F a
 trk:∀a ∈ m,H a≠none
 ft:∀a,F a->H a≠none
end
structure Kp(F:Aa)(m:List Addr)(H:Hp)(F':Aa)(m':List Addr)(H':Hp):Prop where
 pre:∃n,m'=m++n
 frz:∀b,F b->F' b
 frk:∀b o,F b->H b=some o->H' b=some o
 tup:∀b xs,H b=some (.tup xs)->H' b=some (.tup xs)
 cod:∀b o u,H b=some (.frz o (.own u))->H' b=some (.frz o (.own u))
structure Stp(F:Aa)(m:List Addr)(H:Hp)(F':Aa)(m':List Addr)(H':Hp):Prop where
 pre:∃n,m'=m++n
 oth:∀b o,H b=some o->b ∉ m->H' b=some o
 frz:∀b,F b->F' b
 frk:∀b o,F b->H b=some o->H' b=some o
 tup:∀b xs,H b=some (.tup xs)->H' b=some (.tup xs)
 trk:∀b,H b≠none->H' b≠none
 nf:∀b,F' b->F b\/H b=none\/b ∈ m
 nm:∀b,b ∈ m'->b ∈ m\/H b=none
 cod:∀b o u,H b=some (.frz o (.own u))->H' b=some (.frz o (.own u))
variable{F':Aa}{m:List Addr}{m':List Addr}{H':Hp}
theorem Stp.kp(s:Stp F m H F' m' H'):Kp F m H F' m' H':=⟨s.pre,s.frz,s.frk,s.tup,s.cod⟩
theorem Stp.refl:Stp F m H F m H:=
 ⟨⟨[],by simp⟩,λ_ _ h _=>h,λ_ h=>h,λ_ _ _ h=>h,λ_ _ h=>h,λ_ h=>h,λ_ h=>.inl h,λ_ h=>.inl h,λ_ _ _ h=>h⟩
theorem Stp.trans(a:Stp F m H C r z)(b:Stp C r z B t I):Stp F m H B t I where
 pre:=by obtain⟨f,n⟩:=a.pre;obtain⟨p,k⟩:=b.pre;exact⟨f++p,by rw[k,n,fg]⟩
 oth:=λc o h s=>b.oth c o (a.oth c o h s) λx=>by
  rcases a.nm c x with x|x
  .exact s x
  .rw [h]at x;cases x
 frz:=λc h=>b.frz c (a.frz c h)
 frk:=λc o h e=>b.frk c o (a.frz c h) (a.frk c o h e)
 tup:=λc xs h=>b.tup c xs (a.tup c xs h)
 cod:=λc o u h=>b.cod c o u (a.cod c o u h)
 trk:=λc h=>b.trk c (a.trk c h)
 nf:=λc h=>by
  rcases b.nf c h with h|h|h
  .exact a.nf c h
  .by_cases e:H c=none
   .exact .inr (.inl e)
   .exact absurd h (a.trk c e)
  .rcases a.nm c h with h|h
   .exact .inr (.inr h)
   .exact .inr (.inl h)
 nm:=λc h=>by
  rcases b.nm c h with h|h
  .exact a.nm c h
  .by_cases e:H c=none
   .exact .inr e
   .exact absurd h (a.trk c e)
section
variable{K:FG}{F F':Aa}{H H':Hp}{m m':List Addr}{S N:Y}
theorem TupAt.kp(s:Kp F m H F' m' H')(h:TupAt K H a xs):TupAt K H' a xs:=by
 rcases h with h|h
 .exact .inl (s.tup _ _ h)
 .exact .inr h
theorem LstAt.kp(s:Kp F m H F' m' H')(h:LstAt F H a xs):LstAt F' H' a xs:=⟨s.frz _ h.1,s.frk _ _ h.1 h.2⟩
theorem Du.kp(s:Kp F m H F' m' H')(h:Du K F H a xs):Du K F' H' a xs:=by
 rcases h with ⟨f,o,h⟩|h
 .exact .inl ⟨s.frz _ f,o,s.frk _ _ f h⟩
 .exact .inr h
mutual
theorem RP.kp(s:Kp F m H F' m' H'):∀{d:P}{v:V},RP K F H d v->RP K F' H' d v
 | .non,_,h=>h
 | .bl _,_,h=>h
 | .int _,_,h=>h
 | .str _,_,h=>h
 | .tup _,_,h=>by obtain⟨a,xs,e,t,r⟩:=h;exact⟨a,xs,e,t.kp s,cf.kp s r⟩
 | .lst _,_,h=>by obtain⟨a,xs,e,t,r⟩:=h;exact⟨a,xs,e,t.kp s,cf.kp s r⟩
 | .ro _,_,h=>by obtain⟨a,xs,e,t,r⟩:=h;exact⟨a,xs,e,t.kp s,cf.kp s r⟩
 | .dct _ _,_,h=>by obtain⟨a,kvs,e,f,t,k,r⟩:=h;exact⟨a,kvs,e,s.frz _ f,s.frk _ _ f t,k,cf.kp s r⟩
theorem cf.kp(s:Kp F m H F' m' H'):∀{ds:List P}{xs:List V},cf K F H ds xs->cf K F' H' ds xs
 | [],_,h=>h
 |_::_,_,h=>by obtain⟨x,r,e,h1,h2⟩:=h;exact⟨x,r,e,RP.kp s h1,cf.kp s h2⟩
end
theorem RD.kp(s:Kp F m H F' m' H'):∀{d:D}{v:V},RD K F H m d v->RD K F' H' m' d v
 | .p _,_,h=>RP.kp s h
 | .ref i,_,h=>by obtain⟨a,e,h⟩:=h;obtain⟨n,x⟩:=s.pre;refine⟨a,e,?_⟩;rw[x];have k:i < m.length:=(bB.mp h).1;rw[cA k];exact h
theorem dh.kp(s:Kp F m H F' m' H'):∀{d:List D}{xs:List V},dh K F H m d xs->dh K F' H' m' d xs
 | [],_,h=>h
 |_::_,_,h=>by obtain⟨x,r,e,a,n⟩:=h;exact⟨x,r,e,RD.kp s a,dh.kp s n⟩
variable{d:P}{v:V}
theorem RP.mono(s:Stp F m H F' m' H')(h:RP K F H d v):RP K F' H' d v:=RP.kp s.kp h
theorem cf.mono(s:Stp F m H F' m' H'){d:List P}{v:List V}(h:cf K F H d v):cf K F' H' d v:=cf.kp s.kp h
theorem RD.mono(s:Stp F m H F' m' H'){d:D}{v:V}(h:RD K F H m d v):RD K F' H' m' d v:=RD.kp s.kp h
theorem dh.mono(s:Stp F m H F' m' H'){d:List D}{v:List V}(h:dh K F H m d v):dh K F' H' m' d v:=dh.kp s.kp h
theorem cf.length:∀{d:List P}{xs:List V},cf K F H d xs->d.length=xs.length
 | [],_,h=>by rw[show _=([]:List V) from h]<;>rfl
 |_::_,_,h=>by obtain⟨x,r,e,_,a⟩:=h;rw[e,aR,aR,cf.length a]
theorem dh.length:∀{d:List D}{xs:List V},dh K F H m d xs->d.length=xs.length
 | [],_,h=>by rw[show _=([]:List V) from h]<;>rfl
 |_::_,_,h=>by obtain⟨x,r,e,_,a⟩:=h;rw[e,aR,aR,dh.length a]
theorem cf.get:∀{s:List P}{xs:List V}{i:Nat}{d:P},cf K F H s xs->s[i]? = some d->∃x,xs[i]? = some x/\RP K F H d x
 | [],_,_,_,_,e=>by simp at e
 |_::_,_,0,_,h,e=>by obtain⟨x,r,rfl,n,_⟩:=h;simp at e;subst e;exact⟨x,rfl,n⟩
 |_::_,_,i+1,d,h,e=>by obtain⟨x,r,rfl,_,k⟩:=h;obtain⟨y,a,f⟩:=cf.get (i:=i) k (by simpa using e);exact⟨y,by simpa using a,f⟩
theorem cf.append:∀{d l:List P}{xs y:List V},cf K F H d xs->cf K F H l y->cf K F H (d++l) (xs++y)
 | [],_,_,_,h,g=>by rw[show _=([]:List V) from h];exact g
 |_::_,_,_,_,h,g=>by obtain⟨x,r,rfl,a,e⟩:=h;exact⟨x,r++_,rfl,a,cf.append e g⟩
theorem dh.append:∀{d l:List D}{xs y:List V},dh K F H m d xs->dh K F H m l y->dh K F H m (d++l) (xs++y)
 | [],_,_,_,h,g=>by rw[show _=([]:List V) from h];exact g
 |_::_,_,_,_,h,g=>by obtain⟨x,r,rfl,a,e⟩:=h;exact⟨x,r++_,rfl,a,dh.append e g⟩
theorem cf.take:∀(n:Nat){d:List P}{xs:List V},cf K F H d xs->cf K F H (d.take n) (xs.take n)
 |0,_,_,_=>rfl
 |_+1,[],_,h=>by rw[show _=([]:List V) from h];rfl
 |n+1,_::_,_,h=>by obtain⟨x,r,rfl,a,e⟩:=h;exact⟨x,r.take n,rfl,a,cf.take n e⟩
theorem cf.drop:∀(n:Nat){d:List P}{xs:List V},cf K F H d xs->cf K F H (d.drop n) (xs.drop n)
 |0,_,_,h=>h
 |_+1,[],_,h=>by rw[show _=([]:List V) from h];rfl
 |n+1,_::_,_,h=>by obtain⟨x,r,rfl,_,a⟩:=h;exact cf.drop n a
theorem dh.take:∀(n:Nat){d:List D}{xs:List V},dh K F H m d xs->dh K F H m (d.take n) (xs.take n)
 |0,_,_,_=>rfl
 |_+1,[],_,h=>by rw[show _=([]:List V) from h];rfl
 |n+1,_::_,_,h=>by obtain⟨x,r,rfl,a,e⟩:=h;exact⟨x,r.take n,rfl,a,dh.take n e⟩
theorem dh.get:∀{s:List D}{xs:List V}{i:Nat}{d:D},dh K F H m s xs->s[i]? = some d->∃x,xs[i]? = some x/\RD K F H m d x
 | [],_,_,_,_,e=>by simp at e
 |_::_,_,0,_,h,e=>by obtain⟨x,r,rfl,n,_⟩:=h;simp at e;subst e;exact⟨x,rfl,n⟩
 |_::_,_,i+1,d,h,e=>by obtain⟨x,r,rfl,_,k⟩:=h;obtain⟨y,a,f⟩:=dh.get (i:=i) k (by simpa using e);exact⟨y,by simpa using a,f⟩
theorem dh.ofP:∀{d:List P}{xs:List V},cf K F H d xs->dh K F H m (d.map .p) xs
 | [],_,h=>h
 |_::_,_,h=>by obtain⟨x,r,e,a,s⟩:=h;exact⟨x,r,e,a,dh.ofP s⟩
variable{p:Addr}
theorem Rel.fresh_m(r:Rel K F H m S)(h:H p=none):p ∉ m:=λz=>r.trk p z h
theorem Rel.fresh_F(r:Rel K F H m S)(h:H p=none):¬F p:=λz=>r.ft p z h
variable{o:HO}
theorem gS(x:H p=none):Stp F m H F m (b7 H p o) where
 pre:=⟨[],by simp⟩
 oth:=λb u h _=>by rw[ao (by rintro rfl;rw[x]at h;cases h)];exact h
 frz:=λ_ h=>h
 frk:=λb u _ h=>by rw[ao (by rintro rfl;rw[x]at h;cases h)];exact h
 tup:=λb u h=>by rw[ao (by rintro rfl;rw[x]at h;cases h)];exact h
 cod:=λb u w h=>by rw[ao (by rintro rfl;rw[x]at h;cases h)];exact h
 trk:=λb h=>by
  by_cases e:b=p
  .subst e;rw[aM];exact λz=>nomatch z
  .rw [ao e];exact h
 nf:=λ_ h=>.inl h
 nm:=λ_ h=>.inl h
theorem RO.kp(s:Kp F m H F' m' H'){a:Addr}{o:SO}(k:∀u,H a=some u->H' a=some u)(h:RO K F H m a o):RO K F' H' m' a o:=by
 cases o with
 |lst b=>obtain⟨xs,e,r⟩:=h;exact⟨xs,k _ e,dh.kp s r⟩
 |dct p b=>obtain⟨x,e,f,r⟩:=h;exact⟨x,k _ e,f,dh.kp s r⟩
 |fz v=>exact RP.kp s (show RP K F H v (.ref a) from h)
 |ins c p b=>obtain⟨C,g,x,n,e,f,r⟩:=h;exact⟨C,g,x,n,k _ e,f,dh.kp s r⟩
 |dtt p b=>obtain⟨x,e,f,r⟩:=h;exact⟨x,k _ e,f,dh.kp s r⟩
 |fn Q=>intro d hd;obtain⟨v,⟨B,D,E,G,I,w,q,P,o,A,L,t,N,i,j,l,y,z,S⟩,r⟩:=h d hd;exact⟨v,⟨B,D,E,G,I,w,q,P,o,A,L,t,N,s.cod _ _ _ i,s.cod _ _ _ j,l,y,s.cod _ _ _ z,S⟩,r.kp s⟩
 |dtn p b=>obtain⟨x,e,f,M,r⟩:=h;exact⟨x,k _ e,f,cf.kp s M,dh.kp s r⟩
theorem RO.mono(s:Stp F m H F' m' H'){a:Addr}{o:SO}(k:∀u,H a=some u->H' a=some u)(h:RO K F H m a o):RO K F' H' m' a o:=RO.kp s.kp k h
theorem Rel.stayK(r:Rel K F H m S)(s:Kp F m H F' m H')(k:∀a u,a ∈ m->H a=some u->H' a=some u)(n:∀a,F' a->F a\/H a=none)(t:∀a,F' a->H' a≠none):Rel K F' H' m S where
 len:=r.len
 nd:=r.nd
 obj:=λi a o e x=>(r.obj i a o e x).kp s λu h=>k a u (aY e) h
 sep:=λi a o e x w f=>by
  rcases n a f with f|f
  .exact r.sep i a o e x w f
  .exact r.trk a (aY e) f
 trk:=λa h=>by
  cases q:H a with
  |none=>exact absurd q (r.trk a h)
  |some u=>rw[k a u h q];exact λz=>nomatch z
 ft:=t
theorem Rel.stay(r:Rel K F H m S)(s:Stp F m H F' m H')(k:∀a u,a ∈ m->H a=some u->H' a=some u)(n:∀a,F' a->F a\/H a=none)(t:∀a,F' a->H' a≠none):Rel K F' H' m S where
 len:=r.len
 nd:=r.nd
 obj:=λi a o e x=>(r.obj i a o e x).mono s λu h=>k a u (aY e) h
 sep:=λi a o e x w f=>by
  rcases n a f with f|f
  .exact r.sep i a o e x w f
  .exact r.trk a (aY e) f
 trk:=λa h=>s.trk a (r.trk a h)
 ft:=t
theorem Rel.new(r:Rel K F H m S)(x:H p=none):Rel K F (b7 H p o) m S:=
 r.stay (gS x) (λa u e h=>by rw[ao (by rintro rfl;exact r.fresh_m x e)];exact h) (λ_ f=>.inl f) λa f=>(gS (F:=F) (m:=m) x).trk a (r.ft a f)
theorem dX{p:Addr}{o:HO}(x:H p=none):Stp F m H F (m++[p]) (b7 H p o) where
 pre:=⟨[p],rfl⟩
 oth:=(gS (F:=F) (m:=m) (o:=o) x).oth
 frz:=λ_ h=>h
 frk:=(gS (F:=F) (m:=m) (o:=o) x).frk
 tup:=(gS (F:=F) (m:=m) (o:=o) x).tup
 cod:=(gS (F:=F) (m:=m) (o:=o) x).cod
 trk:=(gS (F:=F) (m:=m) (o:=o) x).trk
 nf:=λ_ h=>.inl h
 nm:=λb h=>by
  rcases bN.mp h with h|h
  .exact .inl h
  .have:b=p:=by simpa using h
   subst this;exact .inr x
theorem Rel.own(r:Rel K F H m S){p:Addr}{o:HO}{c:SO}(n:H p=none)(v:RO K F (b7 H p o) (m++[p]) p c):Rel K F (b7 H p o) (m++[p]) (S++[c]) where
 len:=by rw[a_,a_,r.len];rfl
 nd:=by
  rw[lh];refine⟨r.nd,by simp,λa t b q e=>?_⟩;have:b=p:=by simpa using q
  subst this;subst e;exact r.fresh_m n t
 obj:=λi a u x s=>by
  by_cases k:i < m.length
  .rw [cA k]at x;rw[cA (by rw[<- r.len];exact k)]at s;exact(r.obj i a u x s).mono (dX n) λw h=>by rw[ao (by rintro rfl;rw[n]at h;cases h)];exact h
  .have l:i=m.length:=by
    have:=(bB.mp x).1;rw[a_]at this;simp at this;lia
   subst l;rw[b_ (ak _)]at x;rw[r.len,b_ (ak _)]at s;simp at x s;subst x;subst s;exact v
 sep:=λi a u x s w f=>by
  by_cases k:i < m.length
  .rw [cA k]at x;rw[cA (by rw[<- r.len];exact k)]at s;exact r.sep i a u x s w f
  .have l:i=m.length:=by
    have:=(bB.mp x).1;rw[a_]at this;simp at this;lia
   subst l;rw[b_ (ak _)]at x;simp at x;subst x;exact r.fresh_F n f
 trk:=λa h=>by
  rcases bN.mp h with h|h
  .exact (dX (F:=F) (m:=m) n).trk a (r.trk a h)
  .have:a=p:=by simpa using h
   subst this;rw[aM];exact λz=>nomatch z
 ft:=λa f=>(dX (F:=F) (m:=m) n).trk a (r.ft a f)
variable{i:Nat}
theorem f8(r:Rel K F H m S)(s:m[i]? = some p)(n:S[i]? = some k)(hw:k.own)(t:∀xs,H p≠some (.tup xs)):Stp F m H F m (b7 H p o) where
 pre:=⟨[],by simp⟩
 oth:=λb u h c=>by rw[ao (by rintro rfl;exact c (aY s))];exact h
 frz:=λ_ h=>h
 frk:=λb u f h=>by rw[ao (by rintro rfl;exact r.sep i _ k s n hw f)];exact h
 tup:=λb xs h=>by rw[ao (by rintro rfl;exact t xs h)];exact h
 cod:=λb x u h=>by
  rw[ao ?_];exact h;rintro rfl;have a:=r.obj i b k s n;cases k with
  |fz _=>exact hw
  |fn _=>exact hw
  |lst _=>obtain⟨_,e,_⟩:=a;rw[h]at e;cases e
  |dct _ _=>obtain⟨_,e,_⟩:=a;rw[h]at e;cases e
  |ins _ _ _=>obtain⟨_,_,_,_,e,_⟩:=a;rw[h]at e;cases e
  |dtn _ _=>obtain⟨_,e,_⟩:=a;rw[h]at e;cases e
  |dtt _ _=>obtain⟨_,e,_⟩:=a;rw[h]at e;cases e
 trk:=λb h=>by
  by_cases e:b=p
  .subst e;rw[aM];exact λz=>nomatch z
  .rw [ao e];exact h
 nf:=λ_ h=>.inl h
 nm:=λ_ h=>.inl h
theorem wS(h:m.Nodup)(e:m[i]? = some a)(x:m[k]? = some a):i=k:=by exact(List.getElem?_inj (bB.mp e).1 h).mp (e.trans x.symm)
theorem Rel.set(r:Rel K F H m S){i:Nat}{p:Addr}{c b:SO}{o:HO}(s:m[i]? = some p)(k:S[i]? = some c)(hw:c.own)(t:∀xs,H p≠some (.tup xs))(q:RO K F (b7 H p o) m p b) :
  Rel K F (b7 H p o) m (S.set i b) where
 len:=by rw[dw];exact r.len
 nd:=r.nd
 obj:=λj a u e x=>by
  by_cases n:i=j
  .subst n;rw[s]at e;cases e;rw[bA (by exact(bB.mp k).1)]at x;cases x;exact q
  .rw [aV n]at x;exact(r.obj j a u e x).mono (f8 r s k hw t) λw h=>by rw[ao (by rintro rfl;exact n (wS r.nd s e))];exact h
 sep:=λj a u e x w f=>by
  by_cases n:i=j
  .subst n;rw[s]at e;cases e;exact r.sep i p c s k hw f
  .rw [aV n]at x;exact r.sep j a u e x w f
 trk:=λa h=>(f8 (o:=o) r s k hw t).trk a (r.trk a h)
 ft:=λa f=>(f8 (o:=o) r s k hw t).trk a (r.ft a f)
theorem u6(x:p ∈ m):Stp F m H (λb=>F b\/b=p) m H:=
 ⟨⟨[],by simp⟩,fun _ _ h _=>h,fun _ h=>.inl h,fun _ _ _ h=>h,fun _ _ h=>h,fun _ h=>h,fun b h=>by
  rcases h with h|h
  .exact .inl h
  .subst h;exact .inr (.inr x),λ_ h=>.inl h,λ_ _ _ h=>h⟩
theorem Rel.frz(r:Rel K F H m S){i:Nat}{p:Addr}{c:SO}{v:P}(n:m[i]? = some p)(k:S[i]? = some c)(o:RP K (λb=>F b\/b=p) H v (.ref p)):Rel K (λb=>F b\/b=p) H m (S.set i (.fz v)) where
 len:=by rw[dw];exact r.len
 nd:=r.nd
 obj:=λj a u x e=>by
  by_cases s:i=j
  .subst s;rw[n]at x;cases x;rw[bA (by exact(bB.mp k).1)]at e;cases e;exact o
  .rw [aV s]at e;exact(r.obj j a u x e).mono (u6 (aY n)) λw h=>h
 sep:=λj a u x e w f=>by
  by_cases s:i=j
  .subst s;rw[bA (by exact(bB.mp k).1)]at e;cases e;exact w
  .rw [aV s]at e;rcases f with f|f
   .exact r.sep j a u x e w f
   .subst f;exact s (wS r.nd n x)
 trk:=r.trk
 ft:=λa f=>by
  rcases f with f|f
  .exact r.ft a f
  .subst f;exact r.trk _ (aY n)
end
noncomputable abbrev EE:=Lc->Y->Option (D×Y)
noncomputable abbrev xL:=Option (D×Y)
noncomputable abbrev EV:=Lc->Y->Option (P×Y)
noncomputable abbrev tyV:=Option (P×Y)
noncomputable abbrev EB:=Lc->Y->Option (Bool×Y)
noncomputable abbrev MZ:=Option (Bool×Y)
noncomputable abbrev kn:=Lc->Y->Option (List P×Y)
noncomputable abbrev Ef:=Option (List P×Y)
inductive Fl where
 |nx|rt (d:D)|bk|ct
noncomputable abbrev ES:=Lc->Y->Option (Fl×Lc×Y)
noncomputable abbrev Bs:=Option (Fl×Lc×Y)
variable{α:Type}{β:Type}
noncomputable def bQ(x:Option (α×Y))(f:α->Y->Option β):Option β:=match x with
 |some (a,S)=>f a S
 |none=>none
@[simp] theorem az(a:α)(S:Y)(f:α->Y->Option β):bQ (some (a,S)) f=f a S:=rfl
@[simp] theorem Pz(f:α->Y->Option β):bQ none f=none:=rfl
theorem aj{α β:Type}{x:Option (α×Y)}{f:α->Y->Option β}{r:β}(h:bQ x f=some r):∃a S,x=some (a,S)/\f a S=some r:=by
 cases x with
 |none=>cases h
 |some p=>exact⟨p.1,p.2,rfl,h⟩
def vo(f:D->Y->Option (P×Y)):List D->Y->Option (List P×Y)
 | [],S=>some ([],S)
 |d::r,S=>bQ (f d S) λv h=>bQ (vo f r h) λT x=>some (v::T,x)
def toP:Nat->D->Y->Option (P×Y)
 |_,.p v,S=>some (v,S)
 |0,.ref _,_=>none
 |n+1,.ref i,S=>match S[i]? with
  |some (.lst d)=>bQ (vo (toP n) d S) λT h=>some (.lst T,h.set i (.fz (.lst T)))
  |some (.dct k d)=>bQ (vo (toP n) d S) λT h=>some (.dct k T,h.set i (.fz (.dct k T)))
  |some (.fz v)=>some (v,S)
  |some (.ins _ _ _)=>none
  |some (.dtn _ _)=>none
  |some (.dtt _ _)=>none
  |some (.fn _)=>none
  |none=>none
@[simp] theorem NN(n:Nat)(v:P)(S:Y):toP n (.p v) S=some (v,S):=by cases n<;>rfl
theorem ni(n:Nat):∀(T:List P)(S:Y),vo (toP n) (T.map .p) S=some (T,S)
 | [],_=>rfl
 |v::r,S=>by simp[vo,ni n r S]
variable{n:Nat}{S:Y}{T:List P}
theorem f6(h:S[i]? = some (.lst (T.map .p))):toP (n+1) (.ref i) S=some (.lst T,S.set i (.fz (.lst T))):=by simp[toP,h,ni]
section
variable{K:FG}{F:Aa}{H:Hp}{m:List Addr}{S N:Y}
theorem vn 
  (n:∀{d:D}{x:V}{v:P}{F:Aa}{S N:Y},f d S=some (v,N)->Rel K F H m S->RD K F H m d x->∃F',Stp F m H F' m H/\Rel K F' H m N/\N.length=S.length/\RP K F' H v x) :
  ∀{s:List D}{xs:List V}{T:List P}{F:Aa}{S N:Y},vo f s S=some (T,N)->Rel K F H m S->dh K F H m s xs->∃F',Stp F m H F' m H/\Rel K F' H m N/\N.length=S.length/\cf K F' H T xs
 | [],xs,T,F,S,N,h,r,a=>by cases h;exact⟨F,.refl,r,rfl,a⟩
 |d::s,xs,T,F,S,N,h,r,a=>by obtain⟨x,y,e,p,q⟩:=a;obtain⟨v,z,c,h⟩:=aj h;obtain⟨A,o,t,h⟩:=aj h;cases h;obtain⟨C,k,i,l,u⟩:=n c r p;obtain⟨B,b,j,w,g⟩:=vn n t i (dh.mono k q);exact⟨B,k.trans b,j,w.trans l,x,y,e,RP.mono b u,g⟩
theorem n0:∀(n:Nat){d:D}{x:V}{v:P}{F:Aa}{S N:Y},toP n d S=some (v,N)->Rel K F H m S->RD K F H m d x->∃F',Stp F m H F' m H/\Rel K F' H m N/\N.length=S.length/\RP K F' H v x
 |n,.p w,x,v,F,S,N,h,r,u=>by rw[NN]at h;cases h;exact⟨F,.refl,r,rfl,u⟩
 |0,.ref i,x,v,F,S,N,h,r,u=>by cases h
 |n+1,.ref i,x,v,F,S,N,h,r,u=>by
  obtain⟨a,e,f⟩:=u;subst e;have p:i < S.length:=by rw[<- r.len];exact(bB.mp f).1
  obtain⟨o,L⟩:∃o,S[i]? = some o:=⟨S[i],by simp[p]⟩;have z:=r.obj i a o f L;simp only[toP,L]at h;cases o with
  |fz w=>cases h;exact⟨F,.refl,r,rfl,z⟩
  |ins c M I=>cases h
  |dtn _ _=>cases h
  |dtt _ _=>cases h
  |fn _=>cases h
  |lst I=>obtain⟨T,t,g,h⟩:=aj h;cases h;obtain⟨xs,j,E⟩:=z;obtain⟨C,G,B,l,A⟩:=vn (λh=>n0 n h) g r E;obtain⟨Q,k⟩:∃o,t[i]? = some o:=⟨t[i]'(by rw[l];exact p),by simp[l,p]⟩;have q:Stp C m H (λb=>C b\/b=a) m H:=u6 (aY f);have s:RP K (λb=>C b\/b=a) H (.lst T) (.ref a):=⟨a,xs,rfl,⟨.inr rfl,j⟩,cf.mono q A⟩;exact⟨_,G.trans q,B.frz f k s,by rw[dw];exact l,s⟩
  |dct M I=>obtain⟨T,t,g,h⟩:=aj h;cases h;obtain⟨y,j,hk,E⟩:=z;obtain⟨C,G,B,l,A⟩:=vn (λh=>n0 n h) g r E;obtain⟨Q,k⟩:∃o,t[i]? = some o:=⟨t[i]'(by rw[l];exact p),by simp[l,p]⟩;have q:Stp C m H (λb=>C b\/b=a) m H:=u6 (aY f);have s:RP K (λb=>C b\/b=a) H (.dct M T) (.ref a):=⟨a,y,rfl,.inr rfl,j,hk,cf.mono q A⟩;exact⟨_,G.trans q,B.frz f k s,by rw[dw];exact l,s⟩
end
structure Grow(F:Aa)(H:Hp)(F':Aa)(H':Hp):Prop where
 keep:∀b o,H b=some o->H' b=some o
 frz:∀b,F b->F' b
 nf:∀b,F' b->F b\/(H b=none/\H' b≠none)
section
variable{K:FG}{F F' C B:Aa}{H H' z I:Hp}{m:List Addr}{S N:Y}
theorem Grow.refl:Grow F H F H:=⟨λ_ _ h=>h,λ_ h=>h,λ_ h=>.inl h⟩
theorem Grow.stp(g:Grow F H F' H'):Stp F m H F' m H' where
 pre:=⟨[],by simp⟩
 oth:=λb o h _=>g.keep b o h
 frz:=g.frz
 frk:=λb o _ h=>g.keep b o h
 tup:=λb xs h=>g.keep b _ h
 cod:=λb o u h=>g.keep b _ h
 trk:=λb h=>by
  cases q:H b with
  |none=>exact absurd q h
  |some o=>rw[g.keep b o q];exact λz=>nomatch z
 nf:=λb h=>by
  rcases g.nf b h with h|⟨h,_⟩
  .exact .inl h
  .exact .inr (.inl h)
 nm:=λ_ h=>.inl h
theorem Rel.grow(r:Rel K F H m S)(g:Grow F H F' H'):Rel K F' H' m S:=
 r.stay g.stp (fun a u _ h=>g.keep a u h) (fun a f=>by
  rcases g.nf a f with f|⟨f,_⟩
  .exact .inl f
  .exact .inr f) λa f=>by
  rcases g.nf a f with f|⟨_,f⟩
  .exact (g.stp (m:=m)).trk a (r.ft a f)
  .exact f
theorem cx{p:Addr}{o:HO}(x:H p=none):Grow F H F (b7 H p o):=
 ⟨λb u h=>by rw[ao (by rintro rfl;rw[x]at h;cases h)];exact h,λ_ h=>h,λ_ h=>.inl h⟩
theorem cQ{p:Addr}{o:HO}(x:H p=none):Grow F H (λb=>F b\/b=p) (b7 H p o):=
 ⟨fun b u h=>by rw [ao (by rintro rfl;rw [x] at h;cases h)];exact h,fun _ h=>.inl h,fun b h=>by
  rcases h with h|h
  .exact .inl h
  .subst h;exact .inr ⟨x,by rw[aM];exact λz=>nomatch z⟩⟩
theorem RP.grow(g:Grow F H F' H')(h:RP K F H d v):RP K F' H' d v:=RP.mono (m:=[]) g.stp h
theorem cf.grow(g:Grow F H F' H')(h:cf K F H d v):cf K F' H' d v:=cf.mono (m:=[]) g.stp h
theorem RP.newTup(x:H p=none)(r:cf K F H h xs):RP K F (b7 H p (.tup xs)) (.tup h) (.ref p):=⟨p,xs,rfl,.inl aM,r.grow (cx x)⟩
theorem RP.newLst(x:H p=none)(r:cf K F H h xs):RP K (λb=>F b\/b=p) (b7 H p (.lst xs)) (.lst h) (.ref p):=⟨p,xs,rfl,⟨.inr rfl,aM⟩,r.grow (cQ x)⟩
end
@[simp] def vC(v:P)(_L:Lc)(S:Y):tyV:=some (v,S)
def O(i:Nat)(L:Lc)(S:Y):xL:=match L[i]? with
 |some (some d)=>some (d,S)
 |_=>none
@[simp] def vE(f:EE)(L:Lc)(S:Y):tyV:=bQ (f L S) (toP 9)
@[simp] def U(f:EV)(L:Lc)(S:Y):xL:=bQ (f L S) λv h=>some (.p v,h)
@[simp] def bz(g:P->P->Option P)(a b:EV)(L:Lc)(S:Y):tyV:=bQ (a L S) λx h=>bQ (b L h) λy e=>(g x y).map λv=>(v,e)
@[simp] def NH(g:P->Option P)(a:EV)(L:Lc)(S:Y):tyV:=bQ (a L S) λx h=>(g x).map λv=>(v,h)
@[simp] def bV(a:EV)(L:Lc)(S:Y):MZ:=bQ (a L S) λx h=>match x with
 | .bl b=>some (b,h)
 |_=>none
@[simp] def iU(a b:EB)(L:Lc)(S:Y):MZ:=bQ (a L S) λc h=>if c=true then b L h else some (false,h)
@[simp] def y9(a b:EB)(L:Lc)(S:Y):MZ:=bQ (a L S) λc h=>if c=true then some (true,h) else b L h
@[simp] def sL(a:EB)(L:Lc)(S:Y):MZ:=bQ (a L S) λc h=>some (!c,h)
@[simp] def vB(a:EB)(L:Lc)(S:Y):tyV:=bQ (a L S) λc h=>some (.bl c,h)
@[simp] def NJ(c:EB)(a b:EV)(L:Lc)(S:Y):tyV:=bQ (c L S) λk h=>if k=true then a L h else b L h
@[simp] def ar(_L:Lc)(S:Y):Ef:=some ([],S)
@[simp] def ab(a:EV)(r:kn)(L:Lc)(S:Y):Ef:=bQ (a L S) λx h=>bQ (r L h) λxs e=>some (x::xs,e)
@[simp] def bj(g:List P->Option P)(a:kn)(L:Lc)(S:Y):tyV:=bQ (a L S) λxs h=>(g xs).map λv=>(v,h)
@[simp] def dU(L:Lc)(S:Y):Bs:=some (.nx,L,S)
@[simp] def ai(f g:ES)(L:Lc)(S:Y):Bs:=match f L S with
 |some (.nx,h,x)=>g h x
 |r=>r
@[simp] def aB(i:Nat)(f:EE)(L:Lc)(S:Y):Bs:=bQ (f L S) λd h=>some (.nx,L.set i (some d),h)
@[simp] def aS(f:EE)(L:Lc)(S:Y):Bs:=bQ (f L S) λd h=>some (.rt d,L,h)
@[simp] def cE(f:EE)(L:Lc)(S:Y):Bs:=bQ (f L S) λ_ h=>some (.nx,L,h)
@[simp] def cV(c:EB)(a b:ES)(L:Lc)(S:Y):Bs:=bQ (c L S) λk h=>if k=true then a L h else b L h
noncomputable def vc:ES:=λ_ _=>none
noncomputable abbrev kD:=P->Lc->Option Lc
noncomputable def am(i:Nat):kD:=λv L=>some (L.set i (some (.p v)))
noncomputable def bR(g:kD)(b:ES):List P->Lc->Y->Option (Fl×Lc×Y)
 | [],L,S=>some (.nx,L,S)
 |v::r,L,S=>match g v L with
  |none=>none
  |some a=>match b a S with
   |some (.nx,L2,h)=>bR g b r L2 h
   |some (.ct,L2,h)=>bR g b r L2 h
   |some (.bk,L2,h)=>some (.nx,L2,h)
   |x=>x
@[simp] def bS(i:kn)(g:kD)(b:ES)(L:Lc)(S:Y):Bs:=bQ (i L S) λxs h=>bR g b xs L h
def j0(c:EB)(b:ES):Nat->Lc->Y->Option (Fl×Lc×Y)
 |0,_,_=>none
 |n+1,L,S=>bQ (c L S) λk a=>if k=true then match b L a with
   |some (.nx,L2,h)=>j0 c b n L2 h
   |some (.ct,L2,h)=>j0 c b n L2 h
   |some (.bk,L2,h)=>some (.nx,L2,h)
   |x=>x
  else some (.nx,L,a)
def va(n:Nat)(c:EB)(b:ES):ES:=j0 c b n
open PySem PySem.Spec PyProof.Rows L2
section
variable(K:FG)
structure RL(F:Aa)(H:Hp)(m:List Addr)(J:L2.St)(L:Lc):Prop where
 len:J.length=L.length
 at':∀(i:Nat) d,L[i]? = some (some d)->∃v,J[i]? = some (some v)/\RD K F H m d v
inductive tEI(f:EE)(J:L2.St)(H:Hp)(Q:VK):Prop
 |mk (F:Aa) (m:List Addr) (L:Lc) (S:Y) (d:D) (S':Y) (h0_:Rel K F H m S) (h1_:RL K F H m J L) (h2_:f L S=some (d,S')) (h3_:∀v F' m' H',Stp F m H F' m' H'->Rel K F' H' m' S'->RD K F' H' m' d v->Q v H'):tEI f J H Q
noncomputable def tE(f:EE):TE:=λJ H Q=>tEI K f J H Q
inductive tVI(f:EV)(J:L2.St)(H:Hp)(Q:VK):Prop
 |mk (F:Aa) (m:List Addr) (L:Lc) (S:Y) (d:P) (S':Y) (h0_:Rel K F H m S) (h1_:RL K F H m J L) (h2_:f L S=some (d,S')) (h3_:∀v F' m' H',Stp F m H F' m' H'->Rel K F' H' m' S'->RP K F' H' d v->Q v H'):tVI f J H Q
noncomputable def tV(f:EV):TE:=λJ H Q=>tVI K f J H Q
inductive tQI(f:EB)(J:L2.St)(H:Hp)(Q:Bool->Hp->Prop):Prop
 |mk (F:Aa) (m:List Addr) (L:Lc) (S:Y) (b:Bool) (S':Y) (h0_:Rel K F H m S) (h1_:RL K F H m J L) (h2_:f L S=some (b,S')) (h3_:∀F' m' H',Stp F m H F' m' H'->Rel K F' H' m' S'->Q b H'):tQI f J H Q
noncomputable def tQ(f:EB):TT:=λJ H Q=>tQI K f J H Q
inductive tVsI(f:kn)(J:L2.St)(H:Hp)(Q:List V->Hp->Prop):Prop
 |mk (F:Aa) (m:List Addr) (L:Lc) (S:Y) (ds:List P) (S':Y) (h0_:Rel K F H m S) (h1_:RL K F H m J L) (h2_:f L S=some (ds,S')) (h3_:∀xs F' m' H',Stp F m H F' m' H'->Rel K F' H' m' S'->cf K F' H' ds xs->Q xs H'):tVsI f J H Q
noncomputable def qf(f:kn):TA:=λJ H Q=>tVsI K f J H Q
def Q7(D:Ends)(F:Aa)(m:List Addr)(J:L2.St)(H:Hp):Fl->Prop
 | .nx=>D.nx J H
 | .bk=>D.bk J H
 | .ct=>D.ct J H
 | .rt d=>∀v,RD K F H m d v->D.rt v H
inductive tStI(f:ES)(D:Ends)(J:L2.St)(H:Hp):Prop
 |mk (F:Aa) (m:List Addr) (L:Lc) (S:Y) (fl:Fl) (L':Lc) (S':Y) (h0_:Rel K F H m S) (h1_:RL K F H m J L) (h2_:f L S=some (fl,L',S')) (h3_:∀J' F' m' H',Stp F m H F' m' H'->Rel K F' H' m' S'->RL K F' H' m' J' L'->Q7 K D F' m' J' H' fl):tStI f D J H
noncomputable def kJ(f:ES):TS:=λD J H=>tStI K f D J H
end
section
variable{K:FG}{F F':Aa}{H H':Hp}{m m':List Addr}{J:L2.St}{L:Lc}{S:Y}
theorem RL.mono(s:Stp F m H F' m' H')(h:RL K F H m J L):RL K F' H' m' J L:=⟨h.len,λi d e=>by obtain⟨v,x,r⟩:=h.at' i d e;exact⟨v,x,RD.mono s r⟩⟩
theorem RL.set (h:RL K F H m J L) (r:RD K F H m d v) (i:Nat):RL K F H m (J.set i (some v)) (L.set i (some d)):=⟨by rw [dw,dw];exact h.len,fun j e q=>by
 by_cases x:i=j
 .subst x;by_cases a:i < L.length
  .rw [bA a]at q;cases q;exact⟨v,bA (by rw[h.len];exact a),r⟩
  .rw [uK (by rw[dw];lia)]at q;cases q
 .rw [aV x]at q;rw[aV x];exact h.at' j e q⟩
end
section
variable{X:Cx}{e:Expr}{l:Ab}{q:Stmt}{sts:List Stmt}
theorem _root_.L2.PE.imp'(h:PE X e t)(i:∀J H Q,k J H Q->t J H Q):PE X e k:=λp s J H Q I q=>h p s J H Q I (i J H Q q)
theorem _root_.L2.PT.imp'(h:PT X e t)(i:∀J H Q,k J H Q->t J H Q):PT X e k:=λp s J H Q I q=>h p s J H Q I (i J H Q q)
theorem _root_.L2.PW.imp'(h:PW X e t)(i:∀J H Q,k J H Q->t J H Q):PW X e k:=λw p s J H Q I q=>h w p s J H Q I (i J H Q q)
theorem _root_.L2.PA.imp'(h:PA X l t)(i:∀J H Q,k J H Q->t J H Q):PA X l k:=λM p s J H Q I q=>h M p s J H Q I (i J H Q q)
theorem _root_.L2.PS.imp'(h:PS X q t)(i:∀D J H,k D J H->t D J H):PS X q k:=λp s J H D I x=>h p s J H D I (i D J H x)
theorem _root_.L2.oQ.imp'(h:oQ X sts t)(i:∀D J H,k D J H->t D J H):oQ X sts k:=λp s J H D I q=>h p s J H D I (i D J H q)
end
section
variable{X:Cx}{a b c e:Expr}{l:Ab}{fa fb:EV}{fe:EE}{M:Pos}
theorem QD(h:PE X e (tE X.K fe)):PE X e (tV X.K (vE fe)):=h.imp' λJ H Q z=>by obtain⟨F,m,L,S,d,N,r,l,q,k⟩:=z;obtain⟨a,x,n,f⟩:=aj q;refine⟨F,m,L,S,a,x,r,l,n,λv F' m' H' s b t=>?_⟩;obtain⟨B,w,c,_,p⟩:=n0 9 f b t;exact k v B m' H' (s.trans w) c p
theorem MX(h:PE X e (tV X.K fa)):PE X e (tE X.K (U fa)):=h.imp' λJ H Q z=>by obtain⟨F,m,L,S,d,N,r,l,q,k⟩:=z;obtain⟨x,c,a,n⟩:=aj q;cases n;exact⟨F,m,L,S,x,N,r,l,a,λv F' m' H' s f b=>k v F' m' H' s f b⟩
theorem Nw(i:Nat)(s:X.N[i]? = some x:=by rfl)(n:JE X.e.scope x:=by first|exact Or.inl rfl|exact Or.inr (Or.inl rfl)|exact Or.inr (Or.inr rfl))(hd:(x == ("__debug__":Str))=false:=by decide)
  (h:(x == ("__classdict__":Str))=false:=by decide):PE X (.Name x M) (tE X.K (O i)):=(Lw s n hd h).imp' λJ H Q z=>by
 obtain⟨F,m,L,S,d,N,r,l,q,k⟩:=z;unfold O at q;split at q
 .rename_i b e;cases q;obtain⟨v,a,f⟩:=l.at' i _ e;exact⟨v,a,k v F m H .refl r f⟩
 .cases q
theorem xC(h:PE X e (tC v))(r:∀F H,RP X.K F H d v):PE X e (tV X.K (vC d)):=h.imp' λJ H Q z=>by obtain⟨F,m,L,S,a,N,x,l,q,k⟩:=z;cases q;exact k v F m H .refl x (r F H)
theorem QO {i h M}:PE X (.Constant (.int i) h M) (tV X.K (vC (.int i))):=xC LC λ_ _=>rfl
theorem SR {i h M}:PE X (.Constant (.bool i) h M) (tV X.K (vC (.bl i))):=xC Oj λ_ _=>rfl
theorem QI {h M}:PE X (.Constant .none h M) (tV X.K (vC .non)):=xC LB λ_ _=>rfl
theorem QF {i h M}:PE X (.Constant (.str i) h M) (tV X.K (vC (.str i))):=xC Lx λ_ _=>rfl
inductive rPI(K:FG)(g:P->P->Option P)(x:V)(y:V)(H:Hp)(Q:VK):Prop
 |mk (F:Aa) (dx:P) (dy:P) (d:P) (h0_:(∀a,F a->H a≠none)) (h1_:RP K F H dx x) (h2_:RP K F H dy y) (h3_:g dx dy=some d) (h4_:∀v F' H',Grow F H F' H'->RP K F' H' d v->Q v H'):rPI K g x y H Q
noncomputable def rP(K:FG)(g:P->P->Option P):R2:=λx y H Q=>rPI K g x y H Q
def pF(X:Cx)(f:Value->Value->Sem Value)(g:P->P->Option P):Prop:=je X f (rP X.K g)
theorem u4(h:tV X.K (bz g fa fb) J H Q):K7 (rP X.K g) (tV X.K fa) (tV X.K fb) J H Q:=by
 obtain⟨F,m,L,S,d,N,r,l,q,k⟩:=h;obtain⟨x,s,j,q⟩:=aj q;obtain⟨y,i,o,q⟩:=aj q;refine⟨F,m,L,S,x,s,r,l,j,λv C K z b G A=>?_⟩;refine⟨C,K,L,s,y,i,G,l.mono b,o,λu B P I c f D=>?_⟩;cases e:g x y with
 |none=>rw[e]at q;cases q
 |some a=>rw[e]at q;cases q;refine⟨B,x,y,_,f.ft,RP.mono c A,D,e,λw t p n E=>?_⟩;exact k w t P p (b.trans (c.trans n.stp)) (f.grow n) E
theorem SM(o:pF X (binaryOp k) g)(x:PE X a (tV X.K fa))(e:PE X b (tV X.K fb)):PE X (.BinOp a k b M) (tV X.K (bz g fa fb)):=
 (Oi o x e).imp' λ_ _ _ h=>u4 h
theorem QQ(o:pF X (compareOp k) g)(x:PE X a (tV X.K fa))(e:PE X b (tV X.K fb))(m:behindInMarks k b=false):PE X (.Compare a [k] [b] M) (tV X.K (bz g fa fb)):=
 (BL o x e m).imp' λ_ _ _ h=>u4 h
theorem Em(h:tQ X.K (bV (bz g fa fb)) J H Q):En (K7 (rP X.K g) (tV X.K fa) (tV X.K fb)) J H Q:=by
 refine u4 ?_;obtain⟨F,m,L,S,d,N,r,l,q,k⟩:=h;obtain⟨x,n,e,q⟩:=aj q;cases x with
 |bl b=>cases q;exact⟨F,m,L,S,_,_,r,l,e,λv F' m' H' s a p=>⟨_,p,k F' m' H' s a⟩⟩
 |_=>cases q
theorem QB(o:pF X (compareOp k) g)(x:PE X a (tV X.K fa))(e:PE X b (tV X.K fb))(m:behindInMarks k b=false):PT X (.Compare a [k] [b] M) (tQ X.K (bV (bz g fa fb))):=
 (BG o x e m).imp' λ_ _ _ h=>Em h
variable{qa qb:EB}{j:Ab}
theorem Nq(h:PT X a (tQ X.K qa)):PW X (.BoolOp .And [a] M) (tQ X.K qa):=Im h
theorem Qz(h:PT X a (tQ X.K qa)):PW X (.BoolOp .Or [a] M) (tQ X.K qa):=Li h
theorem QC(n:PT X a (tQ X.K qa))(f:PW X (.BoolOp .And (b::j) M) (tQ X.K qb)):PW X (.BoolOp .And (a::b::j) M) (tQ X.K (iU qa qb)):=
 (Lj n f).imp' λJ H Q z=>by
  obtain⟨F,m,L,S,d,N,r,l,q,k⟩:=z;obtain⟨c,h,e,q⟩:=aj q;refine⟨F,m,L,S,c,h,r,l,e,λF' m' H' s x=>?_⟩;cases c with
  |true=>rw[af rfl]at q ⊢;exact⟨F',m',L,h,d,N,x,l.mono s,q,λB t I v p=>k B t I (s.trans v) p⟩
  |false=>rw[ah bC]at q ⊢;cases q;exact k F' m' H' s x
theorem SJ(n:PT X a (tQ X.K qa))(f:PW X (.BoolOp .Or (b::j) M) (tQ X.K qb)):PW X (.BoolOp .Or (a::b::j) M) (tQ X.K (y9 qa qb)):=
 (Od n f).imp' λJ H Q z=>by
  obtain⟨F,m,L,S,d,N,r,l,q,k⟩:=z;obtain⟨c,h,e,q⟩:=aj q;refine⟨F,m,L,S,c,h,r,l,e,λF' m' H' s x=>?_⟩;cases c with
  |false=>rw[ah bC]at q ⊢;exact⟨F',m',L,h,d,N,x,l.mono s,q,λB t I v p=>k B t I (s.trans v) p⟩
  |true=>rw[af rfl]at q ⊢;cases q;exact k F' m' H' s x
theorem QA(h:PT X a (tQ X.K qa)):PT X (.UnaryOp .Not a M) (tQ X.K (sL qa)):=
 (Lk h).imp' λJ H Q z=>by obtain⟨F,m,L,S,d,N,r,l,q,k⟩:=z;obtain⟨c,n,e,q⟩:=aj q;cases q;exact⟨F,m,L,S,c,N,r,l,e,λF' m' H' s x=>k F' m' H' s x⟩
theorem NE {k} (h:PE X a (tV X.K (vB qa))):PE X (.BoolOp k [a] M) (tV X.K (vB qa)):=Ly h
theorem wz(h:tQ X.K qa J H k)(hk:∀b H',k b H'->Q (.bl b) H'):tV X.K (vB qa) J H Q:=by obtain⟨F,m,L,S,d,N,r,l,q,x⟩:=h;exact⟨F,m,L,S,.bl d,N,r,l,by unfold vB;rw[q];rfl,λv F' m' H' s a p=>by rw[show v=.bl d from p];exact hk _ _ (x F' m' H' s a)⟩
theorem BS(h:tV X.K (vB qa) J H Q):tQ X.K qa J H λb H'=>Q (.bl b) H':=by obtain⟨F,m,L,S,d,N,r,l,q,k⟩:=h;obtain⟨c,a,e,q⟩:=aj q;cases q;exact⟨F,m,L,S,c,N,r,l,e,λF' m' H' s x=>k _ F' m' H' s x rfl⟩
theorem QR(f:PE X a (tV X.K (vB qa)))(t:PE X (.BoolOp .And (b::j) M) (tV X.K (vB qb))):PE X (.BoolOp .And (a::b::j) M) (tV X.K (vB (iU qa qb))):=
 (LF f t).imp' λJ H Q h=>by
  obtain⟨F,m,L,S,d,N,r,l,q,k⟩:=BS h;obtain⟨c,x,n,q⟩:=aj q;refine wz (k:=λc z=>if c=true then tV X.K (vB qb) J z Q else Q (.bl false) z) ⟨F,m,L,S,c,x,r,l,n,λF' m' H' s e=>?_⟩ λb H' q=>⟨b,rfl,q⟩;cases c with
  |true=>rw[af rfl]at q ⊢;exact wz (k:=λb I=>Q (.bl b) I) ⟨F',m',L,x,d,N,e,l.mono s,q,λB p I w v=>k B p I (s.trans w) v⟩ λ_ _ q=>q
  |false=>rw[ah bC]at q ⊢;cases q;exact k F' m' H' s e
theorem SK(f:PE X a (tV X.K (vB qa)))(t:PE X (.BoolOp .Or (b::j) M) (tV X.K (vB qb))):PE X (.BoolOp .Or (a::b::j) M) (tV X.K (vB (y9 qa qb))):=
 (Oh f t).imp' λJ H Q h=>by
  obtain⟨F,m,L,S,d,N,r,l,q,k⟩:=BS h;obtain⟨c,x,n,q⟩:=aj q;refine wz (k:=λc z=>if c=true then Q (.bl true) z else tV X.K (vB qb) J z Q) ⟨F,m,L,S,c,x,r,l,n,λF' m' H' s e=>?_⟩ λb H' q=>⟨b,rfl,q⟩;cases c with
  |false=>rw[ah bC]at q ⊢;exact wz (k:=λb I=>Q (.bl b) I) ⟨F',m',L,x,d,N,e,l.mono s,q,λB p I w v=>k B p I (s.trans w) v⟩ λ_ _ q=>q
  |true=>rw[af rfl]at q ⊢;cases q;exact k F' m' H' s e
theorem QH(x:PE X a (tV X.K (vB qa))):PE X (.UnaryOp .Not a M) (tV X.K (vB (sL qa))):=
 (Lz x).imp' λJ H Q h=>by obtain⟨F,m,L,S,d,N,r,l,q,k⟩:=BS h;obtain⟨c,f,e,q⟩:=aj q;cases q;exact wz (k:=λb H'=>Q (.bl (!b)) H') ⟨F,m,L,S,c,N,r,l,e,λF' m' H' s n=>k F' m' H' s n⟩ λb H' q=>⟨b,rfl,q⟩
theorem Bn(h:PE X e (tV X.K fa)):PE X e (tV X.K (vB (bV fa))):=h.imp' λJ H Q h=>by
 obtain⟨F,m,L,S,d,N,r,l,q,k⟩:=BS h;obtain⟨x,f,a,q⟩:=aj q;cases x with
 |bl b=>cases q;exact⟨F,m,L,S,_,_,r,l,a,λv F' m' H' s n p=>by cases (show v=.bl d from p);exact k F' m' H' s n⟩
 |_=>cases q
theorem SQ(u:PT X c (tQ X.K qa))(p:PE X a (tV X.K fa))(w:PE X b (tV X.K fb)):PE X (.IfExp c a b M) (tV X.K (NJ qa fa fb)):=
 (E8 u p w).imp' λJ H Q z=>by
  obtain⟨F,m,L,S,d,N,r,l,q,k⟩:=z;obtain⟨c,h,t,q⟩:=aj q;refine⟨F,m,L,S,c,h,r,l,t,λF' m' H' s f=>?_⟩;cases c with
  |true=>rw[af rfl]at q ⊢;exact⟨F',m',L,h,d,N,f,l.mono s,q,λv B x I n e=>k v B x I (s.trans n) e⟩
  |false=>rw[ah bC]at q ⊢;exact⟨F',m',L,h,d,N,f,l.mono s,q,λv B x I n e=>k v B x I (s.trans n) e⟩
variable{fs:kn}
theorem JC:PA X [] (qf X.K ar):=iH.imp' λJ H Q h=>by obtain⟨F,m,L,S,d,N,r,l,q,k⟩:=h;cases q;exact k [] F m H .refl r rfl
theorem GR(c:PE X e (tV X.K fa))(t:PA X l (qf X.K fs))(p:starEach (e::l) X.e=(false,eval e X.e)::starEach l X.e:=by rfl):PA X (e::l) (qf X.K (ab fa fs)):=
 (fm c t p).imp' λJ H Q w=>by obtain⟨F,m,L,S,d,N,r,h,q,k⟩:=w;obtain⟨x,a,f,q⟩:=aj q;obtain⟨xs,K,b,q⟩:=aj q;cases q;refine⟨F,m,L,S,x,a,r,h,f,λv C u z s y i=>?_⟩;refine⟨C,u,L,a,xs,N,y,h.mono s,b,λT B g I n o j=>?_⟩;exact k (v::T) B g I (s.trans n) o ⟨v,T,rfl,RP.mono n i,j⟩
noncomputable def few(xs:List α):Bool:=decide (xs.length≤1000000)
theorem l_{α:Type}{xs:List α}(h:few xs=true):xs.length≤sizeLine:=aA (aN h) (by decide)
@[simp] def aJ(a:kn)(L:Lc)(S:Y):tyV:=bQ (a L S) λxs h=>if few xs=true then some (.tup xs,h) else none
@[simp] def a9(a:kn)(L:Lc)(S:Y):tyV:=bQ (a L S) λxs h=>if few xs=true then some (.lst xs,h) else none
@[simp] def d8(a:kn)(L:Lc)(S:Y):xL:=bQ (a L S) λxs h=>if few xs=true then some (.ref h.length,h++[.lst (xs.map .p)]) else none
theorem QE {u} (h:PA X l (qf X.K fs)):PE X (.Tuple l u M) (tV X.K (aJ fs)):=(ve h).imp' λJ H Q n=>by
 obtain⟨F,m,L,S,d,N,r,x,q,k⟩:=n;obtain⟨xs,v,s,q⟩:=aj q;split at q
 .rename_i f;cases q;refine⟨F,m,L,S,xs,N,r,x,s,λT C b z t c e=>⟨by rw[<- e.length];exact l_ f,λp a=>?_⟩⟩;exact k (.ref p) C b _ (t.trans (cx a).stp) (c.grow (cx a)) (.newTup a e)
 .cases q
theorem QK(h:PA X l (qf X.K fs)):PE X (.List l M) (tV X.K (a9 fs)):=(E6 h).imp' λJ H Q n=>by
 obtain⟨F,m,L,S,d,N,r,x,q,k⟩:=n;obtain⟨xs,v,s,q⟩:=aj q;split at q
 .rename_i f;cases q;refine⟨F,m,L,S,xs,N,r,x,s,λT C b z t c e=>⟨by rw[<- e.length];exact l_ f,λp a=>?_⟩⟩;exact k (.ref p) _ b _ (t.trans (cQ a).stp) (c.grow (cQ a)) (.newLst a e)
 .cases q
theorem JJ(h:PA X l (qf X.K fs)):PE X (.List l M) (tE X.K (d8 fs)):=(E6 h).imp' λJ H Q v=>by
 obtain⟨F,m,L,S,d,N,r,x,q,k⟩:=v;obtain⟨xs,b,c,q⟩:=aj q;split at q
 .rename_i t;cases q;refine⟨F,m,L,S,xs,b,r,x,c,λT C a z w n s=>⟨by rw[<- s.length];exact l_ t,λp e=>?_⟩⟩;have f:Stp C a z C (a++[p]) (b7 z p (.lst T)):=dX e;refine k (.ref p) C (a++[p]) _ (w.trans f) (n.own e ⟨T,aM,dh.ofP (cf.mono f s)⟩) ⟨p,rfl,?_⟩;rw[<- n.len,b_ (ak _)];simp
 .cases q
def rC(K:FG)(g:List P->Option P):List V->Hp->VK->Prop:=λxs H Q=>∃F s d,(∀a,F a->H a≠none)/\cf K F H s xs/\g s=some d/\∀v F' H',Grow F H F' H'->RP K F' H' d v->Q v H'
theorem yj(h:tV X.K (bj g fs) J H Q):qf X.K fs J H λT z=>rC X.K g T z Q:=by
 obtain⟨F,m,L,S,d,N,r,l,q,k⟩:=h;obtain⟨xs,t,n,q⟩:=aj q;cases e:g xs with
 |none=>rw[e]at q;cases q
 |some x=>rw[e]at q;cases q;exact⟨F,m,L,S,xs,_,r,l,n,λT C f z c s b=>⟨C,xs,_,s.ft,b,e,λv B I a p=>k v B f I (c.trans a.stp) (s.grow a) p⟩⟩
theorem yb{x:Str}{p:Pos}{id:String}{g:List P->Option P}(c:dG X (.builtin id) (rC X.K g))(k:Gl X x)(m:X.g x=none)(v:bootBuiltins x=some (.builtin id))(s:PA X (e::l) (qf X.K fs))(f:x≠"__name__":=by decide)(d:(x == ("__debug__":Str))=false:=by decide)
  (n:starEach (e::l) X.e=(false,eval e X.e)::starEach l X.e:=by rfl) (a:(backTo M (starEach l X.e)).any (·.1)=false:=by rfl):PE X (.Call (.Name x p) (e::l) [] M) (tV X.K (bj g fs)):=
 (m_ c k m v s f d n a).imp' λ_ _ _ h=>yj h
theorem ya(c:dG X (.type k) (rC X.K g))(f:Gl X x)(m:X.g x=none)(v:bootBuiltins x=some (.type k))(s:PA X (e::l) (qf X.K fs))(b:x≠"__name__":=by decide)(d:(x == ("__debug__":Str))=false:=by decide)
  (n:starEach (e::l) X.e=(false,eval e X.e)::starEach l X.e:=by rfl) (a:(backTo M (starEach l X.e)).any (·.1)=false:=by rfl):PE X (.Call (.Name x p) (e::l) [] M) (tV X.K (bj g fs)):=
 (om c f m v s b d n a).imp' λ_ _ _ h=>yj h
noncomputable def PX(K:FG)(g:List P->Option P):Sp:=λT H Q _=>rC K g T H Q
theorem ND(G:FnOk X.p X.w X.K X.g X.b pf k f t ps (PX X.K g))(j:Room k X.A)(u:Gl X x)(i:X.g x=some (.ref f))(hk:dZ X.K (.ref f)=true)(v:Binds X.K t ps [])
  (c:PA X (e::l) (qf X.K fs)) (d:(x == ("__debug__":Str))=false:=by decide) (w:starEach (e::l) X.e=(false,eval e X.e)::starEach l X.e:=by rfl) (n:(backTo M (starEach l X.e)).any (·.1)=false:=by rfl) :
  PE X (.Call (.Name x p) (e::l) [] M) (tV X.K (bj g fs)):=
 (vg G j u i hk v .nil sW c d w n).imp' λJ H Q h=>by obtain⟨F,m,L,S,b,N,r,a,q,k⟩:=yj h;exact⟨F,m,L,S,b,N,r,a,q,λxs F' m' H' s y p=>by show PX X.K g (xs++[]) H' Q E0;rw[dJ];exact k xs F' m' H' s y p⟩
end
section
variable{X:Cx}{a b e:Expr}{q:Stmt}{j bs cs:List Stmt}{f g:ES}{fe:EE}{qa:EB}{M:Pos}
theorem Qw:oQ X [] (kJ X.K dU):=Ip.imp' λD J H h=>by obtain⟨F,m,L,S,f,x,N,r,l,q,k⟩:=h;cases q;exact k J F m H .refl r l
theorem Nn(o:PS X q (kJ X.K f))(K:oQ X j (kJ X.K g)):oQ X (q::j) (kJ X.K (ai f g)):=(ER o K).imp' λD J H P=>by
 obtain⟨F,m,L,S,u,w,N,r,l,h,k⟩:=P;cases e:f L S with
 |none=>rw[show ai f g L S=none by unfold ai;rw[e]]at h;cases h
 |some x=>
  obtain⟨i,p,v⟩:=x;cases i with
  |nx=>
   have n:g p v=some (u,w,N):=by have:=h;unfold ai at this;rw[e]at this;exact this
   exact⟨F,m,L,S,.nx,p,v,r,l,e,λt C s z c b a=>⟨C,s,p,v,u,w,N,b,a,n,λy B E I M G A=>k y B E I (c.trans M) G A⟩⟩
  |rt d=>
   have n:some (Fl.rt d,p,v)=some (u,w,N):=by have:=h;unfold ai at this;rw[e]at this;exact this
   cases n;exact⟨F,m,L,S,_,_,_,r,l,e,λt C s z c b a=>k t C s z c b a⟩
  |bk=>
   have n:some (Fl.bk,p,v)=some (u,w,N):=by have:=h;unfold ai at this;rw[e]at this;exact this
   cases n;exact⟨F,m,L,S,_,_,_,r,l,e,λt C s z c b a=>k t C s z c b a⟩
  |ct=>
   have n:some (Fl.ct,p,v)=some (u,w,N):=by have:=h;unfold ai at this;rw[e]at this;exact this
   cases n;exact⟨F,m,L,S,_,_,_,r,l,e,λt C s z c b a=>k t C s z c b a⟩
theorem Qv(h:PS X q (kJ X.K f)):oQ X [q] (kJ X.K f):=Io h
theorem Kt(h:PE X e (tE X.K fe)):PS X (.Return (some e) M) (kJ X.K (aS fe)):=(Lm h).imp' λD J H z=>by obtain⟨F,m,L,S,b,n,N,r,l,q,k⟩:=z;obtain⟨d,f,x,q⟩:=aj q;cases q;exact⟨F,m,L,S,d,N,r,l,x,λv F' m' H' s a p=>k J F' m' H' s a (l.mono s) v p⟩
theorem Nm(h:PE X e (tE X.K fe))(a:swapsWith e none M.line X.e=pure false:=by rfl):PS X (.Expr e M) (kJ X.K (cE fe)):=(Ir h a).imp' λD J H z=>by obtain⟨F,m,L,S,c,f,N,r,l,q,k⟩:=z;obtain⟨d,b,x,q⟩:=aj q;cases q;exact⟨F,m,L,S,d,N,r,l,x,λv F' m' H' s n p=>k J F' m' H' s n (l.mono s)⟩
theorem Cs(i:Nat)(n:X.N.Nodup)(h:PE X e (tE X.K fe))(b:X.N[i]? = some x:=by rfl)(w:Loc X.e.scope x:=by first|exact Or.inl rfl|exact Or.inr rfl)(c:swapsWith e (some (.Name x t)) M.line X.e=pure false:=by rfl)
  (f:X.fn x=true\/X.e.scope.names.lookup x=some .local:=by first|exact .inl rfl|exact .inr rfl|assumption):PS X (.Assign [.Name x t] e M) (kJ X.K (aB i fe)):=
 (Ll n b w h c f).imp' λD J H z=>by obtain⟨F,m,L,S,y,g,N,r,l,q,k⟩:=z;obtain⟨d,j,a,q⟩:=aj q;cases q;exact⟨F,m,L,S,d,N,r,l,a,λv F' m' H' s u p=>k (J.set i (some v)) F' m' H' s u ((l.mono s).set p i)⟩
theorem SI(i:PT X c (tQ X.K qa))(w:oQ X bs (kJ X.K f))(u:oQ X cs (kJ X.K g)):PS X (.If c bs cs M) (kJ X.K (cV qa f g)):=(Oe i w u).imp' λD J H z=>by
 obtain⟨F,m,L,S,p,t,N,r,l,q,k⟩:=z;obtain⟨c,x,d,q⟩:=aj q;refine⟨F,m,L,S,c,x,r,l,d,λF' m' H' s v=>?_⟩;cases c with
 |true=>rw[af rfl]at q ⊢;exact⟨F',m',L,x,p,t,N,v,l.mono s,q,λh B e I b n a=>k h B e I (s.trans b) n a⟩
 |false=>rw[ah bC]at q ⊢;exact⟨F',m',L,x,p,t,N,v,l.mono s,q,λh B e I b n a=>k h B e I (s.trans b) n a⟩
theorem Ku:PS X q (kJ X.K vc):=EU.imp' λD J H z=>by obtain⟨F,m,L,S,f,x,N,r,l,h,k⟩:=z;cases h
inductive gTI(K:FG)(g:kD)(x:V)(J:L2.St)(H:Hp)(Q:L2.St->Hp->Prop):Prop
 |mk (F:Aa) (m:List Addr) (L:Lc) (v:P) (L':Lc) (h0_:RL K F H m J L) (h1_:RP K F H v x) (h2_:g v L=some L') (h3_:∀J',RL K F H m J' L'->Q J' H):gTI K g x J H Q
noncomputable def gT(K:FG)(g:kD):TG:=λx J H Q=>gTI K g x J H Q
theorem _root_.L2.PG.imp'(h:PG X tg t)(i:∀v J H Q,k v J H Q->t v J H Q):PG X tg k:=λp s J H v u Q I r q=>h p s J H v u Q I r (i v J H Q q)
theorem Mn(i:Nat)(h:X.N.Nodup)(a:X.N[i]? = some x:=by rfl)(e:Loc X.e.scope x:=by first|exact Or.inl rfl|exact Or.inr rfl)(f:X.fn x=true\/X.e.scope.names.lookup x=some .local:=by first|exact .inl rfl|exact .inr rfl|assumption) :
  PG X (.Name x M) (gT X.K (am i)):=(IC h a e f).imp' λv J H Q z=>by
 obtain⟨F,m,L,d,s,l,p,q,k⟩:=z;cases q;exact k _ (l.set (d:=.p d) p i)
def MU(K:FG)(a:It)(T:List P)(F:Aa)(m:List Addr)(H:Hp):Prop:=∀B s I,Stp F m H B s I ->
 (∀(i:Nat) v,T[i]? = some v->a.go i I/\∀x h,a.yld i I x h->∃e,Grow B I e h/\RP K e h v x)/\a.stop T.length I
inductive tII(K:FG)(f:kn)(J:L2.St)(H:Hp)(R:It->Hp->Prop):Prop
 |mk (F:Aa) (m:List Addr) (L:Lc) (S:Y) (vs:List P) (S':Y) (h0_:Rel K F H m S) (h1_:RL K F H m J L) (h2_:f L S=some (vs,S')) (h3_:∀J9 F' m' H',Stp F m H F' m' H'->Rel K F' H' m' S'->MU K J9 vs F' m' H'->R J9 H'):tII K f J H R
noncomputable def tI(K:FG)(f:kn):TI:=λJ H R=>tII K f J H R
theorem Qx{tg iter:Expr}{fi:kn}{g:kD}{b:List Stmt}{fb:ES}(hp:PassesOwn (model X.p X.w) X.A X.e X.xe)(hc:X.c=true)(hi:PI X tg iter (tI X.K fi))(hg:PG X tg (gT X.K g))(hb:oQ X b (kJ X.K fb))
  (hs:∀x,foldedSetIterable iter X.e x=pure x:=by intro _;rfl):PS X (.For tg iter b [] M) (kJ X.K (bS fi g fb)):=
 (Ln hp hc hi hg hb hs).imp' λD J H hz=>by
  obtain⟨F,m,L,S,fl,L',N,r,l,q,k⟩:=hz;obtain⟨T,S1,e1,q⟩:=aj q;refine⟨F,m,L,S,T,S1,r,l,e1,fun J9 C u z P r1 it=>?_⟩;refine⟨fun i n Q I=>n=T.length-i/\i≤T.length/\∃B s L2 f,Stp C u z B s I/\Rel X.K B I s f/\RL X.K B I s Q L2/\bR g fb (T.drop i) L2 f=some (fl,L',N),
   ⟨T.length,rfl,cH _,C,u,L,S1,.refl,r1,l.mono P,by rw[mM];exact q⟩,?_⟩
  rintro i n Q I ⟨rfl,hi,B,s,L2,f,s2,r2,l2,a⟩;obtain⟨go,o⟩:=it B s I s2;by_cases t:i < T.length
  .right;have hv:T[i]? = some T[i]:=by simp[t]
   rw[AI t]at a;obtain⟨hgo,hy⟩:=go i _ hv;refine⟨hgo,λJ3 c=>∃n',n' < T.length-i/\(n'=T.length-(i+1)/\i+1≤T.length/\∃B s L2 f,Stp C u z B s c/\Rel X.K B c s f/\RL X.K B c s J3 L2/\bR g fb (T.drop (i+1)) L2 f=some (fl,L',N)),λ_ _ h=>h,λx c y=>?_⟩;obtain⟨G,gr,p3⟩:=hy x c y;unfold bR at a;cases eg:g T[i] L2 with
   |none=>rw[eg]at a;cases a
   |some R=>
    rw[eg]at a;dsimp only at a;refine⟨G,s,L2,T[i],R,l2.mono gr.stp,p3,eg,λJ3 l3=>?_⟩;have A:Stp C u z G s c:=s2.trans gr.stp;have r3:=r2.grow gr;cases Z:fb R f with
    |none=>rw[Z]at a;cases a
    |some h=>
     obtain⟨p,V,W⟩:=h;rw[Z]at a;refine⟨G,s,R,f,p,V,W,r3,l3,Z,λJ4 v j H4 E K w=>?_⟩;cases p with
     |nx=>exact⟨T.length-(i+1),by lia,rfl,t,v,j,V,W,A.trans E,K,w,a⟩
     |ct=>exact⟨T.length-(i+1),by lia,rfl,t,v,j,V,W,A.trans E,K,w,a⟩
     |bk=>cases a;exact k J4 v j H4 (P.trans (A.trans E)) K w
     |rt d=>cases a;exact k J4 v j H4 (P.trans (A.trans E)) K w
  .left;have e:i=T.length:=by lia
   subst e;rw[pY]at a;cases a;exact⟨o,k Q B s I (P.trans s2) r2 l2⟩
theorem Ks(hp:PassesOwn (model X.p X.w) X.A X.e X.xe)(Z:PT X c (tQ X.K qa))(W:oQ X t (kJ X.K fb)):PS X (.While c t [] M) (kJ X.K (va n qa fb)):=
 (ET hp Z W).imp' λD J H hz=>by
  obtain⟨F,m,L,S,G,E,N,r,l,q,k⟩:=hz;refine⟨λn j I=>∃B x L2 a,Stp F m H B x I/\Rel X.K B I x a/\RL X.K B I x j L2/\j0 qa fb n L2 a=some (G,E,N),⟨n,F,m,L,S,.refl,r,l,q⟩,?_⟩;rintro n j I ⟨B,x,L2,a,b,r2,A,Q⟩;cases n with
  |zero=>cases Q
  |succ n=>
   obtain⟨c,o,V,h⟩:=aj (show bQ (qa L2 a) _=_ from Q);refine⟨B,x,L2,a,c,o,r2,A,V,λC m3 T s R=>?_⟩;cases c with
   |false=>rw[ah bC]at h ⊢;cases h;exact k j C m3 T (b.trans s) R (A.mono s)
   |true=>
    rw[af rfl]at h ⊢;cases P:fb L2 o with
    |none=>rw[P]at h;cases h
    |some z=>
     obtain⟨f,y,K⟩:=z;rw[P]at h;refine⟨λv e=>∃m',m' < n+1/\∃B x L2 a,Stp F m H B x e/\Rel X.K B e x a/\RL X.K B e x v L2/\j0 qa fb m' L2 a=some (G,E,N),λ_ _ z=>z,C,m3,L2,o,f,y,K,R,A.mono s,P,λv p u e i g w=>?_⟩;cases f with
     |nx=>exact⟨n,jQ _,p,u,y,K,b.trans (s.trans i),g,w,h⟩
     |ct=>exact⟨n,jQ _,p,u,y,K,b.trans (s.trans i),g,w,h⟩
     |bk=>cases h;exact k v p u e (b.trans (s.trans i)) g w
     |rt d=>cases h;exact k v p u e (b.trans (s.trans i)) g w
end
theorem Stp.toGrow(s:Stp F [] H F' m' H')(f:∀a,F' a->H' a≠none):Grow F H F' H':=
 ⟨fun b o h=>s.oth b o h (by simp),s.frz,fun b h=>by
  rcases s.nf b h with q|q|q
  .exact .inl q
  .exact .inr ⟨q,f b h⟩
  .simp at q⟩
theorem lL{α:Prop}{β:Type}{d:β}(h:(none:Option β)=some d):α:=nomatch h
noncomputable def iO(n:Nat):Bool:=decide (n≤1000000)
theorem jc(h:iO n=true):n≤sizeLine:=aA (aN h) (by decide)
section
variable{X:Cx}
def vZ:P->P->Option P
 | .int i,.int j=>some (.int (i+j))
 | .str x,.str y=>if iO (x.length+y.length)=true then some (.str (x++y)) else none
 | .tup xs,.tup s=>if (!xs.isEmpty && iO (xs.length+s.length))=true then some (.tup (xs++s)) else none
 | .lst xs,.lst s=>if iO (xs.length+s.length)=true then some (.lst (xs++s)) else none
 |_,_=>none
theorem OD:pF X (binaryOp .Add) vZ:=by
 intro n s J H x y v u Q I o S h;obtain⟨F,E,t,d,L,w,g,q,k⟩:=h;cases E with
 |int i=>
  cases t with
  |int j=>cases q;cases (show x=.int i from w);cases (show y=.int j from g);exact LN n s J H _ _ v u Q I o S ⟨i,j,rfl,rfl,k _ F H .refl rfl⟩
  |_=>exact lL q
 |str i=>
  cases t with
  |str j=>
   simp only[vZ]at q;split at q
   .rename_i c;cases q;cases (show x=.str i from w);cases (show y=.str j from g);exact yx n s J H _ _ v u Q I o S ⟨i,j,rfl,rfl,jc c,k _ F H .refl rfl⟩
   .cases q
  |_=>exact lL q
 |tup B=>
  cases t with
  |tup l=>
   simp only[vZ]at q;split at q
   .rename_i c;rw[av]at c;cases q;obtain⟨a,xs,rfl,K,r⟩:=w;obtain⟨b,A,rfl,P,m⟩:=g;have C:=r.length;have D:=m.length;have G:xs≠[]:=λz=>by
     subst z;have:B=[]:=fY C;subst this;simp at c
    refine IJ n s J H _ _ v u Q I o S ⟨a,b,xs,A,rfl,rfl,K.sq,P.sq,G,by rw[<- C,<- D];exact jc c.2,λz=>?_,λ_ p f=>?_⟩
    .subst z;have e:l=[]:=fY D;subst e;refine k _ F H .refl ?_;rw[dJ];exact⟨a,xs,rfl,K,r⟩
    .exact k _ F _ (cx f) (.newTup f (r.append m))
   .cases q
  |_=>exact lL q
 |lst B=>
  cases t with
  |lst l=>
   simp only[vZ]at q;split at q
   .rename_i c;cases q;obtain⟨a,xs,rfl,K,r⟩:=w;obtain⟨b,A,rfl,P,m⟩:=g;exact LM n s J H _ _ v u Q I o S ⟨a,b,xs,A,rfl,rfl,K.2,P.2,by rw[<- r.length,<- m.length];exact jc c,λp f=>k _ _ _ (cQ f) (.newLst f (r.append m))⟩
   .cases q
  |_=>exact lL q
 |_=>exact lL q
noncomputable def G0(c:Int->Int->Bool)(g:Int->Int->P):P->P->Option P
 | .int i,.int j=>if c i j=true then some (g i j) else none
 |_,_=>none
@[simp] theorem Jq(c:Int->Int->Bool)(g:Int->Int->P)(i j:Int):G0 c g (.int i) (.int j)=if c i j=true then some (g i j) else none:=rfl
theorem wN{f:Value->Value->Sem Value}{C:Int->Int->Prop}{a:Int->Int->V}{c:Int->Int->Bool}{g:Int->Int->P}(o:je X f (rI C a))(b:∀i j,c i j=true->C i j)(m:∀K F H i j,RP K F H (g i j) (a i j)):pF X f (G0 c g):=by
 intro p s J H x y v u Q I l z h;obtain⟨F,e,n,d,S,t,w,q,k⟩:=h;cases e with
 |int i=>
  cases n with
  |int j=>
   rw[Jq]at q;split at q
   .rename_i r;cases q;cases (show x=.int i from t);cases (show y=.int j from w);exact o p s J H _ _ v u Q I l z ⟨i,j,rfl,rfl,b i j r,k _ F H .refl (m _ _ _ _ _)⟩
   .cases q
  |_=>exact lL q
 |_=>exact lL q
theorem rg(h:je X f (Ij k)):je X f (rI (λ_ _=>True) k):=λp s J H x y v u Q I r n ⟨i,j,e,a,_,q⟩=>h p s J H x y v u Q I r n ⟨i,j,e,a,q⟩
noncomputable abbrev D7:Int->Int->Bool:=λ_ _=>true
abbrev Mx:=G0 D7 λi j=>.int (i-j)
theorem Oq:pF X (binaryOp .Sub) Mx:=wN (rg LG) (λ_ _ _=>trivial) λ_ _ _ _ _=>rfl
noncomputable abbrev Lr:Int->Int->Bool:=λ_ j=>decide (0 < j) && decide (j < 1152921504606846976)
theorem Ff:je X (binaryOp .FloorDiv) (rI (λ_ j=>0 < j/\j < 1152921504606846976) λi j=>.int (i / j)):=P1 λi j _ _ _ _ _ h q=>by have a:(0:Int) < j:=h.1;have e:j < 1152921504606846976:=h.2;have x:j.natAbs.log2 < 9000:=bJ ((z0 (by lia)).mpr (show j.natAbs < 2 ^ 60 by lia)) (by decide);exact floordiv_int (by lia) (by rw[Int.fdiv_eq_ediv_of_nonneg i (by lia)];exact q) (.inl (PyProof.noPylong_of_log2 x))
abbrev gm:=G0 Lr λi j=>.int (i / j)
theorem IK:pF X (binaryOp .FloorDiv) gm:=wN Ff (λi j h=>by rw[av]at h;exact⟨aN h.1,aN h.2⟩) λ_ _ _ _ _=>rfl
abbrev ma:=G0 (λ_ j=>decide (0 < j)) λi j=>.int (i % j)
theorem Ow:pF X (binaryOp .Mod) ma:=wN LK (λi j h=>aN h) λ_ _ _ _ _=>rfl
abbrev MA:=G0 (λi j=>decide (0≤j) && decide (j≤1000000) && decide (i.natAbs < 2 ^ 64)) λi j=>.int (i ^ j.toNat)
theorem Ot:pF X (binaryOp .Pow) MA:=wN LJ (λi j h=>by simp only[av]at h;exact⟨aN h.1.1,aN h.1.2,aN h.2⟩) λ_ _ _ _ _=>rfl
abbrev Kh:=G0 D7 λi j=>.bl (decide (i < j))
theorem Rp:pF X (compareOp .Lt) Kh:=wN (rg Ol) (λ_ _ _=>trivial) λ_ _ _ _ _=>rfl
abbrev Pk:=G0 D7 λi j=>.bl (decide (i≤j))
theorem Rq:pF X (compareOp .LtE) Pk:=wN (rg Om) (λ_ _ _=>trivial) λ_ _ _ _ _=>rfl
abbrev Pm:=G0 D7 λi j=>.bl (decide (j < i))
theorem Rr:pF X (compareOp .Gt) Pm:=wN (rg Oo) (λ_ _ _=>trivial) λ_ _ _ _ _=>rfl
abbrev RY:=G0 D7 λi j=>.bl (decide (j≤i))
theorem Rs:pF X (compareOp .GtE) RY:=wN (rg Op) (λ_ _ _=>trivial) λ_ _ _ _ _=>rfl
noncomputable def gC(i j:Int):Bool:=decide (i.natAbs.log2+j.natAbs.log2 < 100000000)
theorem Fq{i j:Int}(h:gC i j=true):IntMulOk i j:=by
 have a:i.natAbs.log2+j.natAbs.log2 < 100000000:=aN h;have b:∀x:Int,Builtin.Int.intBits x≤x.natAbs.log2+1:=λx=>by
  unfold Builtin.Int.intBits;split
  .exact cH _
  .exact ak _
 exact IntMulOk.of_le (b i) (b j) (by lia)
theorem II:je X (binaryOp .Mult) (rI (λi j=>IntMulOk i j) λi j=>.int (i * j)):=P1 λ_ _ _ _ _ _ _ h q=>mul_int q h
noncomputable def d4(x:Str)(n:Nat):Str:=⟨(List.replicate n x.cps).foldl (·++·) #[]⟩
theorem ym(x:Str):d4 x 1=x:=by unfold d4;cases x;simp
theorem Dc(n:Nat):(List.replicate n (#[]:Array Nat)).foldl (·++·) #[]=#[]:=by
 induction n with
 |zero=>rfl
 |succ n i=>rw[cJ,fW];simpa using i
theorem u5(x:Str)(n:Nat)(h:x.length=0):d4 x n=x:=by have e:x.cps=#[]:=Array.eq_empty_of_size_eq_zero (by simpa[mB] using h);unfold d4;cases x;simp only at e;subst e;rw[Dc]
theorem yS(a:Array Nat)(n:Nat):∀b:Array Nat,((List.replicate n a).foldl (·++·) b).size=b.size+n * a.size:=by
 induction n with
 |zero=>intro b;simp
 |succ n i=>intro b;rw[cJ,fW,i,AR,mG];lia
theorem lK(x:Str)(n:Nat):(d4 x n).length=n * x.length:=by unfold d4 mB;simp only;rw[yS];simp
def vY:P->P->Option P
 | .int i,.int j=>if gC i j=true then some (.int (i * j)) else none
 | .str x,.int n=>if (iO (n.toNat * x.length) && decide (n.natAbs < 1000000))=true then some (.str (d4 x n.toNat)) else none
 | .lst xs,.int n=>if (iO (xs.length * n.toNat) && decide (n.natAbs < 1000000))=true then some (.lst (List.replicate n.toNat xs).flatten) else none
 |_,_=>none
theorem cf.rep(h:cf K F H r xs):∀k:Nat,cf K F H (List.replicate k r).flatten (List.replicate k xs).flatten
 |0=>rfl
 |k+1=>by rw[cJ,cJ,gP,gP];exact h.append (cf.rep h k)
theorem Ov:pF X (binaryOp .Mult) vY:=by
 intro r s J H x y v u Q I o S h;obtain⟨F,B,w,d,M,g,l,q,k⟩:=h;cases B with
 |int i=>
  cases w with
  |int j=>
   simp only[vY]at q;split at q
   .rename_i c;cases q;cases (show x=.int i from g);cases (show y=.int j from l);exact II r s J H _ _ v u Q I o S ⟨i,j,rfl,rfl,Fq c,k _ F H .refl rfl⟩
   .cases q
  |_=>exact lL q
 |str i=>
  cases w with
  |int n=>
   simp only[vY]at q;split at q
   .rename_i c;rw[av]at c;have E:=aN c.2;have N:n.toNat * i.length≤1000000:=aN c.1;have T:=kM;have V:(1000000:Nat)≤sizeLine:=by decide
    cases q;cases (show x=.str i from g);cases (show y=.int n from l);obtain⟨t,rfl⟩:=o;obtain⟨W,rfl⟩:=S;refine PySem.P.mul_str (by have C:decide (n < -(2 ^ 63:Int))=false:=bt (by lia);have D:decide (n ≥ 2 ^ 63)=false:=bt (by lia);rw[C,D];rfl) (λa b=>?_) (λa b=>?_) ?_
    .intro z;have R:((i.length:Nat):Int)≤(2 ^ 63-1) / n:=by
      refine(Int.le_ediv_iff_mul_le (by lia)).mpr ?_;have e:((i.length:Nat):Int) * n=((n.toNat * i.length:Nat):Int):=by rw[zn,zo (by lia),Int.mul_comm]
      rw[e];lia
     lia
    .unfold Builtin.Str.tooLong;first
      |exact bt (by rw[jP];lia)
      |(rw[jP];exact bt (by lia))
    .have f:Q (.str (d4 i n.toNat)) H:=k _ F H .refl rfl;by_cases K:n < 1
     .rw [af K];have e:n.toNat=0:=by lia
      rw[e]at f;exact⟨by decide,⟨.str Str.empty,H,I.tok _,⟨_,rfl⟩,f⟩⟩
     .rw [ah K];by_cases m:(n == 1 ||i.length == 0)=true
      .rw [af m];rw[uQ]at m;have e:d4 i n.toNat=i:=by
        rcases m with m|m
        .have:n=1:=by simpa using m
         subst this;exact ym i
        .exact u5 i _ (by simpa using m)
       rw[e]at f;exact⟨.str i,H,I,⟨_,rfl⟩,f⟩
      .rw [ah m];refine⟨?_,⟨.str (d4 i n.toNat),H,I.tok _,⟨_,rfl⟩,f⟩⟩;have:=lK i n.toNat
       unfold d4 at this;rw[this];lia
   .cases q
  |_=>exact lL q
 |lst L=>
  cases w with
  |int n=>
   simp only[vY]at q;split at q
   .rename_i c;rw[av]at c;have E:=aN c.2;cases q;obtain⟨a,xs,rfl,G,A⟩:=g;cases (show y=.int n from l);exact LI r s J H _ _ v u Q I o S ⟨a,n,xs,rfl,rfl,G.2,by lia,by lia,by rw[<- A.length];exact jc c.1,λp P=>k _ _ _ (cQ P) (.newLst P (A.rep _))⟩
   .cases q
  |_=>exact lL q
 |_=>exact lL q
noncomputable def Su:P->P->Option P
 | .int i,.int j=>some (.bl (decide (i=j)))
 | .str x,.str y=>some (.bl (decide (x=y)))
 | .bl a,.bl b=>some (.bl (decide (a=b)))
 |_,_=>none
noncomputable def MB:P->P->Option P
 | .int i,.int j=>some (.bl (!decide (i=j)))
 | .str x,.str y=>some (.bl (!decide (x=y)))
 | .bl a,.bl b=>some (.bl (!decide (a=b)))
 |_,_=>none
theorem o_{i j:Int}:decide (V.int i=V.int j)=decide (i=j):=by
 by_cases h:i=j
 .subst h;simp
 .rw [bt h,bt λz=>h (V.int.inj z)]
theorem o8:decide (V.str i=V.str k)=decide (i=k):=by
 by_cases h:i=k
 .subst h;simp
 .rw [bt h,bt λz=>h (V.str.inj z)]
theorem rX:decide (V.bl i=V.bl k)=decide (i=k):=by
 by_cases h:i=k
 .subst h;simp
 .rw [bt h,bt λz=>h (V.bl.inj z)]
theorem Rt:pF X (compareOp .Eq) Su:=by
 intro p s J H x y v u Q I r f h;obtain⟨F,b,a,d,t,e,n,q,k⟩:=h;cases b with
 |int i=>
  cases a with
  |int j=>cases q;cases (show x=.int i from e);cases (show y=.int j from n);exact Fg p s J H _ _ v u Q I r f ⟨rfl,by rw[o_];exact k _ F H .refl rfl⟩
  |_=>exact lL q
 |str i=>
  cases a with
  |str j=>cases q;cases (show x=.str i from e);cases (show y=.str j from n);exact Fg p s J H _ _ v u Q I r f ⟨rfl,by rw[o8];exact k _ F H .refl rfl⟩
  |_=>exact lL q
 |bl i=>
  cases a with
  |bl j=>cases q;cases (show x=.bl i from e);cases (show y=.bl j from n);exact Fg p s J H _ _ v u Q I r f ⟨rfl,by rw[rX];exact k _ F H .refl rfl⟩
  |_=>exact lL q
 |_=>exact lL q
theorem Ro:pF X (compareOp .NotEq) MB:=by
 intro p s J H x y v u Q I r f h;obtain⟨F,b,a,d,t,e,n,q,k⟩:=h;cases b with
 |int i=>
  cases a with
  |int j=>cases q;cases (show x=.int i from e);cases (show y=.int j from n);exact Fe p s J H _ _ v u Q I r f ⟨rfl,by rw[o_];exact k _ F H .refl rfl⟩
  |_=>exact lL q
 |str i=>
  cases a with
  |str j=>cases q;cases (show x=.str i from e);cases (show y=.str j from n);exact Fe p s J H _ _ v u Q I r f ⟨rfl,by rw[o8];exact k _ F H .refl rfl⟩
  |_=>exact lL q
 |bl i=>
  cases a with
  |bl j=>cases q;cases (show x=.bl i from e);cases (show y=.bl j from n);exact Fe p s J H _ _ v u Q I r f ⟨rfl,by rw[rX];exact k _ F H .refl rfl⟩
  |_=>exact lL q
 |_=>exact lL q
theorem Cm{α β:Type}{xs:List α}{s:List β}{i:Int}{d:α}(l:xs.length=s.length)(h:L2.atI xs i=some d):∃j:Nat,xs[j]? = some d/\∀y,s[j]? = some y->L2.atI s i=some y:=by
 unfold L2.atI at h ⊢;rw[l]at h;cases e:Dy s.length i with
 |none=>rw[e]at h;cases h
 |some j=>rw[e]at h;exact⟨j,h,λy x=>x⟩
theorem cf.atI{K:FG}{F:Aa}{H:Hp}{s:List P}{xs:List V}{i:Int}{d:P}(r:cf K F H s xs)(h:L2.atI s i=some d):∃x,L2.atI xs i=some x/\RP K F H d x:=by obtain⟨j,a,n⟩:=Cm r.length h;obtain⟨x,e,p⟩:=r.get a;exact⟨x,n x e,p⟩
theorem dh.atI{K:FG}{F:Aa}{H:Hp}{m:List Addr}{s:List D}{xs:List V}{i:Int}{d:D}(r:dh K F H m s xs)(h:L2.atI s i=some d):∃x,L2.atI xs i=some x/\RD K F H m d x:=by obtain⟨j,a,n⟩:=Cm r.length h;obtain⟨x,e,p⟩:=r.get a;exact⟨x,n x e,p⟩
noncomputable def b8(k:cg):List cg->List α->Option α
 |h::s,v::T=>if h=k then some v else b8 k s T
 |_,_=>none
noncomputable def c_:P->Option cg
 | .int i=>some (.inl i)
 | .str x=>some (.inr x)
 |_=>none
def cR:P->P->Option P
 | .tup xs,.int i=>L2.atI xs i
 | .lst xs,.int i=>L2.atI xs i
 | .ro xs,.int i=>L2.atI xs i
 | .str x,.int i=>if iO x.length=true then (L2.atI x.cps.toList i).map λc=>.str ⟨#[c]⟩ else none
 | .dct s T,y=>match c_ y with
  |some k=>b8 k s T
  |none=>none
 |_,_=>none
theorem nY:∀{s:List (cg×V)}{a:List P}{d:P},cf K F H a (s.map (·.2))->b8 k (s.map (·.1)) a=some d->∃v,g7 s k=some v/\RP K F H d v
 | [],a,d,r,h=>by cases a<;>exact lL h
 |(n,v)::s,[],d,r,h=>lL h
 |(n,v)::s,q::a,d,r,h=>by
  obtain⟨x,u,e,p,f⟩:=r;rw[aC]at e;injection e with b c;simp only[aC,b8]at h;by_cases hk:n=k
  .rw [af hk]at h;cases h;exact⟨v,iD (p:=(n,v)) hk,by rw[show v=x from b];exact p⟩
  .rw [ah hk]at h;rw[<- c]at f;obtain⟨w,m,t⟩:=nY f h;exact⟨w,by rw[g6 (p:=(n,v)) hk];exact m,t⟩
theorem iK(h:c_ t=some k)(r:RP K F H t v):v=kV k:=by
 cases t with
 |int i=>cases h;exact r
 |str x=>cases h;exact r
 |_=>exact lL h
theorem FJ(m:X.A.units+1 < cLine):GV X (λx y H Q=>∃a v,x=.ref a/\ko H a y (some v)/\(∃k,H a=some (.dK k))/\Q v H):=by
 intro f l p s J H x y v u Q I t d h c;obtain⟨a,w,rfl,g,⟨k,hk⟩,q⟩:=h;cases t;have n:∃o,s.heap.get? a=some o/\o.ExactDict:=by obtain⟨_,_,_,_,o,_,_,e,n,_⟩:=I.h a _ hk;exact⟨o,e,n⟩
 obtain⟨o,e,n⟩:=n;exact pP ⟨o,e,n.1⟩ Bb.lookup (tB m I g d λj i b r=>⟨w,H,b,r,q⟩) c
theorem So(L:X.A.units+1 < cLine):GV X (rP X.K cR):=by
 intro n l f s J H x y v u Q I o S h t;obtain⟨F,C,m,d,N,g,j,q,k⟩:=h;cases C with
 |tup b=>
  cases m with
  |int i=>obtain⟨a,xs,rfl,K,r⟩:=g;cases (show y=.int i from j);obtain⟨z,e,p⟩:=r.atI (show L2.atI b i=some d from q);exact FI n l f s J H _ _ v u Q I o S ⟨a,xs,i,z,rfl,rfl,K.sq,e,k z F H .refl p⟩ t
  |_=>exact lL q
 |lst b=>
  cases m with
  |int i=>obtain⟨a,xs,rfl,K,r⟩:=g;cases (show y=.int i from j);obtain⟨z,e,p⟩:=r.atI (show L2.atI b i=some d from q);exact vx n l f s J H _ _ v u Q I o S ⟨a,xs,i,z,rfl,rfl,K.sq,e,k z F H .refl p⟩ t
  |_=>exact lL q
 |ro b=>
  cases m with
  |int i=>obtain⟨a,xs,rfl,K,r⟩:=g;cases (show y=.int i from j);obtain⟨z,e,p⟩:=r.atI (show L2.atI b i=some d from q);exact vx n l f s J H _ _ v u Q I o S ⟨a,xs,i,z,rfl,rfl,K.sq,e,k z F H .refl p⟩ t
  |_=>exact lL q
 |str z=>
  cases m with
  |int i=>
   cases (show x=.str z from g);cases (show y=.int i from j);simp only[cR]at q;split at q
   .rename_i G;cases e:L2.atI z.cps.toList i with
    |none=>rw[e]at q;exact lL q
    |some c=>rw[e]at q;cases q;exact Me n l f s J H _ _ v u Q I o S ⟨z,i,c,rfl,rfl,jc G,e,k _ F H .refl rfl⟩ t
   .cases q
  |_=>exact lL q
 |dct R b=>
  obtain⟨a,B,rfl,fa,hk,E,r⟩:=g;simp only[cR]at q;cases P:c_ m with
  |none=>rw[P]at q;exact lL q
  |some M=>rw[P]at q;dsimp only at q;subst E;obtain⟨w,D,p⟩:=nY r q;have A:=iK P j;subst A;exact FJ L n l f s J H _ _ v u Q I o S ⟨a,w,rfl,by rw[<- D];exact ko.k hk,⟨B,hk⟩,k w F H .refl p⟩ t
 |_=>exact lL q
theorem SN{a b:Expr}{fa fb:EV}{M:Pos}(u:X.A.units+1 < cLine)(x:PE X a (tV X.K fa))(e:PE X b (tV X.K fb))(s:nO b):PE X (.Subscript a b M) (tV X.K (bz cR fa fb)):=
 (E7 (So u) x e s).imp' λ_ _ _ h=>u4 h
end
section
variable{X:Cx}
theorem qO:∀{s:List (cg×V)}{a:List D}{d:D},dh K F H m a (s.map (·.2))->b8 k (s.map (·.1)) a=some d->∃v,g7 s k=some v/\RD K F H m d v
 | [],a,d,r,h=>by cases a<;>exact lL h
 |(n,v)::s,[],d,r,h=>lL h
 |(n,v)::s,u::a,d,r,h=>by
  obtain⟨x,g,e,p,f⟩:=r;rw[aC]at e;injection e with b c;simp only[aC,b8]at h;by_cases hk:n=k
  .rw [af hk]at h;cases h;exact⟨v,iD (p:=(n,v)) hk,by rw[show v=x from b];exact p⟩
  .rw [ah hk]at h;rw[<- c]at f;obtain⟨w,t,q⟩:=qO f h;exact⟨w,by rw[g6 (p:=(n,v)) hk];exact t,q⟩
@[simp] def o5(r:EE)(k:EV)(L:Lc)(S:Y):xL:=bQ (r L S) λd x=>bQ (k L x) λy h=>match d with
 | .p v=>(cR v y).map λz=>(.p z,h)
 | .ref i=>match h[i]? with
  | some (.lst s)=>(match y with
   | .int j=>(L2.atI s j).map λz=>(z,h)
   |_=>none)
  |some (.fz v)=>(cR v y).map λz=>(.p z,h)
  | some (.dct a T)=>(match c_ y with
   |some k=>(b8 k a T).map λz=>(z,h)
   |none=>none)
  |_=>none
theorem QN{a b:Expr}{fa:EE}{fb:EV}{M:Pos}(hu:X.A.units+1 < cLine)(ha:PE X a (tE X.K fa))(hb:PE X b (tV X.K fb))(hs:nO b):PE X (.Subscript a b M) (tE X.K (o5 fa fb)):=
 (E7 ((((So hu).or vx).or (FJ hu)).or FI) ha hb hs).imp' λJ H Q hz=>by
  obtain⟨F,m,L,S,d,N,r,h,q,k⟩:=hz;obtain⟨x,S1,A,q⟩:=aj q;obtain⟨y,K,e2,q⟩:=aj q;refine⟨F,m,L,S,x,S1,r,h,A,λv C m1 z c r1 p1=>?_⟩;refine⟨C,m1,L,S1,y,K,r1,h.mono c,e2,λu B V I o f Z=>?_⟩;have px:=RD.mono o p1;have s:∀w:P,RP X.K B I w v->(cR w y).map (λe=>(D.p e,K))=some (d,N)->rP X.K cR v u I Q:=λw pw q=>by
   cases g:cR w y with
   |none=>rw[g]at q;cases q
   |some e=>rw[g]at q;cases q;exact⟨B,w,y,e,f.ft,pw,Z,g,λt F3 H3 gr p3=>k t F3 V H3 (c.trans (o.trans gr.stp)) (f.grow gr) p3⟩
  cases x with
  |p w=>exact .inl (.inl (.inl (s w px q)))
  |ref i=>
   obtain⟨a,rfl,hm⟩:=px;dsimp only at q;cases l:K[i]? with
   |none=>rw[l]at q;cases q
   |some so=>
    rw[l]at q;have W:=f.obj i a so hm l;cases so with
    |fz w=>exact .inl (.inl (.inl (s w W q)))
    |dct ks T=>
     dsimp only at q;obtain⟨n,hk,ek,ra⟩:=W;cases E:c_ y with
     |none=>rw[E]at q;cases q
     |some R=>
      rw[E]at q;dsimp only at q;subst ek;cases g:b8 R (n.map (·.1)) T with
      |none=>rw[g]at q;cases q
      |some e=>rw[g]at q;cases q;obtain⟨w,A,p⟩:=qO ra g;have G:=iK E Z;subst G;exact .inl (.inr ⟨a,w,rfl,by rw[<- A];exact ko.k hk,⟨n,hk⟩,k w B V I (c.trans o) f p⟩)
    |ins _ _ _=>cases q
    |dtn _ _=>cases q
    |dtt _ _=>cases q
    |fn _=>cases q
    |lst ds=>
     dsimp only at q;cases y with
     |int j=>
      dsimp only at q;obtain⟨xs,hH,rs⟩:=W;cases g:L2.atI ds j with
      |none=>rw[g]at q;cases q
      |some e=>rw[g]at q;cases q;obtain⟨t,e3,p3⟩:=rs.atI g;cases (show u=.int j from Z);exact .inl (.inl (.inr ⟨a,xs,j,t,rfl,rfl,iT.of hH,e3,k t B V I (c.trans o) f p3⟩))
     |_=>cases q
def dW:P->Option Nat
 | .tup xs=>some xs.length
 | .lst xs=>some xs.length
 | .ro xs=>some xs.length
 | .str x=>if iO x.length=true then some x.length else none
 |_=>none
def dt:D->Y->Option Nat
 | .p v,_=>dW v
 | .ref i,S=>match S[i]? with
  |some (.lst d)=>some d.length
  |some (.fz v)=>dW v
  |_=>none
def dP(r:EE):EV:=λL S=>bQ (r L S) λd h=>(dt d h).map λn=>(.int n,h)
theorem B0{F:Aa}{H:Hp}{w:P}{v:V}{n:Nat}{Q:VK}(p:RP X.K F H w v)(h:dW w=some n)(q:Q (.int n) H) :
  (∃p y,[v]=[V.ref p]/\(iT X.K H p y\/nQ X.K H p y)/\Q (.int y.length) H)\/(∃z,[v]=[V.str z]/\z.length≤sizeLine/\Q (.int z.length) H):=by
 cases w with
 |tup d=>obtain⟨a,xs,rfl,t,r⟩:=p;cases h;exact .inl ⟨a,xs,rfl,.inr t.sq,by rw[<- r.length];exact q⟩
 |lst d=>obtain⟨a,xs,rfl,t,r⟩:=p;cases h;exact .inl ⟨a,xs,rfl,.inl t.sq,by rw[<- r.length];exact q⟩
 |ro d=>obtain⟨a,xs,rfl,t,r⟩:=p;cases h;exact .inl ⟨a,xs,rfl,.inl t.sq,by rw[<- r.length];exact q⟩
 |str x=>
  cases (show v=.str x from p);simp only[dW]at h;split at h
  .rename_i c;cases h;exact .inr ⟨x,rfl,jc c,q⟩
  .cases h
 |_=>exact lL h
theorem QL(A:Gl X "len")(f:X.g "len"=none)(P:PE X e (tE X.K fe))(c:starEach [e] X.e=[(false,eval e X.e)]:=by rfl):PE X (.Call (.Name "len" p) [e] [] M) (tV X.K (dP fe)):=
 (m_ (v_.or v9) A f PySem.boot_len (fm P iH (by rw[c];rfl)) (by decide) (by decide) (by rw[c];rfl) rfl).imp' λJ H Q B=>by
  obtain⟨F,m,L,S,d,N,r,h,q,k⟩:=B;obtain⟨x,b,j,q⟩:=aj q;refine⟨F,m,L,S,x,b,r,h,j,λv C D z G u t=>?_⟩;cases s:dt x b with
  |none=>rw[s]at q;cases q
  |some n=>
   rw[s]at q;cases q;have y:Q (.int n) z:=k _ C D z G u rfl;cases x with
   |p w=>exact B0 t s y
   |ref i=>
    obtain⟨a,rfl,f⟩:=t;simp only[dt]at s;cases l:N[i]? with
    |none=>rw[l]at s;cases s
    |some g=>
     rw[l]at s;have o:=u.obj i a g f l;cases g with
     |fz w=>exact B0 o s y
     |dct R T=>cases s
     |ins _ _ _=>cases s
     |dtn _ _=>cases s
     |dtt _ _=>cases s
     |fn _=>cases s
     |lst I=>cases s;obtain⟨xs,K,E⟩:=o;exact .inl ⟨a,xs,rfl,.inl (iT.of K),by rw[<- E.length];exact y⟩
noncomputable def fO(d:D)(S:Y):Option (Nat×List D):=match d with
 | .ref i=>match S[i]? with
  |some (.lst s)=>some (i,s)
  |_=>none
 |_=>none
theorem nc(h:fO d S=some (i,k)):d=.ref i/\S[i]? = some (.lst k):=by
 unfold fO at h;split at h
 .split at h
  .rename_i e;cases h;exact⟨rfl,e⟩
  .cases h
 .cases h
@[simp] def bY(r:EE)(a:EE)(L:Lc)(S:Y):xL:=bQ (r L S) λd h=>match fO d h with
 |none=>none
 |some _=>bQ (a L h) λx e=>match fO d e with
  |some (i,s)=>if few s=true then some (.p .non,e.set i (.lst (s++[x]))) else none
  |none=>none
theorem HI{o e:Expr}{W fe:EE}{p c:Pos}(ho:PE X o (tE X.K W))(he:PE X e (tE X.K fe))(M:starEach [e] X.e=[(false,eval e X.e)]:=by rfl)
  (t:attributeBase o "append" X.e (eval o X.e)=eval o X.e:=by rfl) (w:(p.endLine == c.line)=true:=by rfl):PE X (.Call (.Attribute o "append" p) [e] [] c) (tE X.K (bY W fe)):=
 (JQ ue zA PySem.F.type_list_append s_ ho (fm he iH (by rw[M];rfl)) t (by rw[M];rfl) w (by rw[M];rfl) rfl).imp' λJ H Q hz=>by
  obtain⟨F,m,L,S,d,N,r,h,s,k⟩:=hz;obtain⟨x,A,e1,s⟩:=aj s;refine⟨F,m,L,S,x,A,r,h,e1,λv C m1 z s1 r1 p1=>?_⟩;cases E:fO x A with
  |none=>rw[E]at s;cases s
  |some n=>
   obtain⟨i,ds⟩:=n;rw[E]at s;dsimp only at s;obtain⟨rfl,l⟩:=nc E;obtain⟨a,rfl,hm⟩:=id p1;obtain⟨xs,hH,rs⟩:=r1.obj i a _ hm l;refine⟨.inl ⟨rfl,xs,iT.of hH⟩,?_⟩;obtain⟨y,V,e2,s⟩:=aj s;refine⟨C,m1,L,A,y,V,r1,h.mono s1,e2,λu B R I s2 T p2=>?_⟩;cases f:fO (.ref i) V with
   |none=>rw[f]at s;cases s
   |some n=>
    obtain⟨i2,D⟩:=n;rw[f]at s;dsimp only at s;obtain⟨e3,b⟩:=nc f;cases e3;split at s
    .rename_i Z;cases s;obtain⟨a2,e4,g⟩:=RD.mono s2 p1;cases e4;obtain⟨j,K,P⟩:=T.obj i a _ g b;have hl:=l_ Z;have G:j.length < sizeLine:=by
      have:D.length≤1000000:=aN Z;rw[<- P.length];exact jR this (by decide)
     have nt:∀zs,I a≠some (.tup zs):=λzs n=>by rw[K]at n;cases n
     have q:Stp B R I B R (b7 I a (.lst (j++[u]))):=f8 T g b trivial nt;refine⟨a,j,u,rfl,rfl,K,G,?_⟩;exact k .non B R _ (s1.trans (s2.trans q)) (T.set g b trivial nt ⟨_,aM,dh.mono q (P.append ⟨u,[],rfl,p2,rfl⟩)⟩) rfl
    .cases s
noncomputable abbrev EO:=Lc->Y->Option (Option Int×Y)
noncomputable def kr:EO:=λ_ S=>some (none,S)
def jz(a:EV):EO:=λL S=>bQ (a L S) λv h=>match v with
 | .int i=>some (some i,h)
 |_=>none
inductive tOI(K:FG)(f:EO)(J:L2.St)(H:Hp)(Q:Option Int->Hp->Prop):Prop
 |mk (F:Aa) (m:List Addr) (L:Lc) (S:Y) (b:Option Int) (S':Y) (h0_:Rel K F H m S) (h1_:RL K F H m J L) (h2_:f L S=some (b,S')) (h3_:∀F' m' H',Stp F m H F' m' H'->Rel K F' H' m' S'->Q b H'):tOI K f J H Q
noncomputable def tO(K:FG)(f:EO):TO:=λJ H Q=>tOI K f J H Q
theorem _root_.L2.PO.imp'(h:PO X e t)(i:∀J H Q,k J H Q->t J H Q):PO X e k:=λp s J H Q I q=>h p s J H Q I (i J H Q q)
theorem LZ:PO X none (tO X.K kr):=Iy.imp' λJ H Q h=>by obtain⟨F,m,L,S,d,N,r,l,q,k⟩:=h;cases q;exact k F m H .refl r
theorem LY(h:PE X e (tV X.K fa)):PO X (some e) (tO X.K (jz fa)):=(Iw h).imp' λJ H Q s=>by
 obtain⟨F,m,L,S,d,N,r,l,q,k⟩:=s;obtain⟨x,c,a,q⟩:=aj q;cases x with
 |int i=>cases q;exact⟨F,m,L,S,_,_,r,l,a,λv C n z b f p=>⟨i,p,k C n z b f⟩⟩
 |_=>cases q
def cut(xs:List α)(lo h:Option Int):List α:=(xs.drop (HT.eS xs.length 0 lo)).take (HT.eS xs.length xs.length h-HT.eS xs.length 0 lo)
theorem cf.cut(r:cf K F H k xs)(lo h:Option Int):cf K F H (Ev.cut k lo h) (xt xs lo h):=by unfold Ev.cut xt;rw[r.length];exact(r.drop _).take _
def TN:P->Option Int->Option Int->Option P
 | .lst xs,lo,h=>some (.lst (cut xs lo h))
 | .ro xs,lo,h=>some (.lst (cut xs lo h))
 | .tup xs,lo,h=>if HT.eS xs.length 0 lo=0/\HT.eS xs.length xs.length h=xs.length then none else some (.tup (cut xs lo h))
 |_,_,_=>none
theorem _root_.L2.PI.imp'(h:PI X r iter t)(i:∀J H R,k J H R->t J H R):PI X r iter k:=λp s J H R I q=>h p s J H R I (i J H R q)
theorem FK(f:∀B h I,Stp F m H B h I->iT K I a xs)(r:cf K F H T xs):MU K (Qr K a) T F m H:=by
 intro B h I s;have q:=f B h I s;have k:=cf.mono s r;refine⟨λi v e=>?_,⟨xs,q,by rw[k.length];exact ak _⟩⟩;obtain⟨x,n,p⟩:=k.get e;refine⟨⟨xs,x,q,n⟩,λy b z=>?_⟩;obtain⟨rfl,z⟩:=z;have:=z xs q
 rw[n]at this;cases this;exact⟨B,.refl,p⟩
theorem Mf(k:TupAt K H a xs)(r:cf K F H T xs):MU K (SF K a) T F m H:=by
 intro B b I s;have q:=(k.kp s.kp).sq;have n:=cf.mono s r;refine⟨λi v e=>?_,⟨xs,q,by rw[n.length];exact ak _⟩⟩;obtain⟨x,h,p⟩:=n.get e;refine⟨⟨xs,x,q,h⟩,λy f z=>?_⟩;obtain⟨rfl,z⟩:=z;have:=z xs q
 rw[h]at this;cases this;exact⟨B,.refl,p⟩
noncomputable def intsFrom(lo:Int)(n:Nat):List P:=(List.range n).map λ(i:Nat)=>.int (lo+(i:Int))
def jq(a:EV):kn:=λL S=>bQ (a L S) λv h=>match v with
 | .int j=>if decide (j.natAbs < 1000000)=true then some (intsFrom 0 j.toNat,h) else none
 |_=>none
theorem Mg{lo:Int}:MU K (Qq lo n) (intsFrom lo n) F m H:=by
 intro B k I s;have l:(intsFrom lo n).length=n:=by unfold intsFrom;simp
 refine⟨λi v e=>?_,by show n≤(intsFrom lo n).length;rw[l];exact ak _⟩;have h:i < n:=by rw[<- l];exact(bB.mp e).1
 refine⟨h,λx a z=>?_⟩;obtain⟨rfl,rfl⟩:=z;refine⟨B,.refl,?_⟩;unfold intsFrom at e;simp[h]at e;subst e;exact rfl
theorem Tu{u a:Expr}{fa:EV}{p M:Pos}(g:Gl X "range")(n:X.g "range"=none)(s:PE X a (tV X.K fa))(h:starEach [a] X.e=[(false,eval a X.e)]:=by rfl):PI X u (.Call (.Name "range" p) [a] [] M) (tI X.K (jq fa)):=
 (CU g n (fm s iH (by rw[h];rfl)) h).imp' λJ H R f=>by
  obtain⟨F,m,L,S,T,N,r,l,q,k⟩:=f;obtain⟨v,i,e,q⟩:=aj q;cases v with
  |int j=>
   dsimp only at q;split at q
   .rename_i c;have y:j.natAbs < 1000000:=aN c;cases q;refine⟨F,m,L,S,_,_,r,l,e,λx C b z w d t=>?_⟩;cases (show x=.int j from t);exact⟨j,rfl,by lia,by lia,k _ C b z w d Mg⟩
   .cases q
  |_=>cases q
end
def bZ(g:kD)(c:EB)(e:EV):List P->Lc->Y->Option (List P×Y)
 | [],_,S=>some ([],S)
 |v::r,L,S=>match g v L with
  |none=>none
  |some h=>bQ (c h S) λk x=>if k=true then bQ (e h x) λy a=>bQ (bZ g c e r h a) λn s=>some (y::n,s) else bZ g c e r h x
open Classical in
def kc(ok:Y->Prop)(g:kD)(c:EB)(e:EV):List P->Lc->Y->Option (List P×Y)
 | [],_,S=>if ok S then some ([],S) else none
 | v::r,L,S=>if ok S then (match g v L with
  |none=>none
  |some h=>bQ (c h S) λk x=>if k=true then bQ (e h x) λy a=>bQ (kc ok g c e r h a) λn s=>some (y::n,s) else kc ok g c e r h x) else none
theorem rZ:∀{T:List P}{L:Lc}{S:Y},kc (λ_=>True) g c e T L S=bZ g c e T L S
 | [],_,_=>af trivial
 |v::r,L,S=>by
  unfold kc bZ;rw[af trivial];cases g v L with
  |none=>rfl
  |some h=>simp only[rZ (T:=r)]
noncomputable def lG(y:List Nat)(n:Nat)(L:List (Option α)):List (Option α):=(y.foldl (λL i=>L.set i none) L)++List.replicate n none
def bK(i:kn)(y:List Nat)(n:Nat)(g:kD)(c:EB)(e:EV):EV:=λL S=>bQ (i L S) λxs h=>if few xs=true then bQ (bZ g c e xs (lG y n L) h) λs x=>some (.lst s,x) else none
@[simp] def fQ(_L:Lc)(S:Y):MZ:=some (true,S)
theorem gW(y:List Nat):∀L:List (Option α),(y.foldl (λL i=>L.set i none) L).length=L.length:=by
 induction y with
 |nil=>intro L;rfl
 |cons t y h=>intro L;rw[fW,h,dw]
theorem sB(y:List Nat):∀(L:List (Option α))(i:Nat)(d:α),(y.foldl (λL i=>L.set i none) L)[i]? = some (some d)->L[i]? = some (some d)/\i ∉ y:=by
 induction y with
 |nil=>intro L i d h;exact⟨h,by simp⟩
 |cons t y s=>
  intro L i d h;rw[fW]at h;obtain⟨x,a⟩:=s _ _ _ h;by_cases e:t=i
  .subst e;by_cases l:t < L.length
   .rw [bA l]at x;cases x
   .rw [uK (by rw[dw];lia)]at x;cases x
  .rw [aV e]at x;exact⟨x,by simp[a];exact λz=>e z.symm⟩
theorem uY(y:List Nat)(n:Nat)(L:List (Option α)):(lG y n L).length=L.length+n:=by unfold lG;rw[a_,gW,uL]
theorem Br(h:(lG y n L)[i]? = some (some d)):L[i]? = some (some d)/\i ∉ y/\i < L.length:=by
 unfold lG at h;by_cases x:i < L.length
 .rw [cA (by rw[gW];exact x)]at h;obtain⟨a,e⟩:=sB y L i d h;exact⟨a,e,x⟩
 .rw [b_ (by rw[gW];lia),uN]at h;split at h<;>cases h
variable{J:L2.St}
theorem RL.up(l:RL K F H m J L)(y:List Nat)(n:Nat):RL K F H m (lG y n J) (lG y n L):=by
 refine⟨by rw[uY,uY,l.len],λi d h=>?_⟩;obtain⟨a,s,f⟩:=Br h;obtain⟨v,e,r⟩:=l.at' i d a;refine⟨v,?_,r⟩;unfold lG;rw[cA (by rw[gW,l.len];exact f)];have k:∀(y:List Nat)(J:L2.St),i ∉ y->J[i]? = some (some v)->(y.foldl (λL i=>L.set i none) J)[i]? = some (some v):=by
  intro y;induction y with
  |nil=>intro J _ e;exact e
  |cons t y b=>intro J x e;rw[fW];refine b _ (λz=>x (aH _ z)) ?_;rw[aV (λz=>x (by rw[z];exact aI))];exact e
 exact k y J s e
noncomputable def mh(G:Scope)(e:Env):List (Str×Addr):=((G.names.filter λx=>x.2 == .free).map λx=>(x.1,(e.cells.lookup x.1).getD 0)).reverse
def inn(X:Cx)(G:Scope)(N':LS)(s:Shared)(H:Hp)(C:Addr)(f:List Addr):Cx:=
 { X with N:=N',z:=s,y:=H,e:=compEnvC G (mh G X.e) C X.e,o:=X.k,ex:=f,fn:=λ_=>false,pn:=[],xe:=λ_ _=>False }
structure BlockOk(X:Cx)(scope:Scope)(N':LS)(ts:List Nat)(n:Nat):Prop where
 kind:scope.kind=.function
 cell:∀x ∈ scope.names,x.2≠.cell
 loc:∀x ∈ scope.names,x.2=.local->scope.names.lookup x.1=some .local
 fr:∀x ∈ scope.names,x.2=.free->scope.names.lookup x.1=some .free/\(X.e.kindOf x.1=some .cell\/X.e.kindOf x.1=some .free)
 names:X.N=N'.take X.N.length
 more:N'.length=X.N.length+n
 ts:∀x ∈ scope.names,x.2=.local->∀i:Nat,X.N[i]? = some x.1->i ∈ ts
theorem iJ:∀{l:List (Str×α)}{x:Str}{v:α},l.lookup x=some v->(x,v) ∈ l
 | [],_,_,h=>by simp at h
 |(y,w)::r,x,v,h=>by
  rw[p0]at h;cases e:x == y with
  |true=>rw[e]at h;cases h;rw[show x=y from by simpa using e];exact aI
  |false=>rw[e]at h;exact aH _ (iJ h)
theorem lM:∀{l:List (Str×α)}{x:Str}{v:α},(x,v) ∈ l->∃w,l.lookup x=some w
 | [],_,_,h=>by simp at h
 |(y,w)::r,x,v,h=>by
  rw[p0];cases e:x == y with
  |true=>exact⟨w,rfl⟩
  |false=>
   rcases aL.mp h with h|h
   .injection h with a _;subst a;simp at e
   .exact lM h
variable{x:Str}
theorem ga(h:(relabel G r).names.lookup x=some k):∃a,(x,a) ∈ G.names/\(k=a\/(k=.cell/\a=.free)):=by
 have m:=iJ h;unfold relabel at m;obtain⟨⟨n,a⟩,t,e⟩:=aZ.mp m;by_cases c:(a == NameKind.free && r.scope.kind == .function && r.kindOf n == some .cell)=true
 .have s:(n,NameKind.cell)=(x,k):=by simpa[c] using e
  injection s with f b;subst f;rw[av,av]at c;exact⟨a,t,.inr ⟨b.symm,by simpa using c.1.1⟩⟩
 .have s:(n,a)=(x,k):=by simpa[c] using e
  injection s with f b;subst f;exact⟨a,t,.inl b.symm⟩
section
variable{X:Cx}{G:Scope}{N':LS}{y:List Nat}{n:Nat}
theorem BlockOk.cl(B:BlockOk X G N' y n)(I:Inv X u J H s)(h:(mh G X.e).lookup x=some c):X.e.cells.lookup x=some c/\(x,NameKind.free) ∈ G.names:=by
 have p:=iJ h;unfold mh at p;obtain⟨⟨a,k⟩,m,e⟩:=aZ.mp (Ar.mp p);obtain⟨m,hk⟩:=ff.mp m;have t:k=.free:=by simpa using hk
 subst t;injection e with v b;subst v;obtain⟨_,d⟩:=B.fr _ m rfl;obtain⟨q,f⟩:=I.o.has a d;dsimp only at b;rw[f]at b;have r:q=c:=b;subst r;exact⟨f,m⟩
theorem BlockOk.has(B:BlockOk X G N' y n)(h:(x,NameKind.free) ∈ G.names):∃c,(mh G X.e).lookup x=some c:=by unfold mh;exact lM (v:=(X.e.cells.lookup x).getD 0) (Ar.mpr (aZ.mpr ⟨(x,.free),ff.mpr ⟨h,by simp⟩,rfl⟩))
theorem FU(B:BlockOk X G N' y n)(I:Inv X r J H s)(C:s.heap.objs.size≤k)(m:∀b ∈ u,wm X r H b)(w:∀b ∈ u,b < s.heap.objs.size) :
  (inn X G N' s H k u).Ok where
 mod:=I.o.mod
 kind:=B.kind
 glob:=I.o.glob
 blt:=I.o.blt
 above:=C
 inj:=λx a c q v=>I.o.inj x a c (B.cl I q).1 (B.cl I v).1
 has:=λx h=>by
  have p:(relabel G X.e).names.lookup x=some .cell\/(relabel G X.e).names.lookup x=some .free:=h;rcases p with h|h
  .obtain⟨g,t,e|⟨_,e⟩⟩:=ga h
   .subst e;exact absurd rfl (B.cell _ t)
   .subst e;exact B.has t
  .obtain⟨g,t,e|⟨e,_⟩⟩:=ga h
   .subst e;exact B.has t
   .cases e
 cab:=λx c h=>nomatch h
 hd:=I.o.hd
 frames:=I.o.frames
 stk:=.inl rfl
 exf:=λb f=>⟨bf (bJ (w b f) C),λx c h=>(m b f).2.2.2.2.1 x c (B.cl I h).1⟩
 bs:=I.bs
 bsz:=aA I.o.bsz I.sz
 noex:=λb o e f=>by
  rcases(m b f).2.2.2.1 with z|z
  .exact I.o.noex b o e z
  .exact absurd (bJ (aD (I.o.bs b o e).1) z) (e_ _)
 exfs:=λb f z=>by
  rcases aL.mp (I.stkSub b z) with z|z
  .exact (m b f).2.1 z
  .exact (m b f).2.2.1 z
 funs:=I.stack
 frf:=I.stkFree
 tab:=λP d=>I.base.tbls P (I.o.tab P d)
theorem _root_.L2.Un.sameBut(u:Un fs r H H' h t)(s:eB k t Q)(C:∀b o,h.get? b=some o->b≠k):Un fs r H H' h Q where
 keep:=λb o e n a x=>s.extBut b o (C b o e) (u.keep b o e n a x)
 slot:=λb o e n a x=>by obtain⟨l,q⟩:=u.slot b o e n a x;exact⟨l,s.extBut b _ (C b o e) q⟩
 free:=u.free
 there:=λb o e x=>by obtain⟨f,q⟩:=u.there b o e x;exact⟨f,s.extBut b _ (C b o e) q⟩
 tups:=u.tups
 frzs:=u.frzs
 tbls:=u.tbls
theorem _root_.L2.jt.sameBut{P:Program}{w:World}{H:Hp}{h x:Heap}{C:Addr}(ok:jt P w H h)(n:eB C h x)(a:H C=none):jt P w H x:=λb u e=>
 (ok b u e).stay (fun c v s q=>n.extBut c v (by
  rintro rfl;rcases s with z|z
  .subst z;rw[a]at e;cases e
  .rw [a]at z;cases z) q) (λ_ q=>q) λ_ _ q=>q
inductive PIfs(X:Cx):Ab->EB->Prop where
 |none:PIfs X [] fQ
 |one {c:Expr}{q:EB}:PT X c (tQ X.K q)->PIfs X [c] q
theorem Kp.bump(a:¬F p)(t:∀xs,H p≠some (.tup xs))(c:∀x u,H p≠some (.frz x (.own u))):Kp F m H F m (b7 H p o):=
 ⟨⟨[],by simp⟩,λ_ h=>h,λb u f h=>by rw[ao (by rintro rfl;exact a f)];exact h,λb xs h=>by rw[ao (by rintro rfl;exact t xs h)];exact h,λb x u h=>by rw[ao (by rintro rfl;exact c x u h)];exact h⟩
theorem Stp.bump(s:Stp F m H F' m' H')(a:H p=none):Stp F m H F' m' (b7 H' p o) where
 pre:=s.pre
 oth:=λb u h n=>by rw[ao (by rintro rfl;rw[a]at h;cases h)];exact s.oth b u h n
 frz:=s.frz
 frk:=λb u f h=>by rw[ao (by rintro rfl;rw[a]at h;cases h)];exact s.frk b u f h
 tup:=λb xs h=>by rw[ao (by rintro rfl;rw[a]at h;cases h)];exact s.tup b xs h
 cod:=λb x u h=>by rw[ao (by rintro rfl;rw[a]at h;cases h)];exact s.cod b x u h
 trk:=λb h=>by
  by_cases e:b=p
  .subst e;rw[aM];exact λz=>nomatch z
  .rw [ao e];exact s.trk b h
 nf:=s.nf
 nm:=s.nm
theorem Rel.bump(r:Rel K F H m S)(e:¬F p)(n:p ∉ m)(t:∀xs,H p≠some (.tup xs))(c:∀x u,H p≠some (.frz x (.own u))):Rel K F (b7 H p o) m S:=
 r.stayK (Kp.bump e t c) (λa u s h=>by rw[ao (by rintro rfl;exact n s)];exact h) (λ_ f=>.inl f) λa f=>by rw[ao (by rintro rfl;exact e f)];exact r.ft a f
theorem Sn:Kp F m H (λb=>F b\/b=p) m H:=⟨⟨[],by simp⟩,λ_ h=>.inl h,λ_ _ _ h=>h,λ_ _ h=>h,λ_ _ _ h=>h⟩
theorem Stp.addF(s:Stp F m H F' m' H')(x:H p=none):Stp F m H (λb=>F' b\/b=p) m' H':=
 ⟨s.pre,s.oth,fun b h=>.inl (s.frz b h),s.frk,s.tup,s.trk,fun b h=>by
  rcases h with h|h
  .exact s.nf b h
  .subst h;exact .inr (.inl x),s.nm,s.cod⟩
theorem Rel.addF(r:Rel K F H m S)(s:p ∉ m)(n:H p≠none):Rel K (λb=>F b\/b=p) H m S where
 len:=r.len
 nd:=r.nd
 obj:=λi a o e x=>(r.obj i a o e x).kp Sn λu h=>h
 sep:=λi a o e x w f=>by
  rcases f with f|f
  .exact r.sep i a o e x w f
  .subst f;exact s (aY e)
 trk:=r.trk
 ft:=λa f=>by
  rcases f with f|f
  .exact r.ft a f
  .subst f;exact n
theorem _root_.L2.Inv.letGo(I:Inv X k J H s)(f:eB h s.heap t)(C:H h=none)(v:X.z.heap.objs.size≤h)(d:h≠X.e.locals)
  (w:∀x c,X.e.cells.lookup x=some c->c≠h) (u:∀p ∈ X.pn++k,p.1≠h):Inv X k J H { s with heap:=t }:=by
 have r:∀b:Addr,b ∉ [h]->b≠h:=λb m z=>m (by simp[z]);refine I.call' (s':={ s with heap:=t }) (q:=[h]) rfl ⟨λb o e _ _ a=>f.extBut b o (r b a) e,λb o e _ _ a=>⟨o.slots,f.extBut b o (r b a) e⟩,λ_ _ _ n _=>n,λb o e a=>⟨o,f.extBut b o (r b a) e⟩,λ_ _ q=>q,λ_ _ _ q=>q,λ_ q=>q⟩ (I.h.sameBut f C) I.bare λb m=>?_;have e:b=h:=by simpa using m
 subst e;exact⟨.inr v,d,w,u⟩
theorem Do(I:Nat->Shared->Prop)
  (f:∀n s,I n s->wpAny (model t w) A (pyNext it) (fun r b=>match r with
   |none=>R (.ok .next) b
   | some v=>wpAny (model t w) A (letOwnedTupleGo tg it v) (fun _ g=>wpAny (model t w) A (assign tg k v) (fun _ i=>
     wpAny (model t w) A (forIn ifs true fun c r=>if r=true then do let ok <- isTrue c k (eval c k);pure (ForInStep.yield ok) else pure (ForInStep.yield r)) (fun ok p=>
      if ok=true then wpAny (model t w) A (eval Q k) (fun x j=>
       wpAny (model t w) A (call (.builtin "list.append") [u,x]) (λ_ l=>∃m,m < n/\I m l) (notedBy (model t w) A k λe a=>R (.error e) a) j) (notedBy (model t w) A k λe a=>R (.error e) a) p
      else ∃m,m < n/\I m p) (notedBy (model t w) A k λe a=>R (.error e) a) i) (notedBy (model t w) A k λe a=>R (.error e) a) g) (notedBy (model t w) A k λe a=>R (.error e) a) b) (notedBy (model t w) A k λe a=>R (.error e) a) s)
  (n:Nat) (h:I n s):codeAny (model t w) A (.compLoop (.ListComp Q [⟨tg,iter,ifs,0⟩] G M) 0 it u k) R s:=by
 refine codeAny_loop rfl I (λn s F=>?_) n h;show wpAny _ A ((compTurn (.ListComp Q [⟨tg,iter,ifs,0⟩] G M) 0 it u k).onRaise (λx=>do noteFrame x k;theTreesLotGoes x)) _ _ s;refine wpAny_noted ?_;rw[compTurn_list];refine ac (tU (ac (cG (f n s F) (λr b q=>?_) λ_ _ z=>z)));cases r with
 |none=>exact aq q
 |some v=>
  refine ac (cG q (λ_ g y=>ac (cG y (λ_ i o=>ac (cG o (λok p d=>?_) λ_ _ z=>z)) λ_ _ z=>z)) λ_ _ z=>z);cases ok with
  |false=>exact aq ⟨rfl,d⟩
  |true=>exact ac (ac (cG d (λx j H=>ac (cG H (λ_ l S=>aq (aq ⟨rfl,S⟩)) λ_ _ z=>z)) λ_ _ z=>z))
theorem Js{j:Heap}{tk:Nat}(B:BlockOk X G N' y n)(s:Inv X Q J I k)(C:k.heap.objs.size≤h)(Z:∀b ∈ fp,wm X Q I b)(P:∀b ∈ fp,b < k.heap.objs.size)(l:∀b o,k.heap.get? b=some o->j.get? b=some o)
  (hD:I k.heap.objs.size=none) (D:k.heap.objs.size≠h) (K:I h=none) (d:j.Ns h mC) (f:j.get? k.heap.objs.size=some { cls:=.type "list",dict:=none,data:=.seq ([]:LV).toArray }) :
  Inv (inn X G N' k I h fp) [] (lG y n J) (b7 I k.heap.objs.size (.lst [])) { k with heap:=j,toks:=tk }:=by
 refine⟨FU B s C Z P,rfl,s.bare,Un.laid l (ak _) hD,?_,λx c e=>?_,?_,λx c e=>?_,λp hp=>absurd (show p ∈ ([]:PN) from hp) (by simp),?_,?_⟩
 .obtain⟨m0,hn0,A⟩:=s.loc;refine⟨_,d,λi x v T V hv=>?_⟩;obtain⟨H,S,F⟩:=Br V;have q:J.length=X.N.length:=s.len;have M:X.N[i]? = some x:=by
   rw[B.names,im (by rw[<- q];exact F)];exact T
  have g:(relabel G X.e).names.lookup x=some .local\/(relabel G X.e).names.lookup x=some .cell\/(relabel G X.e).names.lookup x=some .free:=hv;have R:¬(relabel G X.e).names.lookup x=some .local:=λz=>by
   obtain⟨N,m,e|⟨e,_⟩⟩:=ga z
   .subst e;exact absurd (B.ts _ m rfl i M) S
   .cases e
  have L:(x,NameKind.free) ∈ G.names:=by
   rcases g with z|z|z
   .exact absurd z R
   .obtain⟨N,m,e|⟨_,e⟩⟩:=ga z
    .subst e;exact absurd rfl (B.cell _ m)
    .subst e;exact m
   .obtain⟨N,m,e|⟨e,_⟩⟩:=ga z
    .subst e;exact m
    .cases e
  obtain⟨_,t⟩:=B.fr _ L rfl;have E:JE X.e.scope x:=by
   rcases t with z|z
   .exact .inr (.inl z)
   .exact .inr (.inr z)
  obtain⟨u,ru,lk⟩:=A i x v M H E;refine⟨u,ru,.inr ⟨?_,?_⟩⟩
  .rcases g with z|z|z
   .exact absurd z R
   .exact .inl z
   .exact .inr z
  .rcases lk with ⟨z,_⟩|⟨_,c,W,ic⟩
   .rcases t with a|a
    .rw [z]at a;cases a
    .rw [z]at a;cases a
   .obtain⟨c',r⟩:=B.has L;have:=(B.cl s r).1
    rw[W]at this;cases this;obtain⟨o,w,hd⟩:=ic;exact⟨c,r,o,l c o w,hd⟩
 .obtain⟨v,o,w,hd⟩:=s.cell x c (B.cl s e).1;exact⟨v,o,l c o w,hd⟩
 .show b7 I k.heap.objs.size (.lst []) h=none;rw[ao (aP D)];exact K
 .obtain⟨v,o,w,hd⟩:=s.cell x c (B.cl s e).1;rw[ao (bf (aD w))];exact s.freeC x c (B.cl s e).1
 .exact s.h.laid l (ak _) ⟨cH _,[],0,.nil,f⟩
 .show (lG y n J).length=N'.length;rw[uY,s.len,B.more]
inductive cIv(K:FG)(Y9:Cx)(F1:Aa)(m1:List Addr)(H2:Hp)(A:Addr)(tn:Nat->Heap->Prop)(fp:List Addr)(R:Nat->Nat->Lc->Y->List P->Prop)(ys:List P)(nn:Nat)(sx:Shared):Prop
 |mk (i:Nat) (J':L2.St) (F':Aa) (m':List Addr) (H':Hp) (L':Lc) (S':Y) (acc rest:List P) (xs:List V) (h0_:Inv Y9 [] J' H' sx) (h1_:tn i sx.heap) (h2_:∀b ∈ fp,H' b=none) (h3_:Stp F1 m1 H2 F' m' H') (h4_:Rel K F' H' m' S') (h5_:RL K F' H' m' J' L') (h6_:H' A=some (.lst xs)) (h7_:cf K F' H' acc xs) (h8_:acc.length≤i) (h9_:¬F' A) (ha_:A ∉ m') (hb_:R nn i L' S' rest) (hc_:acc++rest=ys):cIv K Y9 F1 m1 H2 A tn fp R ys nn sx
def SG(K:FG)(ok:Y->Prop)(a:It)(T:List P)(F:Aa)(m:List Addr)(H:Hp):Prop:=∀B s I S,Stp F m H B s I->Rel K B I s S->ok S ->
 (∀(i:Nat) v,T[i]? = some v->a.go i I/\∀x h,a.yld i I x h->∃e,Grow B I e h/\RP K e h v x)/\a.stop T.length I
def si(X:Cx)(t iter:Expr)(f:EV)(y:List Nat)(n:Nat)(g:kD)(c:EB)(fe:EV):Prop:=∃w,PI X t iter w/\∀J H F m L S d a,Rel X.K F H m S->RL X.K F H m J L->f L S=some (d,a) ->
 ∃ok T x s,d=.lst s/\few T=true/\w J H (λe z=>∃C h,Stp F m H C h z/\Rel X.K C z h x/\SG X.K ok e T C h z)/\kc ok g c fe T (lG y n L) x=some (s,a)
theorem Ps(i:PI X Q iter (tI X.K u)):si X Q iter (bK u y n g t fe) y n g t fe:=by
 refine⟨_,i,λJ H F m L S d a r l h=>?_⟩;obtain⟨T,x,s,h⟩:=aj h;split at h;case isFalse=>cases h
 rename_i f;obtain⟨j,e,k,h⟩:=aj h;cases h;exact⟨λ_=>True,T,x,j,rfl,f,⟨F,m,L,S,T,x,r,l,s,λo C c z w v b=>⟨C,c,w,v,λB p I a q _ _=>b B p I q⟩⟩,by rw[rZ];exact k⟩
theorem lC 
  (B:BlockOk X G N' y n) (hcalm:X.c=true)
  (hi:PI X tg iter wi) (hg:∀s H h D,PG (inn X G N' s H h D) tg (gT X.K g)) (hc:∀s H h D,PIfs (inn X G N' s H h D) ifs fc) (he:∀s H h D,PE (inn X G N' s H h D) elt (tV X.K fe))
  (hclos:closureFor G X.e=pure (mh G X.e)) (hs:∀x,foldedSetIterable iter X.e x=pure x)
  (a:Inv X pins J H s) (r:Rel X.K F H m S) (l:RL X.K F H m J L) (hw:wi J H λJ9 z=>∃C m1,Stp F m H C m1 z/\Rel X.K C z m1 S1/\SG X.K ok J9 T C m1 z) (hfew:few T=true) (e2:kc ok g fc fe T (lG y n L) S1=some (ds,S2))
  (fin:∀p F' m' H' sx h xs,Inv X pins J H' sx->Stp F m H F' m' H'->Rel X.K F' H' m' S2->H p=none/\¬F' p/\p ∉ m'/\H' p=some (.lst xs)/\cf X.K F' H' ds xs->H' h=none->X.z.heap.objs.size≤h->h≠X.e.locals->(∀x c,X.e.cells.lookup x=some c->c≠h)->(∀p ∈ X.pn++pins,p.1≠h) ->
   (∃mC,sx.heap.Ns h mC)->compPost (model X.p X.w) X.A X.xe use Q (.ref p) h (.ok .next) sx) :
  wx X (comprehension (.ListComp elt [⟨tg,iter,ifs,0⟩] G M) G X.e p2 (newList []) false (eval iter X.e) use) Q X.xe s:=by
 refine wpAny_comprehension_free (use:=use) rfl hs hclos B.kind B.loc (cN (hi pins s J H _ a hw) λxv sA hA=>cN hA λitv P h2=>?_);obtain⟨it,D,tn,J9,I,rfl,I2,k,st2,f2,C,m1,s1,r1,itp⟩:=h2;have hfp:∀b ∈ D,b < P.heap.objs.size:=λb R=>by obtain⟨o,e,_⟩:=k.obj _ _ st2 b R;exact aD e
 refine qC ?_ (by show 0≤sizeLine;exact cH _);refine Bj B.cell (by intro t hy;simp at hy) (λh1 hns1 Z=>?_) B.kind;dsimp only at hns1 Z ⊢;have hD:I P.heap.objs.size=none:=I2.h.fresh (ak _);generalize hH2:P.heap.push { cls:=.type "list",dict:=none,data:=.seq ([]:LV).toArray }=K at hns1 Z ⊢;have hC:K.objs.size=P.heap.objs.size+1:=by rw[<- hH2,mI]
 have A:P.heap.objs.size≤K.objs.size:=by rw[hC];exact iX _
 have old:∀b o,P.heap.get? b=some o->h1.get? b=some o:=λb o e=>Z.extBut b o (bf (bJ (aD e) A)) (aW _ (hH2 ▸ aW _ e));have hDC:P.heap.objs.size≠K.objs.size:=by rw[hC];exact bf (jQ _)
 have accO:h1.get? P.heap.objs.size=some { cls:=.type "list",dict:=none,data:=.seq ([]:LV).toArray }:=Z.extBut _ _ hDC (aW _ (hH2 ▸ bx _ rfl));have hCn:I K.objs.size=none:=I2.h.fresh A;have hCcell:∀x c,X.e.cells.lookup x=some c->c≠K.objs.size:=λx c e d=>by obtain⟨v,o,ho,_⟩:=I2.cell x c e;exact absurd (aD ho) (ul.mpr (by rw[d];exact A))
 have hCloc:K.objs.size≠X.e.locals:=bU (bJ I2.lt A);have hCpin:∀p ∈ X.pn++pins,p.1≠K.objs.size:=λp hp d=>absurd (aD (I2.pin p hp).1) (ul.mpr (by rw[d];exact A));have I3:=Js (tk:=P.toks+([]:List (Str×Value)).length) B I2 A f2 hfp old hD hDC hCn hns1 accO;have okX:=FU (k:=K.objs.size) B I2 A f2 hfp;have fpH:∀{H':Hp},(∀b ∈ D,H' b=none)->∀b ∈ D,wm (inn X G N' P I K.objs.size D) [] H' b:=λhn b R=>
  ⟨hn b R,bf (bJ (hfp b R) A),okX.exfs b R,.inl R,(okX.exf b R).2,λp hp=>absurd (show p ∈ ([]:PN) from hp) (by simp)⟩
 have tn1:tn 0 h1:=k.keep _ _ _ st2 λb R o e=>old b o e;have loop:∀s3:Shared,s3={ P with heap:=h1,toks:=P.toks+([]:List (Str×Value)).length } ->
   codeAny (model X.p X.w) X.A (.compLoop (.ListComp elt [⟨tg,iter,ifs,0⟩] G M) 0 (.ref it) (.ref P.heap.objs.size) (compEnvC G (mh G X.e) K.objs.size X.e))
    (compPost (model X.p X.w) X.A X.xe use Q (.ref P.heap.objs.size) K.objs.size) s3:=by
  rintro s3 rfl;refine Do (cIv X.K (inn X G N' P I K.objs.size D) C m1 I P.heap.objs.size tn D (λnn i L' N j=>nn=T.length-i/\i≤T.length/\kc ok g fc fe (T.drop i) L' N=some (j,S2)) ds) ?_ T.length ?_
  .rintro nn sx ⟨i,J',F',m',H',L',N,acc,j,xs,I',tn',fr',st',r',l',hacc,ra,hal,nF,nm,⟨rfl,hi',E⟩,rfl⟩;by_cases hlt:i < T.length
   .have hv:T[i]? = some T[i]:=by simp[hlt]
    rw[AI hlt]at E;unfold kc at E;split at E;case isFalse=>cases E
    rename_i hok;obtain⟨hgo,_⟩:=itp F' m' H' N st' r' hok;obtain⟨hgo1,hy⟩:=hgo i _ hv;refine cG (k.item (inn X G N' P I K.objs.size D) rfl rfl rfl hcalm i [] sx J' H' (λ_ _=>False) I' (fpH fr') tn' hgo1) (λrr sy hr=>?_) (λ_ _ f=>f.elim);obtain⟨u,rfl,hr⟩:=hr;refine cG hr (λ_ sz hz=>?_) (λ_ _ f=>f.elim);obtain⟨x,H3,I4,rx,yl,tn4,fr4⟩:=hz;obtain⟨F3,gr,p3⟩:=hy x H3 yl;have GX:Stp C m1 I F3 m' H3:=st'.trans gr.stp;have r4:=r'.grow gr;have l4:=l'.mono (gr.stp (m:=m'));have acc4:=gr.keep _ _ hacc;have nF4:¬F3 P.heap.objs.size:=λd=>by
     rcases gr.nf _ d with d|⟨d,_⟩
     .exact nF d
     .rw [hacc]at d;cases d
    have I4':=I4.pinned (fpH fr4) (k.obj _ _ tn4);have back:∀{J7:L2.St}{H7:Hp}{s7:Shared},Inv (inn X G N' P I K.objs.size D) ([]++ol D sz.heap) J7 H7 s7->tn (i+1) s7.heap/\∀b ∈ D,H7 b=none:=λ{J7 H7 s7} I7=>
     ⟨k.keep _ _ _ tn4 λb R o e=>(I7.pin (b,o) (fh _ (fh _ (j6 R e)))).1,λb R=>by obtain⟨o,e,dd⟩:=k.obj _ _ tn4 b R;exact(I7.pin (b,o) (fh _ (fh _ (j6 R e)))).2.1⟩
    cases eg:g T[i] L' with
    |none=>rw[eg]at E;cases E
    |some L1=>
     rw[eg]at E;dsimp only at E;obtain⟨kk,S5,e5,E⟩:=aj E;refine cG (hg P I K.objs.size D _ sz J' H3 x u (λJ5 H5=>H5=H3/\RL X.K F3 H3 m' J5 L1) I4' rx ⟨F3,m',L',T[i],L1,l4,p3,eg,λJ5 l5=>⟨rfl,l5⟩⟩) (λ_ s5 h5=>?_) (λ_ _ f=>f.elim);obtain⟨J5,H5,I5,rfl,l5⟩:=h5;have test:wx X (forIn ifs true λc r=>if r=true then do let ok <- isTrue c (compEnvC G (mh G X.e) K.objs.size X.e) (eval c (compEnvC G (mh G X.e) K.objs.size X.e));pure (ForInStep.yield ok) else pure (ForInStep.yield r))
       (λok s6=>ok=kk/\∃V m6 H6,Inv (inn X G N' P I K.objs.size D) ([]++ol D sz.heap) J5 H6 s6/\Stp F3 m' H5 V m6 H6/\Rel X.K V H6 m6 S5) (λ_ _=>False) s5:=by
      have hcc:=hc P I K.objs.size D;cases hcc with
      |none=>cases e5;exact wpAny_tests_nil ⟨rfl,F3,m',H5,I5,.refl,r4⟩
      |one hq=>refine wpAny_tests_one (cG (hq _ s5 J5 H5 (λb H6=>b=kk/\∃V m6,Stp F3 m' H5 V m6 H6/\Rel X.K V H6 m6 S5) I5 ⟨F3,m',L1,N,kk,S5,r4,l5,e5,λV m6 H6 s6 r6=>⟨rfl,V,m6,s6,r6⟩⟩) (λb s6 h6=>?_) λ_ _ f=>f);obtain⟨H6,I6,rfl,V,m6,Es,r6⟩:=h6;exact⟨rfl,V,m6,H6,I6,Es,r6⟩
     refine cG test (λok s6 h6=>?_) (λ_ _ f=>f.elim);obtain⟨rfl,V,m6,H6,I6,Es,r6⟩:=h6;have W:=Es.oth _ _ acc4 nm;have nm6:P.heap.objs.size ∉ m6:=λd=>by
      rcases Es.nm _ d with d|d
      .exact nm d
      .rw [acc4]at d;cases d
     have nF6:¬V P.heap.objs.size:=λd=>by
      rcases Es.nf _ d with d|d|d
      .exact nF4 d
      .rw [acc4]at d;cases d
      .exact nm d
     have ra6:=cf.mono Es (ra.grow gr);have l6:=l5.mono Es;cases ok with
     |false=>rw[ah bC]at E ⊢;obtain⟨t7,f7⟩:=back I6;exact⟨T.length-(i+1),by lia,i+1,J5,V,m6,H6,L1,S5,acc,j,xs,I6.pins_of λp hp=>absurd hp (by simp),t7,f7,GX.trans Es,r6,l6,W,ra6,Ad hal,nF6,nm6,⟨rfl,hlt,E⟩,rfl⟩
     |true=>
      rw[af rfl]at E ⊢;obtain⟨t,S8,e8,E⟩:=aj E;obtain⟨zs,S9,e9,E⟩:=aj E;cases E;refine cG (he P I K.objs.size D _ s6 J5 H6 (λv8 H8=>∃F8 m8,Stp V m6 H6 F8 m8 H8/\Rel X.K F8 H8 m8 S8/\RP X.K F8 H8 t v8) I6 ⟨V,m6,L1,S5,t,S8,r6,l6,e8,λv8 F8 m8 H8 s8 r8 p8=>⟨F8,m8,s8,r8,p8⟩⟩) (λu8 s8 h8=>?_) (λ_ _ f=>f.elim);obtain⟨v8,H8,I8,rv8,F8,m8,st8,r8,p8⟩:=h8;have acc8:=st8.oth _ _ W nm6;have nm8:P.heap.objs.size ∉ m8:=λd=>by
       rcases st8.nm _ d with d|d
       .exact nm6 d
       .rw [W]at d;cases d
      have nF8:¬F8 P.heap.objs.size:=λd=>by
       rcases st8.nf _ d with d|d|d
       .exact nF6 d
       .rw [W]at d;cases d
       .exact nm6 d
      have ra8:=cf.mono st8 ra6;have nt8:∀zs,H8 P.heap.objs.size≠some (.tup zs):=λzs d=>by rw[acc8]at d;cases d
      have nc8:∀x u,H8 P.heap.objs.size≠some (.frz x (.own u)):=λx u d=>by rw[acc8]at d;cases d
      have hl8:xs.length < sizeLine:=by have h9:T.length≤1000000:=aN hfew;rw[<- ra8.length];exact bJ (jR hal hlt) (aA h9 (by decide))
      refine cG (s_ (X:=inn X G N' P I K.objs.size D) _ s8 J5 H8 (.ref P.heap.objs.size) [v8] (.ref P.heap.objs.size) [u8] (λ_ H9=>H9=b7 H8 P.heap.objs.size (.lst (xs++[v8]))) I8 rfl (.cons rv8 .nil) ⟨_,xs,v8,rfl,rfl,acc8,hl8,rfl⟩) (λ_ s9 h9=>?_) (λ_ _ f=>f.elim);obtain⟨_,H9,I9,_,rfl⟩:=h9;obtain⟨t9,f9⟩:=back I9;have kb:Kp F8 m8 H8 F8 m8 (b7 H8 P.heap.objs.size (.lst (xs++[v8]))):=Kp.bump nF8 nt8 nc8;have st9:Stp C m1 I F8 m8 (b7 H8 P.heap.objs.size (.lst (xs++[v8]))):=(GX.trans (Es.trans st8)).bump hD;have l9:RL X.K F8 (b7 H8 P.heap.objs.size (.lst (xs++[v8]))) m8 J5 L1:=⟨l6.len,λw dd e=>by obtain⟨v,e1,rr⟩:=(l6.mono st8).at' w dd e;exact⟨v,e1,RD.kp kb rr⟩⟩
      exact⟨T.length-(i+1),by lia,i+1,J5,F8,m8,_,L1,S8,acc++[t],zs,xs++[v8],I9.pins_of fun p hp=>absurd hp (by simp),t9,f9,st9,r8.bump nF8 nm8 nt8 nc8,l9,aM,
       cf.kp kb (ra8.append ⟨v8,[],rfl,p8,rfl⟩),by rw[a_];exact Nat.succ_le_succ hal,nF8,nm8,⟨rfl,hlt,e9⟩,by simp⟩
   .have e:i=T.length:=by lia
    subst e;rw[pY]at E;unfold kc at E;split at E;case isFalse=>cases E
    rename_i hok;cases E;obtain⟨_,hstop⟩:=itp F' m' H' _ st' r' hok;refine cG (k.done (inn X G N' P I K.objs.size D) rfl rfl rfl hcalm T.length [] sx J' H' (λ_ _=>False) I' (fpH fr') tn' hstop) (λrr sy hr=>?_) (λ_ _ f=>f.elim);obtain⟨rfl,I5⟩:=hr;rw[dJ] at *
    have Iout:Inv X pins J H' sy:=I2.call' (q:=D) I5.os I5.base I5.h I5.bare λb R=>⟨(f2 b R).2.2.2.1,(f2 b R).2.1,(f2 b R).2.2.2.2.1,(f2 b R).2.2.2.2.2⟩;have hD0:H P.heap.objs.size=none:=by
     cases q:H P.heap.objs.size with
     |none=>rfl
     |some o=>exact absurd hD (s1.trk _ (by rw[q];exact λd=>nomatch d))
    have hCH:H' K.objs.size=none:=I5.free;obtain⟨mC,hmC,_⟩:=I5.loc;exact fin P.heap.objs.size F' m' H' sy K.objs.size xs Iout (s1.trans st') r' ⟨hD0,nF,nm,hacc,ra⟩ hCH (aA I2.sz A) hCloc hCcell hCpin ⟨mC,hmC⟩
  .exact⟨0,_,C,m1,_,lG y n L,S1,[],ds,[],I3,tn1,λb R=>by rw[ao (bf (hfp b R))];exact(f2 b R).1,(cx hD).stp,r1.grow (cx hD),((l.mono s1).mono (cx hD).stp).up y n,aM,rfl,cH _,r1.fresh_F hD,r1.fresh_m hD,⟨rfl,cH _,by rw[mM];exact e2⟩,rfl⟩
 exact codeAny_compStart_list (loop _ rfl) (k.self X.A 0 _ _ _ tn1 (loop _ rfl))
theorem xy(q:Stp F m H F' m' H')(r:Rel K F' H' m' S)(f:H p=none/\¬F' p/\p ∉ m'/\H' p=some (.lst xs)/\cf K F' H' k xs) :
  Stp F m H (λb=>F' b\/b=p) m' H'/\Rel K (λb=>F' b\/b=p) H' m' S/\RP K (λb=>F' b\/b=p) H' (.lst k) (.ref p):=by
 obtain⟨x,e,n,h,a⟩:=f;exact⟨q.addF x,r.addF n (by rw[h];exact λz=>nomatch z),_,xs,rfl,⟨.inr rfl,h⟩,cf.kp (m:=m') Sn a⟩
theorem NB(B:BlockOk X G N' y n)(c:X.c=true)
  (W:si X tg iter f y n g fc fe) (hg:∀s H C a,PG (inn X G N' s H C a) tg (gT X.K g)) (V:∀s H C a,PIfs (inn X G N' s H C a) u fc) (Z:∀s H C a,PE (inn X G N' s H C a) t (tV X.K fe))
  (o:closureFor G X.e=pure (mh G X.e)) (hs:∀x,foldedSetIterable iter X.e x=pure x:=by intro _;rfl) :
  PE X (.ListComp t [⟨tg,iter,u,0⟩] G M) (tV X.K f):=by
 intro i s J H Q I ⟨F,m,L,S,d,N,r,l,h,k⟩;rw[AX];obtain⟨wi,hi,W⟩:=W;obtain⟨ok,T,S1,ds,rfl,e,hw,K⟩:=W J H F m L S d N r l h;refine lC B c hi hg V Z o hs I r l hw e K λp F' m' H' sx C xs v q r' f R P A D E hz=>?_
 obtain⟨mC,b⟩:=hz;obtain⟨w,j,z⟩:=xy q r' f;exact⟨mC,b,λh' sb=>⟨.ref p,H',v.letGo sb R P A D E,rfl,k _ _ m' H' w j z⟩⟩
@[simp] def o7(f:EV)(L:Lc)(S:Y):xL:=bQ (f L S) λv h=>match v with
 | .lst d=>some (.ref h.length,h++[.lst (d.map .p)])
 |_=>none
theorem xx(q:Stp F m H F' m' H')(r:Rel K F' H' m' S)(f:H p=none/\¬F' p/\p ∉ m'/\H' p=some (.lst xs)/\cf K F' H' Q xs) :
  Stp F m H F' (m'++[p]) H'/\Rel K F' H' (m'++[p]) (S++[.lst (Q.map .p)]):=by
 obtain⟨v,j,l,c,y⟩:=f;have g:Kp F' m' H' F' (m'++[p]) H':=⟨⟨[p],rfl⟩,λ_ h=>h,λ_ _ _ h=>h,λ_ _ h=>h,λ_ _ _ h=>h⟩;have lt:∀{i:Nat}{a:Addr},(m'++[p])[i]? = some a->i < m'.length\/(i=m'.length/\a=p):=λ{i a} e=>by
  rcases z3 i m'.length with h|h
  .exact .inl h
  .rw [b_ h]at e;have d:i-m'.length=0:=by
    rcases Nat.eq_zero_or_pos (i-m'.length) with z|z
    .exact z
    .rw [uK (by simp;lia)]at e;cases e
   rw[d]at e;exact .inr ⟨by lia,by simpa using e.symm⟩
 refine⟨⟨?_,q.oth,q.frz,q.frk,q.tup,q.trk,q.nf,λb t=>?_,q.cod⟩,⟨by rw[a_,a_,r.len];rfl,?_,λi a o s x=>?_,λi a o s x w=>?_,λa k=>?_,r.ft⟩⟩
 .obtain⟨n,e⟩:=q.pre;exact⟨n++[p],by rw[e,fg]⟩
 .rcases bN.mp t with t|t
  .exact q.nm b t
  .have:b=p:=by simpa using t
   subst this;exact .inr v
 .rw [lh];refine⟨r.nd,by simp,λa k b t e=>?_⟩;have:b=p:=by simpa using t
  subst this;subst e;exact l k
 .rcases lt s with h|⟨h,rfl⟩
  .rw [cA h]at s;rw[cA (by rw[<- r.len];exact h)]at x;exact(r.obj i a o s x).kp g λu z=>z
  .subst h;rw[r.len,b_ (ak _)]at x;simp at x;subst x;exact⟨xs,c,dh.ofP y⟩
 .rcases lt s with h|⟨h,rfl⟩
  .rw [cA h]at s;rw[cA (by rw[<- r.len];exact h)]at x;exact r.sep i a o s x w
  .exact j
 .rcases bN.mp k with k|k
  .exact r.trk a k
  .have:a=p:=by simpa using k
   subst this;rw[c];exact λz=>nomatch z
theorem KO(B:BlockOk X G N' y n)(c:X.c=true)
  (W:si X tg iter f y n g fc fe) (hg:∀s H C a,PG (inn X G N' s H C a) tg (gT X.K g)) (hc:∀s H C a,PIfs (inn X G N' s H C a) u fc) (he:∀s H C a,PE (inn X G N' s H C a) t (tV X.K fe))
  (o:closureFor G X.e=pure (mh G X.e)) (hs:∀x,foldedSetIterable iter X.e x=pure x:=by intro _;rfl) :
  PE X (.ListComp t [⟨tg,iter,u,0⟩] G M) (tE X.K (o7 f)):=by
 intro i s J H Q I ⟨F,m,L,S,d,N,r,l,h,k⟩;rw[AX];obtain⟨v,z,A,h⟩:=aj h;obtain⟨wi,hi,W⟩:=W;obtain⟨ok,T,S3,ds,rfl,e,hw,D⟩:=W J H F m L S v z r l A;cases h;refine lC B c hi hg hc he o hs I r l hw e D λp F' m' H' sx C xs j q w f hC E R V Z hz=>?_
 obtain⟨mC,b⟩:=hz;obtain⟨K,P⟩:=xx q w f;refine⟨mC,b,λh' sb=>⟨.ref p,H',j.letGo sb hC E R V Z,rfl,k _ F' _ H' K P ⟨p,rfl,?_⟩⟩⟩;rw[<- w.len,b_ (ak _)];simp
theorem No(i:Nat)(hN:X.N.Nodup)(B:BlockOk X G N' y n)(c:X.c=true)
  (W:si X tg iter f y n g fc fe) (hg:∀s H C b,PG (inn X G N' s H C b) tg (gT X.K g)) (hc:∀s H C b,PIfs (inn X G N' s H C b) u fc) (he:∀s H C b,PE (inn X G N' s H C b) t (tV X.K fe))
  (o:closureFor G X.e=pure (mh G X.e)) (R:swapsWith (.ListComp t [⟨tg,iter,u,0⟩] G M) (some (.Name x px)) spos.line X.e=pure true:=by rfl)
  (hs:∀x,foldedSetIterable iter X.e x=pure x:=by intro _;rfl) (A:X.N[i]? = some x:=by rfl) (hx:Loc X.e.scope x:=by first|exact Or.inl rfl|exact Or.inr rfl)
  (hf:X.fn x=true\/X.e.scope.names.lookup x=some .local:=by first|exact .inl rfl|exact .inr rfl|assumption) :
  PS X (.Assign [.Name x px] (.ListComp t [⟨tg,iter,u,0⟩] G M) spos) (kJ X.K (aB i (U f))):=by
 intro K s J H D I ⟨F,m,L,S,fl,L',N,r,l,h,k⟩;obtain⟨d,S1,e1,h⟩:=aj h;cases h;obtain⟨v,S2,e2,e3⟩:=aj e1;cases e3;rw[DC _ _ _ _ R];refine ac (tU (ac ?_));show wpAny _ _ (do let _ <- comprehension (.ListComp t [⟨tg,iter,u,0⟩] G M) G X.e _ (newList []) false (eval iter X.e) (some (assign (.Name x px) X.e))) _ _ s;obtain⟨wi,hi,W⟩:=W;obtain⟨ok,T,S3,ds,rfl,j,hw,e4⟩:=W J H F m L S v _ r l e2;refine ac (cG (lC (use:=some (assign (.Name x px) X.e)) (Q:=λ_ V=>SP X K D .next V) B c hi hg hc he o hs I r l hw j e4 λp F' m' H' sx C xs I' st0 r0 f hC h0 h1 h2 h3 hz=>?_) (λ_ V hq=>aq (aq hq)) λ_ _ e=>e);obtain⟨mC,E⟩:=hz;obtain⟨q,r',rp⟩:=xy st0 r0 f;refine xV (n_ I' hN A hx (v:=.ref p) rfl (λV P z=>?_) hf);refine⟨mC,?_,λh' sb=>⟨_,H',P.letGo sb hC h0 h1 h2 h3,k _ _ m' H' q r' ((l.mono q).set (d:=.p (.lst ds)) rp i)⟩⟩;obtain⟨a,Z,w⟩:=z;refine E.sameBut Z ?_;rcases w with w|w
 .rw [w];exact h1
 .exact aP (h2 x a w)
end
end Ev
namespace Ev
open PySem PySem.Spec PyProof.Rows L2
section
variable{X:Cx}{a b e:Expr}{es:Ab}{C t:EV}{fs:kn}{N p:Pos}
noncomputable def Dj:P->Option P
 | .int i=>some (.int (-i))
 |_=>none
theorem QJ(f:PE X a (tV X.K C)):PE X (.UnaryOp .USub a N) (tV X.K (NH Dj C)):=(Og KU f).imp' λJ H Q z=>by
 obtain⟨F,m,L,S,d,t,r,l,q,k⟩:=z;obtain⟨x,w,n,q⟩:=aj q;cases x with
 |int i=>cases q;exact⟨F,m,L,S,_,_,r,l,n,λv h b e s c p=>⟨i,p,k _ h b e s c rfl⟩⟩
 |_=>cases q
noncomputable def tJ:List P->Option P
 | [.int i]=>some (.int i)
 | [.bl b]=>some (.int (if b then 1 else 0))
 |_=>none
theorem Rb{K:FG}{F:Aa}{H:Hp}{d h:P}{s:List V}(r:cf K F H [d,h] s):∃x y,s=[x,y]/\RP K F H d x/\RP K F H h y:=by obtain⟨x,f,rfl,p,e⟩:=r;obtain⟨y,n,rfl,a,k⟩:=e;cases (show n=[] from k);exact⟨x,y,rfl,p,a⟩
theorem vd{K:FG}{F:Aa}{H:Hp}{d:P}{s:List V}(r:cf K F H [d] s):∃x,s=[x]/\RP K F H d x:=by obtain⟨x,h,rfl,p,a⟩:=r;cases (show h=[] from a);exact⟨x,rfl,p⟩
theorem Jv:dG X (.type "int") (rC X.K tJ):=by
 intro B s J H n u Q I r h;obtain⟨F,e,d,f,a,q,k⟩:=h;unfold tJ at q;split at q
 .cases q;obtain⟨x,rfl,p⟩:=vd a;exact tG B s J H _ u Q I r (.inl ⟨_,by rw[show x=_ from p],k _ F H .refl rfl⟩)
 .cases q;obtain⟨x,rfl,p⟩:=vd a;exact tG B s J H _ u Q I r (.inr ⟨_,by rw[show x=_ from p],k _ F H .refl rfl⟩)
 .cases q
noncomputable def o6:EE:=λ_ S=>some (.ref S.length,S++[.dct [] []])
theorem Ea:PE X (.Dict [] [] N) (tE X.K o6):=E_.imp' λJ H Q z=>by obtain⟨F,m,L,S,d,x,r,l,q,k⟩:=z;cases q;intro p h;refine k (.ref p) F (m++[p]) _ (dX h) (r.own h ⟨[],aM,rfl,rfl⟩) ⟨p,rfl,?_⟩;rw[<- r.len,b_ (ak _)];simp
noncomputable def rY(k:cg)(v:D):List cg->List D->List cg×List D
 |h::s,w::x=>if h=k then (h::s,v::x) else (h::(rY k v s x).1,w::(rY k v s x).2)
 |_,_=>([k],[v])
noncomputable def ng(d:D)(S:Y):Option (Nat×List cg×List D):=match d with
 | .ref i=>match S[i]? with
  |some (.dct k T)=>some (i,k,T)
  |_=>none
 |_=>none
theorem vj(h:ng v S=some (i,u,T)):v=.ref i/\S[i]? = some (.dct u T):=by
 unfold ng at h;split at h
 .split at h
  .rename_i e;cases h;exact⟨rfl,e⟩
  .cases h
 .cases h
def yq(o:EE)(k v:EV):ES:=λL S=>bQ (v L S) λy x=>bQ (o L x) λd a=>bQ (k L a) λz h=>match ng d h,c_ z with
 |some (i,s,T),some e=>if (s.Nodup/\few s=true) then some (.nx,L,h.set i (.dct (rY e (.p y) s T).1 (rY e (.p y) s T).2)) else none
 |_,_=>none
theorem sV{K:FG}{F:Aa}{H:Hp}{m:List Addr}{k:cg}{y:D}{u:V}(b:RD K F H m y u):∀{v:List (cg×V)}{s:List D},(v.map (·.1)).Nodup->dh K F H m s (v.map (·.2)) ->
  (putK v k u).map (·.1)=(rY k y (v.map (·.1)) s).1/\dh K F H m (rY k y (v.map (·.1)) s).2 ((putK v k u).map (·.2))
 | [],s,_,r=>by have:s=[]:=fY r.length;subst this;exact⟨rfl,u,[],rfl,b,rfl⟩
 |(h,w)::v,[],_,r=>by have:=r.length;simp at this
 |(h,w)::v,d::s,g,r=>by
  obtain⟨x,E,e,C,i⟩:=r;rw[aC]at e g;injection e with j o;subst j;subst o;obtain⟨t,p⟩:=bW.mp g;simp only[aC,rY];by_cases hk:h=k
  .subst hk;rw[af rfl];have n:putK ((h,w)::v) h u=(h,u)::v:=by
    unfold putK;rw[af (by simp)];rw[aC,af rfl];congr 1;have:∀l:List (cg×V),h ∉ l.map (·.1)->l.map (λa=>if a.1=h then (a.1,u) else a)=l:=by
     intro l;induction l with
     |nil=>intro _;rfl
     |cons q l B=>
      intro f;rw[aC]at f;have S:¬q.1=h:=λz=>f (by rw[<- z];exact aI)
      rw[aC,ah S,B λz=>f (aH _ z)]
    exact this v t
   rw[n];exact⟨rfl,u,_,rfl,b,i⟩
  .rw [ah hk];obtain⟨P,A⟩:=sV b p i;have n:putK ((h,w)::v) k u=(h,w)::putK v k u:=by
    unfold putK;rw[cT,bt (show ¬(h,w).1=k from hk),lp];by_cases c:(v.any λa=>decide (a.1=k))=true
    .rw [af c,af c,aC,ah (show ¬(h,w).1=k from hk)]
    .rw [ah c,ah c];rfl
   rw[n,aC,aC,P];exact⟨rfl,w,_,rfl,C,A⟩
theorem Qu{o i g:Expr}{I:EE}{r z:EV}{G:Pos}(hu:X.A.units+1 < cLine)(ho:PE X o (tE X.K I))(hi:PE X i (tV X.K r))(hv:PE X g (tV X.K z))(hs:swapsWith g (some (.Subscript o i G)) N.line X.e=pure false:=by rfl) :
  PS X (.Assign [.Subscript o i G] g N) (kJ X.K (yq I r z)):=(BH hu ho hi hv hs).imp' λD J H hz=>by
 obtain⟨F,m,L,S,fl,L',S',h,l,q,k⟩:=hz;obtain⟨y,E,e1,q⟩:=aj q;obtain⟨d,M,e2,q⟩:=aj q;obtain⟨e,Q,e3,q⟩:=aj q;refine⟨F,m,L,S,y,E,h,l,e1,λv C Z H1 c r1 p1=>?_⟩;refine⟨C,Z,L,E,d,M,r1,l.mono c,e2,λx F2 m2 H2 p r2 p2=>?_⟩;refine⟨F2,m2,L,M,e,Q,r2,(l.mono c).mono p,e3,λw f m3 b u B p3=>?_⟩;cases P:ng d Q with
 |none=>rw[P]at q;cases q
 |some t=>
  obtain⟨j,ks,T⟩:=t;rw[P]at q;cases K:c_ e with
  |none=>rw[K]at q;cases q
  |some n=>
   rw[K]at q;dsimp only at q;split at q
   .rename_i W;cases q;obtain⟨rfl,es⟩:=vj P;obtain⟨a,rfl,A⟩:=RD.mono u p2;obtain⟨s,V,hk,rs⟩:=B.obj j a _ A es;subst hk;have pv:RD X.K f b m3 (.p y) v:=RD.mono u (RD.mono p (show RD X.K C H1 Z (.p y) v from p1));obtain⟨h1,h2⟩:=sV (k:=n) pv W.1 rs;cases (iK K p3);have nt:∀zs,b a≠some (.tup zs):=λzs e=>by rw[V]at e;cases e
    have st:Stp f m3 b f m3 (b7 b a (.dK (putK s n v))):=f8 B A es trivial nt;have hl:s.length < sizeLine:=by have R:(s.map (·.1)).length≤1000000:=aN W.2;rw[aU]at R;exact jR R (by decide)
    refine⟨a,_,rfl,xK.k V hl,?_⟩;exact k J f m3 _ (c.trans (p.trans (u.trans st))) (B.set A es trivial nt ⟨_,aM,h1,dh.mono st h2⟩) (((l.mono c).mono p).mono (u.trans st))
   .cases q
end
section
variable{X:Cx}{a b c e:Expr}{es:Ab}{C t q:EV}{fs:kn}{N p:Pos}
abbrev y0:P->P->Option P:=Su
theorem OC(_:X.A.units+1 < cLine):pF X (compareOp .Eq) y0:=Rt
@[simp] def gU(a:EV)(L:Lc)(S:Y):Ef:=bQ (a L S) λv h=>match v with
 | .lst x=>some (x,h)
 | .ro x=>some (x,h)
 | .tup x=>some (x,h)
 |_=>none
theorem iS{N iter:Expr}(h:PE X iter (tV X.K C)):PI X N iter (tI X.K (gU C)):=by
 intro B s J H R I ⟨F,m,L,S,T,Z,r,l,q,k⟩;obtain⟨v,K,e1,q⟩:=aj q;refine cN (h B s J H (λx n=>∃c w,Stp F m H c w n/\Rel X.K c n w K/\RP X.K c n v x) I ⟨F,m,L,S,v,K,r,l,e1,λx c w n f D j=>⟨c,w,f,D,j⟩⟩) λu f A=>?_
 obtain⟨x,n,t,M,c,w,st,D,j⟩:=A;have mk:∀{E:It},MU X.K E T c w n->K=Z->R E n:=λit e=>by subst e;exact k _ c w n st D it
 have i:∀{a:Addr}{z:List V},x=.ref a->iT X.K n a z->R (Qr X.K a) n->wx X (pyIter u) (Qo X B J N R) X.xe f:=λ{a z} e hq q=>by
  subst e;cases M;obtain⟨g,rv,p,A⟩:=t.list hq;refine xW p.isList ?_;refine⟨f.heap.objs.size,[f.heap.objs.size],_,_,n,rfl,t.kept (t':=f.toks) λb o e=>aW _ e,CA a _,⟨_,bx _ rfl,rfl,rfl⟩,λb P=>?_,q⟩;have e:b=f.heap.objs.size:=by simpa using P
  subst e;exact t.fpOk (ak _) (t.h.fresh (ak _))
 cases v with
 |lst G=>cases q;obtain⟨a,z,rfl,d,y⟩:=j;exact i rfl d.sq (mk (FK (λQ m2 W s=>(d.kp s.kp).sq) y) rfl)
 |ro G=>cases q;obtain⟨a,z,rfl,d,y⟩:=j;exact i rfl d.sq (mk (FK (λQ m2 W s=>(d.kp s.kp).sq) y) rfl)
 |tup G=>
  cases q;obtain⟨a,z,rfl,d,y⟩:=j;cases M;obtain⟨g,rv,pp,A⟩:=t.tuple d.sq;refine tZ (show f.heap.IsTuple a g.toArray from pp) ?_;refine⟨f.heap.objs.size,[f.heap.objs.size],_,_,n,rfl,t.kept (t':=f.toks) λb o e=>aW _ e,ye a _,⟨_,bx _ rfl,rfl,rfl⟩,λb P=>?_,mk (Mf d y) rfl⟩;have e:b=f.heap.objs.size:=by simpa using P
  subst e;exact t.fpOk (ak _) (t.h.fresh (ak _))
 |_=>cases q
end
section
variable{X:Cx}{N p:Pos}
end
noncomputable def cK:Nat->P->Bool
 |_,.non=>true
 |_,.bl _=>true
 |_,.int _=>true
 |_,.str x=>aG x
 |n+1,.tup s=>s.all (cK n)
 |n+1,.lst s=>s.all (cK n)
 |n+1,.ro s=>s.all (cK n)
 |_,_=>false
variable{n:Nat}
theorem qj:∀{s:List P},(∀d ∈ s,(pd d).canLay0=true/\(pd d).depth≤n)->wo (jy s)=true/\qJ (jy s)≤n
 | [],_=>⟨rfl,cH _⟩
 |d::r,h=>by obtain⟨⟨p,a⟩,q⟩:=List.forall_mem_cons.mp h;obtain⟨x,e⟩:=qj q;exact⟨by simp only[jy,wo,p,x,Bool.and_self],by simp only[jy,qJ];lia⟩
theorem fq:∀(n:Nat)(p:P),cK n p=true->(pd p).canLay0=true/\(pd p).depth≤n
 |_,.non,_=>⟨rfl,cH _⟩
 |_,.bl _,_=>⟨rfl,cH _⟩
 |_,.int _,_=>⟨rfl,cH _⟩
 |n,.str x,h=>⟨by cases n<;>exact h,cH _⟩
 |n,.dct _ _,h=>by cases n<;>cases h
 |0,.tup _,h=>by cases h
 |0,.lst _,h=>by cases h
 |0,.ro _,h=>by cases h
 |n+1,.tup s,h=>by obtain⟨a,b⟩:=qj λd hd=>fq n d (bb.mp h d hd);exact⟨a,by simp only[pd,sO];lia⟩
 |n+1,.lst s,h=>by obtain⟨a,b⟩:=qj λd hd=>fq n d (bb.mp h d hd);exact⟨a,by simp only[pd,sO];lia⟩
 |n+1,.ro s,h=>by obtain⟨a,b⟩:=qj λd hd=>fq n d (bb.mp h d hd);exact⟨a,by simp only[pd,sO];lia⟩
theorem j5(h:cK 20 p=true):Ak (pd p)=true:=by obtain⟨x,a⟩:=fq 20 p h;unfold Ak;rw[x,uP];exact gO (by lia)
section
variable{X:Cx}{B:PN}{J:L2.St}{H:Hp}{s:Shared}{F:Aa}
theorem i8(o:∀{p:P}{v:V}{u:Value},RP X.K F H p v->RelV v u->cK n p=true->∃k,Reads s.heap u (pd p) k) :
  ∀{f:List P}{a:List V}{b:LV},cf X.K F H f a->bc a b->(∀d ∈ f,cK n d=true)->∃k,ReadsAll s.heap b (jy f) k
 | [],a,b,r,v,_=>by cases (show a=[] from r);cases v;exact⟨_,.nil⟩
 |d::f,a,b,r,v,h=>by
  obtain⟨x,i,rfl,p,r⟩:=r;cases v with
  |cons w t=>obtain⟨k,q⟩:=o p w (h d (.head _));obtain⟨g,m⟩:=i8 o r t λe c=>h e (.tail _ c);exact⟨_,.cons q m⟩
theorem iF(I:Inv X B J H s):∀(n:Nat){p:P}{v:V}{u:Value},RP X.K F H p v->RelV v u->cK n p=true->∃w,Reads s.heap u (pd p) w:=by
 intro n;induction n with
 |zero=>
  intro p v u r k h;cases p with
  |non=>cases (show v=.non from r);cases k;exact⟨_,.none⟩
  |bl b=>cases (show v=.bl b from r);cases k;exact⟨_,.bool b⟩
  |int i=>cases (show v=.int i from r);obtain⟨t,rfl⟩:=k;exact⟨_,.int i t⟩
  |str x=>cases (show v=.str x from r);obtain⟨t,rfl⟩:=k;exact⟨_,.str x t⟩
  |_=>simp[cK]at h
 |succ n y=>
  intro p v u r k h;cases p with
  |non=>cases (show v=.non from r);cases k;exact⟨_,.none⟩
  |bl b=>cases (show v=.bl b from r);cases k;exact⟨_,.bool b⟩
  |int i=>cases (show v=.int i from r);obtain⟨t,rfl⟩:=k;exact⟨_,.int i t⟩
  |str x=>cases (show v=.str x from r);obtain⟨t,rfl⟩:=k;exact⟨_,.str x t⟩
  |dct A T=>simp[cK]at h
  |tup z=>obtain⟨a,K,rfl,l,j⟩:=r;cases k;obtain⟨g,f,⟨o,e,c,m,d⟩,S⟩:=I.tuple l.sq;obtain⟨w,q⟩:=i8 y j f (by simpa[cK] using h);rw[pd];exact⟨w,reads_tuple_at e c d (by simpa using q)⟩
  |lst z=>obtain⟨a,K,rfl,l,j⟩:=r;cases k;obtain⟨g,f,⟨o,m,e,c,_,d⟩,S⟩:=I.list l.sq;obtain⟨w,q⟩:=i8 y j f (by simpa[cK] using h);rw[pd];exact⟨_,ui e c d (by simpa using q)⟩
  |ro z=>obtain⟨a,K,rfl,l,j⟩:=r;cases k;obtain⟨g,f,⟨o,m,e,c,_,d⟩,S⟩:=I.list l.sq;obtain⟨w,q⟩:=i8 y j f (by simpa[cK] using h);rw[pd];exact⟨_,ui e c d (by simpa using q)⟩
end
noncomputable def ss(f:D->Option P):List D->Option (List P)
 | []=>some []
 |d::r=>(f d).bind λv=>(ss f r).map λT=>v::T
def f_(S:Y):Nat->D->Option P
 |_,.p v=>some v
 |0,.ref _=>none
 |n+1,.ref i=>match S[i]? with
  |some (.lst d)=>(ss (f_ S n) d).map .lst
  |some (.fz v)=>some v
  |_=>none
@[simp] theorem yn(S:Y)(n:Nat)(v:P):f_ S n (.p v)=some v:=by cases n<;>rfl
section
variable{X:Cx}{B:PN}{J:L2.St}{H:Hp}{s:Shared}{F:Aa}{m:List Addr}{S:Y}
theorem rD(o:∀{d:D}{v:V}{u:Value}{p:P},RD X.K F H m d v->RelV v u->f_ S n d=some p->cK a0 p=true->∃c,Reads s.heap u (pd p) c) :
  ∀{f:List D}{b:List V}{t:LV}{k:List P},dh X.K F H m f b->bc b t->ss (f_ S n) f=some k->(∀d ∈ k,cK a0 d=true)->∃c,ReadsAll s.heap t (jy k) c
 | [],b,t,k,r,v,q,_=>by cases (show b=[] from r);cases v;cases q;exact⟨_,.nil⟩
 |d::f,b,t,k,r,v,q,h=>by
  obtain⟨x,B,rfl,p,r⟩:=r;obtain⟨y,j,q⟩:∃a,f_ S n d=some a/\(ss (f_ S n) f).map (λT=>a::T)=some k:=by
   cases e:f_ S n d with
   |none=>simp[ss,e]at q
   |some a=>exact⟨a,rfl,by simpa[ss,e] using q⟩
  obtain⟨C,l,rfl⟩:∃a,ss (f_ S n) f=some a/\k=y::a:=by
   cases e:ss (f_ S n) f with
   |none=>rw[e]at q;cases q
   |some a=>rw[e]at q;cases q;exact⟨a,rfl,rfl⟩
  cases v with
  |cons K z=>obtain⟨c,g⟩:=o p K j (h y (.head _));obtain⟨A,w⟩:=rD o r z l λe i=>h e (.tail _ i);exact⟨_,.cons g w⟩
theorem d5(I:Inv X B J H s)(y:Rel X.K F H m S):∀(n k:Nat){d:D}{v:V}{u:Value}{p:P},RD X.K F H m d v->RelV v u->f_ S n d=some p->cK k p=true->∃b,Reads s.heap u (pd p) b:=by
 intro n;induction n with
 |zero=>
  intro k d v u p r x q h;cases d with
  |p w=>rw[yn]at q;cases q;exact iF I k r x h
  |ref i=>cases q
 |succ n C=>
  intro k d v u p r x q h;cases d with
  |p w=>rw[yn]at q;cases q;exact iF I k r x h
  |ref i=>
   obtain⟨a,rfl,g⟩:=r;have A:i < S.length:=by rw[<- y.len];exact(bB.mp g).1
   obtain⟨o,j⟩:∃o,S[i]? = some o:=⟨S[i],by simp[A]⟩;have l:=y.obj i a o g j;simp only[f_,j]at q;cases o with
   |fz w=>cases q;exact iF I k l x h
   |dct M t=>cases q
   |ins _ _ _=>cases q
   |dtn _ _=>cases q
   |dtt _ _=>cases q
   |fn _=>cases q
   |lst t=>
    dsimp only at q;cases e:ss (f_ S n) t with
    |none=>rw[e]at q;cases q
    |some Q=>
     rw[e]at q;cases q;cases k with
     |zero=>simp[cK]at h
     |succ k=>obtain⟨R,K,G⟩:=l;cases x;obtain⟨E,f,⟨o,N,z,c,_,d⟩,L⟩:=I.list (iT.of K);obtain⟨b,q⟩:=rD (a0:=k) (λr x q h=>C k r x q h) G f e (by simpa[cK] using h);rw[pd];exact⟨_,ui z c d (by simpa using q)⟩
theorem m9(l:Rel X.K F H m S)(r:RD X.K F H m u v)(q:f_ S n u=some p)(f:∀s,p≠.lst s/\p≠.tup s):RP X.K F H p v:=by
 cases u with
 |p w=>rw[yn]at q;cases q;exact r
 |ref i=>
  cases n with
  |zero=>cases q
  |succ n=>
   obtain⟨a,rfl,h⟩:=r;have k:i < S.length:=by rw[<- l.len];exact(bB.mp h).1
   obtain⟨o,x⟩:∃o,S[i]? = some o:=⟨S[i],by simp[k]⟩;have b:=l.obj i a o h x;simp only[f_,x]at q;cases o with
   |fz w=>cases q;exact b
   |dct t d=>cases q
   |ins _ _ _=>cases q
   |dtn _ _=>cases q
   |dtt _ _=>cases q
   |fn _=>cases q
   |lst d=>
    dsimp only at q;cases e:ss (f_ S n) d with
    |none=>rw[e]at q;cases q
    |some c=>rw[e]at q;cases q;exact absurd rfl (f c).1
end
inductive rEI(K:FG)(g:D->D->Y->Option P)(x:V)(y:V)(H:Hp)(Q:VK):Prop
 |mk (F:Aa) (m:List Addr) (S:Y) (d:D) (e:D) (v:P) (h0_:Rel K F H m S) (h1_:RD K F H m d x) (h2_:RD K F H m e y) (h3_:g d e S=some v) (h4_:∀u F' H',Grow F H F' H'->RP K F' H' v u->Q u H'):rEI K g x y H Q
noncomputable def rE(K:FG)(g:D->D->Y->Option P):R2:=λx y H Q=>rEI K g x y H Q
@[simp] def ce(g:D->D->Y->Option P)(a b:EE)(L:Lc)(S:Y):tyV:=bQ (a L S) λx e=>bQ (b L e) λy h=>(g x y h).map λv=>(v,h)
section
variable{X:Cx}{a b:Expr}{C t:EE}{N:Pos}
theorem Bv(h:tV X.K (ce a0 C t) J H Q):K7 (rE X.K a0) (tE X.K C) (tE X.K t) J H Q:=by
 obtain⟨F,m,L,S,d,K,r,l,q,k⟩:=h;obtain⟨x,a,P,q⟩:=aj q;obtain⟨y,s,A,q⟩:=aj q;refine⟨F,m,L,S,x,a,r,l,P,λv p B M b I D=>?_⟩;refine⟨p,B,L,a,y,s,I,l.mono b,A,λu i n N c f E=>?_⟩;cases e:a0 x y s with
 |none=>rw[e]at q;cases q
 |some z=>rw[e]at q;cases q;exact⟨i,n,K,x,y,_,f,RD.mono c D,E,e,λw j o g G=>k w j n o (b.trans (c.trans g.stp)) (f.grow g) G⟩
theorem NC(o:je X (compareOp u) (rE X.K v))(x:PE X a (tE X.K C))(e:PE X b (tE X.K t))(m:behindInMarks u b=false):PE X (.Compare a [u] [b] N) (tV X.K (ce v C t)):=
 (BL o x e m).imp' λ_ _ _ h=>Bv h
theorem Np(o:je X (compareOp op) (rE X.K u))(c:PE X a (tE X.K C))(w:PE X b (tE X.K t))(g:behindInMarks op b=false):PT X (.Compare a [op] [b] N) (tQ X.K (bV (ce u C t))):=
 (BG o c w g).imp' λJ H Q h=>by
  refine Bv ?_;obtain⟨F,m,L,S,d,y,r,l,q,k⟩:=h;obtain⟨x,z,f,q⟩:=aj q;cases x with
  |bl b=>cases q;exact⟨F,m,L,S,_,_,r,l,f,λv e i n s j p=>⟨_,p,k e i n s j⟩⟩
  |_=>cases q
end
def Dz(x y:P):Option Bool:=match y0 x y with
 |some (.bl b)=>some b
 |_=>if (cK 20 x && cK 20 y)=true then some (dO (pd x) (pd y)) else none
def oH(d e:D)(S:Y):Option P:=(f_ S 9 d).bind λx=>(f_ S 9 e).bind λy=>(Dz x y).map .bl
def Dw(x y:P):Option Bool:=match MB x y with
 |some (.bl b)=>some b
 |_=>if (cK 20 x && cK 20 y)=true then some (!PyData.eqv (pd x) (pd y)) else none
def GZ(d e:D)(S:Y):Option P:=(f_ S 9 d).bind λx=>(f_ S 9 e).bind λy=>(Dw x y).map .bl
noncomputable def kx(c:D)(S:Y):Option (List cg):=match c with
 | .p (.dct k _)=>some k
 | .ref i=>match S[i]? with
  |some (.dct k _)=>some k
  |some (.fz (.dct k _))=>some k
  |_=>none
 |_=>none
noncomputable def C8(k:cg)(s:List cg):Bool:=s.any λh=>decide (h=k)
def M5(d c:D)(S:Y):Option Bool:=match kx c S with
 |some s=>(f_ S 9 d).bind λx=>(c_ x).map λk=>C8 k s
 |none=>none
def Mo(d c:D)(S:Y):Option P:=(M5 d c S).map .bl
noncomputable def dj:D->Bool
 | .p .non=>true
 |_=>false
def sv(d e:D)(_:Y):Option P:=match e with
 | .p .non=>some (.bl (dj d))
 |_=>none
def cW(d e:D)(_:Y):Option P:=match e with
 | .p .non=>some (.bl (!dj d))
 |_=>none
theorem yZ(h:y0 x v=some b):(∀s,x≠.lst s/\x≠.tup s)/\∀s,v≠.lst s/\v≠.tup s:=by
 refine⟨λs=>⟨λe=>?_,λe=>?_⟩,λs=>⟨λe=>?_,λe=>?_⟩⟩
 .subst e;cases v<;>cases h
 .subst e;cases v<;>cases h
 .subst e;cases x<;>cases h
 .subst e;cases x<;>cases h
section
variable{X:Cx}
theorem OB(o:X.A.units+64 < cLine):je X (compareOp .Eq) (rE X.K oH):=by
 intro B s J H x y v u Q I j z h;obtain⟨F,m,S,d,e,r,l,g,i,q,k⟩:=h;unfold oH at q;cases t:f_ S 9 d with
 |none=>rw[t]at q;cases q
 |some a=>
  rw[t]at q;cases p:f_ S 9 e with
  |none=>rw[p]at q;cases q
  |some b=>
   rw[p]at q;simp only[mD]at q;cases n:Dz a b with
   |none=>rw[n]at q;cases q
   |some c=>
    rw[n]at q;cases q;unfold Dz at n;split at n
    .rename_i G w;cases n;obtain⟨K,P⟩:=yZ w;exact OC (by lia) B s J H x y v u Q I j z ⟨F,a,b,.bl c,l.ft,m9 l g t K,m9 l i p P,w,k⟩
    .split at n
     .rename_i f;rw[av]at f;cases n;obtain⟨D,A⟩:=d5 I l 9 20 g j t f.1;obtain⟨E,C⟩:=d5 I l 9 20 i z p f.2;exact eq_dataH A C (j5 f.1) (j5 f.2) o ⟨.bl _,H,I,rfl,k _ F H .refl rfl⟩
     .cases n
theorem Dk(h:MB x v=some b):(∀s,x≠.lst s/\x≠.tup s)/\∀s,v≠.lst s/\v≠.tup s:=by
 refine⟨λs=>⟨λe=>?_,λe=>?_⟩,λs=>⟨λe=>?_,λe=>?_⟩⟩
 .subst e;cases v<;>cases h
 .subst e;cases v<;>cases h
 .subst e;cases x<;>cases h
 .subst e;cases x<;>cases h
theorem Ou(o:X.A.units+64 < cLine):je X (compareOp .NotEq) (rE X.K GZ):=by
 intro B s J H x y v u Q I j z h;obtain⟨F,m,S,d,e,r,l,g,i,q,k⟩:=h;unfold GZ at q;cases t:f_ S 9 d with
 |none=>rw[t]at q;cases q
 |some a=>
  rw[t]at q;cases p:f_ S 9 e with
  |none=>rw[p]at q;cases q
  |some b=>
   rw[p]at q;simp only[mD]at q;cases n:Dw a b with
   |none=>rw[n]at q;cases q
   |some c=>
    rw[n]at q;cases q;unfold Dw at n;split at n
    .rename_i G w;cases n;obtain⟨K,P⟩:=Dk w;exact Ro B s J H x y v u Q I j z ⟨F,a,b,.bl c,l.ft,m9 l g t K,m9 l i p P,w,k⟩
    .split at n
     .rename_i f;rw[av]at f;cases n;obtain⟨D,A⟩:=d5 I l 9 20 g j t f.1;obtain⟨E,C⟩:=d5 I l 9 20 i z p f.2;exact ne_dataH A C (j5 f.1) (j5 f.2) o ⟨.bl _,H,I,rfl,k _ F H .refl rfl⟩
     .cases n
theorem na(x:P):∀s:List P,(jy s).any (λy=>dO y (pd x))=s.any λy=>dO (pd y) (pd x)
 | []=>rfl
 |y::r=>by rw[jy,cT,cT,na x r]
theorem Fk(h:v.all (cK 19)=true):wo (jy v)=true/\qJ (jy v)≤20:=by have l:=fq 20 (.lst v) h;simp only[pd,DN,sO]at l;have x:=l.2;exact⟨l.1,by lia⟩
theorem Cy:(g7 u v).isSome=C8 v (u.map (·.1)):=by
 induction u with
 |nil=>rfl
 |cons p r i=>
  unfold C8 at i ⊢;by_cases h:p.1=v
  .rw [iD h,aC,cT,gO h];rfl
  .rw [g6 h,i,aC,cT,bt h];rfl
theorem Gn{K:FG}{F:Aa}{H:Hp}{m:List Addr}{S:Y}{c:D}{y:V}{s:List cg}(r:Rel K F H m S)(p:RD K F H m c y)(q:kx c S=some s):∃a k,y=.ref a/\H a=some (.dK k)/\k.map (·.1)=s:=by
 unfold kx at q;split at q
 .cases q;obtain⟨a,k,e,_,hk,h,_⟩:=p;exact⟨a,k,e,hk,h⟩
 .rename_i i;obtain⟨a,rfl,x⟩:=p;split at q
  .rename_i o;cases q;obtain⟨k,hk,h,_⟩:=r.obj i a _ x o;exact⟨a,k,rfl,hk,h⟩
  .rename_i o;cases q;obtain⟨b,k,e,_,hk,h,_⟩:=r.obj i a _ x o;cases e;exact⟨a,k,rfl,hk,h⟩
  .cases q
 .cases q
theorem Oy(A:X.A.units+64 < cLine):je X (compareOp .In) (rE X.K Mo):=by
 intro B s J H x y v u Q I K P h;obtain⟨F,m,S,d,e,r,l,j,o,q,k⟩:=h;unfold Mo M5 at q;cases c:kx e S with
 |some C=>
  rw[c]at q;dsimp only at q;cases f:f_ S 9 d with
  |none=>rw[f]at q;cases q
  |some a=>
   rw[f]at q;simp only[mD]at q;cases n:c_ a with
   |none=>rw[n]at q;cases q
   |some w=>rw[n]at q;cases q;obtain⟨b,g,rfl,hk,p⟩:=Gn l o c;have i:RP X.K F H a x:=m9 l j f λE=>⟨λz=>(by subst z;cases n),λz=>(by subst z;cases n)⟩;cases P;cases iK n i;exact RV (by lia) I (ko.k hk) K λD t=>⟨.bl _,H,t,rfl,by rw[Cy,p];exact k _ F H .refl rfl⟩
 |none=>rw[c]at q;cases q
theorem Ox:je X (compareOp .Is) (rE X.K sv):=by
 intro B s J H x y v u Q I c t h;obtain⟨F,m,S,d,e,r,l,n,f,q,k⟩:=h;unfold sv at q;split at q
 .cases q;cases (show y=.non from f);refine LL B s J H x _ v u Q I c t ⟨rfl,?_⟩;have:decide (x=.non)=dj d:=by
   cases d with
   |ref i=>obtain⟨a,rfl,_⟩:=n;rfl
   |p w=>
    cases w with
    |non=>cases (show x=.non from n);rfl
    |bl b=>cases (show x=.bl b from n);rfl
    |int b=>cases (show x=.int b from n);rfl
    |str b=>cases (show x=.str b from n);rfl
    |_=>(obtain⟨a,g,rfl,_⟩:=n;rfl)
  rw[this];exact k _ F H .refl rfl
 .cases q
theorem Fj:je X (compareOp .IsNot) (rE X.K cW):=by
 intro B s J H x y v u Q I c t h;obtain⟨F,m,S,d,e,r,l,n,f,q,k⟩:=h;unfold cW at q;split at q
 .cases q;cases (show y=.non from f);refine IH B s J H x _ v u Q I c t ⟨rfl,?_⟩;have:decide (x=.non)=dj d:=by
   cases d with
   |ref i=>obtain⟨a,rfl,_⟩:=n;rfl
   |p w=>
    cases w with
    |non=>cases (show x=.non from n);rfl
    |bl b=>cases (show x=.bl b from n);rfl
    |int b=>cases (show x=.int b from n);rfl
    |str b=>cases (show x=.str b from n);rfl
    |_=>(obtain⟨a,g,rfl,_⟩:=n;rfl)
  rw[this];exact k _ F H .refl rfl
 .cases q
end
noncomputable def rO:List kD->List P->Lc->Option Lc
 | [],[],L=>some L
 |g::s,v::T,L=>match g v L with
  |some h=>rO s T h
  |none=>none
 |_,_,_=>none
def bG(g:List kD):kD:=λv L=>match v with
 | .tup T=>rO g T L
 |_=>none
theorem xg:∀{s:List kD}{T:List P}{L x:Lc},rO s T L=some x->T.length=s.length
 | [],[],_,_,_=>rfl
 | [],_::_,_,_,h=>by cases h
 |_::_,[],_,_,h=>by cases h
 |g::s,v::T,L,x,h=>by
  unfold rO at h;split at h
  .rw [aR,aR,xg h]
  .cases h
inductive gTsI(K:FG)(gs:List kD)(xs:List V)(J:L2.St)(H:Hp)(Q:L2.St->Hp->Prop):Prop
 |mk (F:Aa) (m:List Addr) (L:Lc) (vs:List P) (L':Lc) (h0_:RL K F H m J L) (h1_:cf K F H vs xs) (h2_:rO gs vs L=some L') (h3_:∀J',RL K F H m J' L'->Q J' H):gTsI K gs xs J H Q
noncomputable def Tw(K:FG)(g:List kD):MS:=λx J H Q=>gTsI K g x J H Q
inductive GsOk(X:Cx):Ab->List kD->Prop where
 |nil:GsOk X [] []
 |cons {x:Str}{p:Pos}{es:Ab}{g:kD}{gs:List kD}:PG X (.Name x p) (gT X.K g)->GsOk X es gs->GsOk X (.Name x p::es) (g::gs)
section
variable{X:Cx}{N:Pos}
theorem sM:assignEach (.Name x p::es) v=(false,assign (.Name x p) v)::assignEach es v:=rfl
theorem GsOk.len(h:GsOk X es v)(e:Env):(assignEach es e).length=v.length/\(assignEach es e).findIdx? (·.1)=none:=by
 induction h with
 |nil=>exact⟨rfl,rfl⟩
 |cons _ _ i=>rw[sM];refine⟨by rw[aR,aR,i.1],?_⟩;simp only[List.findIdx?_cons,i.2];rfl
theorem GsOk.pgs(h:GsOk X es gs):PK X es (Tw X.K gs):=by
 induction h with
 |nil=>
  intro B s J H f u Q I a ⟨F,m,L,T,e,l,r,q,k⟩;cases T with
  |nil=>cases q;cases (show f=[] from r);exact IB B s J H [] u Q I a ⟨rfl,k J l⟩
  |cons _ _=>cases q
 |cons g _ i=>
  intro B s J H f u Q I a ⟨F,m,L,T,e,l,r,q,k⟩;cases T with
  |nil=>cases q
  |cons v T=>
   unfold rO at q;split at q
   .rename_i n b;obtain⟨x,t,rfl,p,r⟩:=r;refine E2 g i rfl B s J H _ u Q I a ⟨x,t,rfl,F,m,L,v,n,l,p,b,λd c=>?_⟩;exact⟨F,m,n,T,e,c,r,q,k⟩
   .cases q
theorem Mm(c:X.c=true)(h:GsOk X es u):PG X (.Tuple es n N) (gT X.K (bG u)):=
 PG.imp' (Lu c h.pgs (h.len _).1 (h.len _).2) λv J H Q z=>by
  obtain⟨F,m,L,d,x,l,p,q,k⟩:=z;cases d with
  |tup T=>obtain⟨a,s,rfl,t,r⟩:=p;have e:=xg (show rO u T L=some x from q);exact⟨a,s,rfl,t.sq,by rw[<- r.length];exact e,F,m,L,T,x,l,r,q,k⟩
  |_=>cases q
def JG(K:FG)(a:Addr):It:=
 ⟨λi H=>∃s x,iT K H a s/\s[i]? = some x,λi H x h=>∃p y,x=.ref p/\H p=none/\h=b7 H p (.tup [.int i,y])/\∀s,iT K H a s->s[i]? = some y,λi H=>∃s,iT K H a s/\s.length≤i⟩
theorem CB{P:Program}{w:World}{K:FG}{es:Ab}{n:Nat}(a e t:Addr)(C:e≠t):Turn P w K (.Tuple es n N) (JG K a) [e,t] e (λi h=>(∃l,IsEnum h e t i l)/\h.IsListIter t a i) where
 mem:=by simp
 obj:=λi h st b p=>by
  obtain⟨⟨l,A⟩,⟨o,ho,c,d⟩⟩:=st;have:b=e\/b=t:=by simpa using p
  rcases this with rfl|rfl
  .exact⟨_,A,λv z=>by have z':Data.fields _=Data.cell v:=z;cases z'⟩
  .exact⟨o,ho,λv z=>by rw[d]at z;cases z⟩
 keep:=λi h h' st k=>by obtain⟨⟨l,A⟩,y⟩:=st;exact⟨⟨l,k e (by simp) _ A⟩,y.at λo q=>k t (by simp) o q⟩
 item:=by
  intro X hP hw hK f i B s J H E I T st hg;subst hP hw hK;obtain⟨xs,x,V,hx⟩:=hg;obtain⟨its,rv,pl,hz⟩:=I.list V;obtain⟨u,hu,ru⟩:=rv.get hx;obtain⟨⟨l,A⟩,y⟩:=st;obtain⟨f0,f1,f2,f3,f4,f5⟩:=T e (by simp);obtain⟨M,Q,g2,Z,g4,g5⟩:=T t (by simp);refine wpAny_pyNext_enum_item A y pl.isList (x:=u) (by simpa using hu) C λh1 ho1 G ht1 hz1 hk1=>?_
  refine⟨_,rfl,DL (s:={ s with heap:=h1,toks:=s.toks+1 }) ho1 λR he2 F=>?_⟩;replace F:eB e h1 R:=F;have D:e < s.heap.objs.size:=aD A;have S:∀b o,b≠e->b≠t->s.heap.get? b=some o->R.get? b=some o:=λb o b1 b2 q=>(F.2 b b1).trans (hk1 b o b1 b2 q);have L:R.get? s.heap.objs.size=some { cls:=.type "tuple",data:=.seq #[.int i s.toks,u] }:=(F.2 _ (bU D)).trans ht1;have j:H s.heap.objs.size=none:=I.h.fresh (ak _);have W:∀{b:Addr}{o:HO},H b=some o->b≠e/\b≠t:=λ{b o} q=>⟨λz=>(by rw[z,f0]at q;cases q),λz=>(by rw[z,M]at q;cases q)⟩;have g:∀b,b ∉ [e,t]->b≠e/\b≠t:=λb p=>⟨λz=>p (by simp[z]),λz=>p (by simp[z])⟩;have I':Inv X B J (b7 H s.heap.objs.size (.tup [.int i,x])) { s with heap:=R,gens:=s.gens,drawn:=s.drawn,toks:=s.toks+1 }:=by
   refine I.step (ch:=[e,t]) (λb p=>?_) (λb o _ _ f q _=>S b o (g b f).1 (g b f).2 q) (λb o _ _ f q _=>⟨o.slots,S b o (g b f).1 (g b f).2 q⟩) (λb o _ q n=>?_) (λb o f q=>⟨o,S b o (g b f).1 (g b f).2 q⟩)
    (λb ys q=>?_) (λb o ys q=>?_) (λb q=>?_) (λm hm=>?_) (λb u' q=>?_) I.bare
   .have:b=e\/b=t:=by simpa using p
    rcases this with rfl|rfl
    .exact⟨f3,f1,f4,f5⟩
    .exact⟨Z,Q,g4,g5⟩
   .rw [ao (bf (aD q))];exact n
   .rw [ao (bE q j)];exact q
   .rw [ao (bE q j)];exact q
   .rw [ao (bE q j)];exact q
   .obtain⟨o,es,ep,ho,r⟩:=hm;exact⟨o,es,ep,S _ o (aP f1) (aP Q) ho,r⟩
   .by_cases p:b=s.heap.objs.size
    .subst p;rw[aM]at q;cases q;exact⟨by show 2≤sizeLine;decide,[.int i s.toks,u],.cons ⟨_,rfl⟩ (.cons ru .nil),⟨_,L,⟨rfl,_,rfl⟩,rfl⟩⟩
    .rw [ao p]at q;refine(I.h b u' q).stay (λc v f z=>S c v ?_ ?_ z) (λc z=>by rw[ao (bE z j)];exact z) λc ys z=>by rw[ao (bE z j)];exact z
     .rcases f with rfl|f
      .exact (W q).1
      .exact (W f).1
     .rcases f with rfl|f
      .exact (W q).2
      .exact (W f).2
  refine⟨.ref s.heap.objs.size,_,I',rfl,⟨s.heap.objs.size,x,rfl,j,rfl,λys hy=>by rw[I.list_inj hy V];exact hx⟩,⟨⟨u,by simpa using he2⟩,G.at λo q=>(F.2 t (aP C)).trans q⟩,λb p=>?_⟩;have hb':b=e\/b=t:=by simpa using p
  obtain⟨oi,hoi,_⟩:=id y;rcases hb' with rfl|rfl
  .rw [ao (bf D)];exact f0
  .rw [ao (bf (aD hoi))];exact M
 done:=by intro X hP hw hK f i B s J H E I T st hg;subst hP hw hK;obtain⟨xs,V,hx⟩:=hg;obtain⟨its,rv,pl,hz⟩:=I.list V;obtain⟨⟨l,A⟩,y⟩:=st;obtain⟨M,Q,g2,Z,g4,g5⟩:=T t (by simp);have hl:=rv.length;exact wpAny_pyNext_enum_end (I.o.hd f) A y pl.isList (by simp;lia) λh' eb=>⟨rfl,I.turned (t':=s.toks) (λb o p e=>eb b o p e) M Q Z g4 g5⟩
 self:=λ_ _ _ _ _ st h=>by obtain⟨⟨l,A⟩,_⟩:=st;exact tY A h
noncomputable def cy(k:Int):List P->List P
 | []=>[]
 |x::r=>.tup [.int k,x]::cy (k+1) r
theorem lB:∀{T:List P}{k:Int}{i:Nat}{v:P},(cy k T)[i]? = some v->∃x,T[i]? = some x/\v=.tup [.int (k+i),x]
 | [],_,_,_,h=>by simp[cy]at h
 |x::r,k,0,v,h=>⟨x,rfl,by simpa[cy] using h.symm⟩
 |x::r,k,i+1,v,h=>by obtain⟨y,a,e⟩:=lB (T:=r) (k:=k+1) (i:=i) (by simpa[cy] using h);refine⟨y,by simpa using a,?_⟩;rw[e];congr 3;lia
theorem eF:∀(T:List P)(k:Int),(cy k T).length=T.length
 | [],_=>rfl
 |_::r,k=>by rw[cy,aR,aR,eF r]
@[simp] def RE(a:EV)(L:Lc)(S:Y):Ef:=bQ (a L S) λv h=>match v with
 | .lst x=>some (cy 0 x,h)
 | .ro x=>some (cy 0 x,h)
 |_=>none
theorem FM{K:FG}{F:Aa}{m:List Addr}{H:Hp}{a:Addr}{T:List P}{s:List V}(t:∀h k n,Stp F m H h k n->iT K n a s)(r:cf K F H T s):MU K (JG K a) (cy 0 T) F m H:=by
 intro h k n st;have q:=t h k n st;have l:=r.length;refine⟨λi v e=>?_,⟨s,q,by rw[eF,l];exact ak _⟩⟩;obtain⟨d,c,rfl⟩:=lB e;obtain⟨x,f,p⟩:=r.get c;refine⟨⟨s,x,q,f⟩,λz u y=>?_⟩;obtain⟨g,y,rfl,b,rfl,w⟩:=y;have:y=x:=by have:=w s q;rw[f]at this;cases this;rfl
 subst this;refine⟨h,cx b,RP.newTup b ⟨_,_,rfl,?_,_,_,rfl,RP.mono st p,rfl⟩⟩;show V.int (i:Int)=V.int (0+(i:Int));rw[cS]
theorem iE{es:Ab}{n:Nat}{a:Expr}{C:EV}{p h:Pos}(hg:Gl X "enumerate")(hm:X.g "enumerate"=none)(ha:PE X a (tV X.K C))(G:starEach [a] X.e=[(false,eval a X.e)]):PI X (.Tuple es n N) (.Call (.Name "enumerate" p) [a] [] h) (tI X.K (RE C)):=by
 intro B s J H R I ⟨F,m,L,S,T,S',r,l,q,k⟩;obtain⟨v,A,e1,q⟩:=aj q;have hA:PA X [a] (qf X.K (ab C ar)):=GR ha JC (by rw[G];rfl);refine Call_ (j7 I hg hm zR (jO (cN (hA h B s J H (λt f=>∃c d,Stp F m H c d f/\Rel X.K c f d A/\cf X.K c f [v] t) I ⟨F,m,L,S,[v],A,r,l,?_,λt c d f x j K=>⟨c,d,x,j,K⟩⟩) λus x ⟨t,f,w,Q,c,d,st,j,K⟩=>?_) (by rw[G];rfl) rfl))
 .simp only[ab,ar,e1,az]
 obtain⟨x1,rfl,M⟩:=vd K;obtain⟨u,rfl,ru⟩:=vals1 Q;have D:∀{a:Addr}{t:List V},x1=.ref a->iT X.K f a t->R (JG X.K a) f->wx X (call (.type "enumerate") [u]) (λv x=>wx X (pyIter v) (Qo X B J (.Tuple es n N) R) X.xe x) X.xe x:=λ{a t} e hq q=>by
  subst e;cases ru;obtain⟨its,Q,pl,hz⟩:=w.list hq;refine call_enumerate_list pl.isList λh' E o hsz hk=>?_
  refine tY E ?_;have g:∀b,x.heap.objs.size≤b->f b=none:=λb y=>w.h.fresh y;refine⟨x.heap.objs.size+1,[x.heap.objs.size+1,x.heap.objs.size],_,_,f,rfl,w.kept (t':=x.toks) hk,CB a _ _ (bU (jQ _)),⟨⟨_,E⟩,o⟩,λb y=>?_,q⟩;have z:b=x.heap.objs.size+1\/b=x.heap.objs.size:=by simpa using y
  rcases z with rfl|rfl
  .exact w.fpOk (iX _) (g _ (iX _))
  .exact w.fpOk (ak _) (g _ (ak _))
 cases v with
 |lst ds=>cases q;obtain⟨a,t,rfl,i,P⟩:=M;exact D rfl i.sq (k _ c d f st j (FM (λW m2 Z s=>(i.kp s.kp).sq) P))
 |ro ds=>cases q;obtain⟨a,t,rfl,i,P⟩:=M;exact D rfl i.sq (k _ c d f st j (FM (λW m2 Z s=>(i.kp s.kp).sq) P))
 |_=>cases q
end
open PySem.AutoSeq1 (wpAny_loadPart')
theorem Gx(n:Nat):(iO n=true)=(n≤1000000):=by unfold iO;simp
variable{d:Type}{Q:d->Shared->Prop}
theorem Qa(h:c=false)(k:wpAny M A b Q E s):wpAny M A (if c=true then a else b) Q E s:=by rw[h,ah bC];exact k
theorem Tt(h:c=true)(k:wpAny M A a Q E s):wpAny M A (if c=true then a else b) Q E s:=by rw[h,af rfl];exact k
theorem xk(a:Array Value)(n:Nat):∀b:Array Value,((List.replicate n a).foldl (·++·) b).size=b.size+n * a.size:=by
 induction n with
 |zero=>intro b;simp
 |succ n i=>intro b;rw[cJ,fW,i,AR,mG];lia
theorem HP(l:Addr)(i:Array Value)(n:Nat)(e:Option Addr)(k:Array (OV))(x:Int)(u:Tok)(c:-1000000 < x/\x < 1000000)(m:(i.isEmpty ||x == 1)=true) :
  Meets (Builtin.«tuple.__mul__» ⟨[.ref l,.int x u],[]⟩) (λ_ R s=>s.heap.get? l=some { cls:=.type "tuple",dict:=e,data:=.seq i n,slots:=k }/\R (.ok (.ret (Value.ref l))) s):=
 .of_wp λprog w A R s h=>by
  obtain⟨p,g,d,t,os⟩:=s;obtain⟨a,h⟩:=h;have f:=zf;have b:=zg
  wp_walk using lW a
  refine Qa (by rw[bt (by lia),bt (by lia)];rfl) ?_
  wp_walk using lW a
  exact⟨_,rfl,h⟩
theorem HN(l:Addr)(i:Array Value)(n:Nat)(c:Option Addr)(q:Array (OV))(x:Int)(u:Tok)(H:-1000000 < x/\x < 1000000)(f:¬(i.isEmpty ||x == 1)=true)(z:i.size * x.toNat≤1000000) :
  Meets (Builtin.«tuple.__mul__» ⟨[.ref l,.int x u],[]⟩) (fun _ R s=>s.heap.get? l=some { cls:=.type "tuple",dict:=c,data:=.seq i n,slots:=q } /\
   R (.ok (.ret (Value.ref s.heap.objs.size))) { s with heap:=s.heap.push { cls:=Value.type "tuple",data:=Data.seq ((List.replicate x.toNat i).foldl (·++·) #[]) } }):=
 .of_wp λprog w A R s h=>by
  obtain⟨S,g,d,K,os⟩:=s;obtain⟨a,h⟩:=h;have y:=zf;have o:=zg
  wp_walk using lW a
  refine Qa (by rw[bt (by lia),bt (by lia)];rfl) ?_
  wp_walk using lW a
  have k:i.isEmpty=false:=by
   cases e:i.isEmpty with
   |false=>rfl
   |true=>rw[e]at f;simp at f
  by_cases b:x≤0
  .refine Tt (by rw[gO b];rfl) ?_;have m:x.toNat=0:=by lia
   rw[m]at h
   wp_walk using lW a
   exact⟨_,rfl,h⟩
  .refine Qa (by rw[bt b,k];rfl) ?_;have p:(i.size:Int) * x≤1000000:=by
    have:((i.size * x.toNat:Nat):Int)≤1000000:=by lia
    rw[zn,zo (by lia)]at this;exact this
   have r:¬(i.size:Int) * x > (2 ^ 63-1) / 8:=by lia
   dsimp only;rw[ah r];have F:(1000000:Int)≤(sizeLine:Int):=by decide
   refine Qa (show Kr _=false from bt (by lia)) ?_;have t:¬(pT (λv j=>v++j) #[] (List.replicate x.toNat i)).size > sizeLine:=by
    have e:=xk i x.toNat #[];rw[e];have:x.toNat * i.size≤1000000:=by rw[jP];exact z
    have:(1000000:Nat)≤sizeLine:=by decide
    simp only[bg,mN];lia
   wp_walk using lW a
   exact⟨_,rfl,h⟩
theorem Ii(a:Int)(t:Tok)(l:Addr)(i:Array Value)(n:Nat)(x:Option Addr)(e:Array (OV)) :
  Meets (Builtin.«int.__rmul__» ⟨[.int a t,.ref l],[]⟩) (λ_ R s=>s.heap.get? l=some { cls:=.type "tuple",dict:=x,data:=.seq i n,slots:=e }/\R (.ok (.ret Value.notImplemented)) s):=
 .of_wp λprog w A R s h=>by
  obtain⟨p,g,d,f,os⟩:=s;obtain⟨k,h⟩:=h
  wp_walk
  exact⟨_,rfl,h⟩
theorem CY:fillsNumberSlot (.type "tuple") "mul"=pure false:=
 PySem.fillsNumberSlot_seq (id:="tuple.__mul__") (r:=some (.builtin "tuple.__rmul__")) pN.lookup (by decide +kernel) zJ.lookup (by decide +kernel)
theorem Lh:seqRepeat? (.type "tuple")=pure (some (.builtin "tuple.__mul__")):=by unfold seqRepeat?;rw[DG (T:="tuple") (name:="__mul__") (id:="tuple.__mul__") pN.lookup (by decide +kernel)];first|rfl|(rw[DG (T:="tuple") (name:="__rmul__") (id:="tuple.__rmul__") zJ.lookup (by decide +kernel)];rfl)
section
variable{X:Cx}
theorem yU(i:LV)(k:Nat):(List.replicate k i.toArray).foldl (·++·) #[]=(List.replicate k i).flatten.toArray:=by
 have:∀(m:Nat)(b:LV),(List.replicate m i.toArray).foldl (·++·) b.toArray=(b++(List.replicate m i).flatten).toArray:=by
  intro m;induction m with
  |zero=>intro b;simp
  |succ m x=>intro b;rw[cJ,fW,List.append_toArray,x,cJ,gP,fg]
 have h:=this k [];rw[eD]at h;exact h
theorem Bp(r:bc u v):∀k:Nat,bc (List.replicate k u).flatten (List.replicate k v).flatten
 |0=>.nil
 |k+1=>by rw[cJ,cJ,gP,gP];exact r.append (Bp r k)
theorem L6(x:List d)(k:Nat):(List.replicate k x).flatten.length=x.length * k:=by
 induction k with
 |zero=>rfl
 |succ k i=>rw[cJ,gP,a_,i,z4];lia
def ja:P->P->Option P
 | .tup s,.int n=>if (iO (s.length * n.toNat) && decide (n.natAbs < 1000000))=true then some (.tup (List.replicate n.toNat s).flatten) else none
 |x,y=>vY x y
theorem LO:pF X (binaryOp .Mult) ja:=by
 intro B s J H x y v u Q I M N h;obtain⟨F,z,S,d,W,G,L,q,k⟩:=h;have f:vY z S=some d->wx X (binaryOp .Mult v u) (EP X B J Q) X.xe s:=λq=>Ov B s J H x y v u Q I M N ⟨F,z,S,d,W,G,L,q,k⟩
 cases z with
 |tup j=>
  cases S with
  |int n=>
   simp only[ja]at q;split at q
   .rename_i g;rw[av,Gx]at g;have h1:=aN g.2;cases q;obtain⟨a,D,rfl,R,C⟩:=G;cases (show y=.int n from L);cases M;obtain⟨t,rfl⟩:=N;have K:=C.length;obtain⟨i,r,⟨o,e,c,m,E⟩,hz⟩:=I.tuple R.sq;have l:=r.length;obtain⟨oc,A,ot,os⟩:=o;dsimp only at c E;subst c E;refine DK (T:="tuple") (U:="int") (by decide) ⟨_,e,rfl⟩ (λZ=>qx Z n t) CY zw pL Lh zy.lookup
     (iC pL (qx s n t) zx (zz _ _) (Ii n t a i.toArray m A os) ⟨e,rfl,⟨_,e,rfl⟩,?_⟩)
    by_cases p:(i.toArray.isEmpty ||n == 1)=true
    .refine iC pN ⟨_,e,rfl⟩ zH (zK _ _) (HP a i.toArray m A os n t (by lia) p) ⟨e,⟨.ref a,H,I,rfl,k _ F H .refl ?_⟩⟩;have V:(List.replicate n.toNat j).flatten=j:=by
      rw[uQ]at p;rcases p with p|p
      .have:i=[]:=by simpa using p
       have:j=[]:=fY (by rw[K,l,this];rfl);subst this;simp
      .have:n=1:=by simpa using p
       subst this;simp
     rw[V];exact⟨a,D,rfl,R,C⟩
    .refine iC pN ⟨_,e,rfl⟩ zH (zK _ _) (HN a i.toArray m A os n t (by lia) p (by rw[bg,<- l,<- K];exact g.1)) ⟨e,?_⟩;rw[yU];have w:H s.heap.objs.size=none:=I.h.fresh (ak _);have P:(List.replicate n.toNat D).flatten.length≤sizeLine:=by
      rw[L6,<- K];exact aA g.1 (by decide)
     refine⟨.ref s.heap.objs.size,_,I.laid (t':=s.toks) (o:=.tup (List.replicate n.toNat D).flatten) (λb ob q=>aW _ q) (ak _) ⟨P,_,Bp r n.toNat,oO.new _ _⟩,rfl,k _ F _ (cx w) (.newTup w (C.rep n.toNat))⟩
   .cases q
  |_=>exact f q
 |_=>exact f q
noncomputable def jr:List P->Option P
 | [.lst x]=>some (.lst x)
 | [.ro x]=>some (.lst x)
 | [.tup x]=>some (.lst x)
 |_=>none
noncomputable def fx:List P->Option P
 | [.lst x]=>some (.tup x)
 | [.ro x]=>some (.tup x)
 | [.tup x]=>some (.tup x)
 |_=>none
theorem GD:dG X (.type "list") (rC X.K jr):=by
  intro B s J H m u Q I r h;obtain⟨F,b,d,c,f,q,k⟩:=h;unfold jr at q;split at q;all_goals first
    |(cases q;done)
    | (cases q
       obtain⟨x,rfl,p⟩:=vd f;obtain⟨a,y,rfl,t,n⟩:=p;first
         |exact nD B s J H _ u Q I r ⟨a,y,rfl,.inl t.sq,λl e=>k _ _ _ (cQ e) (.newLst e n)⟩
         |exact nD B s J H _ u Q I r ⟨a,y,rfl,.inr t.sq,λl e=>k _ _ _ (cQ e) (.newLst e n)⟩)
theorem Dr:dG X (.type "tuple") (rC X.K fx):=by
  intro B s J H m u Q I r h;obtain⟨F,b,d,c,f,q,k⟩:=h;unfold fx at q;split at q;all_goals first
    |(cases q;done)
    | (cases q
       obtain⟨x,rfl,p⟩:=vd f;obtain⟨a,y,rfl,t,n⟩:=p;first
         |exact lP B s J H _ u Q I r ⟨a,y,rfl,.inl ⟨t.sq,λl e=>k _ F _ (cx e) (.newTup e n)⟩⟩
         |exact lP B s J H _ u Q I r ⟨a,y,rfl,.inr ⟨t.sq,k _ F H .refl ⟨a,y,rfl,t,n⟩⟩⟩)
noncomputable def pb:List P->Option P
 | [.int i]=>some (.int (if i < 0 then -i else i))
 |_=>none
theorem Jx:dG X (.builtin "abs") (rC X.K pb):=by
 intro B s J H n u Q I r h;obtain⟨F,e,d,f,a,q,k⟩:=h;unfold pb at q;split at q
 .cases q;obtain⟨x,rfl,p⟩:=vd a;exact GA B s J H _ u Q I r ⟨_,by rw[show x=_ from p],k _ F H .refl rfl⟩
 .cases q
variable{e:Expr}{es:Ab}{fs:kn}{p N:Pos}
theorem KA(g:Gl X "list")(m:X.g "list"=none)(a:PA X (e::es) (qf X.K fs))(x:starEach (e::es) X.e=(false,eval e X.e)::starEach es X.e)(h:(backTo N (starEach es X.e)).any (·.1)=false) :
  PE X (.Call (.Name "list" p) (e::es) [] N) (tV X.K (bj jr fs)):=ya GD g m uj a (by decide) (by decide) x h
theorem HD(g:Gl X "tuple")(m:X.g "tuple"=none)(a:PA X (e::es) (qf X.K fs))(x:starEach (e::es) X.e=(false,eval e X.e)::starEach es X.e)(h:(backTo N (starEach es X.e)).any (·.1)=false) :
  PE X (.Call (.Name "tuple" p) (e::es) [] N) (tV X.K (bj fx fs)):=ya Dr g m Hx a (by decide) (by decide) x h
theorem Nv(g:Gl X "abs")(m:X.g "abs"=none)(a:PA X (e::es) (qf X.K fs))(x:starEach (e::es) X.e=(false,eval e X.e)::starEach es X.e)(h:(backTo N (starEach es X.e)).any (·.1)=false) :
  PE X (.Call (.Name "abs" p) (e::es) [] N) (tV X.K (bj pb fs)):=yb Jx g m Hq a (by decide) (by decide) x h
@[simp] def gj(r:EE)(a:EV)(L:Lc)(S:Y):xL:=bQ (r L S) λd h=>match fO d h with
 |none=>none
 |some _=>bQ (a L h) λx e=>match fO d e,x with
  |some (i,s),.lst y=>if iO (s.length+y.length)=true then some (.p .non,e.set i (.lst (s++y.map .p))) else none
  |_,_=>none
end
section
variable{X:Cx}{o e:Expr}{I k:EE}{C:EV}{j h N:Pos}
theorem HH(ho:PE X o (tE X.K I))(he:PE X e (tV X.K C))(E:starEach [e] X.e=[(false,eval e X.e)])
  (f:attributeBase o "extend" X.e (eval o X.e)=eval o X.e) (c:(j.endLine == h.line)=true):PE X (.Call (.Attribute o "extend" j) [e] [] h) (tE X.K (gj I C)):=
 (JQ ue zB PySem.F.type_list_extend C0 ho (fm he iH (by rw[E];rfl)) f (by rw[E];rfl) c (by rw[E];rfl) rfl).imp' λJ H Q hz=>by
  obtain⟨F,m,L,S,d,S',r,l,q,k⟩:=hz;obtain⟨x,B,e1,q⟩:=aj q;refine⟨F,m,L,S,x,B,r,l,e1,λv F1 m1 H1 Z V T=>?_⟩;cases D:fO x B with
  |none=>rw[D]at q;cases q
  |some z=>
   obtain⟨i,ds⟩:=z;rw[D]at q;dsimp only at q;obtain⟨rfl,es⟩:=nc D;obtain⟨a,rfl,hm⟩:=id T;obtain⟨xs,hH,rs⟩:=V.obj i a _ hm es;refine⟨.inl ⟨rfl,xs,iT.of hH⟩,?_⟩;obtain⟨y,N,e2,q⟩:=aj q;refine⟨F1,m1,L,B,y,N,V,l.mono Z,e2,λu P G A s2 M p2=>?_⟩;cases s:fO (.ref i) N with
   |none=>rw[s]at q;cases q
   |some z=>
    obtain⟨i2,ds2⟩:=z;rw[s]at q;obtain⟨e3,n⟩:=nc s;cases e3;cases y with
    |lst ys=>
     dsimp only at q;split at q
     .rename_i hf;cases q;obtain⟨a2,e4,t⟩:=RD.mono s2 T;cases e4;obtain⟨g,p,w⟩:=M.obj i a _ t n;obtain⟨b,K,rfl,tb,W⟩:=p2;have R:∀K,A a≠some (.tup K):=λK z=>by rw[p]at z;cases z
      have st:Stp P G A P G (b7 A a (.lst (g++K))):=f8 M t n trivial R;refine⟨a,b,g,K,rfl,rfl,p,tb.2,by rw[<- w.length,<- W.length];exact jc hf,?_⟩;exact k .non P G _ (Z.trans (s2.trans st)) (M.set t n trivial R ⟨_,aM,dh.mono st (w.append (dh.ofP W))⟩) rfl
     .cases q
    |_=>cases q
noncomputable abbrev sN:=Lc->Y->Option (List D×Y)
noncomputable abbrev NK:=Option (List D×Y)
inductive tDsI(K:FG)(f:sN)(J:L2.St)(H:Hp)(Q:List V->Hp->Prop):Prop
 |mk (F:Aa) (m:List Addr) (L:Lc) (S:Y) (ds:List D) (S':Y) (h0_:Rel K F H m S) (h1_:RL K F H m J L) (h2_:f L S=some (ds,S')) (h3_:∀xs F' m' H',Stp F m H F' m' H'->Rel K F' H' m' S'->dh K F' H' m' ds xs->Q xs H'):tDsI K f J H Q
noncomputable def CG(K:FG)(f:sN):TA:=λJ H Q=>tDsI K f J H Q
@[simp] def dY(_L:Lc)(S:Y):NK:=some ([],S)
@[simp] def bw(a:EE)(r:sN)(L:Lc)(S:Y):NK:=bQ (a L S) λx h=>bQ (r L h) λs e=>some (x::s,e)
variable{es:Ab}{fs:sN}
theorem Pc:PA X [] (CG X.K dY):=iH.imp' λJ H Q h=>by obtain⟨F,m,L,S,d,x,r,l,q,k⟩:=h;cases q;exact k [] F m H .refl r rfl
theorem Mu(u:PE X e (tE X.K k))(g:PA X es (CG X.K fs))(i:starEach (e::es) X.e=(false,eval e X.e)::starEach es X.e):PA X (e::es) (CG X.K (bw k fs)):=
 (fm u g i).imp' λJ H Q z=>by obtain⟨F,m,L,S,d,t,r,l,q,h⟩:=z;obtain⟨x,a,p,q⟩:=aj q;obtain⟨B,D,w,q⟩:=aj q;cases q;refine⟨F,m,L,S,x,a,r,l,p,λv f j C s P o=>?_⟩;refine⟨f,j,L,a,B,t,P,l.mono s,w,λT b y c n A K=>?_⟩;exact h (v::T) b y c (s.trans n) A ⟨v,T,rfl,RD.mono n o,K⟩
noncomputable abbrev GF:=List D->Y->Option (D×Y)
inductive spRI(K:FG)(g:GF)(vs:List V)(H:Hp)(Q:VK):Prop
 |mk (F:Aa) (m:List Addr) (ds:List D) (S:Y) (d:D) (S':Y) (h0_:Rel K F H m S) (h1_:dh K F H m ds vs) (h2_:g ds S=some (d,S')) (h3_:∀v F' m' H',Stp F m H F' m' H'->Rel K F' H' m' S'->RD K F' H' m' d v->Q v H'):spRI K g vs H Q
noncomputable def oe(K:FG)(g:GF):Sp:=λT H Q _=>spRI K g T H Q
@[simp] def kW(g:GF)(a:sN)(L:Lc)(S:Y):xL:=bQ (a L S) λd h=>g d h
theorem KQ(G:FnOk X.p X.w X.K X.g X.b pf u f fd ps (oe X.K a0))(P:Room u X.A)(o:Gl X x)(K:X.g x=some (.ref f))(hk:dZ X.K (.ref f)=true)(y:Binds X.K fd ps [])
  (j:PA X (e::es) (CG X.K fs)) (h:(x == ("__debug__":Str))=false) (z:starEach (e::es) X.e=(false,eval e X.e)::starEach es X.e) (a:(backTo N (starEach es X.e)).any (·.1)=false) :
  PE X (.Call (.Name x p) (e::es) [] N) (tE X.K (kW a0 fs)):=
 (vg G P o K hk y .nil sW j h z a).imp' λJ H Q A=>by obtain⟨F,m,L,S,d,g,r,l,q,u⟩:=A;obtain⟨k,n,i,q⟩:=aj q;refine⟨F,m,L,S,k,n,r,l,i,λR b B t s E p=>?_⟩;show oe X.K a0 (R++[]) t Q E0;rw[dJ];exact⟨b,B,k,n,d,g,E,p,q,λv c C w M I D=>u v c C w (s.trans M) I D⟩
noncomputable def wY(n:Nat):D->Bool
 | .p _=>true
 | .ref i=>decide (i < n)
def IT(n:Nat):SO->Bool
 | .lst d=>d.all (wY n)
 | .dct _ d=>d.all (wY n)
 | .fz _=>true
 | .ins _ _ d=>d.all (wY n)
 | .dtn _ d=>d.all (wY n)
 | .dtt _ d=>d.all (wY n)
 | .fn o=>o.all (wY n)
def trunc(n:Nat)(S:Y):Y:=if (S.take n).all (IT n)=true then S.take n else S
@[simp] def fI(g:GF)(a:sN)(L:Lc)(S:Y):tyV:=bQ (a L S) λs h=>bQ (g s h) λd x=>bQ (toP 9 d x) λv e=>some (v,trunc h.length e)
end
section
variable{K:FG}{F:Aa}{H:Hp}{m:List Addr}{S:Y}
theorem RD.low(h:RD K F H m u v)(l:wY n u=true):RD K F H (m.take n) u v:=by
 cases u with
 |p w=>exact h
 |ref i=>obtain⟨a,e,x⟩:=h;exact⟨a,e,by rw[im (aN l)];exact x⟩
theorem dh.low:∀{s:List D}{a:List V},dh K F H m s a->s.all (wY n)=true->dh K F H (m.take n) s a
 | [],_,h,_=>h
 |d::s,_,h,l=>by obtain⟨x,r,e,k,f⟩:=h;rw[dv,av]at l;exact⟨x,r,e,k.low l.1,dh.low f l.2⟩
theorem Rel.trunc(r:Rel K F H m S)(B:n≤m.length)(h:(S.take n).all (IT n)=true):Rel K F H (m.take n) (S.take n) where
 len:=by rw[il,il,r.len]
 nd:=r.nd.sublist (Av _ _)
 obj:=λi a o b p=>by
  have u:i < n:=by have:=(bB.mp b).1;rw[il]at this;lia
  rw[im u]at b;have lo:=bb.mp h o (aY p);rw[im u]at p;have t:=r.obj i a o b p;cases o with
  |lst q=>obtain⟨A,x,s⟩:=t;exact⟨A,x,s.low lo⟩
  |dct g q=>obtain⟨k,x,e,s⟩:=t;exact⟨k,x,e,s.low lo⟩
  |fz v=>exact t
  |ins c g q=>obtain⟨C,j,k,l,x,e,s⟩:=t;exact⟨C,j,k,l,x,e,s.low lo⟩
  |dtn g q=>obtain⟨k,x,e,P,s⟩:=t;exact⟨k,x,e,P,s.low lo⟩
  |dtt g q=>obtain⟨k,x,e,s⟩:=t;exact⟨k,x,e,s.low lo⟩
  |fn D=>intro d hd;obtain⟨v,y,z⟩:=t d hd;subst hd;exact⟨v,y,z.low lo⟩
 sep:=λi a o b p w f=>by
  have u:i < n:=by have:=(bB.mp b).1;rw[il]at this;lia
  rw[im u]at b p;exact r.sep i a o b p w f
 trk:=λa h=>r.trk a (uJ h)
 ft:=r.ft
theorem Stp.trunc(s:Stp F m H u v H'):Stp F m H u (v.take m.length) H':=by
 obtain⟨n,e⟩:=s.pre;have x:v.take m.length=m:=by rw[e];simp
 rw[x];exact⟨⟨[],by simp⟩,s.oth,s.frz,s.frk,s.tup,s.trk,s.nf,λ_ h=>.inl h,s.cod⟩
end
section
variable{X:Cx}{e:Expr}{es:Ab}{fs:sN}{N:Pos}
theorem HF(G:FnOk X.p X.w X.K X.g X.b pf u f fd ps (oe X.K a0))(hr:Room u X.A)(Z:Gl X x)(hm:X.g x=some (.ref f))(hk:dZ X.K (.ref f)=true)(V:Binds X.K fd ps [])
  (T:PA X (e::es) (CG X.K fs)) (b:(x == ("__debug__":Str))=false) (W:starEach (e::es) X.e=(false,eval e X.e)::starEach es X.e) (w:(backTo N (starEach es X.e)).any (·.1)=false) :
  PE X (.Call (.Name x p) (e::es) [] N) (tV X.K (fI a0 fs)):=
 (vg G hr Z hm hk V .nil sW T b W w).imp' λJ H Q hz=>by
  obtain⟨F,m,L,S,d,S',r,l,q,u⟩:=hz;obtain⟨z,h,I,q⟩:=aj q;obtain⟨E,D,M,q⟩:=aj q;obtain⟨v1,a,R,q⟩:=aj q;cases q;refine⟨F,m,L,S,z,h,r,l,I,λxs B g C A K p1=>?_⟩;show oe X.K a0 (xs++[]) C Q E0;rw[dJ];refine⟨B,g,z,h,E,D,K,p1,M,λv F2 i y s2 r2 p2=>?_⟩;obtain⟨j,s3,P,l3,o⟩:=n0 9 R r2 p2;have st:=s2.trans s3;have s:=K.len;by_cases c:(a.take h.length).all (IT h.length)=true
  .have t:Ev.trunc h.length a=a.take h.length:=af c;rw[t]at u;have k:g.length≤i.length:=by
    obtain⟨nn,e⟩:=st.pre;rw[e,a_];lia
   have rt:=P.trunc (n:=h.length) (by rw[<- s];exact k) c;refine u v j (i.take g.length) y (A.trans st.trunc) ?_ o;rw[s];exact rt
  .have t:Ev.trunc h.length a=a:=ah c;rw[t]at u;exact u v j i y (A.trans st) P o
end
section
variable{X:Cx}{a b c e o i g:Expr}{C t q r z:EV}{I k:EE}{N G:Pos}
def sg (i:Expr):Prop:=∀(o:Expr) (N:Pos) (e:Env) (v:Value),assign (.Subscript o i N) e v=(do
 let h <- holding [v] (eval o e)
 let iv <- holding [v,h] (eval i e)
 standAt N
 holding [v,h,iv] (setItem h iv v)
 release [v,h,iv] [])
def Ez(o:EE)(k v:EV):ES:=λL S=>bQ (v L S) λy x=>bQ (o L x) λd a=>bQ (k L a) λz h=>match fO d h,z with
 |some (i,s),.int n=>match Dy s.length n with
  |some j=>some (.nx,L,h.set i (.lst (s.set j (.p y))))
  |none=>none
 |_,_=>none
theorem dh.setAt{K:FG}{F:Aa}{H:Hp}{m:List Addr}{d:D}{v:V}(h:RD K F H m d v):∀{s:List D}{e:List V}(j:Nat),dh K F H m s e->dh K F H m (s.set j d) (e.set j v)
 | [],_,_,r=>by cases (show _=([]:List V) from r);exact rfl
 |_::_,_,0,r=>by obtain⟨x,a,rfl,p,r⟩:=r;exact⟨v,a,rfl,h,r⟩
 |_::_,_,j+1,r=>by obtain⟨x,a,rfl,p,r⟩:=r;exact⟨x,_,rfl,p,dh.setAt h j r⟩
theorem Ni(ho:PE X o (tE X.K I))(hi:PE X i (tV X.K r))(hv:PE X g (tV X.K z))(hs:swapsWith g (some (.Subscript o i G)) N.line X.e=pure false)(hw:swappedStores [.Subscript o i G] g X.e=pure none)(P:sg i) :
  PS X (.Assign [.Subscript o i G] g N) (kJ X.K (Ez I r z)):=(EW hv (Lv ho hi Eu (P o G X.e)) hs hw).imp' λD J H hz=>by
 obtain⟨F,m,L,S,fl,L',S',h,l,q,k⟩:=hz;obtain⟨y,M,e1,q⟩:=aj q;obtain⟨d,Q,e2,q⟩:=aj q;obtain⟨e,R,e3,q⟩:=aj q;refine⟨F,m,L,S,y,M,h,l,e1,λv E V H1 b r1 p1=>?_⟩;refine⟨E,V,L,M,d,Q,r1,l.mono b,e2,λx F2 m2 H2 c r2 p2=>?_⟩;refine⟨F2,m2,L,Q,e,R,r2,(l.mono b).mono c,e3,λw s m3 f p C p3=>?_⟩;cases K:fO d R with
 |none=>rw[K]at q;cases q
 |some t=>
  obtain⟨j,ds⟩:=t;rw[K]at q;cases e with
  |int n=>
   dsimp only at q;cases u:Dy ds.length n with
   |none=>rw[u]at q;cases q
   |some B=>
    rw[u]at q;cases q;obtain⟨rfl,es⟩:=nc K;obtain⟨a,rfl,A⟩:=RD.mono p p2;obtain⟨xs,T,Z⟩:=C.obj j a _ A es;have pv:RD X.K s f m3 (.p y) v:=RD.mono p (RD.mono c (show RD X.K E H1 V (.p y) v from p1));cases (show w=.int n from p3);have W:∀zs,f a≠some (.tup zs):=λzs e=>by rw[T]at e;cases e
    have st:Stp s m3 f s m3 (b7 f a (.lst (xs.set B v))):=f8 C A es trivial W;refine⟨a,xs,n,B,rfl,rfl,T,by rw[<- Z.length];exact u,?_⟩;exact k J s m3 _ (b.trans (c.trans (p.trans st))) (C.set A es trivial W ⟨_,aM,dh.mono st (dh.setAt pv B Z)⟩) (((l.mono b).mono c).mono (p.trans st))
  |_=>cases q
def jw(o:EE)(k v:EV):ES:=λL S=>match yq o k v L S with
 |some r=>some r
 |none=>Ez o k v L S
theorem Nj(j:X.A.units+1 < cLine)(d:PE X o (tE X.K I))(v:PE X i (tV X.K r))(u:PE X g (tV X.K z))(w:swapsWith g (some (.Subscript o i G)) N.line X.e=pure false)(hw:swappedStores [.Subscript o i G] g X.e=pure none)(t:sg i) :
  PS X (.Assign [.Subscript o i G] g N) (kJ X.K (jw I r z)):=λB s J H D x h=>by
 obtain⟨F,m,L,S,b,n,f,a,l,q,k⟩:=h;cases c:yq I r z L S with
 |some e=>
  have p:some e=some (b,n,f):=by have:=q;unfold jw at this;rw[c]at this;exact this
  cases p;exact Qu j d v u w B s J H D x ⟨F,m,L,S,b,n,f,a,l,c,k⟩
 |none=>
  have p:Ez I r z L S=some (b,n,f):=by have:=q;unfold jw at this;rw[c]at this;exact this
  exact Ni d v u w hw t B s J H D x ⟨F,m,L,S,b,n,f,a,l,p,k⟩
@[simp] def nZ(g n:P->P->Option P)(a b c:EV)(L:Lc)(S:Y):tyV:=bQ (a L S) λx e=>bQ (b L e) λy h=>match g x y with
 |some (.bl true)=>bQ (c L h) λz s=>(n y z).map λv=>(v,s)
 |some (.bl false)=>some (.bl false,h)
 |_=>none
theorem xz{g c:P->P->Option P}{J:L2.St}{H:Hp}{Q:VK}(h:tV X.K (nZ g c C t q) J H Q):yi (rP X.K g) (rP X.K c) (tV X.K C) (tV X.K t) (tV X.K q) J H Q:=by
 obtain⟨F,m,L,S,d,S',r,l,a,k⟩:=h;obtain⟨x,o,e1,a⟩:=aj a;obtain⟨y,K,e2,a⟩:=aj a;refine⟨F,m,L,S,x,o,r,l,e1,λv N m1 H1 G r1 p1=>?_⟩;refine⟨N,m1,L,o,y,K,r1,l.mono G,e2,λu R i H2 I B A=>?_⟩;cases b:g x y with
 |none=>rw[b]at a;cases a
 |some z=>
  rw[b]at a;cases z with
  |bl e=>
   refine⟨R,x,y,_,B.ft,RP.mono I p1,A,b,λw f j p p3=>⟨e,p3,?_⟩⟩;have sS:Stp F m H f i j:=G.trans (I.trans p.stp);have D:=B.grow p;cases e with
   |false=>rw[ah bC];cases a;exact k _ f i j sS D rfl
   |true=>
    rw[af rfl];dsimp only at a;obtain⟨z,Z,e3,a⟩:=aj a;refine⟨f,i,L,K,z,Z,D,l.mono sS,e3,λw' T m4 H4 M E p4=>?_⟩;cases s:c y z with
    |none=>rw[s]at a;cases a
    |some z2=>rw[s]at a;cases a;exact⟨T,y,z,_,E.ft,RP.mono M (RP.grow p A),p4,s,λw2 V W n p5=>k w2 V m4 W (sS.trans (M.trans n.stp)) (E.grow n) p5⟩
  |_=>cases a
theorem KP(n:pF X (compareOp op) v)(o:pF X (compareOp u) g')(x:PE X a (tV X.K C))(e:PE X b (tV X.K t))(s:PE X c (tV X.K q))(m:lastMarks [op,u] [b,c]=false) :
  PE X (.Compare a [op,u] [b,c] N) (tV X.K (nZ v g' C t q)):=(Fc n o x e s m).imp' λ_ _ _ h=>xz h
theorem Kw(z:pF X (compareOp op) u)(o:pF X (compareOp op') g')(g:PE X a (tV X.K C))(i:PE X b (tV X.K t))(j:PE X c (tV X.K q))(y:lastMarks [op,op'] [b,c]=false) :
  PT X (.Compare a [op,op'] [b,c] N) (tQ X.K (bV (nZ u g' C t q))):=(EM z o g i j y).imp' λJ H Q h=>by
 refine xz ?_;obtain⟨F,m,L,S,d,A,r,l,e,k⟩:=h;obtain⟨x,B,w,e⟩:=aj e;cases x with
 |bl b=>cases e;exact⟨F,m,L,S,_,_,r,l,w,λv n K f s P p=>⟨_,p,k n K f s P⟩⟩
 |_=>cases e
def yh:P->Option Bool
 | .non=>some false
 | .bl b=>some b
 | .int i=>some (i != 0)
 | .str x=>if iO x.length=true then some ((x.length:Int) != 0) else none
 | .tup s=>some (!s.isEmpty)
 | .lst s=>some (!s.isEmpty)
 | .ro s=>some (!s.isEmpty)
 | .dct k _=>some (!k.isEmpty)
def HQ:D->Y->Option Bool
 | .p v,_=>yh v
 | .ref i,S=>match S[i]? with
  |some (.lst d)=>some (!d.isEmpty)
  |some (.dct k _)=>some (!k.isEmpty)
  |some (.fz v)=>yh v
  |_=>none
@[simp] def bT(f:EE)(L:Lc)(S:Y):MZ:=bQ (f L S) λd h=>(HQ d h).map λb=>(b,h)
theorem i_{x:List d}{y:List l}(h:x.length=y.length):x.isEmpty=y.isEmpty:=by cases x<;>cases y<;>first|rfl|simp at h
theorem Bt(p:RP X.K F H w v)(h:yh w=some u):MQ X.K v H u:=by
 cases w with
 |non=>cases (show v=.non from p);cases h;rfl
 |bl b=>cases (show v=.bl b from p);cases h;rfl
 |int b=>cases (show v=.int b from p);cases h;rfl
 |str x=>
  cases (show v=.str x from p);simp only[yh]at h;split at h
  .rename_i c;cases h;exact⟨jc c,rfl⟩
  .cases h
 |tup d=>obtain⟨a,s,rfl,t,r⟩:=p;cases h;exact .inr (.inl ⟨s,t.sq,by rw[i_ r.length]⟩)
 |lst d=>obtain⟨a,s,rfl,t,r⟩:=p;cases h;exact .inl ⟨s,t.sq,by rw[i_ r.length]⟩
 |ro d=>obtain⟨a,s,rfl,t,r⟩:=p;cases h;exact .inl ⟨s,t.sq,by rw[i_ r.length]⟩
 |dct n d=>obtain⟨a,k,rfl,_,hk,e,r⟩:=p;cases h;exact .inr (.inr ⟨k,hk,by rw[<- e];cases k<;>rfl⟩)
theorem yT(h:PE X e (tE X.K k))(D:∀o,isTrue e X.e o=(do let v <- o;standAt e.pos;holding [v] (truthy v))):PT X e (tQ X.K (bT k)):=
 (EL h D).imp' λJ H Q E=>by
  obtain⟨F,m,L,S,d,N,r,l,q,s⟩:=E;obtain⟨x,P,B,q⟩:=aj q;cases n:HQ x P with
  |none=>rw[n]at q;cases q
  |some t=>
   rw[n]at q;cases q;refine⟨F,m,L,S,x,_,r,l,B,λv z G K I c i=>⟨_,?_,s z G K I c⟩⟩;cases x with
   |p w=>exact Bt i n
   |ref j=>
    obtain⟨a,rfl,g⟩:=i;simp only[HQ]at n;split at n
    .rename_i A f;cases n;obtain⟨M,u,y⟩:=c.obj j a _ g f;exact .inl ⟨M,iT.of u,by rw[i_ y.length]⟩
    .rename_i R A f;cases n;obtain⟨b,u,C,y⟩:=c.obj j a _ g f;exact .inr (.inr ⟨b,u,by rw[<- C];cases b<;>rfl⟩)
    .rename_i w f;exact Bt (c.obj j a _ g f) n
    .cases n
@[simp] def yp(g:kD)(f:EV)(L:Lc)(S:Y):Bs:=bQ (f L S) λv x=>match g v L with
 |some h=>some (.nx,h,x)
 |none=>none
theorem Qt(p:PE X e (tV X.K C))(d:PG X tg (gT X.K u))(w:swapsWithSole [tg] e N.line X.e=pure false)(hw:swappedStores [tg] e X.e=pure none)(t:(assignEach [tg] X.e).map (·.2)=[assign tg X.e]) :
  PS X (.Assign [tg] e N) (kJ X.K (yp u C)):=(EW p d w hw t).imp' λD J H z=>by
 obtain⟨F,m,L,S,P,o,K,r,l,q,k⟩:=z;obtain⟨v,b,c,q⟩:=aj q;refine⟨F,m,L,S,v,b,r,l,c,λx h a n s y j=>?_⟩;cases g:u v L with
 |none=>rw[g]at q;cases q
 |some L2=>rw[g]at q;cases q;exact⟨h,a,L,v,_,l.mono s,j,g,λf i=>k f h a n s y i⟩
def fN:P->P->Option P
 | .tup [],.tup s=>some (.tup s)
 |x,y=>vZ x y
theorem MG{M:Program}{w:World}{A:Around}{E:VP}{s:Shared}{t b:Addr}{a:LV}{Q:VP}(n:IsTup s.heap t #[])(e:IsTup s.heap b a.toArray)(h:Q (.ref b) s):wpAny (model M w) A (binaryOp .Add (.ref t) (.ref b)) Q E s:=by obtain⟨o,g,k,m,l⟩:=id n;obtain⟨p,x,f,r,c⟩:=id e;cases o;cases p;cases k;cases l;cases f;cases c;exact xM ⟨_,g,rfl⟩ ⟨_,x,rfl⟩ xT xO ua uc (uf _ _) (tuple_addW0 t b #[] a.toArray m r _ _ _ _ rfl) ⟨g,x,h⟩
theorem LP:pF X (binaryOp .Add) fN:=by
 intro B s J H x y v u Q I r m h;obtain⟨F,e,n,d,t,c,p,q,k⟩:=h;have o:vZ e n=some d->wx X (binaryOp .Add v u) (EP X B J Q) X.xe s:=λq=>OD B s J H x y v u Q I r m ⟨F,e,n,d,t,c,p,q,k⟩
 cases e with
 |tup f=>
  cases n with
  |tup es=>
   cases f with
   |nil=>cases q;obtain⟨a,P,rfl,S,z⟩:=c;obtain⟨b,D,rfl,K,C⟩:=id p;cases (show P=[] from z);cases r;cases m;obtain⟨w,l,g,_⟩:=I.tuple S.sq;obtain⟨i,A,j,_⟩:=I.tuple K.sq;cases l;exact MG g j ⟨.ref b,H,I,rfl,k _ F H .refl p⟩
   |cons _ _=>exact o q
  |_=>cases f<;>exact o q
 |_=>exact o q
def wk(K:FG)(m:SV)(x:Str)(v:P):Prop:=∃u w,m x=some u/\RelV w u/\∀F H,RP K F H v w
theorem Nz(g:Gl X x)(h:wk X.K X.g x v)(hd:(x == ("__debug__":Str))=false):PE X (.Name x N) (tV X.K (vC v)):=by obtain⟨u,w,m,r,p⟩:=h;exact xC (IF g m r hd) p
end
section
variable{X:Cx}{a:Expr}{C:EE}{p N:Pos}
end
noncomputable def i9(f:Str):LS->List D->Option D
 |k::h,d::s=>if k=f then some d else i9 f h s
 |_,_=>none
noncomputable def putK(f:Str):LS->LS
 | []=>[f]
 |k::s=>if k=f then k::s else k::putK f s
noncomputable def sr(f:Str)(y:D):LS->List D->List D
 | [],_=>[y]
 |k::h,d::s=>if k=f then y::s else d::sr f y h s
 |_::_,[]=>[]
def kB(K:FG)(c:Str)(C:Addr):Prop:=nU K mainGlobals c=some (some (.ref C))
variable{K:FG}
theorem kB.inj(h:kB K c v)(x:kB K c u):v=u:=by have:=h.symm.trans x;cases this;rfl
def Qs(K:FG)(A:Str->Str->Bool):Prop:=∀c f,A c f=true->∃C,kB K c C/\Cls K C/\mx K C f
section
variable{K:FG}{F:Aa}{H:Hp}{m:List Addr}
theorem BW:∀{a:List (Str×V)}{s:List D}{d:D},dh K F H m s (a.map (·.2))->i9 f (a.map (·.1)) s=some d->∃v,a.lookup f=some v/\RD K F H m d v
 | [],s,d,_,h=>by cases s<;>cases h
 |(k,x)::r,s,d,p,h=>by
  cases s with
  |nil=>cases h
  |cons q s=>
   obtain⟨y,w,e,c,t⟩:=p;simp only[aC,iV]at e;obtain⟨rfl,rfl⟩:=e;simp only[aC,i9]at h;split at h
   .rename_i hk;cases h;subst hk;exact⟨x,by simp[fV],c⟩
   .rename_i hk;obtain⟨v,n,b⟩:=BW t h;exact⟨v,by rw[p0,show(f == k)=false by simpa using λz=>hk z.symm];exact n,b⟩
theorem BV:∀{v:List (Str×V)},(v.map (·.1)).contains f=false->v.lookup f=none
 | [],_=>rfl
 |(k,x)::r,h=>by simp only[aC,List.contains_cons,AM]at h;rw[p0,h.1];exact BV h.2
theorem EK(h:RD K F H m u v):∀{s:List (Str×V)}{d:List D},dh K F H m d (s.map (·.2))->(jn f v s).map (·.1)=putK f (s.map (·.1))/\dh K F H m (sr f u (s.map (·.1)) d) ((jn f v s).map (·.2))
 | [],d,n=>⟨rfl,v,[],rfl,h,rfl⟩
 |(k,x)::r,d,n=>by
  cases d with
  |nil=>cases (show _=([]:List V) from n)
  |cons t d=>
   obtain⟨z,p,e,b,a⟩:=n;simp only[aC,iV]at e;obtain⟨rfl,rfl⟩:=e;by_cases hk:k=f
   .simp only[jn,hk,jT,aC,putK,sr];first|exact⟨rfl,v,_,rfl,h,a⟩|exact⟨trivial,v,_,rfl,h,a⟩
   .obtain⟨i,c⟩:=EK h a;simp only[jn,hk,jU,aC,putK,sr];exact⟨by rw[i],x,_,rfl,b,c⟩
end
section
variable{X:Cx}{o e g:Expr}{f:Str}{N G j:Pos}{I z:EE}{A:Str->Str->Bool}{es:Ab}{fs:sN}
@[simp] def d9(A:Str->Str->Bool)(o:EE)(f:Str)(L:Lc)(S:Y):xL:=bQ (o L S) λd h=>match d with
 | .ref i=>match h[i]? with
  |some (.ins c k s)=>if A c f=true then (i9 f k s).map λz=>(z,h) else none
  |_=>none
 |_=>none
theorem QP(B:Qs X.K A)(V:PE X o (tE X.K I))(G:attributeBase o f X.e (eval o X.e)=eval o X.e):PE X (.Attribute o f N) (tE X.K (d9 A I f)):=(LD V G).imp' λJ H Q Z=>by
 obtain⟨F,m,L,S,d,S',r,l,q,k⟩:=Z;obtain⟨x,u,y,q⟩:=aj q;refine⟨F,m,L,S,x,u,r,l,y,λv b m1 t s1 n p1=>?_⟩;cases x with
 |p w=>cases q
 |ref i=>
  obtain⟨a,rfl,R⟩:=p1;dsimp only at q;split at q
  .rename_i c ks g W;split at q
   .rename_i E;cases h:i9 f ks g with
    |none=>rw[h]at q;cases q
    |some z=>rw[h]at q;cases q;obtain⟨C,j,s,P,D,rfl,rs⟩:=n.obj i a _ R W;obtain⟨C',e,M,T⟩:=B c f E;cases kB.inj P e;obtain⟨v,K,p3⟩:=BW rs h;exact⟨a,C,j,s,v,rfl,D,M,T,K,k v b m1 t s1 n p3⟩
   .cases q
  .cases q
@[simp] def oR(A:Str->Str->Bool)(o:EE)(f:Str)(v:EE)(L:Lc)(S:Y):Bs:=bQ (v L S) λy x=>bQ (o L x) λd h=>match d with
 | .ref i=>match h[i]? with
  |some (.ins c k s)=>if (A c f && decide (k.length < 900))=true then some (.nx,L,h.set i (.ins c (putK f k) (sr f y k s))) else none
  |_=>none
 |_=>none
theorem Nl(hA:Qs X.K A)(ho:PE X o (tE X.K I))(hv:PE X g (tE X.K z))(e:swapsWith g (some (.Attribute o f G)) N.line X.e=pure false):PS X (.Assign [.Attribute o f G] g N) (kJ X.K (oR A I f z)):=(Lo ho hv e).imp' λD J H hz=>by
 obtain⟨F,m,L,S,fl,L',S',r,l,q,k⟩:=hz;obtain⟨y,Q,e1,q⟩:=aj q;obtain⟨d,S2,e2,q⟩:=aj q;refine⟨F,m,L,S,y,Q,r,l,e1,λv Z m1 H1 E r1 p1=>?_⟩;refine⟨Z,m1,L,Q,d,S2,r1,l.mono E,e2,λx n P b M B p2=>?_⟩;cases d with
 |p w=>cases q
 |ref i=>
  obtain⟨a,rfl,K⟩:=p2;dsimp only at q;split at q
  .rename_i c ks ds e;split at q
   .rename_i j;rw[av]at j;cases q;obtain⟨C,t,s,R,T,rfl,rs⟩:=B.obj i a _ K e;obtain⟨C',u,hc,hn⟩:=hA c f j.1;cases kB.inj R u;have hl:s.length < 1000:=by have:=aN j.2;rw[aU]at this;lia
    have V:∀W,b a≠some (.tup W):=λW h=>by rw[T]at h;cases h
    have st:Stp n P b n P (b7 b a (.ins C t (jn f v s))):=f8 B K e trivial V;obtain⟨i1,i2⟩:=EK (f:=f) (RD.mono st (RD.mono M p1)) (dh.mono st rs);exact⟨a,C,t,s,rfl,T,hc,hn,hl,k J n P _ (E.trans (M.trans st)) (B.set K e trivial V ⟨C,t,_,R,aM,i1,i2⟩) ((l.mono E).mono (M.trans st))⟩
   .cases q
  .cases q
@[simp] def dC(M:Str->Str->Option GF)(o:EE)(y:Str)(a:sN)(L:Lc)(S:Y):xL:=bQ (o L S) λd h=>match d with
 | .ref i=>match h[i]? with
  |some (.ins c k _)=>match M c y with
   |some g=>if k.contains y=true then none else bQ (a L h) λT x=>g (.ref i::T) x
   |none=>none
  |_=>none
 |_=>none
def Qp(X:Cx)(M:Str->Str->Option GF):Prop:=∀c y g,M c y=some g->∃C k f d p,kB X.K c C/\Cls X.K C/\Meth X.K C y f/\FnOk X.p X.w X.K X.g X.b pf k f d p (oe X.K g)/\Room k X.A/\Binds X.K d p []
variable{M:Str->Str->Option GF}{y:Str}
theorem tf(hM:Qp X M){t:TE}{ta:TA}(b:∀C k f u j g,Cls X.K C->Meth X.K C y f->FnOk X.p X.w X.K X.g X.b pf k f u j (oe X.K g)->Room k X.A->Binds X.K u j []->PE X e (Ep C y (oe X.K g) [] E0 (tE X.K I) (CG X.K fs))):PE X e (tE X.K (dC M I y fs)):=by
 intro B s J H Q n h;obtain⟨F,m,L,S,d,S',r,l,q,k⟩:=h;obtain⟨x,P,e1,q⟩:=aj q;cases x with
 |p w=>cases q
 |ref i=>
  dsimp only at q;split at q
  .rename_i c ks ds hs;split at q
   .rename_i g hg;split at q
    .cases q
    .rename_i hk;obtain⟨T,A,e2,q⟩:=aj q;obtain⟨C,kk,f,u,j,ec,hc,hm,hF,hr,hb⟩:=hM c y g hg;refine b C kk f u j g hc hm hF hr hb B s J H Q n ⟨F,m,L,S,.ref i,P,r,l,e1,λv R m1 H1 G E D=>?_⟩;obtain⟨a,rfl,o⟩:=id D;obtain⟨C',dx,K,z,hH,rfl,rs⟩:=E.obj i a _ o hs;cases kB.inj ec z;refine⟨a,dx,K,rfl,hH,BV (by simpa using hk),R,m1,L,P,T,A,E,l.mono G,e2,λxs W m2 H2 N r2 p2=>?_⟩;show oe X.K g (V.ref a::(xs++[])) H2 Q E0;rw[dJ];exact⟨W,m2,.ref i::T,A,d,S',r2,⟨_,_,rfl,RD.mono N D,p2⟩,q,λv Z m3 H3 s3 r3 p3=>k v Z m3 H3 (G.trans (N.trans s3)) r3 p3⟩
   .cases q
  .cases q
theorem Nx(x:Qp X M)(s:PE X o (tE X.K I))(a:PA X (e::es) (CG X.K fs))(hst:starEach (e::es) X.e=(false,eval e X.e)::starEach es X.e)(h:(backTo N (starEach es X.e)).any (·.1)=false)
  (n:eval (.Call (.Attribute o y j) (e::es) [] N) X.e=(do
   let v <- eval o X.e
   standAt j.atName
   let (f,first) <- holding [v] (getMethod v y u)
   callWith N f first (backTo N (starEach (e::es) X.e)) (backToKw N (keywordEach [] X.e)))) :
  PE X (.Call (.Attribute o y j) (e::es) [] N) (tE X.K (dC M I y fs)):=
 tf (t:=tE X.K I) (ta:=CG X.K fs) x λC k f d p g c m F r b=>ID s c m F r b .nil sW a hst h n
theorem KE(i:Qp X M)(B:PE X o (tE X.K I))
  (E:eval (.Call (.Attribute o y j) [] [] N) X.e=(do
   let u <- eval o X.e
   standAt j.atName
   let (f,first) <- holding [u] (getMethod u y pl)
   callWith N f first (backTo N (starEach [] X.e)) (backToKw N (keywordEach [] X.e)))) :
  PE X (.Call (.Attribute o y j) [] [] N) (tE X.K (dC M I y dY)):=
 tf (t:=tE X.K I) (ta:=CG X.K dY) i λC k f fd ps g K A p D z=>(E5 B K A p D z .nil sW E).imp' λJ H Q h=>by obtain⟨F,m,L,S,d,n,r,l,q,k⟩:=h;refine⟨F,m,L,S,d,n,r,l,q,λv e R x s' Z V=>?_⟩;obtain⟨a,c,fs,rfl,w,P,s,T,L2,S2,ds,b,r2,l2,W,G⟩:=k v e R x s' Z V;cases W;exact⟨a,c,fs,rfl,w,P,G [] s T x .refl r2 rfl⟩
@[simp] def lO(g:GF)(c:Str)(a:sN)(L:Lc)(S:Y):xL:=bQ (a L S) λT h=>match g (.ref h.length::T) (h++[.ins c [] []]) with
 |some (.p .non,x)=>some (.ref h.length,x)
 |_=>none
theorem Ny{C f:Addr}{o:FuncData}{K:LS}{k:Nat}{x:Str}{p:Pos}{g:GF}(M:Mk X.K C f)(G:FnOk X.p X.w X.K X.g X.b pf k f o K (oe X.K g))(hr:Room (k+1) X.A)(hg:Gl X x)(hm:X.g x=some (.ref C))(Z:kB X.K x C)(hb:Binds X.K o K [])
  (ha:PA X (e::es) (CG X.K fs)) (i:(x == ("__debug__":Str))=false) (he:starEach (e::es) X.e=(false,eval e X.e)::starEach es X.e) (z:(backTo N (starEach es X.e)).any (·.1)=false) :
  PE X (.Call (.Name x p) (e::es) [] N) (tE X.K (lO g x fs)):=
 (IE M G hr hg hm hb .nil sW ha i he z).imp' λJ H Q hz=>by
  obtain⟨F,m,L,S,d,S',r,l,q,k⟩:=hz;obtain⟨T,t,R,q⟩:=aj q;refine⟨F,m,L,S,T,t,r,l,R,λxs s a b s1 P p1=>λy h hy w j=>?_⟩;split at q
  .rename_i _ S2 V;cases q;have A:Stp s a b s a (b7 b h (.own y)):=gS w;have r2:Rel X.K s (b7 b h (.own y)) a t:=P.new w;have u:b7 b h (.own y) y=none:=by rw[ao (aP j)];exact hy
   have B:Stp s a (b7 b h (.own y)) s (a++[y]) (b7 (b7 b h (.own y)) y (.ins C h [])):=dX u;have r3:Rel X.K s (b7 (b7 b h (.own y)) y (.ins C h [])) (a++[y]) (t++[.ins x [] []]):=r2.own u ⟨C,h,[],Z,aM,rfl,rfl⟩;rw[dJ];have c:(a++[y])[t.length]? = some y:=by rw[<- P.len,b_ (ak _)];simp
   refine⟨s,a++[y],.ref t.length::T,_,.p .non,_,r3,⟨_,_,rfl,⟨y,rfl,c⟩,dh.mono B (dh.mono A p1)⟩,V,λv E m4 I D r4 p4=>⟨p4,?_⟩⟩;refine k (.ref y) E m4 I (s1.trans (A.trans (B.trans D))) r4 ⟨y,rfl,?_⟩;obtain⟨n,W⟩:=D.pre;rw[W,cA (bB.mp c).1];exact c
  .cases q
end
theorem L4(h:attributeBase o y v (eval o v)=eval o v)(e:methodCallForm (u.length+([]:List Keyword).length) (backTo N (starEach u v)) (backToKw N (keywordEach [] v))=true)(l:(j.endLine == N.line)=true) :
  eval (.Call (.Attribute o y j) u [] N) v=(do
   let ov <- eval o v
   standAt j.atName
   let (f,first) <- holding [ov] (getMethod ov y (do return (<- importBound o v).getD true))
   callWith N f first (backTo N (starEach u v)) (backToKw N (keywordEach [] v))):=by
 have x:methodCallPos true o v j N=pure N:=by unfold methodCallPos;rw[l];rfl
 have a:∀ov,methodCall o y j N v ov (u.length+([]:List Keyword).length) (backTo N (starEach u v)) (backToKw N (keywordEach [] v))=(do
   let (f,first) <- holding [ov] (getMethod ov y (do return (<- importBound o v).getD true))
   callWith N f first (backTo N (starEach u v)) (backToKw N (keywordEach [] v))):=λov=>by
  unfold methodCall;rw[e,x];rfl
 have s:eval (.Call (.Attribute o y j) u [] N) v=(do
  let ov <- attributeBase o y v (eval o v)
  standAt j.atName
  methodCall o y j N v ov (u.length+([]:List Keyword).length) (backTo N (starEach u v)) (backToKw N (keywordEach [] v))):=by rfl
 rw[s,h];simp only[a]
section
variable{X:Cx}{o e g:Expr}{f:Str}{N G L:Pos}{I:EE}{z:EV}{A:Str->Str->Bool}
def EA(i:Nat)(v:EV):ES:=λL S=>match L[i]? with
 |some (some (.p (.int a)))=>bQ (v L S) λy h=>match y with
  | .int b=>some (.nx,L.set i (some (.p (.int (a+b)))),h)
  |_=>none
 |_=>none
theorem Qy(i:Nat)(d:X.N.Nodup)(h:PE X e (tV X.K z))(g:X.N[i]? = some x)(j:L2.Loc X.e.scope x)(u:X.fn x=true\/X.e.scope.names.lookup x=some .local):PS X (.AugAssign (.Name x G) .Add e N) (kJ X.K (EA i z)):=
 (Lp d g j h Mj u).imp' λD J H o=>by
  obtain⟨F,m,L,S,M,C,E,r,l,q,k⟩:=o;unfold EA at q;split at q
  .rename_i a w;obtain⟨y,I,t,q⟩:=aj q;cases y with
   |int b=>cases q;obtain⟨B,p,P⟩:=l.at' i _ w;cases (show B=.int a from P);refine⟨_,p,F,m,L,S,_,_,r,l,t,λv s f n c A K=>?_⟩;cases (show v=.int b from K);exact⟨a,b,rfl,rfl,k _ s f n c A ((l.mono c).set (show RD X.K s n f (.p (.int (a+b))) (.int (a+b)) from rfl) i)⟩
   |_=>cases q
  .cases q
end
variable{F:Aa}{H:Hp}
theorem wC:∀h:LS,cf K F H (h.map .str) (h.map V.str)
 | []=>rfl
 |s::r=>⟨_,_,rfl,rfl,wC r⟩
variable{x:Str}
theorem C_(s:LS)(h:u x=some (.ref a))(hk:K.lookup a=some ⟨.type "tuple",none,.seq v n,sl⟩)(z:v.size≤sizeLine)(e:bc (s.map V.str) v.toList):wk K u x (.tup (s.map .str)):=
 ⟨.ref a,.ref a,h,rfl,λF H=>⟨a,s.map V.str,rfl,.inr (.inr ⟨_,v,n,hk,rfl,rfl,rfl,z,e⟩),wC s⟩⟩
open PySem.W (KasT kas_sort kas_ask kas_item kat_run kat_snds kat_lt kat_kind KatTups KatLex kat_nil kat_cons kat_yes kat_no kat_one)
noncomputable def O8{d:Type}(lt:Nat->Nat->Option Bool):KasT d->Option d
 | .ret a=>some a
 | .ask i j k=>match lt i j with
  |some b=>O8 lt (k b)
  |none=>none
theorem Gd{d:Type}{lt:Nat->Nat->Option Bool}{c:Nat->Nat->(Bool->Shared->Prop)->Shared->Prop}{Q:d->Shared->Prop}{s:Shared}(x:∀i j b C,lt i j=some b->C b s->c i j C s){a:d}(q:Q a s) :
  ∀(t:KasT d),O8 lt t=some a->t.kasWp c Q s
 | .ret _,h=>by cases h;exact q
 | .ask i j k,h=>by
  simp only[O8]at h;split at h
  .rename_i b e;exact x i j b _ e (Gd x q (k b) h)
  .cases h
section
variable{prog:Program}{w:World}{A:Around}{E:VP}{s:Shared}{D:Addr}{T:LV}
theorem xl(few:T.length < 2):((arrOf (SortSt.mk' general' (T.toArray.zip T.toArray) #[] 7 none)).map (·.2))=T.toArray:=by
 have same:(T.toArray.zip T.toArray).map (·.2)=T.toArray:=by
  rcases T with _|⟨v,_|⟨u,r⟩⟩
  .simp
  .simp
  .exact absurd few (by simp)
 exact same
theorem Gb(few:T.length < 2)(a:s.heap.get? D=some (seqObj "list" T.toArray v))
  (g:∀x c,(∀b o,b≠D->s.heap.get? b=some o->x.get? b=some o)->x.get? D=some (seqObj "list" T.toArray c)->u (.done (.ret .none)) { s with heap:=x }) :
  wpAny (model prog w) A (Builtin.«list.sort» ⟨[.ref D],[]⟩) u E s:=by
 have m:T.length+1≤sizeLine:=by rw[nR];lia
 have cond:T.toArray.size < 2:=by simpa using few
 have h:=zT a λ_=>(#[]:Array Value);rw[list_sort_plain];refine ac <|listItems_at a rfl <|ac <|zP a rfl (ac <|seqEpoch_at h rfl <|ac <|xQ (ac <|AZ (fR ?_) (cH _)) (by simpa using ur m)) (by simpa using ur m) (cH _);simp only[cond,jT];have k:∀b o,(s.heap.update D (jM λ_=>(#[]:Array Value))).get? b=some o->((((s.heap.update D (jM λ_=>(#[]:Array Value))).push { cls:=.type "tuple",data:=.seq T.toArray }).push { cls:=.type "list",data:=.seq ([]:LV).toArray })).get? b=some o:=
  λ_ _ q=>aW _ (aW _ q)
 have t:=k D _ h;refine ac <|aq <|ac <|aq ?_;refine ac <|seqEpoch_at t rfl <|ac <|zP t rfl ?_ (cH _) (by rw[xl few];simpa using Ad (ur m));rw[xl few];have MN:=zT t λ_=>T.toArray;simp only[bne_self_eq_false,uR,jU,failedOf];refine aq (g _ _ (λb o n e=>?_) MN);exact((my _ D _).2 b n).trans (k b o (((my s.heap D _).2 b n).trans e))
theorem xH(q:∀a u,Q a u->v a u):∀(t:KasT d)(u:Shared),t.kasWp (kas_ask prog w A κ T) Q u->t.kasWp (kas_ask prog w A κ T) v u
 | .ret a,u,h=>q a u h
 | .ask _ _ k,_,h=>cG h (λb u e=>xH q (k b) u e) λ_ _ x=>x
theorem H_{f:Heap}{L l:Addr}{m:SV}{d:PN}{a:String}{o:Obj}{n:Nat}{G:VP}(F:Fr f L s.heap m)(N:News f L s.heap d)(hT:a="list"\/a="tuple")(ho:s.heap.get? l=some o)(hc:o.cls=.type a)(hd:o.data=.seq T.toArray n)(C:T.length < 64)
  (h1:T.length < 2->∀D g c,s.heap.get? D=none->Fr f L g m->News f L g ((D,seqObj "list" T.toArray c)::d)->G (.ref D) { s with heap:=g })
  (h2:2≤T.length->∀D e g,s.heap.get? D=none->(∀q ∈ d,q.1≠D)->Fr f L g m->News f L g ((D,seqObj "list" #[] e)::d) ->
   wpAny (model prog w) A.in1.in1 (keyKind' T.toArray) (λR u=>(kas_sort T.length).kasWp (kas_ask prog w A.in1.in1 R T) (λp u=>DP f L m D e (p.toList.map λi=>T.getD i Value.none) (λu=>G (.ref D) u) u) u) (λ_ _=>False) { s with heap:=g }) :
  wpAny (model prog w) A (call (.builtin "sorted") [.ref l]) G E s:=by
 have y:T.length≤sizeLine:=by rw[nR];lia
 refine Calls.call_function_entry (b:=Builtin.«sorted») kind_sorted plain_sorted entry_sorted (args_sorted1 (.ref l)) (ac (m:=checkCount "sorted" 1 1 1) <|aq <|ac <|wpAny_collect_seq l hT ho hc hd (λh k=>ac <|AZ ?_ y) y);have t:∀b,b=h.objs.size->s.heap.get? b=none:=λb hb=>by
  cases q:s.heap.get? b with
  |none=>rfl
  |some u=>exact absurd (aD (k b u q)) (by rw[hb];exact e_ _)
 have Q:∀b u,s.heap.get? b=some u->(h.push { cls:=.type "list",data:=.seq T.toArray }).get? b=some u:=λb u e=>aW _ (k b u e);have H:(h.push { cls:=.type "list",data:=.seq T.toArray }).get? h.objs.size=some (seqObj "list" T.toArray 0):=bx _ rfl;have S:h.objs.size≠L:=λz=>by obtain⟨u,_,_,e,_⟩:=F.ns;rw[t L z.symm]at e;cases e
 have K:f.get? h.objs.size=none:=by
  rcases q:f.get? h.objs.size with _|u
  .rfl
  .have:=F.keep _ _ q;rw[t _ rfl]at this;cases this
 have neN:∀q ∈ d,q.1≠h.objs.size:=λq hq z=>by have:=(N q hq).1;rw[t _ z]at this;cases this
 have P:=F.keeps Q;have B:=N.keeps Q;refine ac (fR (nT (b:=Builtin.«list.sort») slot_list_sort ⟨_,H,rfl⟩ entry_list_sort ?_ (args_list_sort _)));by_cases few:T.length < 2
 .refine Gb (s:={ s with heap:=h.push { cls:=.type "list",data:=.seq T.toArray } }) few H λg c M e=>⟨_,rfl,aq ⟨_,rfl,h1 few _ g c (t _ rfl) ⟨?_,λb u q=>?_,F.above⟩ λq j=>?_⟩⟩
  .obtain⟨u,es,Z,X,r⟩:=P.ns;exact⟨u,es,Z,M L u S.symm X,r⟩
  .exact M b u (λz=>by rw[z,K]at q;cases q) (P.keep b u q)
  .rcases aL.mp j with rfl|j
   .exact⟨e,S,K⟩
   .exact⟨M _ _ (neN q j) (B q j).1,(B q j).2⟩
 .refine PySem.W.kat_list_sort (s:={ s with heap:=h.push { cls:=.type "list",data:=.seq T.toArray } }) P B H S K neN (by lia) C λe g V W=>?_;refine cG (h2 (by lia) _ e g (t _ rfl) neN V W) (λR u hu=>?_) λ_ _ x=>x;exact xH (λp v I=>I.mono λv I=>⟨_,rfl,aq ⟨_,rfl,I⟩⟩) _ _ hu
end
noncomputable def Th:P->P->Option Bool
 | .tup [.str a,.int i],.tup [.str b,.int j]=>some (if a=b then decide (i < j) else decide (a.cps.toList < b.cps.toList))
 |_,_=>none
noncomputable def Jd:P->Bool
 | .tup [.str _,.int _]=>true
 |_=>false
theorem Jc(h:Jd v=true):∃a i,v=.tup [.str a,.int i]:=by
 unfold Jd at h;split at h
 .exact⟨_,_,rfl⟩
 .cases h
def wX(d:List P)(i j:Nat):Option Bool:=match d[i]?,d[j]? with
 |some x,some y=>Th x y
 |_,_=>none
def qX(d:List P):Option (List P):=if d.length < 2 then some d else if d.length < 64 then (O8 (wX d) (kas_sort d.length)).bind λp=>if p.size < 64 then some (p.toList.map λi=>d.getD i .non) else none else none
def sortable(d:List P):Bool:=d.all Jd
def nE(d:List P):Option P:=if sortable d=true then (qX d).map .lst else none
def KV(h:Heap)(d:P)(v:Value):Prop:=∃x i a o n t u,d=.tup [.str x,.int i]/\v=.ref a/\h.get? a=some o/\o.cls=.type "tuple"/\o.data=.seq #[.str x t,.int i u] n
variable{l:Type}
theorem j4:∀{s:List d}{a:List l}{i:Nat}{x:d},Paired R s a->s[i]? = some x->∃y,a[i]? = some y/\R x y
 |_,_,_,_,.nil,h=>by simp at h
 |_,_,0,x,.cons (b:=b) r _,h=>⟨b,rfl,by simp at h;subst h;exact r⟩
 |_,_,i+1,x,.cons _ n,h=>by obtain⟨y,e,r⟩:=j4 (i:=i) n (by simpa using h);exact⟨y,by simpa using e,r⟩
theorem iG{d l:Type}{R:d->l->Prop}:∀{x:List d}{y:List l},Paired R x y->x.length=y.length
 |_,_,.nil=>rfl
 |_,_,.cons _ r=>by rw[aR,aR,iG r]
section
variable{prog:Program}{w:World}{A:Around}{E:VP}{s:Shared}
theorem JA{d:List P}{T:LV}{i j:Nat}{b:Bool}{C:Bool->Shared->Prop}(r:Paired (KV s.heap) d T)(h:wX d i j=some b)(c:C b s):kas_ask prog w A (tuples' true) T i j C s:=by
 unfold wX at h;split at h
 .rename_i x y m t;obtain⟨_,u,l,p,o,D,K,G,L,rfl,rfl,g,S,n⟩:=j4 r m;obtain⟨_,v,z,q,H,E,B,I,M,rfl,rfl,f,F,k⟩:=j4 r t;cases h;unfold kas_ask;rw[ll,ll,u,v];refine kat_lt g n f k (kat_cons (A7 ?_));by_cases e:l=z
  .rw [af e]at c;rw[gO e];refine kat_yes (kat_cons (A6 ?_));by_cases a:(p == q)=true
   .rw [a];rw[bt (by rw[eq_of_beq a];exact Int.lt_irrefl _)]at c;exact kat_yes (kat_nil c)
   .rw [Bool.not_eq_true]at a;rw[a];exact kat_no (kat_one _ _ (zW (show PySem.W.BoolBack C (.bool _) s from c)))
  .rw [ah e]at c;rw[bt e];exact kat_no (oneLt_str c)
 .cases h
theorem w5:∀{s:List P}{T:LV},Paired (KV a0) s T->∃fs,KatTups a0 T fs/\fs.length=s.length/\∀v ∈ fs,∃x t,v=Value.str x t
 |_,_,.nil=>⟨[],.nil,rfl,λ_ z=>nomatch z⟩
 |d::s,_,.cons k r=>by
  obtain⟨fs,f,h,e⟩:=w5 r;obtain⟨x,i,a,o,n,t,u,rfl,rfl,b,c,hd⟩:=k;refine⟨.str x t::fs,.cons (xs:=#[.str x t,.int i u]) b c hd rfl f,by rw[aR,aR,h],λv m=>?_⟩;rcases aL.mp m with rfl|m
  .exact⟨x,t,rfl⟩
  .exact e v m
theorem IZ{d:List P}{T:LV}(r:Paired (KV s.heap) d T)(m:2≤T.length) :
  wpAny (model prog w) A (keyKind' T.toArray) (λk h=>h=s/\∀i j b C,wX d i j=some b->C b h->kas_ask prog w A k T i j C h) (λ_ _=>False) s:=by
 obtain⟨fs,f,x,a⟩:=w5 r;refine kat_kind (T:=.type "str") f (by rw[x,iG r];lia) (λv n=>?_) rfl ⟨rfl,λi j b C e c=>JA r e c⟩;obtain⟨i,t,rfl⟩:=a v n;exact PySem.W.Looks.of_peek (K:=[]) (λ_ _ z=>nomatch z) rfl
end
section
variable{X:Cx}
theorem FH{B:PN}{J:L2.St}{H:Hp}{s:Shared}(I:Inv X B J H s){F:Aa}:∀{e:List P}{f:List V}{k:LV},cf X.K F H e f->bc f k->sortable e=true->Paired (KV s.heap) e k
 | [],_,_,h,r,_=>by cases (show _=([]:List V) from h);cases r;exact .nil
 |d::e,_,_,h,r,q=>by
  obtain⟨x,D,rfl,w,g⟩:=h;obtain⟨l,z⟩:=Bool.and_eq_true_iff.mp (show(Jd d && sortable e)=true from q);cases r with
  |cons S K=>refine .cons ?_ (FH I g K z);obtain⟨y,i,rfl⟩:=Jc l;obtain⟨a,E,rfl,C,_,_,rfl,b,_,_,rfl,c,m⟩:=w;cases S;cases b;cases c;cases m;obtain⟨j,A,⟨o,v,p,n,hd⟩,_⟩:=I.tuple C.sq;obtain⟨_,_,rfl,⟨t,rfl⟩,u,rfl⟩:=vals2 A;exact⟨y,i,a,o,n,t,u,rfl,rfl,v,p,hd⟩
theorem NG(r:bc u v)(i:Nat):RelV (u.getD i .non) (v.getD i Value.none):=by
 rw[ll,ll];cases e:u[i]? with
 |none=>
  have l:=iG r;have:v[i]? = none:=by rw[AJ]at e ⊢;lia
  rw[this];rfl
 |some x=>obtain⟨y,h,a⟩:=j4 r e;rw[h];exact a
theorem Bq{x:List V}{t:LV}(r:bc x t):∀p:List Nat,bc (p.map λi=>x.getD i .non) (p.map λi=>t.getD i Value.none)
 | []=>.nil
 |i::p=>.cons (NG r i) (Bq r p)
theorem ED{K:FG}{F:Aa}{H:Hp}{s:List P}{h:List V}(r:cf K F H s h):∀p:List Nat,cf K F H (p.map λi=>s.getD i .non) (p.map λi=>h.getD i .non)
 | []=>rfl
 |i::p=>by
  refine⟨_,_,rfl,?_,ED r p⟩;show RP K F H (s.getD i P.non) (h.getD i V.non);rw[ll,ll];cases e:s[i]? with
  |none=>
   have l:=r.length;have:h[i]? = none:=by rw[AJ]at e ⊢;lia
   rw[this];rfl
  |some d=>obtain⟨x,a,n⟩:=r.get e;rw[a];exact n
theorem lx{B:PN}{J:L2.St}{H:Hp}{s:Shared}{r:Heap}{A:Nat}{m:SV}(I:Inv X B J H s)(y:s.heap.Ns X.e.locals m)(a:r.Ns X.e.locals m)(k:∀b o,b≠X.e.locals->s.heap.get? b=some o->r.get? b=some o):Inv X B J H { s with heap:=r,toks:=A }:=by
 have L:∀b u,H b=some u->b≠X.e.locals:=λb u e z=>by rw[z,I.free]at e;cases e
 refine I.step (g':=s.gens) (d':=s.drawn) (ch:=[]) (λ_ z=>nomatch z) (λb o h _ _ e _=>k b o h e) (λb o h _ _ e _=>⟨o.slots,k b o h e⟩) (λ_ _ _ _ n=>n) (λb o _ e=>?_) (λ_ _ e=>e) (λ_ _ _ e=>e) (λ_ e=>e) (λK l=>?_) (λb u e=>?_) I.bare
 .by_cases h:b=X.e.locals
  .subst h;obtain⟨P,_,_,w,_⟩:=a;exact⟨P,w⟩
  .exact⟨o,k b o h e⟩
 .obtain⟨o,es,C,S,hd,D,t⟩:=y;obtain⟨E,i,g,f,d,F,p⟩:=l;rw[S]at f;cases f;rw[hd]at d;cases d;have:m=K:=funext λx=>(t x).symm.trans (p x);rw[<- this];exact a
 .refine (I.h b u e).stay (λc v j q=>k c v ?_ q) (λ_ q=>q) λ_ _ q=>q;rcases j with z|z
  .rw [z];exact L b u e
  .exact L c _ z
theorem nl{g h x:Heap}{L:Addr}{m:SV}(k:∀b o,g.get? b=some o->h.get? b=some o)(F:Fr g L x m)(N:News g L x (nN g h L)):∀b o,b≠L->h.get? b=some o->x.get? b=some o:=λb o a e=>by
 cases q:g.get? b with
 |some u=>have:=k b u q;rw[e]at this;cases this;exact F.keep b _ q
 |none=>exact(N (b,o) (wW a q e)).1
theorem LX{P:Program}{w:World}{H:Hp}{h:Heap}{a:Addr}{o:HO}(x:dq P w H h a o):∃u,h.get? a=some u:=by
 cases o with
 |lst s=>obtain⟨_,_,_,_,e⟩:=x;exact⟨_,e⟩
 |tup s=>obtain⟨_,_,_,_,e,_⟩:=x;exact⟨_,e⟩
 |dK k=>obtain⟨_,_,_,_,_,_,_,e,_⟩:=x;exact⟨_,e⟩
 |dT k=>obtain⟨_,_,_,_,_,_,_,e,_⟩:=x;exact⟨_,e⟩
 |dN k=>obtain⟨_,_,_,_,_,_,_,e,_⟩:=x;exact⟨_,e⟩
 |set S n=>obtain⟨_,_,_,_,e,_⟩:=x;exact⟨_,e⟩
 |ins C d fs=>obtain⟨_,_,_,e,_⟩:=x;exact⟨_,e⟩
 |own y=>exact x
 |xd fs=>obtain⟨_,⟨_,_,_,e,_⟩,_⟩:=x;exact⟨_,e⟩
 |rng lo i=>obtain⟨_,_,_,e⟩:=x;exact⟨_,e⟩
 |frz b u=>exact⟨_,x.1⟩
 |tbl=>obtain⟨_,e,_⟩:=(show sf H h a from x);exact⟨_,e⟩
 |met f y=>exact⟨_,(show h.get? a=some _ from x)⟩
 |ext c=>exact x.2.1
theorem FT{B:PN}{J:L2.St}{H:Hp}{s:Shared}{D:Addr}(I:Inv X B J H s)(h:s.heap.get? D=none):H D=none:=by
 cases q:H D with
 |none=>rfl
 |some v=>obtain⟨u,e⟩:=LX (I.h D v q);rw[h]at e;cases e
theorem C5{B:PN}{J:L2.St}{H:Hp}{s:Shared}{t:Heap}{S:Nat}{m:SV}{D:Addr}{u:HO}(I:Inv X B J H s)(y:s.heap.Ns X.e.locals m)(h:t.Ns X.e.locals m)(k:∀b o,b≠X.e.locals->s.heap.get? b=some o->t.get? b=some o)(j:s.heap.get? D=none)(i:dq X.p X.w (b7 H D u) t D u):Inv X B J (b7 H D u) { s with heap:=t,toks:=S }:=by
 have f:=FT I j;have M:∀b o,s.heap.get? b=some o->b≠D:=λb o e z=>by rw[z,j]at e;cases e
 have a:∀b v,H b=some v->b≠D:=λb v e z=>by rw[z,f]at e;cases e
 have F:=lx (A:=S) I y h k;refine I.step (g':=s.gens) (d':=s.drawn) (ch:=[]) (λ_ z=>nomatch z) (λb o L _ _ e _=>k b o L e) (λb o L _ _ e _=>⟨o.slots,k b o L e⟩) (λb o _ e n=>(ao (M b o e)).trans n) (λb o _ e=>?_) (λb Q e=>(ao (a b _ e)).trans e) (λb o v e=>(ao (a b _ e)).trans e) (λb e=>(ao (a b _ e)).trans e) (λG A=>?_) (λb v e=>?_) I.bare
 .by_cases L:b=X.e.locals
  .subst L;obtain⟨N,_,_,g,_⟩:=h;exact⟨N,g⟩
  .exact⟨o,k b o L e⟩
 .obtain⟨o,es,R,C,hd,T,p⟩:=y;obtain⟨V,P,K,r,d,E,w⟩:=A;rw[C]at r;cases r;rw[hd]at d;cases d;have:m=G:=funext λx=>(p x).symm.trans (w x);rw[<- this];exact h
 .by_cases l:b=D
  .subst l;rw[aM]at e;cases e;exact i
  .rw [ao l]at e;exact(F.h b v e).stay (λ_ _ _ q=>q) (λc q=>(ao (a c _ q)).trans q) (λc Q q=>(ao (a c _ q)).trans q) (λc W q=>(ao (a c _ q)).trans q)
theorem v0:dG X (.builtin "sorted") (λxs H Q=>∃F a P S b,xs=[.ref a]/\(iT X.K H a P\/nQ X.K H a P)/\cf X.K F H S P/\sortable S=true/\qX S=some b/\∀l z,H l=none->cf X.K F H b z->Q (.ref l) (b7 H l (.lst z))):=by
 intro B s J H xs us Q I r h;obtain⟨F,a,P,S,b,rfl,G,L,hs,k,q⟩:=h;obtain⟨u,rfl,rx⟩:=vals1 r;cases rx;obtain⟨m,R⟩:=I.fr;have w:∀(T:String)(hT:T="list"\/T="tuple")(t:LV)(o:Obj)(n:Nat),bc P t->s.heap.get? a=some o->o.cls=.type T->o.data=.seq t.toArray n->wx X (call (.builtin "sorted") [.ref a]) (EP X B J Q) X.xe s:=by
  intro T hT t o n M E C hd;have hl1:=L.length;have hl2:=iG M;have y:S.length < 64:=by
   unfold qX at k;split at k
   .lia
   .split at k
    .lia
    .cases k
  have A:∀(z:List V)(j:LV)(D:Addr)(f:Heap)(c:Nat),bc z j->cf X.K F H b z->j.length≤64->s.heap.get? D=none->Fr X.b X.e.locals f m->News X.b X.e.locals f ((D,seqObj "list" j.toArray c)::nN X.b s.heap X.e.locals)->EP X B J Q (.ref D) { s with heap:=f }:=
   λz j D f c vz rz hz K d N=>⟨.ref D,_,C5 (S:=s.toks) I R.ns d.ns (nl I.bk d λp hp=>N p (.tail _ hp)) K (show dq X.p X.w _ f _ (.lst z) from ⟨by rw[iG vz,nR];lia,j,c,vz,(N _ (.head _)).1⟩),rfl,q _ z (FT I K) rz⟩
  refine H_ R (rk (g:=X.b)) hT E C hd (by lia) (λfew D f c K d N=>?_) λtwo D e f K ne d N=>?_
  .unfold qX at k;rw[af (by lia)]at k;cases k;exact A P t D f c M L (by lia) K d N
  .unfold qX at k;rw[ah (by lia),af y]at k;obtain⟨p,ep,k⟩:=Option.bind_eq_some_iff.mp k;split at k;case isFalse=>cases k
   rename_i ps;cases k;have I1:Inv X B J H { s with heap:=f }:=lx (A:=s.toks) I R.ns d.ns (nl I.bk d λp hp=>N p (.tail _ hp));have Z:O8 (wX S) (kas_sort t.length)=some p:=by rw[<- hl2,<- hl1];exact ep
   refine cG (IZ (s:={ s with heap:=f }) (FH I1 L M hs) two) (λκ v hv=>?_) λ_ _ x=>x;obtain⟨rfl,W⟩:=hv;exact Gd (a:=p) (Q:=λp u=>DP X.b X.e.locals m D e (p.toList.map λi=>t.getD i Value.none) (λu=>EP X B J Q (.ref D) u) u) W (PySem.W.KasFin.intro d N (.head ne) λh2 c F2 N2=>A _ _ D h2 c (Bq M p.toList) (ED L p.toList) (by rw[aU,mV];lia) K F2 N2) _ Z
 rcases G with G|G
 .obtain⟨t,r',pl,hz⟩:=I.list G;obtain⟨o,E,C,n,hd⟩:=pl.isList;exact w "list" (.inl rfl) t o n r' E C hd
 .obtain⟨t,r',⟨o,E,C,n,hd⟩,hz⟩:=I.tuple G;exact w "tuple" (.inr rfl) t o n r' E C hd
noncomputable def MY:List D->Option (List P)
 | []=>some []
 | .p v::r=>(MY r).map (v::·)
 | .ref _::_=>none
theorem Ee:∀{d:List D}{T:List P},MY d=some T->d=T.map .p
 | [],T,h=>by cases h;rfl
 | .p v::r,T,h=>by
  cases e:MY r with
  |none=>simp only[MY,e]at h;cases h
  |some w=>simp only[MY,e]at h;cases h;rw[Ee e];rfl
 | .ref _::_,T,h=>by cases h
theorem JO:∀{T:List P}{s:List V},dh K F H m (T.map .p) s->cf K F H T s
 | [],_,h=>h
 |_::_,_,h=>by obtain⟨x,r,e,a,n⟩:=h;exact⟨x,r,e,a,JO n⟩
noncomputable def Ic:P->Option (List P)
 | .lst x=>some x
 | .ro x=>some x
 | .tup x=>some x
 |_=>none
def Ig:D->Y->Option (List P)
 | .p v,_=>Ic v
 | .ref i,S=>match S[i]? with
  |some (.lst d)=>MY d
  |some (.fz v)=>Ic v
  |_=>none
@[simp] def Ec(r:EE)(L:Lc)(S:Y):tyV:=bQ (r L S) λd h=>match Ig d h with
 |some x=>(nE x).map λv=>(v,h)
 |none=>none
theorem By(p:RP K F H w v)(h:Ic w=some u):∃a y,v=.ref a/\(iT K H a y\/nQ K H a y)/\cf K F H u y:=by
 cases w with
 |tup d=>obtain⟨a,y,rfl,t,r⟩:=p;cases h;exact⟨a,y,rfl,.inr t.sq,r⟩
 |lst d=>obtain⟨a,y,rfl,t,r⟩:=p;cases h;exact⟨a,y,rfl,.inl t.sq,r⟩
 |ro d=>obtain⟨a,y,rfl,t,r⟩:=p;cases h;exact⟨a,y,rfl,.inl t.sq,r⟩
 |_=>cases h
theorem Ie(r:Rel K F H m S)(p:RD K F H m u v)(h:Ig u S=some xs):∃a y,v=.ref a/\(iT K H a y\/nQ K H a y)/\cf K F H xs y:=by
 cases u with
 |p w=>exact By p h
 |ref i=>
  obtain⟨a,rfl,x⟩:=p;simp only[Ig]at h;split at h
  .rename_i d es;obtain⟨y,e,s⟩:=r.obj i a _ x es;rw[Ee h]at s;exact⟨a,y,rfl,.inl (iT.of e),JO s⟩
  .rename_i w es;exact By (r.obj i a _ x es) h
  .cases h
theorem D'(j:Gl X "sorted")(y:X.g "sorted"=none)(i:PE X e (tE X.K k))(n:starEach [e] X.e=[(false,eval e X.e)]:=by rfl):PE X (.Call (.Name "sorted" p) [e] [] N) (tV X.K (Ec k)):=
 (m_ v0 j y Hw (fm i iH (by rw[n];rfl)) (by decide) (by decide) (by rw[n];rfl) rfl).imp' λJ H Q s=>by
  obtain⟨F,m,L,S,d,I,r,l,q,h⟩:=s;obtain⟨x,t,w,q⟩:=aj q;refine⟨F,m,L,S,x,t,r,l,w,λv c P G D f A=>?_⟩;split at q
  .rename_i b g;unfold nE at q;split at q
   .rename_i n;cases o:qX b with
    |none=>rw[o]at q;cases q
    |some u=>rw[o]at q;cases q;obtain⟨a,E,rfl,K,B⟩:=Ie f A g;exact⟨c,a,E,b,u,rfl,K,B,n,o,λz M s C=>h _ _ P _ (D.trans (cQ s).stp) (f.grow (cQ s)) (.newLst s C)⟩
   .cases q
  .cases q
end
noncomputable def Tn(K:FG)(e:Bool)(a:Addr):It:=if e=true then JG K a else Qr K a
inductive tIOI(K:FG)(en:Bool)(fe:EE)(J:L2.St)(H:Hp)(R:It->Hp->Prop):Prop
 |mk (F:Aa) (m:List Addr) (L:Lc) (S:Y) (j:Nat) (S':Y) (ds:List D) (h0_:Rel K F H m S) (h1_:RL K F H m J L) (h2_:fe L S=some (.ref j,S')) (h3_:S'[j]? = some (.lst ds)) (h4_:∀a F' m' H',Stp F m H F' m' H'->Rel K F' H' m' S'->m'[j]? = some a->R (Tn K en a) H'):tIOI K en fe J H R
section
variable{X:Cx}{N:Pos}
theorem y7:dG X (.type "range") (λx H Q=>∃j:Int,x=[.int j]/\∀r,H r=none->Q (.ref r) (b7 H r (.rng 0 j))):=by intro B s J H x n Q I r h;obtain⟨j,rfl,q⟩:=h;obtain⟨u,rfl,a⟩:=vals1 r;obtain⟨t,rfl⟩:=a;refine call_range_1 ?_;exact⟨.ref s.heap.objs.size,_,I.laid (o:=.rng 0 j) (λb o e=>aW _ e) (ak _) ⟨_,_,_,bx _ rfl⟩,rfl,q _ (I.h.fresh (ak _))⟩
theorem sY:∀{s:List d}{e:List l},s.length=e.length->(∀(i:Nat) x y,s[i]? = some x->e[i]? = some y->R x y)->Paired R s e
 | [],[],_,_=>.nil
 | [],_::_,h,_=>by simp at h
 |_::_,[],h,_=>by simp at h
 |x::s,y::e,h,k=>.cons (k 0 x y rfl rfl) (sY (by simpa using h) λi a b n f=>k (i+1) a b (by simpa using n) (by simpa using f))
theorem yG(h:ItemsOf (λi v=>∃t,v=Value.int (0+i * 1) t) u n):bc ((List.range n).map λ(i:Nat)=>V.int (i:Int)) u.toList:=by
 obtain⟨z,f⟩:=h;refine sY (by simp[z]) λi x y a b=>?_;rw[b9]at a;cases e:(List.range n)[i]? with
 |none=>rw[e]at a;cases a
 |some k=>
  rw[e]at a;cases a;have hk:k=i:=by have:=bB.mp e;obtain⟨c,s⟩:=this;simpa using s.symm
  subst hk;obtain⟨t,rfl⟩:=f k y (by simpa using b);exact⟨t,by simp⟩
theorem xF(a:X.c=true):dG X (.type "list") (λk H Q=>∃r j,k=[.ref r]/\H r=some (.rng 0 j)/\j.natAbs < 1000000/\∀l,H l=none->Q (.ref l) (b7 H l (.lst ((List.range j.toNat).map λ(i:Nat)=>V.int (i:Int))))):=by
 intro B s J H k y Q I r h;obtain⟨p,j,rfl,m,g,q⟩:=h;obtain⟨u,rfl,d⟩:=vals1 r;cases d;obtain⟨t,u,v,o⟩:=I.h p _ m;refine call_list_range (n:=j.toNat) (I.o.hd a) o (small_one (by lia) (by lia) (by lia) (by lia)) (by rw[AY];split<;>lia) (by lia) λf w x c hk e b=>?_
 exact⟨.ref s.heap.objs.size,_,I.laid (t':=w) hk (ak _) (show dq X.p X.w _ f _ (.lst _) from ⟨by rw[aU,As];exact aA (by lia:j.toNat≤1000000) (by decide),x.toList,c,yG b,by simpa using e⟩),rfl,q _ (I.h.fresh (ak _))⟩
@[simp] def NI(a:EV)(L:Lc)(S:Y):tyV:=bQ (a L S) λv h=>match v with
 | .int j=>if decide (j.natAbs < 1000000)=true then some (.lst (intsFrom 0 j.toNat),h) else none
 |_=>none
theorem wG:∀s:List Nat,cf K F H (s.map λ(i:Nat)=>P.int (0+(i:Int))) (s.map λ(i:Nat)=>V.int (i:Int))
 | []=>rfl
 |i::s=>⟨_,_,rfl,by show V.int _=V.int _;rw[cS],wG s⟩
theorem HE{a:Expr}{C:EV}{p G i y:Pos}(h:X.c=true)(A:Gl X "list")(D:X.g "list"=none)(g:Gl X "range")(s:X.g "range"=none)(K:PE X a (tV X.K C))(t:starEach [a] X.e=[(false,eval a X.e)])
  : PE X (.Call (.Name "list" p) [.Call (.Name "range" G) [a] [] y] [] i) (tV X.K (NI C)):=
 (om (xF h) A D uj (fm (om y7 g s boot_range (fm K iH (by rw[t];rfl)) (by decide) (by decide) (by rw[t];rfl) rfl) iH rfl) (by decide) (by decide) rfl rfl).imp' λJ H Q e=>by
  obtain⟨F,m,L,S,d,N,r,l,q,k⟩:=e;obtain⟨x,u,o,q⟩:=aj q;refine⟨F,m,L,S,x,u,r,l,o,λv f E b M I p=>?_⟩;cases x with
  |int j=>
   dsimp only at q;split at q
   .rename_i P;have B:j.natAbs < 1000000:=aN P;cases q;cases (show v=.int j from p);refine⟨j,rfl,λw n=>⟨w,j,rfl,aM,B,λz e=>?_⟩⟩;have c:Grow f b f (b7 b w (.rng 0 j)):=cx n;exact k _ _ E _ (M.trans (c.stp.trans (cQ e).stp)) ((I.grow c).grow (cQ e)) (.newLst e (wG _))
   .cases q
  |_=>cases q
end
section
variable{X:Cx}{N:Pos}
theorem CC{prog:Program}{w:World}{A:Around}{E:VP}{s:Shared}{t l:Addr}{i:Array Value}{v u:Value}{lo x:Option Int}{Q:VP}(h:IsTup s.heap t i)(a:s.heap.IsSliceOf l v u .none)(p:IsPart v lo)(b:IsPart u x)
  (k:HT.eS i.size 0 lo=0) (f:HT.eS i.size i.size x=i.size) (q:Q (.ref t) s):wpAny (model prog w) A (getItem (.ref t) (.ref l)) Q E s:=by
 have T:s.TypeIs (.ref l) "slice":=by obtain⟨o,e,n,_⟩:=a;exact⟨o,e,n⟩
 unfold getItem;try with_reducible refine fR ?_
 first|refine ac (aq ?_)|skip
 refine ac (Be h.typeIs (by decide) ?_);refine ac (qG (name:=Str.ofString "__getitem__") h.typeIs jN (nT jN h.typeIs zV ?_ (zU _ _)));show wpAny _ _ (DM (.ref t) >>= _) _ _ s;refine ac (zQ h (ac (lV T ?_)));rw[af (by decide)];refine ac (HT.jv a p b ?_);rw[k,f];have y:((((0:Nat):Int) == 0 && (1:Int) == 1 && (i.size-0) == i.size)=true):=by simp
 show wpAny _ _ (if ((((0:Nat):Int) == 0 && (1:Int) == 1 && (i.size-0) == i.size)=true) then _ else _) _ _ s;rw[af y];refine ac (ac (lV h.typeIs ?_));refine aq ?_;rw[af (by rfl)];first
  |exact ac (aq (aq ⟨_,rfl,aq q⟩))
  |exact ac (qA (aq ⟨_,rfl,aq q⟩))
  |exact aq ⟨_,rfl,aq q⟩
theorem Et:Kk X (λx lo n H Q=>∃a e,x=.ref a/\nQ X.K H a e/\HT.eS e.length 0 lo=0/\HT.eS e.length e.length n=e.length/\Q (.ref a) H):=by
 intro B s J H x v w g lo n d Q I m b p u h;obtain⟨a,e,rfl,c,k,f,q⟩:=h;cases m;obtain⟨i,r,t,_⟩:=I.tuple c;have l:i.toArray.size=e.length:=by rw[bg];exact r.length.symm
 exact⟨"tuple",_,jN.lookup,t.typeIs,CC t b p u (by rw[l];exact k) (by rw[l];exact f) ⟨.ref a,H,I,rfl,q⟩⟩
def Mz:P->Option Int->Option Int->Option P
 | .tup s,lo,h=>some (.tup (cut s lo h))
 |x,lo,h=>TN x lo h
@[simp] def qP(a:EV)(lo n:EO)(L:Lc)(S:Y):tyV:=bQ (a L S) λx h=>bQ (lo L h) λi e=>bQ (n L e) λj s=>(Mz x i j).map λv=>(v,s)
theorem QG{e:Expr}{lo P:Option Expr}{C:EV}{K o:EO}{N p2:Pos}(W:PE X e (tV X.K C))(hl:PO X lo (tO X.K K))(Z:PO X P (tO X.K o)):PE X (.Subscript e (.Slice lo P none p2) N) (tV X.K (qP C K o)):=
 (E4 (Ia.or (La.or Et)) W hl Z).imp' λJ H Q hz=>by
  obtain⟨F,m,L,S,d,S',r,l,q,k⟩:=hz;obtain⟨x,y,M,q⟩:=aj q;obtain⟨i,z,R,q⟩:=aj q;obtain⟨j,I,T,q⟩:=aj q;refine⟨F,m,L,S,x,y,r,l,M,λv B m1 H1 u r1 p1=>?_⟩;refine⟨B,m1,L,y,i,z,r1,l.mono u,R,λD m2 H2 g r2=>?_⟩;refine⟨D,m2,L,z,j,I,r2,(l.mono u).mono g,T,λE m3 G A b=>?_⟩;have w:=RP.mono A (RP.mono g p1);have c:=u.trans (g.trans A);cases x with
  |lst f=>cases q;obtain⟨a,s,rfl,t,n⟩:=w;exact .inl ⟨a,s,rfl,t.sq,λp h=>k _ _ m3 _ (c.trans (cQ h).stp) (b.grow (cQ h)) (.newLst h (n.cut i j))⟩
  |ro f=>cases q;obtain⟨a,s,rfl,t,n⟩:=w;exact .inl ⟨a,s,rfl,t.sq,λp h=>k _ _ m3 _ (c.trans (cQ h).stp) (b.grow (cQ h)) (.newLst h (n.cut i j))⟩
  |tup f=>
   obtain⟨a,s,rfl,t,n⟩:=w;cases q;by_cases hw:HT.eS s.length 0 i=0/\HT.eS s.length s.length j=s.length
   .have V:cut f i j=f:=by
     unfold cut;rw[n.length,hw.1,hw.2,mM,uq,<- n.length,mP]
    rw[V]at k;exact .inr (.inr ⟨a,s,rfl,t.sq,hw.1,hw.2,k _ E m3 G c b ⟨a,s,rfl,t,n⟩⟩)
   .exact .inr (.inl ⟨a,s,rfl,t.sq,hw,λp h=>k _ _ m3 _ (c.trans (cx h).stp) (b.grow (cx h)) (.newTup h (n.cut i j))⟩)
  |_=>cases q
abbrev mi:List P->Option P:=tJ
variable{e:Expr}{es:Ab}{fs:kn}{p:Pos}
theorem KC(g:Gl X "int")(m:X.g "int"=none)(a:PA X (e::es) (qf X.K fs))(x:starEach (e::es) X.e=(false,eval e X.e)::starEach es X.e)(h:(backTo N (starEach es X.e)).any (·.1)=false) :
  PE X (.Call (.Name "int" p) (e::es) [] N) (tV X.K (bj mi fs)):=ya Jv g m Hu a (by decide) (by decide) x h
inductive PEs(X:Cx):Ab->List EV->Prop
 |nil:PEs X [] []
 |cons {e es f fs}:PE X e (tV X.K f)->PEs X es fs->PEs X (e::es) (f::fs)
@[simp] def Ed(a b c:EV)(L:Lc)(S:Y):tyV:=bQ (a L S) λd h=>bQ (b L h) λy x=>bQ (c L x) λz e=>match d with
 | .dct s T=>match c_ y with
  |some k=>some ((b8 k s T).getD z,e)
  |none=>none
 |_=>none
theorem sR:∀{k:List (cg×V)}{d:List P},cf K F H d (k.map (·.2))->b8 u (k.map (·.1)) d=none->g7 k u=none
 | [],d,r,h=>rfl
 |(a,v)::k,[],r,h=>by have:=r.length;simp at this
 |(a,v)::k,f::d,r,h=>by
  obtain⟨x,c,e,p,s⟩:=r;rw[aC]at e;injection e with b n;simp only[aC,b8]at h;by_cases hk:a=u
  .rw [af hk]at h;cases h
  .rw [ah hk]at h;rw[<- n]at s;rw[g6 (p:=(a,v)) hk];exact sR s h
theorem KD{o a b:Expr}{I C t:EV}{D E:Pos}(hu:X.A.units+1 < cLine)(ho:PE X o (tV X.K I))(ha:PE X a (tV X.K C))(hb:PE X b (tV X.K t))(m:M2 X o "get" D a b E):PE X (.Call (.Attribute o "get" D) [a,b] [] E) (tV X.K (Ed I C t)):=
 (Fa hu ho ha hb m).imp' λJ H Q hz=>by
  obtain⟨F,m,L,S,d,S',r,l,q,k⟩:=hz;obtain⟨x,A,W,q⟩:=aj q;obtain⟨y,B,Z,q⟩:=aj q;obtain⟨z,T,e3,q⟩:=aj q;refine⟨F,m,L,S,x,A,r,l,W,λv N m1 H1 K r1 p1=>?_⟩;cases x with
  |dct ks V=>
   obtain⟨a,s,rfl,i,hk,ek,ra⟩:=id p1;refine⟨a,rfl,.inl ⟨s,.inl hk⟩,?_⟩;refine⟨N,m1,L,A,y,B,r1,l.mono K,Z,λvy R m2 H2 f r2 p2=>?_⟩;refine⟨R,m2,L,B,z,T,r2,(l.mono K).mono f,e3,λvz P m3 p c G p3=>?_⟩;have h:p a=some (.dK s):=(f.trans c).frk _ _ i hk;have e:=cf.mono c (cf.mono f ra);have py:=RP.mono c p2;dsimp only at q;split at q
   .rename_i j u;cases q;have g:=iK u py;subst g ek;have M:=K.trans (f.trans c);cases n:b8 j (s.map (·.1)) V with
    |none=>have hm:=sR e n;refine⟨none,by rw[<- hm];exact ko.k h,?_⟩;rw[n]at k;exact k vz P m3 p M G p3
    |some w=>obtain⟨v,h1,h2⟩:=nY e n;refine⟨some v,by rw[<- h1];exact ko.k h,?_⟩;rw[n]at k;exact k v P m3 p M G h2
   .cases q
  |_=>cases q
def PQ(w:World):List DictEntry->List (Str×P)->Prop
 | [],[]=>True
 |e::es,(k,p)::r=>(∃t,e.key=.str k t)/\e.hash=hashStr w k/\(∃v,RelV v e.val/\∀K F H,RP K F H p v)/\PQ w es r
 |_,_=>False
def R'(w:World)(K:FG)(m:SV)(x:Str)(k:List (Str×P)):Prop:=
 ∃a o es e,m x=some (.ref a)/\K.lookup a=some o/\o.ExactDict/\o.data=.dict es e/\PQ w es.toList k/\(k.map (·.1)).Nodup
end
noncomputable def NO:List cg->List P->Option (List (Str×P))
 | [],[]=>some []
 | .inr k::s,v::T=>(NO s T).map λr=>(k,v)::r
 |_,_=>none
noncomputable def FS:P->Bool
 | .dct _ _=>true
 |_=>false
def lD(w:World)(K:FG)(m:SV)(x:Str)(v:P):Prop:=(FS v=false->wk K m x v)/\∀s T,v=.dct s T->∃k,NO s T=some k/\R' w K m x k
theorem lD.plain(h:wk K u x v)(a:FS v=false):lD w K u x v:=⟨λ_=>h,λk T e=>by subst e;cases a⟩
section
variable{X:Cx}
theorem oN:∀{s:List Bool}{u:LV},bc (s.map V.bl) u->LSm.BoolsAre u s
 | [],u,r=>by obtain rfl:u=[]:=fY (by simpa using r.length.symm);exact .nil
 |b::s,u,r=>by
  cases r with
  |cons q t=>cases (show _=Value.bool b from q);exact .cons b (oN t)
theorem Gz(c:X.c=true):dG X (.builtin "all") (λa H Q=>∃(p:Addr)(b:List Bool),a=[.ref p]/\iT X.K H p (b.map V.bl)/\Q (.bl (b.all id)) H):=by intro B s J H a v Q I r h;obtain⟨p,b,rfl,e,q⟩:=h;obtain⟨u,rfl,k⟩:=vals1 r;cases k;obtain⟨i,n,l,z⟩:=I.list e;obtain⟨m,F⟩:=I.fr;exact LSm.all_bools F (rk (g:=X.b)) (I.o.hd c) l.isList (oN n) λf t x N=>⟨.bl (b.all id),H,lx I F.ns x.ns (nl I.bk x N),rfl,q⟩
theorem Gy(c:X.c=true):dG X (.builtin "any") (λa H Q=>∃(p:Addr)(b:List Bool),a=[.ref p]/\iT X.K H p (b.map V.bl)/\Q (.bl (b.any id)) H):=by intro B s J H a v Q I r h;obtain⟨p,b,rfl,e,q⟩:=h;obtain⟨u,rfl,k⟩:=vals1 r;cases k;obtain⟨i,n,l,z⟩:=I.list e;obtain⟨m,F⟩:=I.fr;exact LSm.any_bools F (rk (g:=X.b)) (I.o.hd c) l.isList (oN n) λf t x N=>⟨.bl (b.any id),H,lx I F.ns x.ns (nl I.bk x N),rfl,q⟩
noncomputable def r_:List P->Option (List Bool)
 | []=>some []
 | .bl b::r=>(r_ r).map (b::·)
 |_=>none
def tL:List P->Option P
 | [.lst x]=>(r_ x).map λb=>.bl (b.all id)
 |_=>none
def tK:List P->Option P
 | [.lst x]=>(r_ x).map λb=>.bl (b.any id)
 |_=>none
theorem wb:∀{a:List P}{s:List Bool}{x:List V},r_ a=some s->cf K F H a x->x=s.map V.bl
 | [],s,x,h,r=>by cases h;exact fY r.length.symm
 | .bl b::a,s,x,h,r=>by simp only[r_]at h;obtain⟨n,e,rfl⟩:=eA.mp h;obtain⟨y,f,rfl,p,k⟩:=r;cases (show y=.bl b from p);rw[wb e k];rfl
theorem Jw(c:X.c=true):dG X (.builtin "all") (rC X.K tL):=by
 intro B s J H w u Q I r h;obtain⟨F,m,d,v,f,q,k⟩:=h;unfold tL at q;split at q
 .obtain⟨b,e,rfl⟩:=eA.mp q;obtain⟨x,rfl,p⟩:=vd f;obtain⟨a,y,rfl,t,n⟩:=p;exact Gz c B s J H _ u Q I r ⟨a,b,rfl,by rw[<- wb e n];exact t.sq,k _ F H .refl rfl⟩
 .cases q
theorem callAny(c:X.c=true):dG X (.builtin "any") (rC X.K tK):=by
 intro B s J H w u Q I r h;obtain⟨F,m,d,v,f,q,k⟩:=h;unfold tK at q;split at q
 .obtain⟨b,e,rfl⟩:=eA.mp q;obtain⟨x,rfl,p⟩:=vd f;obtain⟨a,y,rfl,t,n⟩:=p;exact Gy c B s J H _ u Q I r ⟨a,b,rfl,by rw[<- wb e n];exact t.sq,k _ F H .refl rfl⟩
 .cases q
variable{e:Expr}{es:Ab}{fs:kn}{p N:Pos}
theorem Nu(g:Gl X "all")(m:X.g "all"=none)(a:PA X (e::es) (qf X.K fs))(c:X.c=true)(x:starEach (e::es) X.e=(false,eval e X.e)::starEach es X.e)(h:(backTo N (starEach es X.e)).any (·.1)=false) :
  PE X (.Call (.Name "all" p) (e::es) [] N) (tV X.K (bj tL fs)):=yb (Jw c) g m Hr a (by decide) (by decide) x h
theorem Nt(g:Gl X "any")(m:X.g "any"=none)(a:PA X (e::es) (qf X.K fs))(c:X.c=true)(x:starEach (e::es) X.e=(false,eval e X.e)::starEach es X.e)(h:(backTo N (starEach es X.e)).any (·.1)=false) :
  PE X (.Call (.Name "any" p) (e::es) [] N) (tV X.K (bj tK fs)):=yb (callAny c) g m Hs a (by decide) (by decide) x h
end
end Ev
namespace Ev
open PySem PySem.Spec PyProof.Rows L2
theorem xi(f:Nat->β->Sem (ForInStep β))(I:Nat->β->Shared->Prop)(Q:β->Shared->Prop)(k:Nat)
  (turn:∀i b s,i < k->I i b s->wpAny M A (f i b) (λr s'=>match r with | .yield b'=>I (i+1) b' s' | .done b'=>Q b' s') E s)
  (fin:∀b s,I k b s->Q b s) (b:β) (h:I 0 b s):wpAny M A (forIn [0:k] b f) Q E s:=by
 rw[Std.Legacy.Range.forIn_eq_forIn_range'];refine A9 f (λrest b s=>∃i,rest=Al i (k-i)/\i≤k/\I i b s) Q (λx rest b s ⟨i,e,hi,hI⟩=>?_) (λb s ⟨i,e,hi,hI⟩=>?_) _ b ⟨0,by simp[Std.Legacy.Range.size],cH _,h⟩
 .obtain⟨m,hm⟩:∃m,k-i=m+1:=by
   cases q:k-i with
   |zero=>rw[q]at e;simp at e
   |succ m=>exact⟨m,rfl⟩
  rw[hm,uI]at e;injection e with e1 e2;subst e1;refine cG (turn x b s (by lia) hI) (λr s' hr=>?_) λ_ _ z=>z;cases r with
  |done b'=>exact hr
  |yield b'=>exact⟨x+1,by rw[e2];congr 1;lia,by lia,hr⟩
 .have:k-i=0:=by
   cases q:k-i with
   |zero=>rfl
   |succ m=>rw[q,uI]at e;cases e
  have:i=k:=by lia
  subst this;exact fin b s hI
section
open PySem.SeqAt PySem.MeetsSeq
open PySem.AutoSeq1 (wpAny_loadPart')
theorem CD(l:Addr)(items:Array Value)(n:Nat)(dd:Option Addr)(sl:Array (OV))(x:Value)(e:Value->Bool)(j:Nat)(hj:j < items.size)
  (hit:e items[j]=true) (hno:∀m (hm:m < items.size),m < j->e items[m]=false) :
  Meets (Builtin.«tuple.index» ⟨[.ref l,x],[]⟩)
   (λA R s=>s.heap.get? l=some { cls:=.type "tuple",dict:=dd,data:=.seq items n,slots:=sl }/\(∀y,y ∈ items->EqAt A.in1 s y x (e y))/\R (.ok (.ret (.int j s.toks))) { s with toks:=s.toks+1 }):=
 .of_wp λprog w A R s h=>by
  obtain⟨hp,g,d,tk,os⟩:=s;obtain⟨hl,he,h⟩:=h
  wp_walk using lW hl,xi _ (λi b s'=>i≤j/\b.1=none/\s'=⟨hp,g,d,tk,os⟩) _
  case turn=>
   rintro i b s' hi ⟨hij,hb,rfl⟩;have hi':i < items.size:=by lia
   rw[AS hi'];refine ac (he _ (Array.getElem_mem hi') prog w _ _ ?_);by_cases hc:i=j
   .subst hc;rw[hit]
    wp_walk
    exact⟨_,rfl,h⟩
   .rw [hno i hi' (by lia)]
    wp_walk
    exact⟨by lia,rfl,rfl⟩
  case fin=>rintro b s' ⟨hij,_,_⟩;exact absurd hij (by lia)
  case h=>exact⟨cH _,rfl,rfl⟩
end
def l0(ps:List P)(y:P):Option Nat:=if (ps.all (cK 19) && cK 19 y)=true then (jy ps).findIdx? λz=>dO z (pd y) else none
@[simp] def yd(fa fb:EV)(L:Lc)(S:Y):tyV:=bQ (fa L S) λv x=>match v with
 | .lst ps=>bQ (fb L x) λy h=>(l0 ps y).map λ(i:Nat)=>(.int (i:Int),h)
 | .tup ps=>bQ (fb L x) λy h=>(l0 ps y).map λ(i:Nat)=>(.int (i:Int),h)
 |_=>none
section
variable{X:Cx}{pins:PN}{J:L2.St}{H:Hp}{s:Shared}{F:Aa}{ps:List P}{y:P}{vy:V}{u:Value}{i:Nat}{Q:VK}{a:Addr}
theorem vh:∀qs:List P,(jy qs).length=qs.length
 | []=>rfl
 |q::qs=>by simp[jy,vh qs]
theorem FX(o:X.A.units+64 < cLine)(I:Inv X pins J H s)(d:RP X.K F H y vy)(g:RelV vy u)(e:l0 ps y=some i){v:Array Value}{f:List Addr}(k:ReadsAll s.heap v.toList (jy ps) f) :
  ∃t:i < v.size,dO (mJ s.heap v[i]) (pd y)=true/\(∀m (x:m < v.size),m < i->dO (mJ s.heap v[m]) (pd y)=false)/\v.size=ps.length /\
   ∀z,z ∈ v->SeqAt.EqAt X.A.in1 s z u (dO (mJ s.heap z) (pd y)):=by
 unfold l0 at e;split at e;case isFalse=>cases e
 rename_i c;rw[av]at c;obtain⟨j,w⟩:=iF I 19 d g c.2;have l:=Fk c.1;have q:=fq 19 _ c.2;obtain⟨t,b,r⟩:=AL.mp e;have n:=SeqAt.readsAll_map _ _ _ l.1 k;have h:v.size=(jy ps).length:=by rw[<- n];simp
 have a:∀(m:Nat)(x:m < v.size),mJ s.heap v[m]=(jy ps)[m]'(h ▸ x):=λm x=>by
  have:(v.toList.map (mJ s.heap))[m]? = (jy ps)[m]?:=by rw[n]
  rw[b9,Array.getElem?_toList,AS x,bo (h ▸ x)]at this;simpa using this
 refine⟨by lia,?_,λm x p=>?_,by rw[h,vh],SeqAt.items_eqAt k w l.1 q.1 (by lia)⟩
 .rw [a];exact b
 .rw [a];simpa using r m p
theorem FW(e:l0 ps y=some i):ps.all (cK 19)=true:=by
 unfold l0 at e;split at e
 .rename_i h;rw[av]at h;exact h.1
 .cases e
theorem y4(P:X.A.units+64 < cLine)(I:Inv X pins J H s)(p:RP X.K F H (.lst ps) (.ref a))(D:RP X.K F H y vy)(G:RelV vy u)(e:l0 ps y=some i)(q:Q (.int i) H) :
  wx X (call (.builtin "list.index") [.ref a,u]) (EP X pins J Q) X.xe s:=by
 have S:=FW e;obtain⟨N,b⟩:=iF I 20 p (show RelV (.ref a) (.ref a) from rfl) (by simpa[cK] using S);rw[pd]at b;cases b with
 | @list l o L n _ c x k f w=>
  obtain⟨j,t,v,V,d⟩:=FX P I D G e w;obtain⟨oc,B,C,h⟩:=o;dsimp only at k f;subst k f;have T:ps.length≤sizeLine:=by obtain⟨M,xs,m,K,E⟩:=p;cases m;obtain⟨z,A,Z,r,R,_⟩:=I.lstM K.2;have W:=E.length;lia
  have g:sizeLine < 2 ^ 63:=by decide
  exact iC zI ⟨_,x,rfl⟩ PySem.F.entry_list_index (PySem.F.args_list_index_2 _ _) (SeqAt.list_indexAt a L n B h u _ i j (by lia) t v) ⟨x,d,⟨.int i,H,I.tok _,⟨_,rfl⟩,q⟩⟩
theorem xD(hu:X.A.units+64 < cLine)(I:Inv X pins J H s)(px:RP X.K F H (.tup ps) (.ref a))(py:RP X.K F H y vy)(ru:RelV vy u)(e:l0 ps y=some i)(q:Q (.int i) H) :
  wx X (call (.builtin "tuple.index") [.ref a,u]) (EP X pins J Q) X.xe s:=by
 have ho:=FW e;obtain⟨as,ra⟩:=iF I 20 px (show RelV (.ref a) (.ref a) from rfl) (by simpa[cK] using ho);rw[pd]at ra;cases ra with
 | @tuple l o vs n _ as' h1 h2 h3 h4=>obtain⟨hi,e1,e2,hz,eq⟩:=FX hu I py ru e h4;obtain⟨oc,od,odt,osl⟩:=o;dsimp only at h2 h3;subst h2 h3;exact iC zL ⟨_,h1,rfl⟩ PySem.F.entry_tuple_index (PySem.F.args_tuple_index_2 _ _) (CD a vs n od osl u _ i hi e1 e2) ⟨h1,eq,⟨.int i,H,I.tok _,⟨_,rfl⟩,q⟩⟩
theorem KG(hu:X.A.units+64 < cLine)(ho:PE X o (tV X.K fo))(he:PE X e (tV X.K fe))(hs:starEach [e] X.e=[(false,eval e X.e)])
  (w:attributeBase o "index" X.e (eval o X.e)=eval o X.e) (j:(M.endLine == g.line)=true):PE X (.Call (.Attribute o "index" M) [e] [] g) (tV X.K (yd fo fe)):=by
 intro pins s J H Q I ⟨F,m,L,S,d,S',r,l,q,k⟩;obtain⟨x,Z,e1,q⟩:=aj q;refine DI w (by rw[hs];rfl) j rfl (cN (ho pins s J H (λv c=>∃f K,Stp F m H f K c/\Rel X.K f c K Z/\RP X.K f c x v) I ⟨F,m,L,S,x,Z,r,l,e1,λv f K c s1 r1 B=>⟨f,K,s1,r1,B⟩⟩) λu s1 hz=>?_);obtain⟨v,c,I1,ru,f,K,T,r1,B⟩:=hz;have t:∀(id:String)(ps:List P),bQ (fe L Z) (λy S2=>(l0 ps y).map λ(i:Nat)=>((.int (i:Int):P),S2))=some (d,S') ->
   (∀(s:Shared)(h:Hp)(n:Aa)(y:P)(vy:V)(C:Value)(i:Nat),Inv X pins J h s->(∀p,RP X.K f c p v->RP X.K n h p v)->RP X.K n h y vy->RelV vy C->l0 ps y=some i->Q (.int i) h->wx X (call (.builtin id) [u,C]) (EP X pins J Q) X.xe s) ->
   wx X (callWith g (.builtin id) [u] (backTo g (starEach [e] X.e)) []) (EP X pins J Q) X.xe s1:=by
  intro id ps q hc;obtain⟨y,S2,e2,q⟩:=aj q;obtain⟨i,E,q⟩:=eA.mp q;cases q;rw[hs];refine mF rfl (mE (dI (cN (he pins s1 J c (λvy h=>∃n A,Stp f K c n A h/\Rel X.K n h A S'/\RP X.K n h y vy) I1 ⟨f,K,L,Z,y,S',r1,l.mono T,e2,λv n A h s2 r2 G=>⟨n,A,s2,r2,G⟩⟩) λC s2 ⟨vy,h,D,ruy,n,A,W,r2,G⟩=>gN ?_)));exact hc s2 h n y vy C i D (λp R=>RP.mono W R) G ruy E (k _ n A h (T.trans W) r2 rfl)
 cases x with
 |lst ps=>obtain⟨a,xs,rfl,hq,rp⟩:=id B;cases (show u=Value.ref a from ru);obtain⟨z,its,n',rr,hl,N⟩:=I1.lstM hq.2;exact⟨"list","list.index",ue,zI,PySem.F.type_list_index,⟨_,N,rfl⟩,λb eb=>by cases eb;exact⟨_,N,rfl⟩,t _ ps q λs h n y vy C i D R py ry E q=>y4 hu D (R _ B) py ry E q⟩
 |tup ps=>obtain⟨a,xs,rfl,hq,rp⟩:=id B;cases (show u=Value.ref a from ru);obtain⟨its,rr,o,N,⟨ec,n',ed⟩,en⟩:=I1.tupleN hq.sq;exact⟨"tuple","tuple.index",PySem.F.plainAttrs_tuple,zL,PySem.F.type_tuple_index,⟨_,N,ec⟩,λb eb=>by cases eb;exact⟨_,N,en⟩,t _ ps q λs h n y vy C i D R py ry E q=>xD hu D (R _ B) py ry E q⟩
 |_=>cases q
end
variable{L:Type}
noncomputable def cF[DecidableEq L](k:L):List L->List D->Option D
 |h::s,v::x=>if h=k then some v else cF k s x
 |_,_=>none
noncomputable def dE[DecidableEq L](k:L)(v:D):List L->List D->List L×List D
 |h::s,w::x=>if h=k then (h::s,v::x) else (h::(dE k v s x).1,w::(dE k v s x).2)
 |_,_=>([k],[v])
def dL:List P->Option (List cg)
 | []=>some []
 |p::r=>(c_ p).bind λk=>(dL r).map λs=>k::s
noncomputable def lY(d:D)(S:Y):Option (Nat×List (List cg)×List D):=match d with
 | .ref i=>match S[i]? with
  |some (.dtt k v)=>some (i,k,v)
  |_=>none
 |_=>none
theorem qg(h:lY d S=some (i,k,n)):d=.ref i/\S[i]? = some (.dtt k n):=by
 unfold lY at h;split at h
 .split at h
  .rename_i e;cases h;exact⟨rfl,e⟩
  .cases h
 .cases h
section
variable{K:FG}{F:Aa}{H:Hp}{m:List Addr}
theorem jB:∀{ps:List P}{s:List cg}{a:List V},dL ps=some s->cf K F H ps a->a=s.map kV
 | [],s,a,h,r=>by cases h;exact r
 |p::ps,s,a,h,r=>by
  obtain⟨x,m,rfl,b,c⟩:=r;unfold dL at h;cases e:c_ p with
  |none=>rw[e]at h;cases h
  |some k=>
   rw[e]at h;cases n:dL ps with
   |none=>rw[n]at h;cases h
   |some f=>rw[n]at h;cases h;rw[aC,iK e b,jB n c]
theorem j1[DecidableEq L]:∀{C:List (L×V)}{s:List D},dh K F H m s (C.map (·.2)) ->
  match cF k (C.map (·.1)) s with|some d=>∃v,g7 C k=some v/\RD K F H m d v|none=>g7 C k=none
 | [],s,r=>by have:s=[]:=fY r.length;subst this;rfl
 |(h,v)::C,[],r=>by have:=r.length;simp at this
 |(h,v)::C,d::s,r=>by
  obtain⟨x,b,e,p,a⟩:=r;rw[aC]at e;injection e with n f;rw[<- f]at a;simp only[aC,cF];by_cases hk:h=k
  .rw [af hk];exact⟨v,iD (p:=(h,v)) hk,by rw[show v=x from n];exact p⟩
  .rw [ah hk,g6 (p:=(h,v)) hk];exact j1 a
theorem oh[DecidableEq L](f:RD K F H m y u):∀{C:List (L×V)}{s:List D},(C.map (·.1)).Nodup->dh K F H m s (C.map (·.2)) ->
  (L2.putK C k u).map (·.1)=(dE k y (C.map (·.1)) s).1/\dh K F H m (dE k y (C.map (·.1)) s).2 ((L2.putK C k u).map (·.2))
 | [],s,_,r=>by have:s=[]:=fY r.length;subst this;exact⟨rfl,u,[],rfl,f,rfl⟩
 |(h,w)::C,[],_,r=>by have:=r.length;simp at this
 |(h,w)::C,d::s,p,r=>by
  obtain⟨x,B,e,A,G⟩:=r;rw[aC]at e p;injection e with g i;subst g;subst i;obtain⟨b,t⟩:=bW.mp p;simp only[aC,dE];by_cases hk:h=k
  .subst hk;rw[af rfl];have same:∀l:List (L×V),h ∉ l.map (·.1)->l.map (λv=>if v.1=h then (v.1,u) else v)=l:=by
    intro l;induction l with
    |nil=>intro _;rfl
    |cons q l P=>
     intro n;rw[aC]at n;have j:¬q.1=h:=λz=>n (by rw[<- z];exact aI)
     rw[aC,ah j,P λz=>n (aH _ z)]
   have a:L2.putK ((h,w)::C) h u=(h,u)::C:=by unfold L2.putK;rw[af (by simp),aC,af rfl,same C b]
   rw[a];exact⟨rfl,u,_,rfl,f,G⟩
  .rw [ah hk];obtain⟨o,S⟩:=oh (k:=k) f t G;have a:L2.putK ((h,w)::C) k u=(h,w)::L2.putK C k u:=by
    unfold L2.putK;rw[cT,bt (show ¬(h,w).1=k from hk),lp];by_cases c:(C.any λv=>decide (v.1=k))=true
    .rw [af c,af c,aC,ah (show ¬(h,w).1=k from hk)]
    .rw [ah c,ah c];rfl
   rw[a,aC,aC,o];exact⟨rfl,w,_,rfl,A,S⟩
end
section
variable{X:Cx}{pos G:Pos}{o T:Expr}{c:Ab}{fo:EE}{fs:kn}{fv:EV}
@[simp] def yX(_L:Lc)(S:Y):xL:=some (.ref S.length,S++[.dtt [] []])
theorem KJ:PE X (.Dict [] [] pos) (tE X.K yX):=E9.imp' λJ H Q z=>by obtain⟨F,m,L,S,d,x,r,l,q,k⟩:=z;cases q;intro p h;refine k (.ref p) F (m++[p]) _ (dX h) (r.own h ⟨[],aM,rfl,rfl⟩) ⟨p,rfl,?_⟩;rw[<- r.len,b_ (ak _)];simp
@[simp] def xp(o:EE)(k:kn)(L:Lc)(S:Y):xL:=bQ (o L S) λd x=>bQ (k L x) λps h=>match lY d h,dL ps with
 |some (_,s,v),some B=>if few ps=true then (cF B s v).map λz=>(z,h) else none
 |_,_=>none
theorem I0(b:X.A.units+1 < cLine):GV X (λx y H Q=>∃a v,x=.ref a/\ko H a y (some v)/\(∃C,H a=some (.dT C))/\Q v H):=by intro T l pins s J H x y v u Q I c m h f;obtain⟨a,w,rfl,g,⟨C,hk⟩,q⟩:=h;cases c;obtain⟨_,_,_,_,o,_,_,e,k,_⟩:=I.h a _ hk;exact pP ⟨o,e,k.1⟩ Bb.lookup (tB b I g m λp t n r=>⟨w,H,n,r,q⟩) f
theorem QM {N} (hu:X.A.units+1 < cLine) (ho:PE X o (tE X.K fo)) (hk:PA X c (qf X.K fs)) (hs:nO (.Tuple c N G)):PE X (.Subscript o (.Tuple c N G) pos) (tE X.K (xp fo fs)):=
 (E7 (I0 hu) ho (ve hk) hs).imp' λJ H Q hz=>by
  obtain⟨F,m,L,S,d,S',r,l,q,k⟩:=hz;obtain⟨x,K,W,q⟩:=aj q;obtain⟨ps,P,Z,q⟩:=aj q;refine⟨F,m,L,S,x,K,r,l,W,λv T m1 H1 I r1 p1=>?_⟩;refine⟨T,m1,L,K,ps,P,r1,l.mono I,Z,λR y m2 V M E G=>?_⟩;cases s:lY x P with
  |none=>rw[s]at q;cases q
  |some t=>
   obtain⟨j,ks,vs⟩:=t;rw[s]at q;cases h:dL ps with
   |none=>rw[h]at q;cases q
   |some B=>
    rw[h]at q;dsimp only at q;split at q
    .rename_i hf;obtain⟨z,eg,q⟩:=eA.mp q;cases q;obtain⟨rfl,n⟩:=qg s;obtain⟨a,rfl,hm⟩:=RD.mono M p1;obtain⟨C,f,u,rs⟩:=E.obj j a _ hm n;subst u;have A:=j1 (k:=B) rs;rw[eg]at A;obtain⟨w,ev,i⟩:=A;refine⟨by rw[<- G.length];exact l_ hf,λb D=>?_⟩;have p:a≠b:=λz=>by rw[z,D]at f;cases f
     have e:b7 V b (.tup R) a=some (.dT C):=by rw[ao p];exact f
     have g:=cx (F:=y) (o:=.tup R) D;rw[jB h G]at e g ⊢;refine⟨a,w,rfl,by rw[<- ev];exact ko.t e aM,⟨C,e⟩,?_⟩;exact k w y m2 _ (I.trans (M.trans g.stp)) (E.grow g) (RD.mono g.stp i)
    .cases q
@[simp] def tu(o:EE)(k:kn)(L:Lc)(S:Y):xL:=bQ (o L S) λd h=>match lY d h with
 |none=>none
 |some _=>bQ (k L h) λps x=>match lY d x,dL ps with
  |some (_,s,v),some B=>if few ps=true then some ((cF B s v).getD (.p .non),x) else none
  |_,_=>none
theorem NA {N} (hu:X.A.units+1 < cLine) (ho:PE X o (tE X.K fo)) (hk:PA X c (qf X.K fs)) (I:M1 X o "get" ap (.Tuple c N G) cp) :
  PE X (.Call (.Attribute o "get" ap) [.Tuple c N G] [] cp) (tE X.K (tu fo fs)):=
 (Fb hu ho (ve hk) I).imp' λJ H Q hz=>by
  obtain⟨F,m,L,S,d,S',r,l,q,k⟩:=hz;obtain⟨x,p,e1,q⟩:=aj q;refine⟨F,m,L,S,x,p,r,l,e1,λv F1 m1 H1 V r1 p1=>?_⟩;cases e:lY x p with
  |none=>rw[e]at q;cases q
  |some t1=>
   obtain⟨j,ks1,vs1⟩:=t1;rw[e]at q;dsimp only at q;obtain⟨ps,Z,e2,q⟩:=aj q;obtain⟨rfl,y⟩:=qg e;obtain⟨a,rfl,hm⟩:=id p1;obtain⟨s,A,_,_⟩:=r1.obj j a _ hm y;refine⟨a,rfl,.inr ⟨s,.inl A⟩,?_⟩;refine⟨F1,m1,L,p,ps,Z,r1,l.mono V,e2,λus f m2 H2 W R G=>?_⟩;cases i:lY (.ref j) Z with
   |none=>rw[i]at q;cases q
   |some t=>
    obtain⟨j2,ks,vs⟩:=t;rw[i]at q;cases u:dL ps with
    |none=>rw[u]at q;cases q
    |some B=>
     rw[u]at q;dsimp only at q;split at q
     .rename_i hf;cases q;obtain⟨h,K⟩:=qg i;cases h;obtain⟨a',e4,M⟩:=RD.mono W p1;cases e4;obtain⟨C,P,E,rs⟩:=R.obj j a _ M K;subst E;have n:=j1 (k:=B) rs;refine⟨by rw[<- G.length];exact l_ hf,λb hb=>?_⟩;have D:a≠b:=λz=>by rw[z,hb]at P;cases P
      have h:b7 H2 b (.tup us) a=some (.dT C):=by rw[ao D];exact P
      have g:=cx (F:=f) (o:=.tup us) hb;rw[jB u G]at h g ⊢;refine⟨g7 C B,ko.t h aM,?_⟩;cases eg:cF B (C.map (·.1)) vs with
      |none=>rw[eg]at n k;rw[show g7 C B=none from n];exact k .non f m2 _ (V.trans (W.trans g.stp)) (R.grow g) rfl
      |some z=>rw[eg]at n k;obtain⟨w,ev,T⟩:=n;rw[ev];exact k w f m2 _ (V.trans (W.trans g.stp)) (R.grow g) (RD.mono g.stp T)
     .cases q
@[simp] def Ey(o:EE)(k:kn)(v:EV)(L:Lc)(S:Y):Bs:=bQ (v L S) λy a=>bQ (o L a) λd e=>bQ (k L e) λps h=>match lY d h,dL ps with
 |some (i,s,x),some B=>if (s.Nodup/\few s=true/\few ps=true) then some (.nx,L,h.set i (.dtt (dE B (.p y) s x).1 (dE B (.p y) s x).2)) else none
 |_,_=>none
theorem Ng {N} (hu:X.A.units+1 < cLine) (ho:PE X o (tE X.K fo)) (hk:PA X c (qf X.K fs)) (hv:PE X T (tV X.K fv)) (hs:swapsWith T (some (.Subscript o (.Tuple c N G) h)) pos.line X.e=pure false) :
  PS X (.Assign [.Subscript o (.Tuple c N G) h] T pos) (kJ X.K (Ey fo fs fv)):=(BH hu ho (ve hk) hv hs).imp' λD J H hz=>by
 obtain⟨F,m,L,S,fl,L',S',r,l,q,k⟩:=hz;obtain⟨y,A,e1,q⟩:=aj q;obtain⟨d,E,e2,q⟩:=aj q;obtain⟨ps,I,e3,q⟩:=aj q;refine⟨F,m,L,S,y,A,r,l,e1,λv K V H1 s r1 p1=>?_⟩;refine⟨K,V,L,A,d,E,r1,l.mono s,e2,λx F2 m2 H2 e r2 G=>?_⟩;refine⟨F2,m2,L,E,ps,I,r2,(l.mono s).mono e,e3,λus P m3 H3 n r3 Z=>?_⟩;cases w:lY d I with
 |none=>rw[w]at q;cases q
 |some t=>
  obtain⟨j,ks,vs⟩:=t;rw[w]at q;cases p:dL ps with
  |none=>rw[p]at q;cases q
  |some B=>
   rw[p]at q;dsimp only at q;split at q
   .rename_i u;cases q;obtain⟨rfl,c⟩:=qg w;refine⟨by rw[<- Z.length];exact l_ u.2.2,λb hb=>?_⟩;have M:=cx (F:=P) (o:=.tup us) hb;have i:=r3.grow M;have f:=M.stp (m:=m3);obtain⟨a,rfl,g⟩:=RD.mono f (RD.mono n G);obtain⟨C,R,hk,rs⟩:=i.obj j a _ g c;subst hk;have pv:=RD.mono f (RD.mono n (RD.mono e (show RD X.K K H1 V (.p y) v from p1)));obtain⟨h1,h2⟩:=oh (k:=B) pv u.1 rs;have W:∀zs,b7 H3 b (.tup us) a≠some (.tup zs):=λzs z=>by rw[R]at z;cases z
    have st:=f8 (o:=.dT (L2.putK C B v)) i g c trivial W;have hl:C.length < sizeLine:=by have Q:(C.map (·.1)).length≤1000000:=aN u.2.1;rw[aU]at Q;exact jR Q (by decide)
    refine⟨a,_,rfl,xK.t (k:=B) R ?_ hl,?_⟩
    .rw [jB p Z];exact aM
    .exact k J P m3 _ (s.trans (e.trans (n.trans (f.trans st)))) (i.set g c trivial W ⟨_,aM,h1,dh.mono st h2⟩) ((((l.mono s).mono e).mono n).mono (f.trans st))
   .cases q
end
section
variable{X:Cx}{pins:PN}{J:L2.St}{H:Hp}{s:Shared}{a:Addr}{C:List (cg×V)}{B:cg}{u r:Value}{x:V}{A:Around}{E:VP}
theorem Gm(I:Inv X pins J H s)(e:H a=some (.dK C))(K:C.length < sizeLine)(S:RelV (kV B) u)(o:RelV x r)
  (t:∀v w n,g7 C B=some v->RelV v w->Inv X pins J H n->Q w n) (p:g7 C B=none->∀n,Inv X pins J (b7 H a (.dK (L2.putK C B x))) n->Q r n) :
  wpAny (model X.p X.w) A (call (.builtin "dict.setdefault") [.ref a,u,r]) Q E s:=by
 obtain⟨z,hd,F,l,k⟩:=Kf I.h e;have h:=l.val B;refine qB zM k.typeIs PySem.F.entry_dict_setdefault (PySem.F.args_dict_setdefault_3 _ _ _) (kt_meets_setdefault (cq X.p X.w) a (oW S) hd r)
  ⟨F,k,by rw[<- l.length];exact z,λv f=>?_,λc m d j=>?_⟩
 .cases q:g7 C B with
  |none=>rw[q,f]at h;cases h
  |some b=>rw[q,f]at h;exact t b v _ q h (I.tok _)
 .have q:g7 C B=none:=by
   cases q:g7 C B with
   |none=>rfl
   |some b=>rw[q,c]at h;cases h
  refine p q _ ?_;have g:∃q,m.get? a=some q:=let ⟨q,_,_,i,_⟩:=d;⟨q,i⟩
  have y:(L2.putK C B x).length≤sizeLine:=by have:=kN C B x;lia
  exact qk I (by rw[e];exact True.intro) j g (Gg y hd (l.put B o) d)
end
section
variable{X:Cx}{o e f:Expr}{ap cp:Pos}{fo fd:EE}{fk:EV}
@[simp] def nB(o:EE)(k:EV)(d:EE)(L:Lc)(S:Y):xL:=bQ (o L S) λx a=>match ng x a with
 |none=>none
 |some _=>bQ (k L a) λz e=>bQ (d L e) λy h=>match ng x h,c_ z with
  |some (i,s,v),some B=>if (s.Nodup/\few s=true) then match cF B s v with
    |some w=>some (w,h)
    |none=>some (y,h.set i (.dct (dE B y s v).1 (dE B y s v).2))
   else none
  |_,_=>none
theorem HG(ho:PE X o (tE X.K fo))(he:PE X e (tV X.K fk))(hf:PE X f (tE X.K fd))(n:M2 X o "setdefault" ap e f cp):PE X (.Call (.Attribute o "setdefault" ap) [e,f] [] cp) (tE X.K (nB fo fk fd)):=by
 intro pins s J H Q I ⟨F,m,L,S,d,S',r,l,q,k⟩;obtain⟨x,S1,e1,q⟩:=aj q;refine xU n.base n.few n.line ud zM PySem.F.type_dict_setdefault
  (cN (ho pins s J H (λv K=>∃b i,Stp F m H b i K/\Rel X.K b K i S1/\RD X.K b K i x v) I ⟨F,m,L,S,x,S1,r,l,e1,λv b i K s1 r1 p1=>⟨b,i,s1,r1,p1⟩⟩) λu s1 ⟨v,K,I1,ru,b,i,N,r1,p1⟩=>?_)
 cases A:ng x S1 with
 |none=>rw[A]at q;cases q
 |some t1=>
  obtain⟨j,ks1,vs1⟩:=t1;rw [A] at q;dsimp only at q;obtain⟨z,S2,e2,q⟩:=aj q;obtain⟨y,S3,e3,q⟩:=aj q;obtain⟨rfl,es1⟩:=vj A;obtain⟨a,rfl,hm⟩:=id p1;obtain⟨kvs1,hH1,_,_⟩:=r1.obj j a _ hm es1;cases (show u=Value.ref a from ru);obtain⟨t1,t2,_⟩:=yL I1 (.inl ⟨kvs1,.inl hH1⟩);refine⟨t1,t2,?_⟩;rw [n.trees];refine mF rfl (mE (dI (cN (he pins s1 J K (fun vz P=>∃c M,Stp b i K c M P/\Rel X.K c P M S2/\RP X.K c P z vz) I1 ⟨b,i,L,S1,z,S2,r1,l.mono N,e2,fun v c M P s2 r2 G=>⟨c,M,s2,r2,G⟩⟩) fun uz s2 ⟨vz,P,I2,rz,c,M,R,r2,G⟩=>
   dI (cN (hf pins s2 J P (λvy g=>∃p m3,Stp c M P p m3 g/\Rel X.K p g m3 S3/\RD X.K p g m3 y vy) I2 ⟨c,M,L,S2,y,S3,r2,(l.mono N).mono R,e3,λv p m3 g s3 V p3=>⟨p,m3,s3,V,p3⟩⟩) λuy s3 ⟨vy,g,I3,ry,p,m3,sS,V,p3⟩=>gN ?_))))
  cases eo:ng (.ref j) S3 with
  |none=>rw[eo]at q;cases q
  |some t=>
   obtain⟨j2,ks,vs⟩:=t;rw[eo]at q;cases ek:c_ z with
   |none=>rw[ek]at q;cases q
   |some B=>
    rw[ek]at q;dsimp only at q;split at q
    .rename_i hc;obtain⟨e4,D⟩:=vj eo;cases e4;obtain⟨a',e5,E⟩:=RD.mono (R.trans sS) p1;cases e5;obtain⟨C,hH,hk,rs⟩:=V.obj j a _ E D;subst hk;have T:=j1 (k:=B) rs;have pz:=RP.mono sS G;have ez:=iK ek pz;subst ez;have hl:C.length < sizeLine:=by
      have h9:(C.map (·.1)).length≤1000000:=aN hc.2;rw[aU]at h9;exact jR h9 (by decide)
     have stA:=N.trans (R.trans sS);refine Gm I3 hH hl rz ry (λv w s' Z rv I'=>?_) λZ s' I'=>?_
     .cases W:cF B (C.map (·.1)) vs with
      |none=>rw[W]at T;rw[show g7 C B=none from T]at Z;cases Z
      |some w'=>rw[W]at T q;dsimp only at q;cases q;obtain⟨v',h,rd⟩:=T;rw[Z]at h;cases h;exact⟨v,g,I',rv,k v p m3 g stA V rd⟩
     .cases W:cF B (C.map (·.1)) vs with
      |some w'=>rw[W]at T;obtain⟨v',h,_⟩:=T;rw[Z]at h;cases h
      |none=>
       rw[W]at q;dsimp only at q;cases q;obtain⟨h1,h2⟩:=oh (k:=B) p3 hc.1 rs;have nt:∀zs,g a≠some (.tup zs):=λzs z=>by rw[hH]at z;cases z
       have st:=f8 (o:=.dK (L2.putK C B vy)) V E D trivial nt;exact⟨vy,_,I',ry,k vy p m3 _ (stA.trans st) (V.set E D trivial nt ⟨_,aM,h1,dh.mono st h2⟩) (RD.mono st p3)⟩
    .cases q
end
end Ev
set_option tactic.hygienic false
namespace PySem
open PySem PyProof.Rows
section
variable{prog:Program}{w:World}{A:Around}{E:VP}{s:Shared}
theorem qS(t:s.heap.IsTupleIter k h i)(f:s.heap.IsTuple h n)(b:n[i]? = some x)
  (e:∀a,a.IsTupleIter k h (i+1)->eB k s.heap a->Q x { s with heap:=a }):wpAny (model prog w) A (fS (.ref k)) Q E s:=by
 have T:=t.typeIs;obtain⟨⟨q,v,m,r⟩,o,c,hd⟩:=id t;obtain⟨u,l,_,p,d⟩:=f;dsimp only at c hd;subst c hd;unfold fS;apply ac;apply qG (name:=Str.ofString "__next__") T pO;refine nT pO T zC ?_ (zE _);repeat first|with_reducible refine ac (dH o rfl (x:=.ref h) rfl ?_)|wp_step
 rw[d];apply aq;simp only[pK,b];apply ac;apply A1 o rfl (by simp);refine aq ⟨x,rfl,aq (e _ ⟨_,uu _ o rfl,rfl,?_⟩ (my ..))⟩;simp[zh,rawInt]
theorem mZ(m:A.handled=none)(t:s.heap.IsTupleIter k h i)(p:s.heap.IsTuple h n)(q:n[i]? = none)
  (b:∀a e,ut k s.heap a->(∃o,a.get? e=some o/\o.cls=.type "StopIteration")->E (.ref e) { s with heap:=a }):wpAny (model prog w) A (fS (.ref k)) Q E s:=by
 have T:=t.typeIs;obtain⟨⟨j,y,v,u⟩,r,c,hd⟩:=id t;obtain⟨z,l,_,g,d⟩:=p;dsimp only at c hd;subst c hd;unfold fS;apply ac;apply qG (name:=Str.ofString "__next__") T pO;refine nT pO T zC ?_ (zE _);repeat first|with_reducible refine ac (dH r rfl (x:=.ref h) rfl ?_)|wp_step
 rw[d];apply aq;simp only[pK,q];have f:A.in1.handled=none:=m;repeat first|assumption|wp_step
 unfold raiseNew;apply ac;apply wpAny_handled;rw[f];apply wpAny_throw;exact b _ _ (((my ..).extBut.push _).push _) ⟨_,bx _ rfl,rfl⟩
def G1(t:Bool)(h:Heap)(i l:Addr)(k:Nat):Prop:=if t=true then h.IsTupleIter i l k else h.IsListIter i l k
def PF(t:Bool)(h:Heap)(l:Addr)(y:Array Value):Prop:=if t=true then h.IsTuple l y else h.IsList l y
theorem G1.extBut(x:G1 n h a l i)(s:ut b h k)(e:a≠b):G1 n k a l i:=by
 cases n
 .exact Heap.IsListIter.extBut x s e
 .exact Heap.IsTupleIter.extBut x s e
theorem PF.extBut(x:PF n h a q)(s:ut b h k)(e:a≠b):PF n k a q:=by
 cases n
 .exact Heap.IsList.extBut x s e
 .exact Heap.IsTuple.extBut x s e
theorem G1.obj(x:G1 k h a l i):∃o,h.get? a=some o/\(∃v,o.data=.fields v)/\∀s,s.get? a=some o->G1 k s a l i:=by
 cases k
 .obtain⟨o,e,c,d⟩:=x;exact⟨o,e,⟨_,d⟩,λs n=>⟨o,n,c,d⟩⟩
 .obtain⟨o,e,c,d⟩:=x;exact⟨o,e,⟨_,d⟩,λs n=>⟨o,n,c,d⟩⟩
theorem FN(t:G1 q s.heap k h i)(f:PF q s.heap h n)(b:n[i]? = some x)
  (e:∀a,G1 q a k h (i+1)->eB k s.heap a->Q x { s with heap:=a }):wpAny (model prog w) A (fS (.ref k)) Q E s:=by
 cases q
 .exact xZ t f b e
 .exact qS t f b e
def g_(h:Heap)(z TI TO:Addr)(f x:Value):Prop:=h.get? z=some { cls:=.type "zip",data:=.fields #[f,x,.bool false,.ref TI,.ref TO] }
def eR(h:Heap)(T:Addr)(a b:Value):Prop:=h.get? T=some { cls:=.type "tuple",data:=.seq #[a,b] }
theorem D1 (l y:Addr) (xs ys:Array Value):Meets (Builtin.«zip.__new__» ⟨[.type "zip",.ref l,.ref y],[]⟩) (fun _ R s=>s.heap.IsList l xs/\s.heap.IsTuple y ys /\
  ∀v S F TI TO z,(∀b o,s.heap.get? b=some o->v.get? b=some o)->s.heap.objs.size≤S->S < F->F < TI->TI < TO->TO < z->v.IsListIter S l 0->v.IsTupleIter F y 0->eR v TI (.ref S) (.ref F)->eR v TO .none .none ->
   g_ v z TI TO .none (.bool false)->R (.ok (.ret (.ref z))) { s with heap:=v }):=
 .of_wp λprog w A R s h=>by
  obtain⟨i,g,d,Z,os⟩:=s;obtain⟨B,C,h⟩:=h;have X:=sub_zip;have L:Heap.IsList (Shared.heap ⟨i,g,d,Z,os⟩) l xs:=B;have P:Ag (Shared.heap ⟨i.push { cls:=.type "list_iterator",data:=.fields #[.ref l,.int 0 0] },g,d,Z,os⟩) y ys:=C.push _
  wp_walk using xW L,tZ P
  have j:∀(u n x a f c:Heap)(r t p q m:Obj),n=u.push r->x=n.push t->a=x.push p->f=a.push q->c=f.push m->r.isFreed=false->t.isFreed=false->p.isFreed=false->q.isFreed=false->m.isFreed=false ->
    (∀b o,u.get? b=some o->c.get? b=some o)/\u.objs.size < n.objs.size/\n.objs.size < x.objs.size/\x.objs.size < a.objs.size/\a.objs.size < f.objs.size /\
    c.get? u.objs.size=some r/\c.get? n.objs.size=some t/\c.get? x.objs.size=some p/\c.get? a.objs.size=some q/\c.get? f.objs.size=some m:=by
   intro u n x a f c r t p q m E G I M N f1 f2 f3 f4 f5;have Q:n.get? u.objs.size=some r:=by rw[E];exact bx _ f1
   have T:x.get? n.objs.size=some t:=by rw[G];exact bx _ f2
   have V:a.get? x.objs.size=some p:=by rw[I];exact bx _ f3
   have W:f.get? a.objs.size=some q:=by rw[M];exact bx _ f4
   have g5:c.get? f.objs.size=some m:=by rw[N];exact bx _ f5
   have u2:∀b o,n.get? b=some o->x.get? b=some o:=λb o e=>by rw[G];exact aW _ e
   have D:∀b o,x.get? b=some o->a.get? b=some o:=λb o e=>by rw[I];exact aW _ e
   have K:∀b o,a.get? b=some o->f.get? b=some o:=λb o e=>by rw[M];exact aW _ e
   have H:∀b o,f.get? b=some o->c.get? b=some o:=λb o e=>by rw[N];exact aW _ e
   exact⟨λb o e=>H _ _ (K _ _ (D _ _ (u2 _ _ (by rw[E];exact aW _ e)))),aD Q,aD T,aD V,aD W,H _ _ (K _ _ (D _ _ (u2 _ _ Q))),H _ _ (K _ _ (D _ _ T)),H _ _ (K _ _ V),H _ _ W,g5⟩
  let r:Obj:={ cls:=.type "list_iterator",data:=.fields #[.ref l,.int 0 0] }
  let n:=i.push r
  let t:Obj:={ cls:=.type "tuple_iterator",data:=.fields #[.ref y,.int 0 0] }
  let x:=n.push t
  let p:Obj:={ cls:=.type "tuple",data:=.seq #[.ref i.objs.size,.ref n.objs.size] }
  let a:=x.push p
  let q:Obj:={ cls:=.type "tuple",data:=.seq #[.none,.none] }
  let f:=a.push q
  let m:Obj:={ cls:=.type "zip",data:=.fields #[.none,.bool false,.bool false,.ref x.objs.size,.ref a.objs.size] }
  obtain⟨k,s1,s2,s3,s4,a1,a2,a3,a4,a5⟩:=j i n x a f (f.push m) r t p q m rfl rfl rfl rfl rfl rfl rfl rfl rfl rfl;exact⟨_,rfl,h (f.push m) i.objs.size n.objs.size x.objs.size a.objs.size f.objs.size k (ak _) s1 s2 s3 s4 ⟨_,a1,rfl,rfl⟩ ⟨_,a2,rfl,rfl⟩ a3 a4 a5⟩
end
section
variable{prog:Program}{w:World}{A:Around}{E:VP}{s:Shared}
theorem Dt(h:Q (s.heap.get? a) s):wpAny M A (loadIfAlive a) Q E s:=λx p _=>by unfold loadIfAlive;rw[Sem.wp_loadIfAlive];exact(Sem.wp_pure ..).mpr h
theorem rL{z TI TO T:Addr}{f:Bool}{o:Obj}{Q:Bool->Shared->Prop}(a:g_ s.heap z TI TO (rawInt T) (.bool f))(n:s.heap.get? T=some o)
  (h:∀e,g_ e z TI TO (rawInt T) (.bool true)->eB z s.heap e->Q false { s with heap:=e }):wpAny (model prog w) A (pH (.ref z)) Q E s:=by
 unfold pH;apply ac;refine dH (show s.heap.get? z=some _ from a) rfl (x:=rawInt T) rfl ?_;unfold rawInt;dsimp only;apply ac;refine Dt ?_;rw[pK,n];rw[ah (by simp)];apply ac;refine dH (show s.heap.get? z=some _ from a) rfl (x:=.bool f) rfl ?_;cases f with
 |true=>rw[ah (by decide)];exact aq (h s.heap a ⟨rfl,λ_ _=>rfl⟩)
 |false=>rw[af (by decide)];apply ac;refine A1 (show s.heap.get? z=some _ from a) rfl (by simp) (aq (h _ ?_ (my ..)));unfold g_;rw[uu _ (show s.heap.get? z=some _ from a) rfl];simp[zh]
theorem Cp{z TI TO i a l r T:Addr}{P:Bool}{k:Nat}{S F:Array Value}{x y:Value}{oT:Obj}{Q:VP}(d:g_ s.heap z TI TO (rawInt T) (.bool P))(I:eR s.heap TI (.ref i) (.ref a))(G:s.heap.get? T=some oT)
  (B:s.heap.IsListIter i l k) (C:s.heap.IsTupleIter a r k) (p:s.heap.IsList l S) (q:s.heap.IsTuple r F) (M:S[k]? = some x) (R:F[k]? = some y)
  (g:i≠z) (j:a≠z) (X:l≠z) (Z:r≠z) (H:a≠i) (n6:r≠i) (n7:l≠a) (n8:l≠i) (n9:r≠a)
  (D:∀m:Heap,g_ m z TI TO (rawInt T) (.bool true)->m.IsListIter i l (k+1)->m.IsTupleIter a r (k+1)->(∀c o,c≠z->c≠i->c≠a->s.heap.get? c=some o->m.get? c=some o) ->
   Q (.ref m.objs.size) { s with heap:=m.push { cls:=.type "tuple",data:=.seq #[x,y] } }) :
  wpAny (model prog w) A (Builtin.«zip.__next__» ⟨[.ref z],[]⟩) (λt s'=>∃h,t=.done (.ret h)/\Q h s') E s:=by
 unfold Builtin.«zip.__next__»;apply ac;apply aq;apply ac;refine dH (show s.heap.get? z=some _ from d) rfl (x:=.bool false) rfl ?_;apply ac;refine dH (show s.heap.get? z=some _ from d) rfl (x:=.ref TI) rfl ?_;apply ac;refine jf (show s.heap.get? TI=some _ from I) rfl ?_;dsimp only;rw[ah (by simp)];apply ac;refine rL d G λh0 u b=>?_
 rw[ah (by simp)];apply ac;rw[<- qd];show wpAny _ _ (forIn [Value.ref i,Value.ref a] _ _) _ _ _;rw[i3];apply ac;apply ac;apply fR;show wpAny _ _ (fS (.ref i) >>= _) _ _ _;apply ac;refine xZ (B.extBut b.extBut g) (p.extBut b.extBut X) M λha V n=>aq ?_;dsimp only;apply aq;dsimp only;rw[i3];apply ac;apply ac;apply fR;show wpAny _ _ (fS (.ref a) >>= _) _ _ _;apply ac;refine qS ((C.extBut b.extBut j).extBut n.extBut H) ((q.extBut b.extBut Z).extBut n.extBut n6) R λL W f=>aq ?_;dsimp only;apply aq;dsimp only;rw[An];apply aq;dsimp only;apply ac;refine xQ (hsz:=by show 2≤sizeLine;decide) (aq ⟨_,rfl,D L ?_ ?_ W ?_⟩)
 .exact f.extBut _ _ (aP j) (n.extBut _ _ (aP g) u)
 .exact V.extBut f.extBut (aP H)
 .exact λc o N v K e=>f.extBut _ _ K (n.extBut _ _ v (b.extBut _ _ N e))
theorem D2{z TI TO i f n T:Addr}{t:Bool}{k:Nat}{m:Array Value}{S:Obj}{Q:Fin->Shared->Prop}(u:A.handled=none)(a:g_ s.heap z TI TO (rawInt T) (.bool t))(I:eR s.heap TI (.ref i) (.ref f))(d:s.heap.get? T=some S)
  (p:s.heap.IsListIter i n k) (l:s.heap.IsList n m) (g:m[k]? = none) (y:i≠z) (H:n≠z)
  (q:∀h e,(∀c o,c≠z->c≠i->s.heap.get? c=some o->h.get? c=some o)->(∃o,h.get? e=some o/\o.cls=.type "StopIteration")->E (.ref e) { s with heap:=h }) :
  wpAny (model prog w) A (Builtin.«zip.__next__» ⟨[.ref z],[]⟩) Q E s:=by
 unfold Builtin.«zip.__next__»;apply ac;apply aq;apply ac;refine dH (show s.heap.get? z=some _ from a) rfl (x:=.bool false) rfl ?_;apply ac;refine dH (show s.heap.get? z=some _ from a) rfl (x:=.ref TI) rfl ?_;apply ac;refine jf (show s.heap.get? TI=some _ from I) rfl ?_;dsimp only;rw[ah (by simp)];apply ac;refine rL a d λF j b=>?_
 rw[ah (by simp)];apply ac;rw[<- qd];show wpAny _ _ (forIn [Value.ref i,Value.ref f] _ _) _ _ _;rw[i3];apply ac;apply ac;apply fR;show wpAny _ _ (fS (.ref i) >>= _) _ _ _;apply ac;exact DD u (p.extBut b.extBut y) (l.extBut b.extBut H) g λh e x o=>q h e (λc K N v r=>x _ _ v (b.extBut _ _ N r)) o
end
section
variable{prog:Program}{w:World}{A:Around}{E:VP}{s:Shared}
theorem Cq{tp:Bool}{k:Nat}{z TI TO i d D l:Addr}{xs ys:Array Value}{x y p q:Value}{Q:VP}(H:g_ s.heap z TI TO .none (.bool false))(L:eR s.heap TI (.ref i) (.ref d))(M:eR s.heap TO p q)
  (h1:s.heap.IsListIter i D k) (h2:G1 tp s.heap d l k) (R:s.heap.IsList D xs) (V:PF tp s.heap l ys) (hx:xs[k]? = some x) (hy:ys[k]? = some y)
  (n1:i≠z) (n2:d≠z) (n3:D≠z) (n4:l≠z) (n5:d≠i) (n6:l≠i) (G:TO≠z) (n8:TO≠i) (n9:TO≠d) (n10:l≠TO)
  (hQ:∀(g:Heap) (T:Addr),g_ g z TI TO (rawInt T) (.bool false)->g.IsListIter i D (k+1)->G1 tp g d l (k+1)->eR g TO x y->eR g T x y->T=s.heap.objs.size->(∀c o,c≠z->c≠i->c≠d->c≠TO->s.heap.get? c=some o->g.get? c=some o) ->
   Q (.ref T) { s with heap:=g }) :
  wpAny (model prog w) A (Builtin.«zip.__next__» ⟨[.ref z],[]⟩) (λI s'=>∃h,I=.done (.ret h)/\Q h s') E s:=by
 unfold Builtin.«zip.__next__»;apply ac;apply aq;apply ac;refine dH (show s.heap.get? z=some _ from H) rfl (x:=.bool false) rfl ?_;apply ac;refine dH (show s.heap.get? z=some _ from H) rfl (x:=.ref TI) rfl ?_;apply ac;refine jf (show s.heap.get? TI=some _ from L) rfl ?_;dsimp only;rw[ah (by simp)];apply ac;unfold pH;apply ac;refine dH (show s.heap.get? z=some _ from H) rfl (x:=.none) rfl (aq ?_);rw[af rfl];apply ac;apply qA;apply ac;refine dH (show s.heap.get? z=some _ from H) rfl (x:=.ref TO) rfl ?_;dsimp only;apply ac;refine qE (show s.heap.get? z=some _ from H) (by simp) λh0 W b=>?_
 apply ac;show wpAny _ _ (forIn [(Value.ref i,0),(Value.ref d,1)] _ _) _ _ _;rw[i3];apply ac;apply ac;apply xP;show wpAny _ _ (fS (.ref i) >>= _) _ _ _;apply ac;refine xZ (h1.extBut b.extBut n1) (R.extBut b.extBut n3) hx λha ia n=>aq ?_;dsimp only;have P:ha.get? TO=some { cls:=.type "tuple",data:=.seq #[p,q] }:=n.extBut _ _ n8 (b.extBut _ _ G M);apply ac;refine jf P rfl ?_;dsimp only;apply ac;refine DB (s:={ s with heap:=ha }) P λhb j f=>?_;replace j:hb.get? TO=some { cls:=.type "tuple",data:=.seq #[x,q] }:=j;apply ac;apply wpAny_letGo;apply aq;dsimp only;rw[i3];apply ac;apply ac;apply xP;show wpAny _ _ (fS (.ref d) >>= _) _ _ _;apply ac;refine FN (((h2.extBut b.extBut n2).extBut n.extBut n5).extBut f.extBut (aP n9)) (((V.extBut b.extBut n4).extBut n.extBut n6).extBut f.extBut n10) hy λhc ic m=>aq ?_;dsimp only;have B:hc.get? TO=some { cls:=.type "tuple",data:=.seq #[x,q] }:=m.extBut _ _ n9 j;apply ac;refine jf B rfl ?_;dsimp only;apply ac;refine DB (s:={ s with heap:=hc }) B λhd u t=>?_;replace u:hd.get? TO=some { cls:=.type "tuple",data:=.seq #[x,y] }:=u;apply ac;apply wpAny_letGo;apply aq;dsimp only;rw[An];apply aq;dsimp only;apply ac;refine jf u rfl ?_;dsimp only;apply ac;refine xQ (hsz:=by show 2≤sizeLine;decide) ?_;have S:hd.get? z=some { cls:=.type "zip",data:=.fields #[.ellipsis,.bool false,.bool false,.ref TI,.ref TO] }:=t.extBut _ _ (aP G) (m.extBut _ _ (aP n2) (f.extBut _ _ (aP G) (n.extBut _ _ (aP n1) W)));have C:=aD S;have X:(hd.push { cls:=.type "tuple",data:=.seq #[x,y] }).get? z=some { cls:=.type "zip",data:=.fields #[.ellipsis,.bool false,.bool false,.ref TI,.ref TO] }:=aW _ S;apply ac;unfold G2;dsimp only;apply ac;refine qE X (by simp) λhe Z F=>?_;refine qE Z (by simp) λhf hz7 K=>?_;have a:∀c o,c≠z->hd.get? c=some o->hf.get? c=some o:=λc o N e=>K.extBut _ _ N (F.extBut _ _ N (aW _ e));refine aq ⟨_,rfl,hQ hf hd.objs.size hz7 ?_ ?_ (a _ _ G u) ?_ ?_ ?_⟩
 .exact (((ia.extBut f.extBut (aP n8)).extBut m.extBut (aP n5)).extBut t.extBut (aP n8)).at λo e=>a _ o n1 e
 .obtain⟨o,e,_,r⟩:=(ic.extBut t.extBut (aP n9)).obj;exact r _ (a _ o n2 e)
 .exact K.extBut _ _ (bU C) (F.extBut _ _ (bU C) (bx _ rfl))
 .show hd.objs.size=s.heap.objs.size;rw[t.1,m.1,f.1,n.1,b.1]
 .exact λc o N v c3 c4 e=>a c o N (t.extBut _ _ c4 (m.extBut _ _ c3 (f.extBut _ _ c4 (n.extBut _ _ v (b.extBut _ _ N e)))))
theorem D3(H:A.handled=none)(a:g_ s.heap z TI TO .none (.bool false))(T:eR s.heap TI (.ref d) (.ref I))
  (i:s.heap.IsListIter d g k) (l:s.heap.IsList g M) (S:M[k]? = none) (t:d≠z) (K:g≠z)
  (y:∀h e,(∀c o,c≠z->c≠d->s.heap.get? c=some o->h.get? c=some o)->(∃o,h.get? e=some o/\o.cls=.type "StopIteration")->E (.ref e) { s with heap:=h }) :
  wpAny (model prog w) A (Builtin.«zip.__next__» ⟨[.ref z],[]⟩) Q E s:=by
 unfold Builtin.«zip.__next__»;apply ac;apply aq;apply ac;refine dH (show s.heap.get? z=some _ from a) rfl (x:=.bool false) rfl ?_;apply ac;refine dH (show s.heap.get? z=some _ from a) rfl (x:=.ref TI) rfl ?_;apply ac;refine jf (show s.heap.get? TI=some _ from T) rfl ?_;dsimp only;rw[ah (by simp)];apply ac;unfold pH;apply ac;refine dH (show s.heap.get? z=some _ from a) rfl (x:=.none) rfl (aq ?_);rw[af rfl];apply ac;apply qA;apply ac;refine dH (show s.heap.get? z=some _ from a) rfl (x:=.ref TO) rfl ?_;dsimp only;apply ac;refine qE (show s.heap.get? z=some _ from a) (by simp) λB r b=>?_
 apply ac;show wpAny _ _ (forIn [(Value.ref d,0),(Value.ref I,1)] _ _) _ _ _;rw[i3];apply ac;apply ac;apply xP;show wpAny _ _ (fS (.ref d) >>= _) _ _ _;apply ac;refine DD H (i.extBut b.extBut t) (l.extBut b.extBut K) S λh e x o=>?_;have n:=x _ _ (aP t) r;refine qE (s:={ s with heap:=h }) n (by simp) λj F f=>y j e (λc p N v u=>f.extBut _ _ N (x _ _ v (b.extBut _ _ N u))) ?_;obtain⟨p,m,c⟩:=o;have P:e≠z:=λq=>by rw[q,n]at m;cases m;exact absurd (show Value.type "zip"=Value.type "StopIteration" from c) (by decide)
 exact⟨p,f.extBut _ _ P m,c⟩
end
theorem wq:typeLookup (.type "zip") "keys"=pure none:=by rw[xS,xY];kernel_rfl
theorem qM:typeLookup (.type "zip") "__getattr__"=pure none:=by rw[xS,xY];kernel_rfl
theorem nW:entryFor table "zip.__getattribute__"=some Builtin.«object.__getattribute__»:=
 entryFor_alias (id':="object.__getattribute__") (by kernel_rfl) (by decide +kernel) (by decide +kernel) (by kernel_rfl)
section
variable{prog:Program}{w:World}{A:Around}{E:VP}{s:Shared}
theorem D0(z TI TO:Addr)(f0 f1:Value)(u:Tok):Meets (Builtin.«object.__getattribute__» ⟨[.ref z,.str "keys" u],[]⟩) (λA R s=>g_ s.heap z TI TO f0 f1/\raisesAttr (.ref z) "keys" A R s):=
 .of_wp λprog w A R s hs=>by
  obtain⟨hp,g,d,tk,os⟩:=s;obtain⟨hx,hs⟩:=hs;unfold g_ at hx;have hT:(⟨hp,g,d,tk,os⟩:Shared).TypeIs (.ref z) "zip":=⟨_,hx,rfl⟩;have nk:=wq;unfold Builtin.«object.__getattribute__»;repeat any_goals first|assumption|wp_step
  exact wpAny_raiseAttrError hs.1 hs.2 (attrMsg_fits (by decide +kernel) (by size_fits))
theorem Co(q:g_ s.heap z TI TO l j)(i:A.handled=none)
  (h:∀x v,(∀b o,s.heap.get? b=some o->x.get? b=some o)->Q none { s with heap:=x,toks:=v }):wpAny (model prog w) A (getAttr? (.ref z) "keys") Q E s:=by
 obtain⟨p,g,d,v,os⟩:=s;have T:∀t,(⟨p,g,d,t,os⟩:Shared).TypeIs (.ref z) "zip":=λ_=>⟨_,q,rfl⟩;have j:=Bf;have y:=t8.lookup;have H:=t8.bind (.ref z);have S:=qM;have step:∀(n:Nat)(u:Tok)(m:VP)(f:VP),(∀x c e,Ah p x e (.ref z) "keys"->f (.ref e) ⟨x,g,d,c,os⟩) ->
   wpAny (model prog w) A (call (Value.builtin "zip.__getattribute__") ([Value.ref z]++[Value.str "keys" u]) []) m f ⟨p,g,d,n,os⟩:=λn u m f k=>
  iC t8 (T _) nW (F.args_zip_getattribute_2 _ _) (D0 z TI TO _ _ u) ⟨q,i,k⟩
 unfold getAttr?;unfold getAttrBy?;unfold getAttrBy;repeat any_goals first|assumption|exact T _|(with_reducible refine step _ _ _ _ λx t e a=>?_)|wp_step
 have r:=a.there;obtain⟨K,P,r⟩:=r;repeat any_goals first|assumption|wp_step
 exact h _ _ a.keeps
end
section
variable{prog:Program}{w:World}{A:Around}{E:VP}{s:Shared}
theorem DZ(n:s.TypeIs (.ref z) "zip")
  (h:wpAny (model prog w) A.in1 (Builtin.«zip.__next__» ⟨[.ref z],[]⟩) (λf x=>∃v,f=.done (.ret v)/\Q (some v) x) (λe x=>∃a o,e=.ref a/\x.heap.get? a=some o/\o.cls=.type "StopIteration"/\Q none x) s) :
  wpAny (model prog w) A (pyNext (.ref z)) Q E s:=by
 unfold pyNext;apply ac;apply wpAny_attempt;refine qG (name:=Str.ofString "__next__") n zp (nT zp n F.entry_zip_next (cG h (λf x ⟨v,e,q⟩=>⟨v,e,aq q⟩) λe x ⟨a,o,k,c,m,q⟩=>?_) (F.args_zip_next_1 _));subst k;apply ac;exact A_ (T:="StopIteration") (b:=true) ⟨_,c,m⟩ isSubtype_stop (aq q)
def JD(d:Addr)(h:Heap)(z TI TO i x l a:Addr)(k:Nat):Prop:=eR h TI (.ref i) (.ref x)/\h.IsListIter i l k/\h.IsTupleIter x a k /\
 ((k=0/\g_ h z TI TO .none (.bool false)/\eR h TO .none .none)\/∃(T:Addr)(o:Obj)(f:Bool),g_ h z TI TO (rawInt T) (.bool f)/\h.get? T=some o/\T≠z/\T≠i/\T≠x/\T≠d)
structure ZAp(d z TI TO i1 i2 l1 l2:Addr):Prop where
 nd:[d,z,TI,TO,i1,i2].Nodup
 l1n:l1 ∉ [d,z,TI,TO,i1,i2]
 l2n:l2 ∉ [d,z,TI,TO,i1,i2]
theorem JD.typeIs(x:JD d s.heap z TI TO n q l g k):s.TypeIs (.ref z) "zip":=by
 obtain⟨_,_,_,⟨_,h,_⟩|⟨T,o,f,h,_⟩⟩:=x
 .exact⟨_,h,rfl⟩
 .exact⟨_,h,rfl⟩
theorem JD.but(x:JD d h z TI TO q g l j k)(p:ZAp d z TI TO q g l j)(s:eB d h I):JD d I z TI TO q g l j k:=by
 have n:=p.nd;simp only[bW,aL,cZ,cY,lg]at n;obtain⟨b,c,m,r⟩:=x;refine⟨s.extBut _ _ (aP n.1.2.1) b,c.extBut s.extBut (aP n.1.2.2.2.1),m.extBut s.extBut (aP n.1.2.2.2.2),?_⟩;rcases r with ⟨e,a,t⟩|⟨T,o,v,a,t,w,u,i,f⟩
 .exact .inl ⟨e,s.extBut _ _ (aP n.1.1) a,s.extBut _ _ (aP n.1.2.2.1) t⟩
 .exact .inr ⟨T,o,v,s.extBut _ _ (aP n.1.1) a,s.extBut _ _ f t,w,u,i,f⟩
theorem D5(p:ZAp d z TI TO I M l1 l2)(a:JD d s.heap z TI TO I M l1 l2 k)(hd:s.heap.get? d=some od)(l:s.heap.IsList l1 xs)(b:s.heap.IsTuple l2 ys)(B:xs[k]? = some x)(C:ys[k]? = some y)
  (P:∀h T,JD d h z TI TO I M l1 l2 (k+1)->eR h T x y->T≠d->(∀c o,c ∉ [z,TO,I,M]->s.heap.get? c=some o->h.get? c=some o)->Q (some (.ref T)) { s with heap:=h }) :
  wpAny (model prog w) A (pyNext (.ref z)) Q E s:=by
 have X:=p.nd;have V:=p.l1n;have W:=p.l2n;simp only[bW,aL,cZ,cY,lg]at X V W;refine DZ a.typeIs ?_;obtain⟨m,g,i,R⟩:=a;rcases R with ⟨e,v,t⟩|⟨T,Z,f1,v,t,G,L,N,t4⟩
 .subst e;refine Cq (tp:=true) v m t g i l b B C (by grind) (by grind) (by grind) (by grind) (by grind) (by grind) (by grind) (by grind) (by grind) (by grind) λh T S F K _ D q5 q=>?_
  have fresh:∀c o,s.heap.get? c=some o->T≠c:=λc o f z=>absurd (aD f) (by rw[<- z,q5];exact e_ _);obtain⟨oi1,j,_⟩:=g;obtain⟨oi2,H,_⟩:=i;exact P h T ⟨q _ _ (by grind) (by grind) (by grind) (by grind) m,F,K,.inr ⟨T,_,false,S,D,fresh _ _ v,fresh _ _ j,fresh _ _ H,fresh _ _ hd⟩⟩ D (fresh _ _ hd) λc o n f=>q c o (λz=>n (by simp[z])) (λz=>n (by simp[z])) (λz=>n (by simp[z])) (λz=>n (by simp[z])) f
 .refine Cp v m t g i l b B C (by grind) (by grind) (by grind) (by grind) (by grind) (by grind) (by grind) (by grind) (by grind) λh S F K q=>?_;have dl:d < h.objs.size:=aD (q _ _ (by grind) (by grind) (by grind) hd);have u:∀c o,h.get? c=some o->(h.push { cls:=.type "tuple",data:=.seq #[x,y] }).get? c=some o:=λc o e=>aW _ e;refine P _ _ ⟨u _ _ (q _ _ (by grind) (by grind) (by grind) m),?_,?_,.inr ⟨T,Z,true,u _ _ S,u _ _ (q _ _ G L N t),G,L,N,t4⟩⟩ (bx _ rfl) (bU dl) λc o n f=>u _ _ (q c o (λz=>n (by simp[z])) (λz=>n (by simp[z])) (λz=>n (by simp[z])) f)
  .obtain⟨o,e,r⟩:=F;exact⟨o,u _ _ e,r⟩
  .obtain⟨o,e,r⟩:=K;exact⟨o,u _ _ e,r⟩
theorem HC(u:A.handled=none)(p:ZAp d z TI TO j I M l2)(a:JD d s.heap z TI TO j I M l2 k)(l:s.heap.IsList M xs)(i:xs[k]? = none)
  (v:∀h,(∀c o,c ∉ [z,TO,j,I]->s.heap.get? c=some o->h.get? c=some o)->Q none { s with heap:=h }):wpAny (model prog w) A (pyNext (.ref z)) Q E s:=by
 have S:=p.nd;have H:=p.l1n;simp only[bW,aL,cZ,cY,lg]at S H;refine DZ a.typeIs ?_;obtain⟨r,t,F,y⟩:=a;rcases y with ⟨e,n,g⟩|⟨T,P,K,n,g,B,C,D,G⟩
 .subst e;exact D3 u n r t l i (by grind) (by grind) λh e q n=>by obtain⟨o,b,m⟩:=n;exact⟨e,o,rfl,b,m,v h λc o x f=>q c o (λz=>x (by simp[z])) (λz=>x (by simp[z])) f⟩
 .exact D2 u n r g t l i (by grind) (by grind) λh e q ⟨o,b,m⟩=>⟨e,o,rfl,b,m,v h λc o x f=>q c o (λz=>x (by simp[z])) (λz=>x (by simp[z])) f⟩
end
section
variable{prog:Program}{w:World}{K:Type}[DecidableEq K]{t:KeyKind prog w K}{A:Around}{E:VP}{R:Result->Shared->Prop}
inductive ZipsAt(knd:KeyKind prog w K):LV->LV->List (K×Value)->Prop
 |nil {vs:LV}:ZipsAt knd [] vs []
 |cons {key v:Value}{k:K}{us vs:LV}{kvs:List (K×Value)}:knd.is k key=true->ZipsAt knd us vs kvs->ZipsAt knd (key::us) (v::vs) ((k,v)::kvs)
set_option tactic.hygienic true in
theorem yY(hh:A.handled=none){u:Heap}(p:ZAp d z TI TO i1 i2 l1 l2)(fr:∀a ∈ [d,z,TI,TO,i1,i2],u.get? a=none)(L:u.IsList l1 j)(hl2:u.IsTuple l2 ys) :
  ∀(n:List (K×Value))(i:Nat)(f:List (K×Value))(s:Shared),(∀b o,u.get? b=some o->s.heap.get? b=some o)->JD d s.heap z TI TO i1 i2 l1 l2 i->s.heap.DictOf t d f->ZipsAt t (j.toList.drop i) (ys.toList.drop i) n ->
   ((f++n).map (·.1)).Nodup->(f++n).length≤sizeLine->i+n.length=j.size ->
   (∀l t',(∀b o,u.get? b=some o->l.get? b=some o)->l.DictOf t d (f++n)->R (.ok (.ret .none)) { s with heap:=l,toks:=t' }) ->
   codeAny (model prog w) A (.builtin "dict.update.loop" ⟨[.ref d,.ref z,rawInt i,.none],[]⟩) R s:=by
 have nd:=p.nd;simp only[bW,aL,cZ,cY,lg]at nd;have P:∀b o,u.get? b=some o->b ∉ [d,z,TI,TO,i1,i2]:=λb o e m=>by rw[fr b m]at e;cases e
 have dz:d ∉ [z,TO,i1,i2]:=by simp only[aL,cZ,cY,lg];grind
 intro n;induction n with
 |nil=>
  intro i f s C y hd X N Z hi h;have I:j[i]? = none:=by simp at hi ⊢;lia
  have H:s.heap.IsList l1 j:=by obtain⟨o,S,r⟩:=L;exact⟨o,C _ _ S,r⟩
  refine tW F.entry_dict_update_loop ?_;rw[qc F.plain_dict_update_loop _];unfold Builtin.«dict.update.loop»;show wpAny _ A.in1 (pyNext (.ref z) >>= _) _ _ s;refine ac (HC hh p y H I λl D=>?_);show wpAny _ A.in1 (zd d [] >>= _) _ _ _;rw[dJ]at h;apply ac;apply aq;apply aq;refine h l s.toks (λb o e=>D b o (λm=>P b o e (by simp only[aL,cZ,cY]at m ⊢;grind)) (C b o e)) ?_;obtain⟨o,c,ep,S,r⟩:=hd;exact⟨o,c,ep,D _ _ dz S,r⟩
 |cons kv n ih=>
  intro i f s C y hd X N Z hi h;have H:s.heap.IsList l1 j:=by obtain⟨o,S,r⟩:=L;exact⟨o,C _ _ S,r⟩
  have M:s.heap.IsTuple l2 ys:=by obtain⟨o,S,r⟩:=hl2;exact⟨o,C _ _ S,r⟩
  generalize er:j.toList.drop i=us at X;generalize c:ys.toList.drop i=vs at X;cases X with
  |cons hk hps=>
   rename_i B v k us' vs';have hx:j[i]? = some B:=by have:=du (·[0]?) er;simpa using this
   have hy:ys[i]? = some v:=by have:=du (·[0]?) c;simpa using this
   have er':j.toList.drop (i+1)=us':=by rw[<- uD,er];rfl
   have es':ys.toList.drop (i+1)=vs':=by rw[<- uD,c];rfl
   obtain⟨od,ed1,ed2,Q,hdr⟩:=id hd;refine tW F.entry_dict_update_loop ?_;rw[qc F.plain_dict_update_loop _];unfold Builtin.«dict.update.loop»;show wpAny _ A.in1 (pyNext (.ref z) >>= _) _ _ s;refine ac (D5 p y Q H M hx hy λW T za g hTd D=>?_);have kp1:∀b o,u.get? b=some o->W.get? b=some o:=λb o e=>D b o (λm=>P b o e (by simp only[aL,cZ,cY]at m ⊢;grind)) (C b o e);have hd1:W.DictOf t d f:=⟨od,ed1,ed2,D _ _ dz Q,hdr⟩;show wpAny _ A.in1 (holding [Value.ref T] _ >>= _) _ _ _;apply ac;apply fR;apply ac;apply A2;unfold zc;refine ac (lV (T:="tuple") ⟨_,g,rfl⟩ ?_);rw[af (by decide)];refine ac (jf (show W.get? T=some _ from g) rfl (aq ?_));show wpAny _ A.in1 (holding [B,v] (dictSet d B v)) _ _ _;refine fR ?_;refine wpAny_dictSet_pairs (s:={ s with heap:=W }) hk hd1 (λh2 G V=>?_) (by simp at Z;lia);have hnk:k ∉ f.map (·.1):=by intro hm;rw[i4,lh]at N;exact N.2.2 _ hm _ (by simp) rfl
   have est:stored f k v=f++[(k,v)]:=by unfold stored;rw[ah];intro E;obtain⟨x,hx1,hx2⟩:=pW.mp E;exact hnk (aZ.mpr ⟨x,hx1,aN hx2⟩)
   rw[est]at G;refine aq ⟨tT F.plain_dict_update_loop _,?_⟩;have kp2:∀b o,u.get? b=some o->h2.get? b=some o:=λb o e=>V.extBut _ _ (λq=>P b o e (by simp[q])) (kp1 b o e);have e1:f++(k,v)::n=(f++[(k,v)])++n:=by simp
   rw[e1]at N Z h;exact ih (i+1) (f++[(k,v)]) { s with heap:=h2,toks:=s.toks+1 } kp2 (za.but p V) G (er' ▸ es' ▸ hps) N Z (by simp at hi;lia) λl t' k1 k2=>h l t' k1 k2
end
section
variable{prog:Program}{w:World}{K:Type}[DecidableEq K]{t:KeyKind prog w K}{A:Around}{E:VP}{s:Shared}
theorem xB(l:s.heap.IsList n I)(e:s.heap.IsTuple q M)
  (h:∀x i a TI TO z,(∀b o,s.heap.get? b=some o->x.get? b=some o)->s.heap.objs.size≤i->i < a->a < TI->TI < TO->TO < z->x.IsListIter i n 0->x.IsTupleIter a q 0->eR x TI (.ref i) (.ref a)->eR x TO .none .none ->
   g_ x z TI TO .none (.bool false)->Q (.ref z) { s with heap:=x }):wpAny (model prog w) A (call (.type "zip") [.ref n,.ref q]) Q E s:=by
 refine callType_new F.called_zip (by decide) (F.typeCall_zip_2 _ _) (F.newCall_zip_2 _ _) (λj=>F.args_object_init_3 j _ _) F.entry_zip_new (D1 n q I M) ⟨l,e,λx i a TI TO z k c m r t p v d u g f=>?_⟩;show _/\_;exact⟨⟨_,f,rfl⟩,h x i a TI TO z k c m r t p v d u g f⟩
theorem sK{k:Heap}(hh:A.handled=none)(k0:∀b o,k.get? b=some o->s.heap.get? b=some o)(H:k.IsList l1 xs)(S:k.IsTuple l2 ys)
  (i:k.objs.size≤I) (D:I < M) (G:M < TI) (P:TI < TO) (j:TO < z) (b1:s.heap.IsListIter I l1 0) (b2:s.heap.IsTupleIter M l2 0) (b3:eR s.heap TI (.ref I) (.ref M)) (b4:eR s.heap TO .none .none) (y:g_ s.heap z TI TO .none (.bool false))
  (hp:ZipsAt t xs.toList ys.toList C) (hn:(C.map (·.1)).Nodup) (hz:C.length≤sizeLine) (hi:C.length=xs.size)
  (h:∀d X,(∀b o,k.get? b=some o->d.get? b=some o)->d.DictOf t s.heap.objs.size C->Q (.ref s.heap.objs.size) { s with heap:=d,toks:=X }) :
  wpAny (model prog w) A (call (.type "dict") [.ref z]) Q E s:=by
 have fresh:(s.heap.push { cls:=.type "dict",data:=.dict #[] }).DictOf t s.heap.objs.size []:=.new s.heap;have u:∀b o,s.heap.get? b=some o->(s.heap.push { cls:=.type "dict",data:=.dict #[] }).get? b=some o:=λb o=>aW _;have q:z < s.heap.objs.size:=aD y;have K:=A4 (prog:=prog) (w:=w) (A:=A.in1) (E:=E) (s:=s) (Value.ref z) (Q₁:=λx z=>x=.ref s.heap.objs.size/\z={ s with heap:=s.heap.push { cls:=.type "dict",data:=.dict #[] } }) ⟨rfl,rfl⟩;apply A0 zq (zu (.ref z)) zr K;rintro _ _ ⟨e,e'⟩;subst e e';generalize s.heap.push { cls:=.type "dict",data:=.dict #[] }=h1 at fresh u;refine⟨fresh.typeIs,zt (.ref s.heap.objs.size) (.ref z),?_⟩;unfold Builtin.«dict.__init__» ze;apply ac;apply ac;apply DE fresh.typeIs;apply aq;show wpAny _ _ (pG "dict.__init__" s.heap.objs.size (.ref z) [] .none) _ _ _;unfold pG;refine ac (lV (T:="zip") ⟨_,u _ _ y,rfl⟩ ?_);rw[af (by decide)];refine ac (Co (u _ _ y) hh λh2 tk k2=>?_);rw[af (by rfl)];refine ac (qA ?_);have g:∀b o,s.heap.get? b=some o->h2.get? b=some o:=λb o e=>k2 b o (u b o e);have R:h2.DictOf t s.heap.objs.size []:=by obtain⟨o,c,ep,ho,r⟩:=fresh;exact⟨o,c,ep,k2 _ _ ho,r⟩
 refine ac (wpAny_pyIter_zip (z:=z) (TI:=TI) (TO:=TO) (f0:=.none) (g _ _ y) ?_);refine aq ⟨tT F.plain_dict_update_loop _,?_⟩;have V:l1 < k.objs.size:=by obtain⟨o,e,_⟩:=H;exact aD e
 have W:l2 < k.objs.size:=by obtain⟨o,e,_⟩:=S;exact aD e
 have f:∀{a b n:Nat},a < b->b < n->a < n:=λh d=>lb h d;have N:=f D G;have v:=f N P;have L:=f v j;have Z:=f L q;have c5:=f G P;have c6:=f c5 j;have c7:=f c6 q;have c8:=f P j;have c9:=f c8 q;have ca:=f j q;have low:∀{l n:Nat},l < k.objs.size->k.objs.size≤n->l≠n:=λh d=>bf (bJ h d);have ge:∀n ∈ [s.heap.objs.size,z,TI,TO,I,M],k.objs.size≤n:=λn B=>by
  simp only[aL,cZ,cY]at B;rcases B with rfl|rfl|rfl|rfl|rfl|rfl
  .exact aA i (eZ Z)
  .exact aA i (eZ L)
  .exact aA i (eZ N)
  .exact aA i (eZ v)
  .exact i
  .exact aA i (eZ D)
 have p:ZAp s.heap.objs.size z TI TO I M l1 l2:=by refine⟨?_,λm=>low V (ge _ m) rfl,λm=>low W (ge _ m) rfl⟩;simp only[bW,aL,cZ,cY,lg,pV,not_false_eq_true,and_true];exact⟨⟨bU q,bU c9,bU ca,bU Z,bU c7⟩,⟨bU c8,bU j,bU L,bU c6⟩,⟨bf P,bU N,bU G⟩,⟨bU v,bU c5⟩,bf D⟩
 refine yY (A:=A.in1) (t:=t) (u:=k) hh p (λn B=>?_) H S C 0 [] _ (λb o e=>g b o (k0 b o e)) ⟨g _ _ b3,?_,?_,.inl ⟨rfl,g _ _ y,g _ _ b4⟩⟩ R (by simpa using hp) (by simpa using hn) (by simpa using hz) (by lia) λd X q1 q2=>?_
 .cases e:k.get? n with
  |none=>rfl
  |some o=>exact absurd rfl (low (aD e) (ge n B))
 .obtain⟨o,e,r⟩:=b1;exact⟨o,g _ _ e,r⟩
 .obtain⟨o,e,r⟩:=b2;exact⟨o,g _ _ e,r⟩
 .exact⟨rfl,h d X q1 q2⟩
end
end PySem
set_option tactic.hygienic true
namespace Ev
open PySem PySem.Spec PyProof.Rows L2
@[simp] def yW(fa fb:EV)(L:Lc)(S:Y):xL:=bQ (fa L S) λx a=>bQ (fb L a) λy h=>match x,y with
 | .lst k,.tup v=>match dL k with
  |some B=>if (B.Nodup/\few k=true/\B.length≤v.length) then some (.ref h.length,h++[.dct B ((v.take B.length).map .p)]) else none
  |none=>none
 |_,_=>none
theorem Bk:∀{B:List cg}{s i:LV}{x:List V},bc (B.map kV) s->bc x i->B.length≤x.length->ZipsAt (cq g w) s i (B.zip i)/\L2.KV (B.zip x) (B.zip i)
 | [],_,i,x,h,_,_=>by cases h;exact⟨.nil,.nil⟩
 |k::B,_,_,[],h,_,l=>absurd l (by simp)
 |k::B,_,_,y::x,h,e,l=>by
  cases h with
  |cons r t=>
   cases e with
   |cons n f=>obtain⟨a,b⟩:=Bk (g:=g) (w:=w) t f (by simpa using l);exact⟨.cons (oW r) a,.cons ⟨rfl,n⟩ b⟩
theorem nV:∀{xs:List L}{ys:List n},xs.length≤ys.length->(xs.zip ys).map (·.1)=xs/\(xs.zip ys).map (·.2)=ys.take xs.length
 | [],ys,_=>by simp
 |x::xs,[],h=>absurd h (by simp)
 |x::xs,y::ys,h=>by obtain⟨a,b⟩:=nV (xs:=xs) (ys:=ys) (by simpa using h);simp[a,b]
section
variable{X:Cx}{a b:Expr}{fa fb:EV}{p G N v:Pos}
theorem KH(hc:X.c=true)(gd:Gl X "dict")(md:X.g "dict"=none)(gz:Gl X "zip")(mz:X.g "zip"=none)(ha:PE X a (tV X.K fa))(hb:PE X b (tV X.K fb))(hs:starEach [a,b] X.e=[(false,eval a X.e),(false,eval b X.e)])(W:starEach [b] X.e=[(false,eval b X.e)])(hz:bootBuiltins "zip"=some (.type "zip")) :
  PE X (.Call (.Name "dict" p) [.Call (.Name "zip" G) [a,b] [] v] [] N) (tE X.K (yW fa fb)):=by
 intro pins s J H Q I ⟨F,m,L,S,d,S',r,l,q,k⟩;obtain⟨x,S1,e1,q⟩:=aj q;obtain⟨y,S2,e2,q⟩:=aj q;have hh:X.A.handled=none:=I.o.hd hc;refine jg (j7 I gd md zY ?_ (by decide) (by decide));refine jO (dI ?_) rfl rfl;refine jg (j7 I gz mz hz ?_ (by decide) (by decide));refine jO ?_ (by rw [hs,W]) (by rw [W];rfl);rw [hs];refine dI (cN (ha pins s J H (fun h g=>∃n P,Stp F m H n P g/\Rel X.K n g P S1/\RP X.K n g x h) I ⟨F,m,L,S,x,S1,r,l,e1,fun h n P g s1 r1 p1=>⟨n,P,s1,r1,p1⟩⟩) fun u s1 ⟨h,g,I1,ru,n,P,st1,r1,p1⟩=>
  dI (cN (hb pins s1 J g (λh C=>∃f D,Stp n P g f D C/\Rel X.K f C D S2/\RP X.K f C y h) I1 ⟨n,P,L,S1,y,S2,r1,l.mono st1,e2,λh f D C E r2 G=>⟨f,D,E,r2,G⟩⟩) λu2 E ⟨v2,C,M,ru2,f,D,st2,r2,G⟩=>gN ?_))
 cases x with
 |lst ks=>
  cases y with
  |tup vs=>
   dsimp only at q;cases ek:dL ks with
   |none=>rw[ek]at q;cases q
   |some B=>
    rw[ek]at q;dsimp only at q;split at q
    .rename_i c;cases q;obtain⟨ax,xs,rfl,hq,rp⟩:=RP.mono st2 p1;obtain⟨ay,ys,rfl,ta,rq⟩:=G;cases (show u=Value.ref ax from ru);cases (show u2=Value.ref ay from ru2);obtain⟨z1,Z,n1,rx,V,ex⟩:=M.lstM hq.2;obtain⟨i,ry,ity,hzy⟩:=M.tuple ta.sq;have exs:=jB ek rp;subst exs;have K:B.length≤ys.length:=by rw[<- rq.length];exact c.2.2
     obtain⟨za,zk⟩:=Bk (g:=X.p) (w:=X.w) rx ry K;have hl2:B.length≤i.length:=by rw[<- ry.length];exact K
     obtain⟨zf1,zf2⟩:=nV (xs:=B) (ys:=ys) K;obtain⟨A,_⟩:=nV (xs:=B) (ys:=i) hl2;have R:(B.zip i).length=Z.toArray.size:=by have:=du mL A;rw[aU]at this;rw[this,bg,<- V,aU]
     have hkz:(B.zip i).length≤sizeLine:=by rw[R,bg,<- V];exact z1
     have T:E.heap.IsList ax Z.toArray:=⟨_,ex,rfl,n1,rfl⟩;refine xB T ity λe i1 i2 TI TO z k0 a1 a2 a3 a4 a5 b1 b2 b3 b4 b5=>gN ?_;refine sK (t:=cq X.p X.w) (s:={ E with heap:=e }) (k:=E.heap) hh k0 T ity a1 a2 a3 a4 a5 b1 b2 b3 b4 b5 (by simpa using za) (by rw[A];exact c.1) hkz R λh'' t' k1 dd=>?_;have j:E.heap.objs.size≤e.objs.size:=eZ (jR a1 (lb a2 (lb a3 (lb a4 (lb a5 (aD b5))))));have hf:C e.objs.size=none:=M.h.fresh j;have hsm:(e.objs.size == sysModules)=false:=by have:=M.big;simp only[iY];exact bU (bJ this j)
     have hkv:(B.zip ys).length≤sizeLine:=by have e1:=du mL zf1;have e2:=du mL A;rw[aU]at e1 e2;lia
     have I3:=M.laid (a:=e.objs.size) (o:=.dK (B.zip ys)) (t':=t') k1 j ⟨hkv,hsm,_,zk,dd⟩;refine⟨.ref e.objs.size,_,I3,rfl,k (.ref e.objs.size) f (D++[e.objs.size]) _ (st1.trans (st2.trans (dX hf))) (r2.own hf ⟨_,aM,zf1,?_⟩) ⟨e.objs.size,rfl,?_⟩⟩
     .rw [zf2,uC];exact(dh.mono (dX hf) (dh.ofP rq)).take _
     .rw [<- r2.len,b_ (ak _)];simp
    .cases q
  |_=>cases q
 |_=>cases y<;>cases q
end
end Ev
namespace Ev
open PySem PySem.Spec PyProof.Rows L2
noncomputable def RF:P->Bool
 | .tup _=>true
 |_=>false
def eU(k:P):Bool:=RF k && (cK 8 k && Nk.kd (pd k))
noncomputable def wM(d:D)(S:Y):Option (Nat×List P×List D):=match d with
 | .ref i=>match S[i]? with
  |some (.dtn k v)=>some (i,k,v)
  |_=>none
 |_=>none
theorem BO(h:wM d S=some (i,k,q)):d=.ref i/\S[i]? = some (.dtn k q):=by
 unfold wM at h;split at h
 .split at h
  .cases h;exact⟨rfl,by assumption⟩
  .cases h
 .cases h
def nq(k:P)(s:List P):Bool:=s.any λq=>dO (pd q) (pd k)
def P'(d c:D)(S:Y):Option Bool:=match d,wM c S with
 | .p k,some (_,s,_)=>if (eU k && s.all eU)=true then some (nq k s) else none
 |_,_=>none
def lA(d c:D)(S:Y):Option P:=(P' d c S).map λb=>.bl (!b)
section
variable{X:Cx}{f:PN}{J:L2.St}{H:Hp}{s:Shared}{F:Aa}
theorem vw(I:Inv X f J H s)(g:eU k=true)(r:RP X.K F H k y):wg s.heap (pd k) y:=by
 unfold eU at g;simp only[av]at g;obtain⟨t,o,h⟩:=g;cases k with
 |tup e=>obtain⟨b,z,rfl,x⟩:=r;obtain⟨a,d⟩:=iF I 8 (p:=.tup e) (v:=.ref b) (u:=.ref b) ⟨b,z,rfl,x⟩ rfl o;exact⟨b,rfl,h,(fq 8 _ o).2,a,d⟩
 |_=>cases t
theorem vu(I:Inv X f J H s):∀{v:List (PyData×V×V)}{h:List P},h.all eU=true->v.map (·.1)=jy h->cf X.K F H h (v.map (·.2.1))->∀p ∈ v,wg s.heap p.1 p.2.1
 | [],_,_,_,_,_,a=>nomatch a
 |q::v,h,g,e,r,p,a=>by
  cases h with
  |nil=>cases r
  |cons k h=>
   rw[dv,av]at g;rw[aC,jy]at e;injection e with n b;obtain⟨x,w,c,m,t⟩:=r;injection c with z d;subst z d;rcases aL.mp a with rfl|a
   .rw [n];exact vw I g.1 m
   .exact vu I g.2 b t p a
theorem nr(g:eU k=true):Nk.kd (pd k)=true:=by unfold eU at g;simp only[av]at g;exact g.2.2
theorem yO(g:eU k=true):∀{kvs:List (PyData×V×V)}{ks:List P},ks.all eU=true->kvs.map (·.1)=jy ks->yP kvs (pd k)=nq k ks
 | [],ks,_,e=>by
  cases ks with
  |nil=>rfl
  |cons _ _=>cases e
 |q::kvs,ks,h,e=>by
  cases ks with
  |nil=>cases e
  |cons p ks=>rw[dv,av]at h;rw[aC,jy]at e;injection e with e1 e2;have ih:=yO g h.2 e2;unfold yP nq at ih ⊢;rw[cT,cT,ih,e1];congr 1;rw[jX,Nk.eqv_kd _ _ (nr h.1) (nr g),decide_eq_true_iff]
theorem Ml(h:P' d c S=some b):∃k i s v,d=.p k/\wM c S=some (i,s,v)/\eU k=true/\s.all eU=true/\b=nq k s:=by
 unfold P' at h;split at h
 .split at h
  .rename_i e x;rw[av]at x;cases h;exact⟨_,_,_,_,rfl,e,x.1,x.2,rfl⟩
  .cases h
 .cases h
end
section
variable{X:Cx}
theorem Fh(G:X.A.units+64 < cLine):je X (compareOp .NotIn) (rE X.K lA):=by
 intro f s J H x y v u Q I D E h;obtain⟨F,m,S,d,e,r,C,P,A,q,k⟩:=h;unfold lA at q;obtain⟨b,j,rfl⟩:=eA.mp q;obtain⟨z,i,L,N,rfl,o,g,c,rfl⟩:=Ml j;obtain⟨rfl,p⟩:=BO o;obtain⟨a,rfl,l⟩:=A;obtain⟨K,w,n,B,_⟩:=C.obj i a _ l p;cases E;refine IP (by lia) I w (vu I c n B) (vw I g P) D λM t=>⟨.bl _,H,t,rfl,?_⟩
 rw[yO g c n];exact k _ F H .refl rfl
end
section
variable{X:Cx}{B C:Pos}{o i n:Expr}{G:EE}{M N:EV}{j l z:TE}
def N8(X:Cx)(j l z:TE):TS:=λD J H=>z J H λv e=>j J e λx n=>l J n λy h=>∃a k d,x=.ref a/\h a=some (.dN k)/\(∀f s,Inv X f J h s->wg s.heap d y/\∀p ∈ k,wg s.heap p.1 p.2.1)/\yP k d=false/\k.length < sizeLine/\D.nx J (b7 h a (.dN (k++[(d,y,v)])))
theorem Iq(E:X.A.units+9 < cLine)(P:PE X o j)(F:PE X i l)(G:PE X n z)(A:swapsWith n (some (.Subscript o i C)) B.line X.e=pure false):PS X (.Assign [.Subscript o i C] n B) (N8 X j l z):=by intro f s J H D I h;refine DH (cN (G f s J H _ I h) λr s1 ⟨v,b,m,V,Q⟩=>cN (P f s1 J b _ m Q) λu s2 ⟨x,c,t,W,R⟩=>cN (F f s2 J c _ t R) λiv s3 L=>?_) A;obtain⟨y,H3,k,Z,a,M,d,q,e,g,N,K,T⟩:=L;subst q;obtain rfl:u=Value.ref a:=W;obtain⟨w,S⟩:=g f s3 k;exact OI E k e S w Z V N K λs4 p=>⟨J,_,p,T⟩
def Bz(o:EE)(k v:EV):ES:=λL S=>bQ (v L S) λy x=>bQ (o L x) λd a=>bQ (k L a) λe h=>match wM d h with
 |some (i,s,n)=>if (eU e && (s.all eU && (few s && !nq e s)))=true then some (.nx,L,h.set i (.dtn (s++[e]) (n++[.p y]))) else none
 |none=>none
theorem wL(k:P):∀s:List P,jy (s++[k])=jy s++[pd k]
 | []=>rfl
 |x::s=>by rw[pX,jy,jy,wL k s,pX]
theorem Nh(hu:X.A.units+9 < cLine)(ho:PE X o (tE X.K G))(hk:PE X i (tV X.K M))(hv:PE X n (tV X.K N))(hs:swapsWith n (some (.Subscript o i C)) B.line X.e=pure false) :
  PS X (.Assign [.Subscript o i C] n B) (kJ X.K (Bz G M N)):=(Iq hu ho hk hv hs).imp' λD J H hz=>by
 obtain⟨F,m,L,S,fl,L',S',r,l,q,k⟩:=hz;obtain⟨y,V,e1,q⟩:=aj q;obtain⟨d,W,e2,q⟩:=aj q;obtain⟨e,Z,e3,q⟩:=aj q;refine⟨F,m,L,S,y,V,r,l,e1,λv Q m1 H1 b r1 p1=>?_⟩;refine⟨Q,m1,L,V,d,W,r1,l.mono b,e2,λx F2 m2 H2 c r2 p2=>?_⟩;refine⟨F2,m2,L,W,e,Z,r2,(l.mono b).mono c,e3,λP R m3 T p A p3=>?_⟩;cases u:wM d Z with
 |none=>rw[u]at q;cases q
 |some t=>
  obtain⟨j,ks,vs⟩:=t;rw[u]at q;dsimp only at q;split at q
  .rename_i hc;simp only[av,mS]at hc;obtain⟨g1,g2,g3,g4⟩:=hc;cases q;obtain⟨rfl,g⟩:=BO u;obtain⟨a,rfl,K⟩:=RD.mono p p2;obtain⟨h,hH,w,E,rs⟩:=A.obj j a _ K g;have nt:∀zs,T a≠some (.tup zs):=λzs z=>by rw[hH]at z;cases z
   have st:=f8 (o:=.dN (h++[(pd e,P,v)])) A K g trivial nt;have pv:=RD.mono st (RD.mono p (RD.mono c (show RD X.K Q H1 m1 (.p y) v from p1)));have pk:RP X.K R (b7 T a (.dN (h++[(pd e,P,v)]))) e P:=RP.kp st.kp p3;have hl:h.length < sizeLine:=by have h9:ks.length≤1000000:=aN g3;have h8:=E.length;rw[aU]at h8;exact jR (by lia) (show(1000000:Nat) < sizeLine by decide)
   refine⟨a,h,pd e,rfl,hH,λf s I=>⟨vw I g1 p3,vu I g2 w E⟩,(yO g1 g2 w).trans g4,hl,?_⟩;refine k J R m3 _ (b.trans (c.trans (p.trans st))) (A.set K g trivial nt ⟨_,aM,?_,?_,?_⟩) ((((l.mono b).mono c).mono p).mono st)
   .rw [i4,w,wL];rfl
   .rw [i4];exact cf.append (cf.kp st.kp E) ⟨_,_,rfl,pk,rfl⟩
   .rw [i4];exact dh.append (dh.mono st rs) ⟨_,_,rfl,pv,rfl⟩
  .cases q
end
def M4(x c:P):Option Bool:=match c with
 | .lst s=>if (s.all (cK 19) && cK 19 x)=true then some (s.any λy=>dO (pd y) (pd x)) else none
 | .tup s=>if (s.all (cK 19) && cK 19 x)=true then some (s.any λy=>dO (pd y) (pd x)) else none
 |_=>none
def J8(d c:D)(S:Y):Option Bool:=(f_ S 9 d).bind λx=>(f_ S 9 c).bind λy=>M4 x y
def kS(d c:D)(S:Y):Option P:=(kx c S).elim ((J8 d c S).map .bl) λ_=>Mo d c S
def oG(d c:D)(S:Y):Option P:=(J8 d c S).map λb=>.bl (!b)
section
variable{X:Cx}{f:PN}{J:L2.St}{H:Hp}{s:Shared}{F:Aa}{m:List Addr}{S:Y}{d e:D}{x y:V}{v u:Value}{b:Bool}{Q:VK}
theorem FV(A:X.A.units+64 < cLine)(I:Inv X f J H s)(i:RelV x v)(j:RelV y u)(p:Rel X.K F H m S)(w:RD X.K F H m d x)(g:RD X.K F H m e y)(q:J8 d e S=some b) :
  (Q (.bl b) H->wx X (compareOp .In v u) (EP X f J Q) X.xe s)/\(Q (.bl (!b)) H->wx X (compareOp .NotIn v u) (EP X f J Q) X.xe s):=by
 unfold J8 at q;cases c:f_ S 9 d with
 |none=>rw[c]at q;cases q
 |some B=>
  rw[c]at q;cases t:f_ S 9 e with
  |none=>rw[t]at q;cases q
  |some K=>
   rw[t]at q;simp only[mD]at q;cases K with
   |lst P=>
    simp only[M4]at q;split at q
    .rename_i h;rw[av]at h;cases q;obtain⟨z,r⟩:=d5 I p 9 20 g j t (by simpa[cK] using h.1);obtain⟨o,n⟩:=d5 I p 9 19 w i c h.2;have l:=Fk h.1;have a:=fq 19 _ h.2;rw[pd]at r;exact⟨λk=>SeqAt.in_list_reads r n l.1 a.1 (by lia) ⟨.bl _,H,I,rfl,by rw[na];exact k⟩,λk=>SeqAt.notIn_list_reads r n l.1 a.1 (by lia) ⟨.bl _,H,I,rfl,by rw[na];exact k⟩⟩
    .cases q
   |tup P=>
    simp only[M4]at q;split at q
    .rename_i h;rw[av]at h;cases q;obtain⟨z,r⟩:=d5 I p 9 20 g j t (by simpa[cK] using h.1);obtain⟨o,n⟩:=d5 I p 9 19 w i c h.2;have l:=Fk h.1;have a:=fq 19 _ h.2;rw[pd]at r;exact⟨λk=>SeqAt.in_tuple_reads r n l.1 a.1 (by lia) ⟨.bl _,H,I,rfl,by rw[na];exact k⟩,λk=>SeqAt.notIn_tuple_reads r n l.1 a.1 (by lia) ⟨.bl _,H,I,rfl,by rw[na];exact k⟩⟩
    .cases q
   |_=>cases q
end
section
variable{X:Cx}
theorem Oz(n:X.A.units+64 < cLine):je X (compareOp .In) (rE X.K kS):=by
 intro f s J H x y v u Q I t w h;obtain⟨F,m,S,d,e,r,l,p,c,q,k⟩:=h;unfold kS at q;cases a:kx e S with
 |some i=>rw[a]at q;exact Oy n f s J H x y v u Q I t w ⟨F,m,S,d,e,r,l,p,c,q,k⟩
 |none=>rw[a]at q;obtain⟨b,g,rfl⟩:=eA.mp (show(J8 d e S).map P.bl=some r from q);exact(FV n I t w l p c g).1 (k _ F H .refl rfl)
theorem Fi(n:X.A.units+64 < cLine):je X (compareOp .NotIn) (rE X.K oG):=by intro f s J H x y v u Q I t w h;obtain⟨F,m,S,d,e,r,l,p,c,q,k⟩:=h;unfold oG at q;obtain⟨b,a,rfl⟩:=eA.mp q;exact(FV n I t w l p c a).2 (k _ F H .refl rfl)
end
section
variable{X:Cx}{B:Pos}{a b c:Expr}{r:EB}{t I:EE}{L T:EV}
end
end Ev
namespace L2
open PySem PySem.Spec PyProof.Rows
end L2
namespace Ev
open PySem PySem.Spec PyProof.Rows L2
section
variable{X:Cx}{a:Expr}{t:EE}{p B:Pos}
noncomputable def w9(T:String)(d:D)(S:Y):Option Bool:=match d with
 | .p (.bl _)=>if T="bool" then some true else none
 | .ref i=>(match S[i]? with
  |some (.lst _)=>if T="list" then some true else none
  |_=>none)
 |_=>none
@[simp] def wy(T:String)(f:EE)(L:Lc)(S:Y):tyV:=bQ (f L S) λd h=>(w9 T d h).map λb=>(.bl b,h)
theorem Dq(T:k="list"\/k="bool"):dG X (.builtin "isinstance") (λl H Q=>∃F m S d b x,l=[x,.ty k]/\Rel X.K F H m S/\RD X.K F H m d x/\w9 k d S=some b/\Q (.bl b) H):=by
 intro f s J H l R Q I r ⟨F,m,S,d,b,x,e,G,pd,i,q⟩;subst e;obtain⟨u,L,rfl,y,g⟩:=vals2 r;cases (show L=Value.type k from g);have t:∀K,EP X f J Q (.bool b) { s with toks:=K }:=λK=>⟨.bl b,H,I.tok _,rfl,q⟩
 unfold w9 at i;cases d with
 |p w=>
  cases w with
  |bl c=>
   dsimp only at i;split at i
   .rename_i h;subst h;cases i;cases (show x=.bl c from pd);cases (show u=Value.bool c from y);exact DR PySem.W.kitx_bool I.kIn True.intro rfl (λz=>nomatch z) t
   .cases i
  |_=>cases i
 |ref j=>
  obtain⟨a,rfl,C⟩:=pd;dsimp only at i;cases v:S[j]? with
  |none=>rw[v]at i;cases i
  |some o=>
   rw[v]at i;cases o with
   |lst M=>
    dsimp only at i;split at i
    .rename_i h;subst h;cases i;obtain⟨l,B,N⟩:=G.obj j a _ C v;cases y;obtain⟨D,_,E,_⟩:=I.list (iT.of B);obtain⟨o,n,P,A,_⟩:=E;exact DR PySem.W.kitx_list I.kIn ⟨o,P,A⟩ rfl (λz=>nomatch z) t
    .cases i
   |_=>cases i
theorem JI(T:h="list"\/h="bool")(K:Gl X "isinstance")(P:X.g "isinstance"=none)(e:Gl X g)(n:X.g g=none)(o:bootBuiltins g=some (.type h))(z:PE X a (tE X.K t))
  (A:g≠"__name__") (hd:(g == ("__debug__":Str))=false) (c:starEach [a,.Name g p2] X.e=[(false,eval a X.e),(false,eval (.Name g p2) X.e)]):PE X (.Call (.Name "isinstance" p) [a,.Name g p2] [] B) (tV X.K (wy h t)):=
 (m_ (Dq T) K P Hv (fm z (fm (IG (v:=.ty h) e n o rfl A hd) iH rfl) (by rw[c];rfl)) (by decide) (by decide) (by rw[c];rfl) rfl).imp' λJ H Q C=>by obtain⟨F,m,L,S,d,E,r,l,q,k⟩:=C;obtain⟨x,G,j,q⟩:=aj q;obtain⟨b,y,q⟩:=eA.mp q;cases q;exact⟨F,m,L,S,_,_,r,l,j,λv f w i s u D=>⟨f,w,_,x,b,v,rfl,u,D,y,k _ f w i s u rfl⟩⟩
end
end Ev
namespace PySem
open PySem PyProof.Rows
section
variable{prog:Program}{w:World}{A:Around}{E:VP}{s:Shared}
theorem Dg(u:A.handled=none)(n t:Addr)(k:t≠n)(m:Array Value):Draws prog w A n [n,t] m.size (λi v=>m[i]? = some v) (λi h=>h.IsTupleIter n t i/\h.IsTuple t m) where
 live:=λ_ _ st=>by obtain⟨⟨o,g,_⟩,_⟩:=st;exact⟨o,g⟩
 frame:=λ_ _ _ st hk=>⟨st.1.at λo e=>hk n (by simp) o e,st.2.at λo e=>hk t (by simp) o e⟩
 item:=λi s Q E f st d=>by obtain⟨a,b⟩:=st;exact qS a b (x:=m[i]) (by simp[f]) λp c r=>d _ p s.toks (by simp[f]) ⟨c,b.extBut r.extBut k⟩ r
 done:=λs Q E st q=>by obtain⟨a,b⟩:=st;exact mZ u a b (by simp) q
theorem Dh(a:A.handled=none)(f:g[k]? = none):Draws prog w A it [it,q] k (λ_ _=>True) (λj h=>j=k/\h.IsTupleIter it q k/\h.IsTuple q g) where
 live:=λ_ _ st=>by obtain⟨_,⟨o,b,_⟩,_⟩:=st;exact⟨o,b⟩
 frame:=λ_ _ _ st hk=>⟨st.1,st.2.1.at λo e=>hk it (by simp) o e,st.2.2.at λo e=>hk q (by simp) o e⟩
 item:=λi s Q E n st _=>absurd st.1 (bf n)
 done:=λs Q E st x=>mZ a st.2.1 st.2.2 f x
theorem uZ{h:Heap}(t:h.IsTuple k q)(e:h.IsTupleIter g k i):k≠g:=λz=>by subst z;obtain⟨o,s,a,_⟩:=t;obtain⟨n,x,c,_⟩:=e;rw[s]at x;cases x;rw[a]at c;simp at c
theorem u0{i:Int}(t:h.IsTuple k q)(s:IsEnum h e g i x):e≠k:=λz=>by subst z;obtain⟨o,a,c,_⟩:=t;rw[show h.get? e=_ from s]at a;cases a;simp at c
theorem Dd (t:Addr) (r:Array Value):Meets (Builtin.«enumerate.__new__» ⟨[.type "enumerate",.ref t],[]⟩) (fun _ R s=>s.heap.IsTuple t r /\
  ∀a,IsEnum a (s.heap.objs.size+1) s.heap.objs.size 0 .none->a.IsTupleIter s.heap.objs.size t 0->a.objs.size=s.heap.objs.size+2->(∀b o,s.heap.get? b=some o->a.get? b=some o)->R (.ok (.ret (.ref (s.heap.objs.size+1)))) { s with heap:=a }):=
 .of_wp λprog w A R s h=>by
  obtain⟨p,g,d,H,os⟩:=s;obtain⟨m,h⟩:=h;have u:=sub_enumerate;obtain⟨⟨S,i,j,y⟩,l,e,n,hd⟩:=id m;dsimp only at e hd;subst e hd;have T:Ag (Shared.heap ⟨p,g,d,H,os⟩) t r:=m
  wp_walk using t5 l
  let k:Obj:={ cls:=.type "tuple_iterator",data:=.fields #[.ref t,.int 0 0] }
  let v:Obj:={ cls:=.type "enumerate",data:=.fields #[.none,.bool false,.ref p.objs.size,rawInt 0,.none,.none] }
  have z:(p.push k).objs.size=p.objs.size+1:=mI ..;have q:IsEnum ((p.push k).push v) (p.objs.size+1) p.objs.size 0 .none:=by rw[<- z];exact bx _ rfl
  have f:=h _ q ⟨_,aW _ (bx _ rfl),rfl,rfl⟩ ((mI ..).trans (by rw[z])) λb o x=>aW _ (aW _ x);rw[show Array.size p.objs+1=(p.push k).objs.size from z.symm]at f;apply wpAny_stack_any;intro st;apply aq;split
  .rename_i c _ _ _ _ _;rcases c == Value.type "enumerate" with _|_;all_goals
    wp_walk using t5 l,tZ T
    exact⟨_,rfl,f⟩
  .wp_walk using t5 l,tZ T
   exact⟨_,rfl,f⟩
theorem y6(t:s.heap.IsTuple k q)
  (h:∀x,IsEnum x (s.heap.objs.size+1) s.heap.objs.size 0 .none->x.IsTupleIter s.heap.objs.size k 0->x.objs.size=s.heap.objs.size+2->(∀b o,s.heap.get? b=some o->x.get? b=some o)->Q (.ref (s.heap.objs.size+1)) { s with heap:=x }) :
  wpAny (model prog w) A (call (.type "enumerate") [.ref k]) Q E s:=callType_new F.called_enumerate (by decide) (F.typeCall_enumerate_1 _) (F.newCall_enumerate_1 _) (λj=>F.args_object_init_2 j _) F.entry_enumerate_new (Dd k q) ⟨t,λx e i z hk=>⟨⟨_,e,rfl⟩,h x e i z hk⟩⟩
end
end PySem
namespace Ev
open PySem PySem.Spec PyProof.Rows L2
section
variable{X:Cx}{B:Pos}
def PP(K:FG)(a:Addr):It:=
 ⟨λi H=>∃s x,nQ K H a s/\s[i]? = some x,λi H x h=>∃p y,x=.ref p/\H p=none/\h=b7 H p (.tup [.int i,y])/\∀s,nQ K H a s->s[i]? = some y,λi H=>∃s,nQ K H a s/\s.length≤i⟩
theorem yg{P:Program}{w:World}{K:FG}{es:Ab}{n:Nat}(a e g:Addr)(Q:e≠g):Turn P w K (.Tuple es n B) (PP K a) [e,g] e (λi h=>(∃l,IsEnum h e g i l)/\h.IsTupleIter g a i) where
 mem:=by simp
 obj:=λi h st b y=>by
  obtain⟨⟨l,C⟩,⟨o,ho,c,d⟩⟩:=st;have:b=e\/b=g:=by simpa using y
  rcases this with rfl|rfl
  .exact⟨_,C,λv z=>by have z':Data.fields _=Data.cell v:=z;cases z'⟩
  .exact⟨o,ho,λv z=>by rw[d]at z;cases z⟩
 keep:=λi h h' st k=>by obtain⟨⟨l,C⟩,j⟩:=st;exact⟨⟨l,k e (by simp) _ C⟩,j.at λo q=>k g (by simp) o q⟩
 item:=by
  intro X hP hw hK p i f s J H E I hf st hg;subst hP hw hK;obtain⟨xs,x,hq,hx⟩:=hg;obtain⟨N,rv,pl,hz⟩:=I.tuple hq;obtain⟨u,hu,ru⟩:=rv.get hx;obtain⟨⟨l,C⟩,j⟩:=st;obtain⟨f0,f1,f2,f3,f4,f5⟩:=hf e (by simp);obtain⟨Z,g1,g2,g3,g4,g5⟩:=hf g (by simp);have W:s.heap.IsTuple a N.toArray:=pl;have hai:=uZ W j;have hae:=u0 W C;have D:=Dg (prog:=X.p) (w:=X.w) (A:=X.A.in1) (I.o.hd p) g a hai N.toArray;refine wpAny_pyNext_enum_itemD D C ⟨j,W⟩ (by simpa using (bB.mp hu).1) Q (by simp[Q,hae]) λu2 h1 tk V ho1 G ht1 hz1 hk1=>?_
  obtain⟨G,_⟩:=G;have hu3:u2=u:=by simp[hu]at V;exact V.symm
  subst hu3;refine⟨_,rfl,DL (s:={ s with heap:=h1,toks:=tk+1 }) ho1 λh2 he2 M=>?_⟩;replace M:eB e h1 h2:=M;have R:e < s.heap.objs.size:=aD C;have L:∀b o,b≠e->b≠g->s.heap.get? b=some o->h2.get? b=some o:=λb o b1 b2 q=>(M.2 b b1).trans (hk1 b o b1 b2 q)
  have T:h2.get? s.heap.objs.size=some { cls:=.type "tuple",data:=.seq #[.int i tk,u2] }:=(M.2 _ (bU R)).trans ht1;have F:H s.heap.objs.size=none:=I.h.fresh (ak _);have ne:∀{b:Addr}{o:HO},H b=some o->b≠e/\b≠g:=λ{b o} q=>⟨λz=>(by rw[z,f0]at q;cases q),λz=>(by rw[z,Z]at q;cases q)⟩;have S:∀b,b ∉ [e,g]->b≠e/\b≠g:=λb y=>⟨λz=>y (by simp[z]),λz=>y (by simp[z])⟩;have I':Inv X f J (b7 H s.heap.objs.size (.tup [.int i,x])) { s with heap:=h2,gens:=s.gens,drawn:=s.drawn,toks:=tk+1 }:=by
   refine I.step (ch:=[e,g]) (λb y=>?_) (λb o _ _ p q _=>L b o (S b p).1 (S b p).2 q) (λb o _ _ p q _=>⟨o.slots,L b o (S b p).1 (S b p).2 q⟩) (λb o _ q n=>?_) (λb o p q=>⟨o,L b o (S b p).1 (S b p).2 q⟩)
    (λb ys q=>?_) (λb o ys q=>?_) (λb q=>?_) (λm hm=>?_) (λb u' q=>?_) I.bare
   .have:b=e\/b=g:=by simpa using y
    rcases this with rfl|rfl
    .exact⟨f3,f1,f4,f5⟩
    .exact⟨g3,g1,g4,g5⟩
   .rw [ao (bf (aD q))];exact n
   .rw [ao (bE q F)];exact q
   .rw [ao (bE q F)];exact q
   .rw [ao (bE q F)];exact q
   .obtain⟨o,es,ep,ho,r⟩:=hm;exact⟨o,es,ep,L _ o (aP f1) (aP g1) ho,r⟩
   .by_cases y:b=s.heap.objs.size
    .subst y;rw[aM]at q;cases q;exact⟨by show 2≤sizeLine;decide,[.int i tk,u2],.cons ⟨_,rfl⟩ (.cons ru .nil),⟨_,T,⟨rfl,_,rfl⟩,rfl⟩⟩
    .rw [ao y]at q;refine(I.h b u' q).stay (λc v p z=>L c v ?_ ?_ z) (λc z=>by rw[ao (bE z F)];exact z) λc ys z=>by rw[ao (bE z F)];exact z
     .rcases p with rfl|p
      .exact (ne q).1
      .exact (ne p).1
     .rcases p with rfl|p
      .exact (ne q).2
      .exact (ne p).2
  refine⟨.ref s.heap.objs.size,_,I',rfl,⟨s.heap.objs.size,x,rfl,F,rfl,λys hy=>by rw[I.tuple_inj hy hq];exact hx⟩,⟨⟨u2,by simpa using he2⟩,G.at λo q=>(M.2 g (aP Q)).trans q⟩,λb y=>?_⟩;have hb':b=e\/b=g:=by simpa using y
  obtain⟨oi,hoi,_⟩:=id j;rcases hb' with rfl|rfl
  .rw [ao (bf R)];exact f0
  .rw [ao (bf (aD hoi))];exact Z
 done:=by intro X hP hw hK p i f s J H E I hf st hg;subst hP hw hK;obtain⟨xs,hq,hx⟩:=hg;obtain⟨N,rv,pl,hz⟩:=I.tuple hq;obtain⟨⟨l,C⟩,j⟩:=st;obtain⟨Z,g1,g2,g3,g4,g5⟩:=hf g (by simp);have hl:=rv.length;have W:s.heap.IsTuple a N.toArray:=pl;exact wpAny_pyNext_enum_endD (Dh (prog:=X.p) (w:=X.w) (A:=X.A.in1) (I.o.hd p) (it:=g) (q:=a) (g:=N.toArray) (k:=i) (by simp;lia)) C ⟨rfl,j,W⟩ λh' eb=>⟨rfl,I.turned (t':=s.toks) (λb o y e=>eb b o y e) Z g1 g3 g4 g5⟩
 self:=λ_ _ _ _ _ st h=>by obtain⟨⟨l,C⟩,_⟩:=st;exact tY C h
theorem I_{K:FG}{F:Aa}{m:List Addr}{H:Hp}{a:Addr}{c:List P}{s:List V}(w:∀h k n,Stp F m H h k n->nQ K n a s)(r:cf K F H c s):MU K (PP K a) (cy 0 c) F m H:=by
 intro h k n st;have q:=w h k n st;have l:=r.length;refine⟨λi v e=>?_,⟨s,q,by rw[eF,l];exact ak _⟩⟩;obtain⟨d,t,rfl⟩:=lB e;obtain⟨x,f,p⟩:=r.get t;refine⟨⟨s,x,q,f⟩,λz g y=>?_⟩;obtain⟨j,y,rfl,b,rfl,u⟩:=y;have:y=x:=by have:=u s q;rw[f]at this;cases this;rfl
 subst this;refine⟨h,cx b,RP.newTup b ⟨_,_,rfl,?_,_,_,rfl,RP.mono st p,rfl⟩⟩;show V.int (i:Int)=V.int (0+(i:Int));rw[cS]
@[simp] def lZ(a:EV)(L:Lc)(S:Y):Ef:=bQ (a L S) λv h=>match v with
 | .lst x=>some (cy 0 x,h)
 | .ro x=>some (cy 0 x,h)
 | .tup x=>some (cy 0 x,h)
 |_=>none
theorem Tv{es:Ab}{n:Nat}{a:Expr}{t:EV}{p c:Pos}(A:Gl X "enumerate")(D:X.g "enumerate"=none)(o:PE X a (tV X.K t))(j:starEach [a] X.e=[(false,eval a X.e)]):PI X (.Tuple es n B) (.Call (.Name "enumerate" p) [a] [] c) (tI X.K (lZ t)):=by
 intro f s J H R I ⟨F,m,L,S,Z,N,r,l,q,k⟩;obtain⟨v,Q,z,q⟩:=aj q;cases v with
 |lst i=>exact iE A D o j f s J H R I ⟨F,m,L,S,Z,N,r,l,by unfold RE;rw[z];exact q,k⟩
 |ro i=>exact iE A D o j f s J H R I ⟨F,m,L,S,Z,N,r,l,by unfold RE;rw[z];exact q,k⟩
 |tup i=>
  have hA:PA X [a] (qf X.K (ab t ar)):=GR o JC (by rw[j];rfl);refine Call_ (j7 I A D zR (jO (cN (hA c f s J H (λy x=>∃e d,Stp F m H e d x/\Rel X.K e x d Q/\cf X.K e x [.tup i] y) I ⟨F,m,L,S,[.tup i],Q,r,l,?_,λy e d x h M G=>⟨e,d,h,M,G⟩⟩) λus h ⟨y,x,w,V,e,d,st,M,G⟩=>?_) (by rw[j];rfl) rfl))
  .simp only[ab,ar,z,az]
  obtain⟨x1,rfl,px⟩:=vd G;obtain⟨u,rfl,ru⟩:=vals1 V;cases q;obtain⟨b,y,rfl,W,ra⟩:=px;have kk:=k _ e d x st M (I_ (λF2 m2 H2 s=>(W.kp s.kp).sq) ra);cases ru;obtain⟨E,V,pl,hz⟩:=w.tuple W.sq;refine y6 (show h.heap.IsTuple b E.toArray from pl) λh' T C hsz hk=>?_;refine tY T ?_;have g:∀b,h.heap.objs.size≤b->x b=none:=λb K=>w.h.fresh K;refine⟨h.heap.objs.size+1,[h.heap.objs.size+1,h.heap.objs.size],_,_,x,rfl,w.kept (t':=h.toks) hk,yg b _ _ (bU (jQ _)),⟨⟨_,T⟩,C⟩,λb K=>?_,kk⟩;have P:b=h.heap.objs.size+1\/b=h.heap.objs.size:=by simpa using K
  rcases P with rfl|rfl
  .exact w.fpOk (iX _) (g _ (iX _))
  .exact w.fpOk (ak _) (g _ (ak _))
 |_=>cases q
end
end Ev
set_option tactic.hygienic false
namespace Ev
open PySem PySem.Spec PyProof.Rows L2
section
variable{X:Cx}{M:PN}{J:L2.St}{H:Hp}{s:Shared}
set_option tactic.hygienic true in
theorem IX(G:FnOk X.p X.w X.K X.g X.b pf k fe fd ps sp)(D:Room (k+1) X.A)(V:X.g "ends_on"=some (.ref fe))(hk:dZ X.K (.ref fe)=true)(c:Binds X.K fd ps [])
  (I:Inv X M J H s) (W:s.heap.get? f=some (w1 p1 p2 p3 p4 p5 T pm c' ctv)) (S:s.heap.CodeRec (.ref c') yE) (N:s.heap.IsCell T (some g)) (Z:RelV vb g) (rv:RelV v t) (h:sp [vb,v] H Q E0) :
  wx X (call (.ref f) [t]) (EP X M J Q) X.xe s:=by
 refine qz (PySem.W.kla_callFunE (body:=vr p2 p3 p4 p5) D.depth W rfl rfl rfl rfl S ?_);rw[show bindArgs (PySem.W.kla_fn "<lambda>" yE (w4 p1) (vr p2 p3 p4 p5) pu [(Str.ofString "board",T)] pm (.ref c') ctv) ⟨[t],[]⟩=pure [(Str.ofString "standing",t)] from rfl];refine aq (Bj (show ∀x ∈ pu.names,x.2≠.cell by decide) (show ∀x ∈ [(Str.ofString "standing",t)],pu.names.lookup x.1=some .local by simp) (λa p l=>⟨I.nolimit.fresh _ l,?_⟩) rfl);have m:∀b o,s.heap.get? b=some o->a.get? b=some o:=λb o e=>l.extBut b o (bf (aD e)) (aW _ e);have y:a.IsCell T (some g):=let ⟨o,e,d⟩:=N;⟨o,m _ _ e,d⟩
 have F:a.Ns mainGlobals X.g:=I.mod.glob.keeps λb o e=>m b o (I.bk b o e);have C:X.K.In a:=I.o.mod.kin.keeps λb o e=>m b o (I.bk b o e);have R:[g,t].length=ps.length:=G.len _ _ _ _ h;refine PySem.W.kla_codeExpr (jg (uk rfl rfl (zZ F V ?_) (by decide)));refine qL (h₀:=X.b) I.o.mod.kin hk ?_ rfl rfl;show wpAny _ _ (spliced ((false,eval (.Name "board" p3) _)::(false,eval (.Name "standing" p4) _)::[])) _ _ _;refine dI (qy (Bi rfl rfl rfl y (dI (qy (xX rfl rfl p rfl (gN ⟨C,?_⟩))))));refine qz (nS (G.run _ (_::X.k) { s with heap:=a,toks:=s.toks+1 } H ⟨[g,t],[]⟩ [g,t] [vb,v] Q E0 (D.deeper _) ⟨AN I.o.frames,I.o.mod,λb o e=>⟨m b o (I.bs b o e).1,(I.bs b o e).2⟩,?_,?_,?_,λP L=>I.base.tbls P (I.o.tab P L),I.h.kept m,I.bare⟩ (c _ [g,t] C R) (.cons Z (.cons rv .nil)) h) λr s' i=>?_)
 .refine aA (aA I.o.bsz I.sz) ?_;exact eZ p.lt
 .refine .cons (show ScopeKind.function≠ScopeKind.module by decide) rfl p (Ai (aA I.o.bsz I.sz)) (I.stack.of_keeps λb o e _=>⟨o,m b o e,rfl⟩)
 .intro b c;have c:b=s.heap.objs.size\/b ∈ Db X.k:=aL.mp c;rcases c with rfl|c
  .exact I.h.fresh (ak _)
  .exact I.stkFree b c
 .cases r with
  |error e=>exact False.elim i
  |ok E=>
   cases E with
   |ret w=>
    obtain⟨v',j,os,u,un,K,B,q⟩:=i;refine I.after ⟨v',j,os,u,⟨λb o e n c _=>?_,λb o e n c _=>?_,λb o e n A=>un.free b o (m b o e) n A,λb o e A=>un.there b o (m b o e) A,un.tups,un.frzs,un.tbls⟩,K,B,q⟩
    .refine un.keep b o (m b o e) n (λz=>?_) (by simp);have z:b=s.heap.objs.size\/b ∈ Db X.k:=aL.mp z;rcases z with rfl|z
     .exact absurd (aD e) (e_ _)
     .exact c z
    .exact un.slot b o (m b o e) n (aH _ c) (by simp)
   |next=>exact False.elim i
   |brk=>exact False.elim i
   |cont=>exact False.elim i
theorem FD{E:VP}{Q:VP}{c P K:Addr}{p1 p2 p3 p4 p5:Pos}(I:Inv X M J H s)(i:X.e.code=.ref c)(C:qH X.b c P)(hP:P ∈ cw X.K)(hq:X.e.qual++Str.ofString "<lambda>"=yE)(cl:X.e.cells.lookup (Str.ofString "board")=some K)
  (k:∀f h l pm p w F j,Inv X M J j { s with heap:=w,toks:=F }->(j=b7 H f (.frz (w1 p1 p2 p3 p4 p5 K pm h p) (.own f))\/H h=none/\h≠f/\j=b7 (b7 H h (.frz l (.own P))) f (.frz (w1 p1 p2 p3 p4 p5 K pm h p) (.own f)))->H f=none->j h=some (.frz l (.own P))->yJ l->Q (.ref f) { s with heap:=w,toks:=F }) :
  wx X (eval (.Lambda (w4 p1) (vr p2 p3 p4 p5) pu vq) X.e) Q E s:=by
 have y:H P=some .tbl:=I.base.tbls P (I.o.tab P hP);obtain⟨ps,e0,z⟩:=(show sf H s.heap P from I.h P _ y);have C':=C.keeps I.bk;obtain⟨bm,ob,b1,b2,b3,b4,b5,b6⟩:=I.mod.bmain;have B:s.heap.Ns mainGlobals X.g:=I.mod.glob.keeps I.bk;have hgP:mainGlobals≠P:=λq=>by obtain⟨o,es,ep,e,hd,_⟩:=B;rw[q,e0]at e;cases e;cases hd
 have S:bm≠P:=λq=>by have e:=I.bk _ _ b3;rw[q,e0]at e;cases e;cases b4
 have hbG:bm≠mainGlobals:=λq=>by obtain⟨o,es,ep,e,hd,_⟩:=I.mod.glob;rw[q,e]at b3;cases b3;rw[hd]at b6;cases b6
 have hB:s.heap.BuiltinsAt X.g P:=⟨bm,ob,b1,b2,hbG,S,I.bk _ _ b3,b4,b5,b6⟩;have N:closureFor pu X.e=pure [(Str.ofString "board",K)]:=by
  have:cellOf X.e (Str.ofString "board")=pure K:=by unfold cellOf;rw[cl]
  simp[closureFor,this]
 refine PySem.W.kla_eval rfl ?_;rw[hq];rcases z with rfl|⟨h,l,rfl,h1,h2⟩
 .refine PySem.W.kla_makeFunction (mg:=X.g) N I.o.glob B i C' e0 trivial rfl hgP hB λh p w F Z A T V W=>?_;obtain⟨x,l,vs,t,ex,ec,d1,d2⟩:=V;cases ex;have L:H h=none:=I.h.fresh A;have D:∀b,H b=none->b≠P:=λb n q=>by rw[q,y]at n;cases n
  have g:∀b o,H b=some o->b≠h:=λb o e q=>by rw[q,L]at e;cases e
  have hs':s.heap.objs.size≤w.objs.size:=aA A (eZ T);have I1:Inv X M J (b7 H h (.frz l (.own P))) { s with heap:=w,toks:=F }:=by
   refine I.step (g':=s.gens) (d':=s.drawn) (ch:=[]) (λ_ z=>nomatch z) (λb o _ _ _ e n=>Z b o (D b n) e) (λb o _ _ _ e n=>⟨o.slots,Z b o (D b n) e⟩) (λb o _ e n=>?_) (λb o _ e=>?_) (λb xs q=>(ao (g b _ q)).trans q) (λb o u q=>(ao (g b _ q)).trans q) (λb q=>(ao (g b _ q)).trans q) (λm hm=>?_) (λb u q=>?_) I.bare
   .rw [ao (bf (bJ (aD e) A))];exact n
   .by_cases G:b=P
    .subst G;exact⟨_,W⟩
    .exact⟨o,Z b o G e⟩
   .obtain⟨o,es,ep,ho,r⟩:=hm;exact⟨o,es,ep,Z _ o (D _ I.free) ho,r⟩
   .by_cases G:b=h
    .subst G;rw[aM]at q;cases q;exact⟨ec,⟨l,ec⟩⟩
    .rw [ao G]at q;by_cases S:b=P
     .subst S;rw[y]at q;cases q;exact⟨_,W,.inr ⟨h,l,by simp,aM,vs,t,d1,d2⟩⟩
     .refine (I.h b u q).stay (λd v hd e=>Z d v (λz=>?_) e) (λd e=>(ao (g d _ e)).trans e) (λd xs e=>(ao (g d _ e)).trans e) (λd xs e=>(ao (g d _ e)).trans e);rcases hd with hd|hd
      .exact S (hd ▸ z)
      .rw [z,y]at hd;cases hd
  have R:h≠w.objs.size:=bf T;refine k w.objs.size h l ((X.g "__name__").getD .none) p _ F _ (I1.laid (a:=w.objs.size) (o:=.frz (w1 p1 p2 p3 p4 p5 K ((X.g "__name__").getD .none) h p) (.own w.objs.size)) (λb u e=>aW _ e) (ak _) ⟨bx _ rfl,⟨_,bx _ rfl⟩⟩) (.inr ⟨L,R,rfl⟩) (I.h.fresh hs') ?_ ⟨vs,t,d1,d2⟩;rw[ao R];exact aM
 .refine PySem.W.kla_makeFunctionHit (mg:=X.g) (cv:=.ref h) N I.o.glob B i C' e0 ?_ ?_ hB λp w F hk hsz=>?_
  .exact trivial
  .simp [codeAmong,rawInt]
  .have I1:Inv X M J H { s with heap:=w,toks:=F }:=I.kept hk;have hf:H w.objs.size=none:=I1.h.fresh (ak _);refine k w.objs.size h l ((X.g "__name__").getD .none) p _ F _ (I1.laid (a:=w.objs.size) (o:=.frz (w1 p1 p2 p3 p4 p5 K ((X.g "__name__").getD .none) h p) (.own w.objs.size)) (λb u e=>aW _ e) (ak _) ⟨bx _ rfl,⟨_,bx _ rfl⟩⟩) (.inl rfl) hf ?_ h2;rw[ao (bE h1 hf)];exact h1
end
noncomputable def fnOf(d:D)(S:Y):Option D:=match d with
 | .ref i=>match S[i]? with
  |some (.fn (some b))=>some b
  |_=>none
 |_=>none
theorem Jl(h:fnOf d S=some b):∃i,d=.ref i/\S[i]? = some (.fn (some b)):=by
 unfold fnOf at h;split at h
 .split at h
  .cases h;exact⟨_,rfl,by assumption⟩
  .cases h
 .cases h
def qQ(g:GF)(i:Nat)(a:EV):EV:=λL S=>bQ (O i L S) λf _=>(fnOf f S).elim none λb=>bQ (a L S) λv h=>bQ (g [b,.p v] h) λd x=>bQ (toP 9 d x) λr e=>some (r,trunc h.length e)
section
variable{X:Cx}{e:Expr}{B:EV}{N p:Pos}{x:Str}{i:Nat}
theorem KS(G:FnOk X.p X.w X.K X.g X.b pf k fe fd ps (oe X.K g))(hr:Room (k+1) X.A)(hm:X.g "ends_on"=some (.ref fe))(hk:dZ X.K (.ref fe)=true)(hb:Binds X.K fd ps [])
  (hx:PE X (.Name x p) (tE X.K (O i))) (ha:PE X e (tV X.K B)) (he:starEach [e] X.e=[(false,eval e X.e)]):PE X (.Call (.Name x p) [e] [] N) (tV X.K (qQ g i B)):=by
 intro M s J H Q I ⟨F,m,L,S,d,S',r,l,q,kk⟩;obtain⟨f,E,W,q⟩:=aj q;have hS:E=S:=by
  unfold O at W;split at W
  .cases W;rfl
  .cases W
 subst hS;cases eb:fnOf f E with
 |none=>rw[eb]at q;cases q
 |some b=>
  rw[eb]at q;obtain⟨v,c,e1,q⟩:=aj (show bQ (B L E) _=_ from q);obtain⟨d1,S2,e2,q⟩:=aj q;obtain⟨v1,V,e3,q⟩:=aj q;cases q;obtain⟨j,rfl,es⟩:=Jl eb;refine jg (cN (hx M s J H (λv D=>∃z K,Stp F m H z K D/\Rel X.K z D K E/\RD X.K z D K (.ref j) v) I ⟨F,m,L,E,_,E,r,l,W,λv z K D s1 r1 p1=>⟨z,K,s1,r1,p1⟩⟩) λfu s1 hz=>?_);obtain⟨vf,D,I1,rf,z,K,R,r1,p1⟩:=hz;obtain⟨a,rfl,hma⟩:=p1;cases (show fu=Value.ref a from rf);obtain⟨vb,⟨p1,p2,p3,p4,p5,cr,c',P,o,oc,pm,ctv,ub,h1,h2,h3,h4,h5,h6⟩,rb⟩:=r1.obj j a _ hma es _ rfl;refine callWith_def (o:=w1 p1 p2 p3 p4 p5 cr pm c' ctv) rfl ?_ he;refine cN ((fm ha iH (by rw[he];rfl)) N M s1 J D (λxs T=>∃y C A,xs=[y]/\Stp z K D C A T/\Rel X.K C T A c/\RP X.K C T v y) I1 ⟨z,K,L,E,v,c,r1,l.mono R,e1,λy C A T s2 r2 p2=>⟨y,C,A,rfl,s2,r2,p2⟩⟩) λus s2 hz=>?_;obtain⟨vs,T,I2,rv,y,C,A,ev,h,r2,p2⟩:=hz;subst ev;obtain⟨u,rfl,ru⟩:=vals1 rv;have h1':=h.cod _ _ _ h1;have h2':=h.cod _ _ _ h2;have h5':=h.cod _ _ _ h5;have oa:=(I2.h _ _ h1').1;have ocr:=(I2.h _ _ h2').1;have occ:=(I2.h _ _ h5').1;obtain⟨vs,t,d1',d2'⟩:=h6;refine⟨oa,IX G hr hm hk hb I2 oa ⟨c',oc,vs,t,rfl,occ,d1',d2'⟩ ⟨o,ocr,h3⟩ h4 ru ?_⟩;refine⟨C,A,[b,.p v],c,d1,S2,r2,⟨vb,_,rfl,RD.mono h rb,_,_,rfl,p2,rfl⟩,e2,λw F3 m3 H3 s3 r3 p3=>?_⟩;obtain⟨F4,s4,r4,l4,p4⟩:=n0 9 e3 r3 p3;have st:=s3.trans s4;have Z:=r2.len;by_cases hc:(V.take c.length).all (IT c.length)=true
  .have et:Ev.trunc c.length V=V.take c.length:=af hc;rw[et]at kk;have hle:A.length≤m3.length:=by
    obtain⟨nn,e⟩:=st.pre;rw[e,a_];lia
   have rt:=r4.trunc (n:=c.length) (by rw[<- Z];exact hle) hc;refine kk w F4 (m3.take A.length) H3 (R.trans (h.trans st.trunc)) ?_ p4;rw[Z];exact rt
  .have et:Ev.trunc c.length V=V:=ah hc;rw[et]at kk;exact kk w F4 m3 H3 (R.trans (h.trans st)) r4 p4
end
noncomputable def era(H:Hp)(c:Addr):Hp:=λb=>if b=c then none else H b
section
variable{K:FG}{F C:Aa}{H j:Hp}{m G:List Addr}{S:Y}{c:Addr}{x:Obj}{y:Addr}
theorem gE(h:b≠c):era H c b=H b:=ah h
theorem hV(a:H c=some (.frz x (.own y)))(h:H b=some o)(n:o≠.frz x (.own y)):era H c b=some o:=by rw[gE];exact h;rintro rfl;rw[a]at h;cases h;exact n rfl
mutual
theorem RP.era(hc:H c=some (.frz x (.own y))):∀{d:P}{v:V},RP K F H d v->RP K F (era H c) d v
 | .non,_,h=>h
 | .bl _,_,h=>h
 | .int _,_,h=>h
 | .str _,_,h=>h
 | .tup _,_,h=>by obtain⟨a,xs,e,t,r⟩:=h;exact⟨a,xs,e,t.imp (λz=>hV hc z (by simp)) id,cf.era hc r⟩
 | .lst _,_,h=>by obtain⟨a,xs,e,t,r⟩:=h;exact⟨a,xs,e,⟨t.1,hV hc t.2 (by simp)⟩,cf.era hc r⟩
 | .ro _,_,h=>by obtain⟨a,xs,e,t,r⟩:=h;refine⟨a,xs,e,t.imp (λz=>?_) id,cf.era hc r⟩;obtain⟨f,o,z⟩:=z;exact⟨f,o,hV hc z (by simp)⟩
 | .dct _ _,_,h=>by obtain⟨a,kvs,e,f,t,k,r⟩:=h;exact⟨a,kvs,e,f,hV hc t (by simp),k,cf.era hc r⟩
theorem cf.era(hc:H c=some (.frz x (.own y))):∀{ds:List P}{xs:List V},cf K F H ds xs->cf K F (era H c) ds xs
 | [],_,h=>h
 |_::_,_,h=>by obtain⟨x,r,e,h1,h2⟩:=h;exact⟨x,r,e,RP.era hc h1,cf.era hc h2⟩
end
theorem RD.era(a:H c=some (.frz x (.own y))):∀{d:D}{v:V},RD K F H m d v->RD K F (era H c) m d v
 | .p _,_,h=>RP.era a h
 | .ref _,_,h=>h
theorem dh.era(a:H c=some (.frz x (.own y))):∀{d:List D}{s:List V},dh K F H m d s->dh K F (era H c) m d s
 | [],_,h=>h
 |_::_,_,h=>by obtain⟨x,r,e,n,k⟩:=h;exact⟨x,r,e,RD.era a n,dh.era a k⟩
noncomputable def L0:SO->Bool
 | .fn (some _)=>false
 |_=>true
theorem RO.era(s:H c=some (.frz x (.own y)))(q:L0 o=true)(h:RO K F H m a o):RO K F (era H c) m a o:=by
 cases o with
 |lst b=>obtain⟨u,e,r⟩:=h;exact⟨u,hV s e (by simp),r.era s⟩
 |dct t b=>obtain⟨k,e,f,r⟩:=h;exact⟨k,hV s e (by simp),f,r.era s⟩
 |fz v=>exact RP.era s (show RP K F H v (.ref a) from h)
 |ins c t b=>obtain⟨C,p,k,n,e,f,r⟩:=h;exact⟨C,p,k,n,hV s e (by simp),f,r.era s⟩
 |dtn t b=>obtain⟨k,e,f,w,r⟩:=h;exact⟨k,hV s e (by simp),f,w.era s,r.era s⟩
 |dtt t b=>obtain⟨k,e,f,r⟩:=h;exact⟨k,hV s e (by simp),f,r.era s⟩
 |fn g=>intro d hd;subst hd;cases q
theorem Rel.era(r:Rel K F H m S)(k:H c=some (.frz x (.own y)))(n:¬F c)(b:c ∉ m)(t:S.all L0=true):Rel K F (era H c) m S where
 len:=r.len
 nd:=r.nd
 obj:=λi a o s e=>(r.obj i a o s e).era k (bb.mp t o (aY e))
 sep:=r.sep
 trk:=λa h=>by rw[gE (by rintro rfl;exact b h)];exact r.trk a h
 ft:=λa f=>by rw[gE (by rintro rfl;exact n f)];exact r.ft a f
theorem Stp.era(s:Stp F m (b7 H c (.frz x (.own y))) C G j)(a:H c=none):Stp F m H C G (era j c):=by
 have n:∀{b:Addr}{o:HO},H b=some o->b≠c:=λh z=>by rw[z,a]at h;cases h
 have p:∀{b:Addr}{o:HO},H b=some o->b7 H c (.frz x (.own y)) b=some o:=λh=>(ao (n h)).trans h;refine⟨s.pre,λb o h k=>?_,s.frz,λb o f h=>?_,λb r h=>?_,λb h=>?_,λb h=>?_,λb h=>?_,λb o u h=>?_⟩
 .rw [gE (n h)];exact s.oth b o (p h) k
 .rw [gE (n h)];exact s.frk b o f (p h)
 .rw [gE (n h)];exact s.tup b r (p h)
 .cases q:H b with
  |none=>exact absurd q h
  |some o=>rw[gE (n q)];exact s.trk b (by rw[p q];exact λz=>nomatch z)
 .rcases s.nf b h with z|z|z
  .exact .inl z
  .by_cases e:b=c
   .subst e;exact .inr (.inl a)
   .rw [ao e]at z;exact .inr (.inl z)
  .exact .inr (.inr z)
 .rcases s.nm b h with z|z
  .exact .inl z
  .by_cases e:b=c
   .subst e;exact .inr a
   .rw [ao e]at z;exact .inr z
 .rw [gE (n h)];exact s.cod b o u (p h)
theorem Rel.swap(r:Rel K F H m S)(n:m[i]? = some a)(k:RO K F H m a o)(hw:¬o.own):Rel K F H m (S.set i o) where
 len:=by rw[dw];exact r.len
 nd:=r.nd
 obj:=λj b u h e=>by
  by_cases x:i=j
  .subst x;rw[n]at h;cases h;have s:i < S.length:=by rw[<- r.len];exact(bB.mp n).1
   rw[bA s]at e;cases e;exact k
  .rw [aV x]at e;exact r.obj j b u h e
 sep:=λj b u h e w=>by
  by_cases x:i=j
  .subst x;have s:i < S.length:=by rw[<- r.len];exact(bB.mp n).1
   rw[bA s]at e;cases e;exact absurd w hw
  .rw [aV x]at e;exact r.sep j b u h e w
 trk:=r.trk
 ft:=r.ft
end
noncomputable def Dp:SO->SO
 | .fn _=>.fn none
 |o=>o
theorem Rel.clr{K:FG}{F:Aa}{H:Hp}{m:List Addr}{S:Y}(r:Rel K F H m S):Rel K F H m (S.map Dp) where
 len:=by rw[aU];exact r.len
 nd:=r.nd
 obj:=λi a o h e=>by
  rw[b9]at e;cases q:S[i]? with
  |none=>rw[q]at e;cases e
  |some u=>
   rw[q]at e;cases e;have:=r.obj i a u h q
   cases u with
   |fn _=>exact λd z=>nomatch z
   |_=>exact this
 sep:=λi a o h e w=>by
  rw[b9]at e;cases q:S[i]? with
  |none=>rw[q]at e;cases e
  |some u=>
   rw[q]at e;cases e;cases u with
   |fn _=>exact absurd w id
   |_=>exact r.sep i a _ h q w
 trk:=r.trk
 ft:=r.ft
theorem ME(S:Y):(S.map Dp).all L0=true:=by rw[Am];refine bb.mpr λo _=>?_;cases o<;>rfl
def vW(g:GF)(i:Nat)(a:EV):EE:=λL S=>bQ (a L S) λv h=>bQ (O i L h) λd _=>bQ (g [.p v,.ref h.length] (h++[.fn (some d)])) λr x=>some (r,x.map Dp)
def Kn(X:Cx):Prop:=X.e.qual++Str.ofString "<lambda>"=yE/\∃c P,X.e.code=.ref c/\x6 X.K c P=true/\P ∈ cw X.K
theorem jt.cell{P:Program}{w:World}{H:Hp}{h:Heap}{c:Addr}{o:Obj}(ok:jt P w H h)(a:H c=none)(e:h.get? c=some o):jt P w (b7 H c (.frz o (.own c))) h:=λb u q=>by
 have n:∀{b:Addr}{o:HO},H b=some o->b≠c:=λh z=>by rw[z,a]at h;cases h
 by_cases x:b=c
 .subst x;rw[aM]at q;cases q;exact⟨e,o,e⟩
 .rw [ao x]at q;exact(ok b u q).stay (λ_ _ _ z=>z) (λd z=>(ao (n z)).trans z) (λd s z=>(ao (n z)).trans z) (λd s z=>(ao (n z)).trans z)
theorem jt.era{P:Program}{w:World}{H:Hp}{h:Heap}{c:Addr}{o:Obj}(ok:jt P w H h)(a:H c=some (.frz o (.own c))):jt P w (era H c) h:=λb u q=>by
 by_cases x:b=c
 .subst x;cases (show(none:Option HO)=some u from(af rfl).symm.trans q)
 .rw [gE x]at q;refine(ok b u q).stay (λ_ _ _ z=>z) (λd z=>hV a z (by simp)) (λd s z=>hV a z (by simp)) (λd s z=>?_);refine hV a z λw=>?_;injection w with _ w;injection w with w;exact x w
section
variable{X:Cx}{e:Expr}{B:EV}{N p:Pos}{x:Str}{i:Nat}
set_option tactic.hygienic true in
theorem KR(G:FnOk X.p X.w X.K X.g X.b pf k f fd ps (oe X.K g))(hr:Room k X.A)(hg:Gl X x)(hm:X.g x=some (.ref f))(hk:dZ X.K (.ref f)=true)(W:Binds X.K fd ps [])
  (lm:Kn X) (hN:X.N[i]? = some (Str.ofString "board")) (hK:X.e.scope.names.lookup (Str.ofString "board")=some .cell) (hfn:X.fn (Str.ofString "board")=true) (ha:PE X e (tV X.K B)) (hdb:(x == ("__debug__":Str))=false)
  (he:starEach [e,.Lambda (w4 p1) (vr p2 p3 p4 p5) pu vq] X.e=(false,eval e X.e)::starEach [.Lambda (w4 p1) (vr p2 p3 p4 p5) pu vq] X.e) :
  PE X (.Call (.Name x p) [e,.Lambda (w4 p1) (vr p2 p3 p4 p5) pu vq] [] N) (tE X.K (vW g i B)):=by
 intro M s J H Q I ⟨F,m,L,S,d,S',r,l,q,kk⟩;obtain⟨v,S1,e1,q⟩:=aj q;obtain⟨b,S0,e0,q⟩:=aj q;obtain⟨d2,S2,e2,q⟩:=aj q;cases q;obtain⟨hq,c,P,hcode,C,hP⟩:=lm;refine jg (qh I hg hm ?_ hdb);refine qL (h₀:=X.b) I.o.mod.kin hk ?_ he rfl;rw[he];show wpAny _ _ (spliced ((false,eval e X.e)::(false,eval (.Lambda (w4 p1) (vr p2 p3 p4 p5) pu vq) X.e)::[])) _ _ _;have eL:L[i]? = some (some b):=by
  unfold O at e0;split at e0
  .cases e0;assumption
  .cases e0
 obtain⟨vb,hJ,rb⟩:=l.at' i b eL;refine dI (cN (ha M s J H (λv1 H1=>∃K E,Stp F m H K E H1/\Rel X.K K H1 E S1/\RP X.K K H1 v v1) I ⟨F,m,L,S,v,S1,r,l,e1,λv K E H1 s1 r1 p1=>⟨K,E,s1,r1,p1⟩⟩) λu1 s1 hz=>?_);obtain⟨v1,H1,I1,ru1,K,E,st1,r1,pv⟩:=hz;obtain⟨a,cl⟩:=I1.o.has (Str.ofString "board") (.inl hK);refine dI (FD (p1:=p1) (p2:=p2) (p3:=p3) (p4:=p4) (p5:=p5) I1 hcode (DU I1.mod.kin C) hP hq cl λt c' oc pm ctv h' tk A Z hH hf0 hc' hlam=>gN ⟨Z.kIn,?_⟩);have hf2:A t=some (.frz (w1 p1 p2 p3 p4 p5 a pm c' ctv) (.own t)):=by rcases hH with rfl|⟨_,_,rfl⟩<;>exact aM
 have st2:Stp K E H1 K (E++[t]) A/\Rel X.K K A (E++[t]) (S1++[.fn none]):=by
  rcases hH with rfl|⟨hc0,hcf,rfl⟩
  .exact⟨dX hf0,r1.own hf0 λd z=>nomatch z⟩
  .have hf1:b7 H1 c' (.frz oc (.own P)) t=none:=(ao (aP hcf)).trans hf0;exact⟨(gS hc0).trans (dX hf1),(r1.new hc0).own hf1 λd z=>nomatch z⟩
 obtain⟨st2,r2⟩:=st2;obtain⟨mm,_,hl⟩:=id Z.loc;obtain⟨ub,rub,lk⟩:=hl i _ _ hN hJ (.inr (.inl hK));have hcell:h'.IsCell a (some ub):=by
  rcases lk with ⟨z,_⟩|⟨_,cr',z1,z2⟩
  .have z:X.e.scope.names.lookup (Str.ofString "board")=some .local:=z;rw[hK]at z;cases z
  .rw [cl]at z1;cases z1;exact z2
 obtain⟨o,ocr,od⟩:=hcell;have D:A a=none:=Z.freeC _ _ cl;have R:∀{b:Addr}{o:HO},A b=some o->b≠a:=λh z=>by rw[z,D]at h;cases h
 have sab:X.z.heap.objs.size≤a:=Z.o.cab _ _ hfn cl;have sS:Stp K (E++[t]) A K (E++[t]) (b7 A a (.frz o (.own a))):=gS D;have hfm:(E++[t])[S1.length]? = some t:=by rw[<- r1.len,b_ (ak _)];simp
 have rb3:RD X.K K (b7 A a (.frz o (.own a))) (E++[t]) b vb:=RD.mono (st1.trans (st2.trans sS)) rb;have up:∀{b:Addr}{y:HO},A b=some y->b7 A a (.frz o (.own a)) b=some y:=λh=>(ao (R h)).trans h;have r3:Rel X.K K (b7 A a (.frz o (.own a))) (E++[t]) (S1++[.fn (some b)]):=by
  have z:=(r2.new (o:=.frz o (.own a)) D).swap (i:=S1.length) (o:=.fn (some b)) hfm (λd hd=>by cases hd;exact⟨vb,⟨p1,p2,p3,p4,p5,a,c',P,o,oc,pm,ctv,ub,up hf2,aM,od,rub,up hc',hlam⟩,rb3⟩) id
  have e:(S1++[SO.fn none]).set S1.length (.fn (some b))=S1++[.fn (some b)]:=by simp
  rw[e]at z;exact z
 have hnF:¬K a:=r2.fresh_F D;have hnm:a ∉ E++[t]:=r2.fresh_m D;have hsp:oe X.K g [v1,.ref t] (b7 A a (.frz o (.own a))) (λv H4=>Q v (era H4 a)) E0:=by
  refine⟨K,E++[t],[.p v,.ref S1.length],S1++[.fn (some b)],_,S2,r3,⟨_,_,rfl,RP.mono (st2.trans sS) pv,_,_,rfl,⟨t,rfl,hfm⟩,rfl⟩,e2,λw F4 m4 H4 GX r4 p4=>?_⟩;have V:H4 a=some (.frz o (.own a)):=GX.cod _ _ _ aM;have hF4:¬F4 a:=λz=>by
   rcases GX.nf a z with z|z|z
   .exact hnF z
   .rw [aM]at z;cases z
   .exact hnm z
  have hm4:a ∉ m4:=λz=>by
   rcases GX.nm a z with z|z
   .exact hnm z
   .rw [aM]at z;cases z
  exact kk w F4 m4 (era H4 a) (st1.trans (st2.trans (GX.era D))) (r4.clr.era V hF4 hm4 (ME _)) (p4.era V)
 have hps:[u1,Value.ref t].length=ps.length:=G.len _ _ _ _ hsp;have E3:Env0 X.p X.w X.K X.g X.b X.A X.k { s1 with heap:=h',toks:=tk } (b7 A a (.frz o (.own a))):=by
  have z:=Z.env0;refine⟨z.frames,z.mod,λb y e=>⟨(z.bs b y e).1,?_⟩,z.bsz,z.funs,λb W=>?_,λT hT=>up (z.tab T hT),jt.cell z.h D ocr,z.bare⟩
  .rw [ao];exact(z.bs b y e).2;rintro rfl;exact absurd (bJ (aD e) (aA Z.o.bsz sab)) (e_ _)
  .rw [ao];exact z.frf b W;rintro rfl;rcases aL.mp (Z.stkSub b W) with W|W
   .exact Z.cne _ _ cl W
   .obtain⟨_,y,ho',_⟩:=Z.o.funs.mem W;exact absurd (bJ (aD ho') sab) (e_ _)
 refine qz (nS (G.run X.A X.k _ _ ⟨[u1,.ref t],[]⟩ [u1,.ref t] [v1,.ref t] _ E0 hr E3 (W _ [u1,.ref t] Z.kIn hps) (.cons ru1 (.cons rfl .nil)) hsp) λr s' hq=>?_);cases r with
 |error e=>exact False.elim hq
 |ok fl'=>
  cases fl' with
  |ret w=>
   obtain⟨v',H4,os,bare,un,hok,rw',q4⟩:=hq;have V:H4 a=some (.frz o (.own a)):=un.frzs a o _ aM;have dn:∀{b:Addr},b≠a->A b=none->b7 A a (.frz o (.own a)) b=none:=λh z=>(ao h).trans z;refine Z.after ⟨v',era H4 a,os,bare,⟨λb y e n W hx=>?_,λb y e n W hx=>?_,λb y e n hx=>?_,λb y e hx=>un.there b y e hx,λb xs z=>?_,λb y u z=>?_,λb z=>?_⟩,jt.era hok V,rw',q4⟩
   .by_cases j:b=a
    .subst j;have e:h'.get? b=some y:=e;rw[ocr]at e;cases e;exact(hok _ _ V).1
    .exact un.keep b y e (dn j n) W hx
   .by_cases j:b=a
    .subst j;have e:h'.get? b=some y:=e;rw[ocr]at e;cases e;exact⟨o.slots,(hok _ _ V).1⟩
    .exact un.slot b y e (dn j n) W hx
   .by_cases j:b=a
    .exact af j
    .rw [gE j];exact un.free b y e (dn j n) hx
   .rw [gE (R z)];exact un.tups b xs (up z)
   .rw [gE (R z)];exact un.frzs b y u (up z)
   .rw [gE (R z)];exact un.tbls b (up z)
  |next=>exact False.elim hq
  |brk=>exact False.elim hq
  |cont=>exact False.elim hq
end
end Ev
set_option tactic.hygienic true
namespace PySem
open PySem PyProof.Rows
section
variable{prog:Program}{w:World}{A:Around}{E:VP}{R:Result->Shared->Prop}
theorem sZ(k:∀c o,h.get? c=some o->h'.get? c=some o)(x:(Nk.nest prog w).is h d b):(Nk.nest prog w).is h' d b:=by obtain⟨x1,x2,as,r⟩:=x;exact⟨x1,x2,as,Nk.stay _ x1 r λc o hc _ _=>k c o hc⟩
inductive PairsN(prog:Program)(w:World)(h:Heap):LV->List (PyData×Addr×Value)->Prop
 |nil:PairsN prog w h [] []
 |cons {t b:Addr}{v:Value}{d:PyData}{us:LV}{xs:List (PyData×Addr×Value)}:IsTup h t #[.ref b,v]->(Nk.nest prog w).is h d b->PairsN prog w h us xs->PairsN prog w h (.ref t::us) ((d,b,v)::xs)
def pE(w:World)(h:Heap)(d:Addr)(xs:List (PyData×Addr×Value)):Prop:=∃o es ep,h.get? d=some o/\o.ExactDict/\o.data=.dict es ep/\es.toList=xs.map (λx=>(⟨Nk.hk w x.1,.ref x.2.1,x.2.2⟩:DictEntry))/\(xs.map (·.1)).Nodup
theorem pE.of(x:pE w h d xs)(k:∀y ∈ xs,(Nk.nest prog w).is h y.1 y.2.1):h.DictOfH (Nk.nest prog w) d xs:=
 let ⟨o,es,ep,h1,h2,h3,h4,h5⟩:=x;⟨o,es,ep,h1,h2,h3,h4,k,h5⟩
theorem pE.to(x:h.DictOfH (Nk.nest prog w) d xs):pE w h d xs:=
 let ⟨o,es,ep,h1,h2,h3,h4,_,h5⟩:=x;⟨o,es,ep,h1,h2,h3,h4,h5⟩
theorem pE.at(x:pE w h d f)(k:∀o,h.get? d=some o->h'.get? d=some o):pE w h' d f:=
 let ⟨o,s,e,a,r⟩:=x;⟨o,s,e,k o a,r⟩
theorem CZ(hh:A.handled=none)(hu:A.units+9 < cLine)(hd₀:h₀.get? d=none)(hi₀:h₀.get? it=none)(hdi:d≠it)(hl:h₀.IsList l items) :
  ∀(rest:List (PyData×Addr×Value))(i:Nat)(acc:List (PyData×Addr×Value))(s:Shared),(∀b o,h₀.get? b=some o->s.heap.get? b=some o)->s.heap.IsListIter it l i->pE w s.heap d acc->(∀y ∈ acc,(Nk.nest prog w).is h₀ y.1 y.2.1)->PairsN prog w h₀ (items.toList.drop i) rest ->
   ((acc++rest).map (·.1)).Nodup->(acc++rest).length≤sizeLine->i+rest.length=items.size ->
   (∀h' t',(∀b o,h₀.get? b=some o->h'.get? b=some o)->pE w h' d (acc++rest)->R (.ok (.ret .none)) { s with heap:=h',toks:=t' }) ->
   codeAny (model prog w) A (.builtin "dict.update.loop" ⟨[.ref d,.ref it,rawInt i,.none],[]⟩) R s:=by
 intro rest;induction rest with
 |nil=>
  intro i acc s kp hit hd ha hp hn hz hi h;have hl1:s.heap.IsList l items:=let ⟨o,ho,r⟩:=hl;⟨o,kp _ _ ho,r⟩
  refine tW F.entry_dict_update_loop ?_;rw[qc F.plain_dict_update_loop _];unfold Builtin.«dict.update.loop»;show wpAny _ A.in1 (pyNext (.ref it) >>= _) _ _ s;refine ac (DF hh hit hl1 (by simp at hi ⊢;lia) λh1 eb=>?_);show wpAny _ A.in1 (zd d [] >>= _) _ _ _;rw[dJ]at h;refine ac (aq (aq (h h1 s.toks (λb o e=>eb b o (λz=>by rw[z,hi₀]at e;cases e) (kp b o e)) (hd.at λo e=>eb d o hdi e))))
 |cons kv rest ih=>
  intro i acc s kp hit hd ha hp hn hz hi h;have hl1:s.heap.IsList l items:=let ⟨o,ho,r⟩:=hl;⟨o,kp _ _ ho,r⟩
  generalize er:items.toList.drop i=us at hp;cases hp with
  | @cons t b v k us1 _ hpt hk hps=>
   have hx:items[i]? = some (.ref t):=by have:=du (·[0]?) er;simpa using this
   have er1:items.toList.drop (i+1)=us1:=by rw[<- uD,er];rfl
   refine tW F.entry_dict_update_loop ?_;rw[qc F.plain_dict_update_loop _];unfold Builtin.«dict.update.loop»;show wpAny _ A.in1 (pyNext (.ref it) >>= _) _ _ s;refine ac (DJ hit hl1 hx λh1 hit1 sb1=>?_);have kp1:∀c o,h₀.get? c=some o->h1.get? c=some o:=λc o e=>(sb1.2 c (λz=>by rw[z,hi₀]at e;cases e)).trans (kp c o e);obtain⟨ot,hot,hct,nt,hdt⟩:=hpt;have hot1:=kp1 _ _ hot;show wpAny _ A.in1 (holding [Value.ref t] _ >>= _) _ _ _;refine ac (fR (ac (A2 ?_)));unfold zc;refine ac (lV (T:="tuple") ⟨ot,hot1,hct⟩ ?_);rw[af (by decide)];refine ac (jf hot1 hdt (aq ?_));show wpAny _ A.in1 (holding [Value.ref b,v] (dictSet d (.ref b) v)) _ _ _;have dd:=(hd.at (h':=h1) λo e=>(sb1.2 d hdi).trans e).of (prog:=prog) λy hy=>sZ kp1 (ha y hy);refine fR (wpAny_dictSet_heap (knd:=Nk.nest prog w) (s:={ s with heap:=h1 }) (hsz:=by simp at hz;lia) (show A.in1.units+8 < cLine by rw[mU];lia) (sZ kp1 hk) dd λh2 dd2 sb2=>?_);have hnk:k ∉ acc.map (·.1):=λhm=>by rw[i4,lh]at hn;exact hn.2.2 _ hm _ (by simp) rfl
   have none:atKey acc k=none:=by unfold atKey;rw[Option.map_eq_none_iff,List.find?_eq_none];intro y hy z;exact hnk (aZ.mpr ⟨y,hy,aN z⟩)
   rw[storedH_new none]at dd2;refine aq ⟨tT F.plain_dict_update_loop _,?_⟩;have e1:acc++(k,b,v)::rest=(acc++[(k,b,v)])++rest:=by simp
   rw[e1]at hn hz h;refine ih (i+1) (acc++[(k,b,v)]) { s with heap:=h2,toks:=s.toks+(Nk.nest prog w).draws k } (λc o e=>(sb2.2 c (λz=>by rw[z,hd₀]at e;cases e)).trans (kp1 c o e)) ?_ (.to dd2) (λy hy=>?_) (er1 ▸ hps) hn hz (by simp at hi;lia) λh3 t3 k1 k2=>h h3 t3 k1 k2
   .obtain⟨o,ho,r⟩:=hit1;exact⟨o,(sb2.2 it (aP hdi)).trans ho,r⟩
   .rcases bN.mp hy with hy|hy
    .exact ha y hy
    .cases cz.mp hy;exact hk
theorem call_dict_nest(j:A.handled=none)(V:A.units+10 < cLine)(y:s.heap.get? a=some { cls:=.type "list",data:=.seq t n })(C:PairsN prog w s.heap t.toList k)
  (P:(k.map (·.1)).Nodup) (G:k.length≤sizeLine) (R:k.length=t.size)
  (h:∀x i,(∀b o,s.heap.get? b=some o->x.get? b=some o)->pE w x s.heap.objs.size k->Q (.ref s.heap.objs.size) { s with heap:=x,toks:=i }) :
  wpAny (model prog w) A (call (.type "dict") [.ref a]) Q E s:=by
 have fresh:(s.heap.push { cls:=.type "dict",data:=.dict #[] }).DictOf (intKind prog w) s.heap.objs.size []:=.new s.heap;have p:pE w (s.heap.push { cls:=.type "dict",data:=.dict #[] }) s.heap.objs.size []:=⟨_,#[],0,bx _ rfl,⟨rfl,rfl,rfl⟩,rfl,rfl,pV⟩;have d:∀b o,s.heap.get? b=some o->(s.heap.push { cls:=.type "dict",data:=.dict #[] }).get? b=some o:=λb o=>aW _;have r:=A4 (prog:=prog) (w:=w) (A:=A.in1) (E:=E) (s:=s) (Value.ref a) (Q₁:=λv z=>v=.ref s.heap.objs.size/\z={ s with heap:=s.heap.push { cls:=.type "dict",data:=.dict #[] } }) ⟨rfl,rfl⟩;apply A0 zq (zu (.ref a)) zr r;rintro _ _ ⟨e,H⟩;subst e H;generalize s.heap.push { cls:=.type "dict",data:=.dict #[] }=N at fresh d p;have g:=d _ _ y;refine⟨fresh.typeIs,zt (.ref s.heap.objs.size) (.ref a),?_⟩;unfold Builtin.«dict.__init__» ze;apply ac;apply ac;apply DE fresh.typeIs;apply aq;show wpAny _ _ (pG "dict.__init__" s.heap.objs.size (.ref a) [] .none) _ _ _;unfold pG;refine ac (lV (T:="list") ⟨_,g,rfl⟩ ?_);rw[af (by decide)];refine ac (yD (name:="keys") g rfl rfl rfl F.list_no_keys (by decide) j λf W u=>?_);rw[af (by rfl)];refine ac (qA ?_);have q:=u _ _ g;have I:∀b o,s.heap.get? b=some o->f.get? b=some o:=λb o e=>u b o (d b o e);have c:pE w f s.heap.objs.size []:=p.at λo e=>u _ _ e;refine ac (xW (l:=a) (items:=t) ⟨_,q,rfl,n,rfl⟩ ?_);refine aq ⟨tT F.plain_dict_update_loop _,?_⟩;have m:s.heap.objs.size < f.objs.size:=by obtain⟨o,_,_,B,_⟩:=c;exact aD B
 have S:s.heap.get? f.objs.size=none:=by
  cases e:s.heap.get? f.objs.size with
  |none=>rfl
  |some o=>exact absurd (aD e) (ul.mpr (eZ m))
 have K:s.heap.get? s.heap.objs.size=none:=by
  cases e:s.heap.get? s.heap.objs.size with
  |none=>rfl
  |some o=>exact absurd (aD e) (e_ _)
 refine CZ (A:=A.in1) (w:=w) j (by rw[mU];lia) (h₀:=s.heap) (items:=t) (l:=a) K S (bf m) ⟨_,y,rfl,n,rfl⟩ k 0 [] _ (λb o e=>aW _ (I b o e)) ?_ (c.at λo e=>aW _ e) (λ_ D=>nomatch D) (by simpa using C) (by simpa using P) (by simpa using G) (by lia) λx i L M=>?_
 .exact⟨_,bx _ rfl,rfl,rfl⟩
 .exact⟨rfl,h x i L M⟩
end
end PySem
namespace Ev
open PySem PySem.Spec PyProof.Rows L2
noncomputable def wK:List P->Option (List P×List P)
 | []=>some ([],[])
 | .tup [k,v]::r=>(wK r).map λz=>(k::z.1,v::z.2)
 |_=>none
def JV:List P->Bool
 | []=>true
 |k::s=>!nq k s && JV s
theorem rM(g:eU k=true):∀{ks:List P},ks.all eU=true->(nq k ks=true↔pd k ∈ jy ks)
 | [],_=>by simp[nq,jy]
 |q::ks,h=>by rw[dv,av]at h;have ih:=rM g h.2;unfold nq at ih ⊢;rw[cT,uQ,ih,jy,aL,Nk.eqv_kd _ _ (nr h.1) (nr g)];exact⟨λz=>z.imp Eq.symm id,λz=>z.imp Eq.symm id⟩
theorem Fp:∀{s:List P},s.all eU=true->JV s=true->(jy s).Nodup
 | [],_,_=>pV
 |k::s,h,n=>by rw[dv,av]at h;simp only[JV,av,mS]at n;refine bW.mpr ⟨λz=>?_,Fp h.2 n.2⟩;rw[(rM h.1 h.2).mpr z]at n;cases n.1
theorem CP(e:wK (p::b)=some (f,t)):∃k v s x,p=.tup [k,v]/\wK b=some (s,x)/\f=k::s/\t=v::x:=by
 unfold wK at e;split at e
 .rename_i h;cases h
 .rename_i k v r h;cases h;obtain⟨z,a,e⟩:=eA.mp e;cases e;exact⟨k,v,z.1,z.2,rfl,a,rfl,rfl⟩
 .cases e
theorem sX(I:Inv X M J H s):∀{c a m:List P}{d:List V}{n:LV},cf X.K F H c d->bc d n->wK c=some (a,m)->a.all eU=true ->
  ∃(h:List (PyData×V×V))(f:List (PyData×Addr×Value)),h.map (·.1)=jy a/\cf X.K F H a (h.map (·.2.1))/\cf X.K F H m (h.map (·.2.2))/\KN h f/\PySem.PairsN X.p X.w s.heap n f/\h.length=n.length
 | [],_,_,_,_,r,v,e,_=>by cases e;cases r;cases v;exact⟨[],[],rfl,rfl,rfl,.nil,.nil,rfl⟩
 |p::c,_,_,_,_,r,v,e,g=>by
  obtain⟨k,w,a,m,rfl,S,rfl,rfl⟩:=CP e;rw[dv,av]at g;obtain⟨x,xr,rfl,E,G⟩:=r;obtain⟨t,ys,rfl,R,N⟩:=E;obtain⟨y1,Z,rfl,q,L⟩:=Rb N;cases v with
  | @cons _ u _ n v1 v2=>cases (show u=Value.ref t from v1);obtain⟨C,Q,B,_⟩:=I.tuple R.sq;obtain⟨T,W,rfl,K,A⟩:=vals2 Q;obtain⟨h,f,i,j,l,y,z,o⟩:=sX I G v2 S g.2;obtain⟨b,rfl,D⟩:=vw I g.1 q;cases (show T=Value.ref b from K);exact⟨(pd k,.ref b,Z)::h,(pd k,b,W)::f,by rw[aC,i];rfl,⟨_,_,rfl,q,j⟩,⟨_,_,rfl,L,l⟩,.cons ⟨rfl,rfl,A⟩ y,.cons B D z,by simp[o]⟩
def vV(B:EV):EE:=λL S=>bQ (B L S) λx h=>match x with
 | .lst p=>match wK p with
  |some (k,v)=>if (k.all eU && (JV k && few p))=true then some (.ref h.length,h++[.dtn k (v.map .p)]) else none
  |none=>none
 |_=>none
section
variable{X:Cx}{a:Expr}{B:EV}{p c1:Pos}
theorem KL(hc:X.c=true)(hu:X.A.units+10 < cLine)(gd:Gl X "dict")(md:X.g "dict"=none)(ha:PE X a (tV X.K B))(hs:starEach [a] X.e=[(false,eval a X.e)]) :
  PE X (.Call (.Name "dict" p) [a] [] c1) (tE X.K (vV B)):=by
 intro M s J H Q I ⟨F,m,L,S,d,S',r,l,q,k⟩;obtain⟨x,R,e1,q⟩:=aj q;have hh:X.A.handled=none:=I.o.hd hc;refine jg (j7 I gd md zY ?_ (by decide) (by decide));refine jO ?_ (by rw[hs];rfl) rfl;rw[hs];refine dI (cN (ha M s J H (λv w=>∃f t,Stp F m H f t w/\Rel X.K f w t R/\RP X.K f w x v) I ⟨F,m,L,S,x,R,r,l,e1,λv f t w e y E=>⟨f,t,e,y,E⟩⟩) λu e ⟨v,w,g,ru,f,t,G,y,E⟩=>gN ?_);cases x with
 |lst ps=>
  dsimp only at q;cases C:wK ps with
  |none=>rw[C]at q;cases q
  |some z=>
   obtain⟨ks,vs⟩:=z;rw[C]at q;dsimp only at q;split at q
   .rename_i c;simp only[av]at c;obtain⟨Z,g2,g3⟩:=c;cases q;obtain⟨A,xs,rfl,hq,rp⟩:=E;cases (show u=Value.ref A from ru);obtain⟨zl,i,n,rv,ho⟩:xs.length≤sizeLine/\∃(i:LV)(n:Nat),bc xs i/\e.heap.get? A=some { cls:=.type "list",data:=.seq i.toArray n }:=g.h A _ hq.2;obtain⟨b,N,K,T,V,P,W,a6⟩:=sX g rp rv C Z;have el:b.length=N.length:=Paired.length P;have e2:=rv.length;have D:N.map (·.1)=b.map (·.1):=by
     clear K T V W a6 el;induction P with
     |nil=>rfl
     |cons h _ ih=>rw[aC,aC,ih,h.1]
    refine PySem.call_dict_nest hh hu ho (by simpa using W) (by rw[D,K];exact Fp Z g2) (by lia) (by simp;lia) λh' t' k1 k2=>?_;have j:w e.heap.objs.size=none:=g.h.fresh (ak _);obtain⟨ob,es,ep,h1,h2,h3,h4,h5⟩:=k2;have I3:=g.laid (a:=e.heap.objs.size) (o:=.dN b) (t':=t') k1 (ak _) ⟨by lia,iY.mpr (aP (bf g.big)),N,P,ob,es,ep,h1,h2,h3,h4,h5⟩;refine⟨.ref e.heap.objs.size,_,I3,rfl,k (.ref e.heap.objs.size) f (t++[e.heap.objs.size]) _ (G.trans (dX j)) (y.own j ⟨_,aM,K,cf.kp (dX (m:=t) j).kp T,dh.mono (dX j) (dh.ofP V)⟩) ⟨e.heap.objs.size,rfl,?_⟩⟩;rw[<- y.len,b_ (ak _)];simp
   .cases q
 |_=>cases q
end
section
variable{X:Cx}{u:Scope}{I:LS}{L:List Nat}{n:Nat}
theorem Kv(i:Nat)(hN:X.N.Nodup)(B:BlockOk X u I L n)(w:X.c=true)
  (W:si X tg iter f L n g fc fe) (hg:∀s H h y,PG (inn X u I s H h y) tg (gT X.K g)) (hc:∀s H h y,PIfs (inn X u I s H h y) z fc) (he:∀s H h y,PE (inn X u I s H h y) t (tV X.K fe))
  (o:closureFor u X.e=pure (mh u X.e)) (Z:swapsWith (.ListComp t [⟨tg,iter,z,0⟩] u N) (some (.Name x px)) T.line X.e=pure true:=by rfl)
  (hs:∀x,foldedSetIterable iter X.e x=pure x:=by intro _;rfl) (R:X.N[i]? = some x:=by rfl) (hx:Loc X.e.scope x:=by first|exact Or.inl rfl|exact Or.inr rfl)
  (hf:X.fn x=true\/X.e.scope.names.lookup x=some .local:=by first|exact .inl rfl|exact .inr rfl|assumption) :
  PS X (.Assign [.Name x px] (.ListComp t [⟨tg,iter,z,0⟩] u N) T) (kJ X.K (aB i (o7 f))):=by
 intro M s J H D b ⟨F,m,c,S,fl,L',S',r,l,q,k⟩;obtain⟨d,S1,e1,q⟩:=aj q;cases q;obtain⟨v,S2,e2,e3⟩:=aj e1;rw[DC _ _ _ _ Z];refine ac (tU (ac ?_));show wpAny _ _ (do let _ <- comprehension (.ListComp t [⟨tg,iter,z,0⟩] u N) u X.e _ (newList []) false (eval iter X.e) (some (assign (.Name x px) X.e))) _ _ s;obtain⟨wi,hi,W⟩:=W;obtain⟨ok,vs,S3,ds,rfl,P,hw,e4⟩:=W J H F m c S v _ r l e2;cases e3;refine ac (cG (lC (use:=some (assign (.Name x px) X.e)) (Q:=λ_ s'=>SP X M D .next s') B w hi hg hc he o hs b r l hw P e4 λp C G j sx h xs I' st0 r0 f hC h0 h1 h2 h3 hz=>?_) (λ_ s' hq=>aq (aq hq)) λ_ _ e=>e);obtain⟨mC,V⟩:=hz;obtain⟨st,r'⟩:=xx st0 r0 f;have rp:RD X.K C j (G++[p]) (.ref S2.length) (.ref p):=⟨p,rfl,by rw[<- r0.len,b_ (ak _)];simp⟩;refine xV (n_ I' hN R hx (v:=.ref p) rfl (λs' E A=>?_) hf);refine⟨mC,?_,λh' sb=>⟨_,j,E.letGo sb hC h0 h1 h2 h3,k _ _ (G++[p]) j st r' ((l.mono st).set (d:=.ref S2.length) rp i)⟩⟩;obtain⟨a,sbA,K⟩:=A;refine V.sameBut sbA ?_;rcases K with K|K
 .rw [K];exact h1
 .exact aP (h2 x a K)
end
end Ev
namespace Ev
open PySem PySem.Spec PyProof.Rows L2
def bD(g:GF)(p:List P):Option P:=match g (p.map .p) [] with
 |some (d,S)=>(toP 9 d S).map (·.1)
 |none=>none
@[simp] noncomputable def fP:Option (Fl×Lc×Y)->Option (D×Y)
 |some (.rt d,_,S)=>some (d,S)
 |some (.nx,_,S)=>some (.p .non,S)
 |_=>none
def l8(p n:Nat)(b:ES):GF:=λd S=>if d.length=p then fP (b (d.map some++List.replicate (n-d.length) none) S) else none
theorem Rel.nil{K:FG}{F:Aa}{H:Hp}(f:∀a,F a->H a≠none):Rel K F H [] []:=⟨rfl,by simp,by simp,by simp,by simp,f⟩
variable{K:FG}{H:Hp}
theorem qW(h:PX K (bD g) A H a s):oe K g A H a s:=by
 obtain⟨F,f,d,t,r,q,k⟩:=h;unfold bD at q;cases e:g (f.map .p) [] with
 |none=>rw[e]at q;cases q
 |some z=>
  obtain⟨n,S⟩:=z;rw[e]at q;dsimp only at q;cases x:toP 9 n S with
  |none=>rw[x]at q;cases q
  |some y=>obtain⟨p,P⟩:=y;rw[x]at q;cases q;refine⟨F,[],f.map .p,[],n,S,.nil t,dh.ofP r,e,λv o B c j w i=>?_⟩;obtain⟨b,l,u,_,m⟩:=n0 9 x w i;exact k v b c ((j.trans l).toGrow u.ft) m
theorem FnOk.pure(G:FnOk a w K m base pf k f d p (oe K g)):FnOk a w K m base pf k f d p (PX K (bD g)):=
 FnOk.imp G λ_ _ _ _ h=>qW h
theorem dh.toSt(r:dh K F H m s k):RL K F H m (L2.start N k) (s.map some++List.replicate (N.length-s.length) none):=by
 have l:=r.length;refine⟨by unfold L2.start;simp[l],λi d e=>?_⟩;by_cases h:i < s.length
 .rw [cA (by simpa using h),b9]at e;cases q:s[i]? with
  |none=>rw[q]at e;cases e
  |some v=>rw[q]at e;cases e;obtain⟨x,a,p⟩:=r.get q;refine⟨x,?_,p⟩;unfold L2.start;rw[cA (by simpa[<- l] using h),b9,a];rfl
 .rw [b_ (by simpa using h),uN]at e;split at e<;>cases e
theorem Ji{P:Program}{w:World}{K:FG}{m:SV}{base:Heap}{x u:Str}{st:Stmt}{f:Addr}{n:FuncData}{N a:LS}{k:Nat}{e:Sp}(F:Fun K x u st f n)(S:FnScope N a (br st))(len:∀v H Q E,e v H Q E->v.length=a.length)
  (b:∀(c:Value),jj K c u=true->∀(A:Around) (o:List Env) (s:Shared) (H:Hp) (v:List V) (Q:VK) (E:XK),Room k (A.deeper (envOfC u (br st) s.heap.objs.size f c))->e v H Q E ->
   ∃t,oQ (xq pf P w K m base N u (br st) f c A o s H E).nox (fw st) t/\t { nx:=λ_ r=>Q .non r,rt:=Q } (start N v) H):FnOk P w K m base pf (k+1) f n a e:=by
 obtain⟨B,C,z,kV,g,D,j,c,y,l,rfl,lk,d⟩:=F.ex;refine O3 lk d S len λA o s H v Q E i p=>?_;obtain⟨t,h,q⟩:=b c d A o s H v Q E i p;exact⟨t,h.nox,q⟩
theorem Mp{P:Program}{w:World}{K:FG}{y:SV}{base:Heap}{x u:Str}{st:Stmt}{f:Addr}{i:FuncData}{N p:LS}{k:Nat}{b:ES}(F:Fun K x u st f i)(S:FnScope N p (br st))
  (M:∀(c:Value),jj K c u=true->∀(A:Around) (o:List Env) (s:Shared) (H:Hp) (E:XK),Room k (A.deeper (envOfC u (br st) s.heap.objs.size f c)) ->
   oQ (xq pf P w K y base N u (br st) f c A o s H E).nox (fw st) (kJ K b)):FnOk P w K y base pf (k+1) f i p (oe K (l8 p.length N.length b)):=by
 refine Ji F S (λV H Q E h=>?_) (λc n A o s H V Q E R h=>⟨_,M c n A o s H E R,?_⟩)
 .obtain⟨F,m,a,S,d,G,C,r,q,k⟩:=h;rw[<- r.length];unfold l8 at q;split at q
  .assumption
  .cases q
 .obtain⟨F,m,a,S,d,G,C,r,q,k⟩:=h;unfold l8 at q;split at q
  .cases e:b (a.map some++List.replicate (N.length-a.length) none) S with
   |none=>rw[e]at q;cases q
   |some z=>
    obtain⟨l,L,I⟩:=z;rw[e]at q;refine⟨F,m,_,S,l,L,I,C,r.toSt,e,λW t j g D B Z=>?_⟩;cases l with
    |nx=>cases q;exact k .non t j g D B rfl
    |bk=>cases q
    |ct=>cases q
    |rt X=>intro v T;cases q;exact k v t j g D B T
  .cases q
theorem Ga{P:Program}{w:World}{K:FG}{g:SV}{base:Heap}{f:Addr}{x:FuncData}{p:LS}{k:Nat}:FnOk P w K g base pf k f x p (oe K λ_ _=>none):=by
 have n:∀v H Q E,¬oe K (λ_ _=>none) v H Q E:=λv H Q E h=>by obtain⟨F,m,b,S,d,e,_,_,q,_⟩:=h;cases q
 exact⟨λv H Q E h=>absurd h (n v H Q E),λA o s H a u v Q E _ _ _ _ h=>absurd h (n v H Q E)⟩
structure Tr where
 v:Option EV:=none
 e:Option EE:=none
 b:Option EB:=none
 w:Option EB:=none
def Tr.ofV(f:Option EV):Tr:=⟨f,f.map U,f.map λg=>bT (U g),f.map bV⟩
def Tr.ofC(f:Option EV):Tr:=⟨f,f.map U,f.map bV,f.map bV⟩
def Tr.ofE(f:Option EE):Tr:=⟨f.map vE,f,f.map bT,f.map λg=>bV (vE g)⟩
def Tr.ofB(b w:Option EB):Tr:=⟨w.map vB,w.map λg=>U (vB g),b,w⟩
structure Cn where
 N:LS
 own:LS
 deep:LS
 refs:LS
 ks:List (Str×NameKind)
 F:Str->Option GF
 G:Str->Option P
 A:Str->Str->Bool
 M:Str->Str->Option GF
 I:Str->Option GF
 L:Option GF
noncomputable def kQ:LS->Str->Option Nat
 | [],_=>none
 |y::r,x=>if y=x then some 0 else (kQ r x).map (·+1)
theorem rG:∀{N:LS}{x:Str}{i:Nat},kQ N x=some i->N[i]? = some x
 | [],_,_,h=>by cases h
 |y::r,x,i,h=>by
  unfold kQ at h;split at h
  .rename_i e;cases h;simp[e]
  .cases q:kQ r x with
   |none=>rw[q]at h;cases h
   |some j=>rw[q]at h;cases h;simpa using rG q
theorem oX:∀{N:LS}{x:Str}{i:Nat},N.Nodup->N[i]? = some x->kQ N x=some i
 | [],_,_,_,h=>by simp at h
 |y::r,x,0,_,h=>by
  have:y=x:=by simpa using h
  unfold kQ;rw[af this]
 |y::r,x,i+1,d,h=>by
  have a:r[i]? = some x:=by simpa using h
  have n:¬y=x:=λe=>by subst e;exact(bW.mp d).1 (aY a)
  unfold kQ;rw[ah n,oX (bW.mp d).2 a];rfl
noncomputable def cU(s:List (Str×NameKind))(x:Str)(l:List NameKind):Bool:=match s.lookup x with
 |some k=>l.contains k
 |none=>false
noncomputable def jo(x:Str):Bool:=!(x == ("__debug__":Str)) && !(x == ("__classdict__":Str))
noncomputable def Sk:LS:=["listed","_law_seen"]
noncomputable def Ms:LS:=[]
def Sv:Operator->Option (P->P->Option P)
 | .Add=>some fN
 | .Sub=>some Mx
 | .Mult=>some ja
 | .FloorDiv=>some gm
 | .Mod=>some ma
 | .Pow=>some MA
 |_=>none
def Nb:CmpOp->Option (P->P->Option P)
 | .Lt=>some Kh
 | .LtE=>some Pk
 | .Gt=>some Pm
 | .GtE=>some RY
 |_=>none
def Pr:CmpOp->Option (D->D->Y->Option P)
 | .Eq=>some oH
 | .NotEq=>some GZ
 | .In=>some kS
 | .NotIn=>some oG
 | .Is=>some sv
 | .IsNot=>some cW
 |_=>none
def Gu (n:Bool) (o:CmpOp):Option (D->D->Y->Option P):=if n=true then (match o with
 | .NotIn=>some lA
 |_=>none) else Pr o
def sk:List (Option EV)->Option kn
 | []=>some ar
 |a::r=>a.bind λf=>(sk r).map λg=>ab f g
def CF:List (Option EE)->Option sN
 | []=>some dY
 |a::r=>a.bind λf=>(CF r).map λg=>bw f g
def wv(o:BoolOp):List (Option EB)->Option EB
 | []=>none
 | [a]=>a
 |a::r=>a.bind λf=>(wv o r).map λg=>match o with | .And=>iU f g | .Or=>y9 f g
def QV(o:Option (Option EV)):Option EO:=match o with
 |none=>some kr
 |some a=>a.map jz
noncomputable def FO(t:Str):Option String:=if t=("list":Str) then some "list" else if t=("bool":Str) then some "bool" else none
def GG(f:Str):Option (List P->Option P):=
 if f=("int":Str) then some mi else if f=("list":Str) then some jr else if f=("tuple":Str) then some fx else if f=("abs":Str) then some pb else if f=("all":Str) then some tL else if f=("any":Str) then some tK else none
noncomputable def Jy:LS:=["len","isinstance","int","bool","tuple","list","str","max","min","dict","range","abs","enumerate","sorted","all","any","sum","set","zip"]
noncomputable def sT(a s:List (Str×NameKind)):List (Str×NameKind):=a.map λ(n,k)=>if (k == .free && s.lookup n == some .cell) then (n,.cell) else (n,k)
def y8(j:Cn)(E:Scope)(o:LS)(Q:List Nat)(n:Nat):Bool:=
 decide (E.kind=.function) && E.names.all (λx=>x.2 != .cell) && E.names.all (λx=>x.2 != .local ||E.names.lookup x.1 == some .local)
  && E.names.all (λx=>x.2 != .free ||(E.names.lookup x.1 == some .free && (j.ks.lookup x.1 == some .cell ||j.ks.lookup x.1 == some .free)))
  && decide (j.N=o.take j.N.length) && decide (o.length=j.N.length+n)
  && E.names.all (λx=>x.2 != .local ||match kQ j.N x.1 with|some i=>Q.contains i|none=>true)
def vD(j:Cn)(f g:Str):Bool:=decide (f=g) && cU j.ks f [.globalImplicit]
variable{B:Type}
noncomputable def oq:List B->Option B
 | [a]=>some a
 |_=>none
noncomputable def qR{B:Type}:List B->Option (B×B)
 | [a,b]=>some (a,b)
 |_=>none
theorem gb{B:Type}{l:List B}{a:B}(h:oq l=some a):l=[a]:=by
 unfold oq at h;split at h
 .cases h;rfl
 .cases h
theorem j3{B:Type}{l:List B}{a b:B}(h:qR l=some (a,b)):l=[a,b]:=by
 unfold qR at h;split at h
 .cases h;rfl
 .cases h
theorem au{B e:Type}{x:Option B}{f:B->Option e}{r:e}(h:x.bind f=some r):∃a,x=some a/\f a=some r:=by
 cases x with
 |none=>cases h
 |some a=>exact⟨a,rfl,h⟩
theorem aE{B e:Type}{x:Option B}{f:B->e}{r:e}(h:x.map f=some r):∃a,x=some a/\r=f a:=by
 cases x with
 |none=>cases h
 |some a=>cases h;exact⟨a,rfl,rfl⟩
theorem Kg{B:Type}{c:Prop}[Decidable c]{f:c->Option B}{x:B}(h:(if q:c then f q else none)=some x):c:=by
 by_cases q:c
 .exact q
 .rw [dif_neg q]at h;cases h
section
variable{e:Expr}
noncomputable def GY(e:Expr):Option Str:=if h:e.ctorIdx=23 then Expr.Name.elim e h λx _=>some x else none
theorem oz{x:Str}(h:GY e=some x):∃p,e=.Name x p:=by have c:=Kg h;revert h;exact Expr.Name.elim e c λ_ p h=>by cases h;exact⟨p,rfl⟩
noncomputable def lJ(e:Expr):Option (Ab):=if h:e.ctorIdx=25 then Expr.Tuple.elim e h λs _ _=>some s else none
theorem ju{s:Ab}(h:lJ e=some s):∃c p,e=.Tuple s c p:=by have c:=Kg h;revert h;exact Expr.Tuple.elim e c λ_ c p h=>by cases h;exact⟨c,p,rfl⟩
noncomputable def FQ(e:Expr):Option (Ab):=if h:e.ctorIdx=24 then Expr.List.elim e h λs _=>some s else none
theorem xa{s:Ab}(h:FQ e=some s):∃p,e=.List s p:=by have c:=Kg h;revert h;exact Expr.List.elim e c λ_ p h=>by cases h;exact⟨p,rfl⟩
noncomputable def PC(e:Expr):Option (Expr×Str×Pos):=if h:e.ctorIdx=20 then Expr.Attribute.elim e h λo m p=>some (o,m,p) else none
theorem GO{o:Expr}{m:Str}{p:Pos}(h:PC e=some (o,m,p)):e=.Attribute o m p:=by have c:=Kg h;revert h;exact Expr.Attribute.elim e c λ_ _ _ h=>by cases h;rfl
noncomputable def Q_(e:Expr):Option (Expr×Expr):=if h:e.ctorIdx=21 then Expr.Subscript.elim e h λo i _=>some (o,i) else none
theorem Le{o i:Expr}(h:Q_ e=some (o,i)):∃p,e=.Subscript o i p:=by have c:=Kg h;revert h;exact Expr.Subscript.elim e c λ_ _ p h=>by cases h;exact⟨p,rfl⟩
noncomputable def Sh(e:Expr):Option (Option Expr×Option Expr×Option Expr):=if h:e.ctorIdx=26 then Expr.Slice.elim e h λi j k _=>some (i,j,k) else none
theorem Lb{i j k:Option Expr}(h:Sh e=some (i,j,k)):∃p,e=.Slice i j k p:=by have c:=Kg h;revert h;exact Expr.Slice.elim e c λ_ _ _ p h=>by cases h;exact⟨p,rfl⟩
noncomputable def RZ(e:Expr):Option (Expr×Ab×Pos):=if h:e.ctorIdx=16 then Expr.Call.elim e h λf a k p=>if k.isEmpty=true then some (f,a,p) else none else none
theorem MH{f:Expr}{a:Ab}{p:Pos}(h:RZ e=some (f,a,p)):e=.Call f a [] p:=by
 have c:=Kg h;revert h;exact Expr.Call.elim e c λ_ _ k _ h=>by
  cases k with
  |nil=>cases h;rfl
  |cons _ _=>cases h
end
def r9(e:Expr):Option (Str×Ab):=(RZ e).bind λz=>(GY z.1).map λr=>(r,z.2.1)
theorem jI{e:Expr}{r:Str}{a:Ab}(h:r9 e=some (r,a)):∃p c,e=.Call (.Name r p) a [] c:=by obtain⟨⟨f,s,c⟩,x,n⟩:=au h;obtain⟨m,k,b⟩:=aE n;obtain⟨p,rfl⟩:=oz k;cases b;exact⟨p,c,MH x⟩
def Sx(e:Expr):Option ((Expr×Str×Pos)×Ab×Pos):=(RZ e).bind λz=>(PC z.1).map λr=>(r,z.2)
def JW(j:Cn)(f:Str)(a:Expr):Option Expr:=(r9 a).bind λz=>(oq z.2).bind λb=>if (decide (f=("list":Str)) && vD j z.1 "range")=true then some b else none
def D4(j:Cn)(f:Str)(a:Expr):Option (Expr×Expr):=(r9 a).bind λz=>(qR z.2).bind λb=>if (decide (f=("dict":Str)) && vD j z.1 "zip")=true then some b else none
def HU(j:Cn)(T:Expr->Tr)(t e:Expr):Option kn:=(r9 e).elim ((T e).v.map gU) λz=>if vD j z.1 "range"=true then (oq z.2).bind λa=>(T a).v.map jq
  else if vD j z.1 "enumerate"=true then (oq z.2).bind λa=>if (lJ t).isSome=true then (T a).v.map lZ else none
  else (T e).v.map gU
def K1(N:LS)(s:List (Str×NameKind))(k:List NameKind)(e:Expr):Option kD:=(GY e).bind λx=>if cU s x k=true then (kQ N x).map am else none
def Ei(N:LS)(s:List (Str×NameKind))(k:List NameKind):Ab->Option (List kD)
 | []=>some []
 |e::r=>(K1 N s k e).bind λg=>(Ei N s k r).map λh=>g::h
def HS(N:LS)(s:List (Str×NameKind))(k:List NameKind)(e:Expr):Option kD:=(lJ e).elim (K1 N s k e) λh=>(Ei N s k h).map bG
def iI(e:Expr):LS:=((lJ e).getD [e]).filterMap GY
noncomputable def pD(N:LS):LS->LS
 | []=>[]
 |t::r=>if (N.contains t ||(pD N r).contains t)=true then pD N r else t::pD N r
def R0(N:LS)(Q:LS):List Nat:=Q.filterMap λt=>kQ N t
def jk(j:Cn)(T:Cn->Expr->Tr)(y t iter:Expr)(i:Ab)(E:Scope):Option EV:=
 if (y8 j E (j.N++pD j.N (iI t)) (R0 j.N (iI t)) (pD j.N (iI t)).length && decide (j.N++pD j.N (iI t)).Nodup)=true then
  (HS (j.N++pD j.N (iI t)) (sT E.names j.ks) [.local] t).bind λg=>
   (match i with | []=>some fQ | [c]=>(T ⟨j.N++pD j.N (iI t),j.own.filter (λx=>!(iI t).contains x),[],j.refs,sT E.names j.ks,j.F,j.G,j.A,j.M,j.I,none⟩ c).b|_=>none).bind λc=>
   (T ⟨j.N++pD j.N (iI t),j.own.filter (λx=>!(iI t).contains x),[],j.refs,sT E.names j.ks,j.F,j.G,j.A,j.M,j.I,none⟩ y).v.bind λe=>
   (HU j (T j) t iter).map λh=>bK h (R0 j.N (iI t)) (pD j.N (iI t)).length g c e
 else none
def w_(j:Cn):Nat->Expr->Bool
 |0,_=>false
 |n+1,e=>(GY e).any (j.own.contains ·) ||(Q_ e).any (λz=>w_ j n z.1) ||(PC e).any (λz=>w_ j n z.1) ||(Sx e).any λz=>decide (z.1.2.1=("setdefault":Str)) && w_ j n z.1.1
def JN(a:Ab):Option Expr:=(qR a).bind λz=>(FQ z.2).bind λe=>if e.isEmpty=true then some z.1 else none
def yI(e:Expr):Bool:=[20,21,23].contains e.ctorIdx ||(Sx e).isSome ||(r9 e).any λz=>!z.2.isEmpty
def Mi(e:Expr):Bool:=(GY e).any (Sk.contains ·)
noncomputable def gD(e:Expr):Bool:=e.ctorIdx == 8
def M0(j:Cn)(o:Option EE)(os:Expr)(m:Str)(s:List (Option EE))(p c:Pos):Tr:=
 if (yI os && (p.endLine == c.line) && decide (s.length < 29))=true then .ofE (o.bind λx=>(CF s).map λa=>dC j.M x m a) else {}
def M3(j:Cn)(o:Expr)(m:Str)(n:Str)(a c:Pos):Bool:=decide (m=n) && w_ j 4 o && yI o && (a.endLine == c.line)
def To(a:Ab):Option (Expr×Str):=(qR a).bind λz=>(GY z.2).map λt=>(z.1,t)
def Nc(s:List Comprehension):Option (Expr×Expr×Ab):=(oq s).bind λg=>if g.is_async=0 then some (g.target,g.iter,g.ifs) else none
def Se(j:Cn)(T:Expr->Tr)(f:Str)(s:Ab):Tr:=if (cU j.ks f [.globalImplicit] && jo f && !s.isEmpty)=true then
  (j.I f).elim ((j.F f).elim
   ((oq s).elim
    ((To s).elim {} λz=>if (decide (f=("isinstance":Str)) && cU j.ks z.2 [.globalImplicit])=true then (FO z.2).elim {} (λt=>.ofV ((T z.1).e.map λx=>wy t x)) else {})
    λa=>if f=("len":Str) then .ofV ((T a).e.map dP) else if f=("sorted":Str) then .ofV ((T a).e.map Ec) else
     (JW j f a).elim ((D4 j f a).elim (.ofV ((GG f).bind λg=>(sk [(T a).v]).map λx=>bj g x)) λz=>.ofE ((T z.1).v.bind λx=>(T z.2).v.map λy=>yW x y)) λb=>.ofV ((T b).v.map NI))
   λg=>if j.refs.contains f=true then .ofV ((CF (s.map λx=>(T x).e)).map λa=>fI g a) else .ofV ((sk (s.map λx=>(T x).v)).map λa=>bj (bD g) a))
  λg=>.ofE ((CF (s.map λx=>(T x).e)).map λa=>lO g f a)
 else if (cU j.ks f [.local] && jo f)=true then (oq s).elim {} λa=>.ofV (j.L.bind λg=>(kQ j.N f).bind λi=>(T a).v.map λx=>qQ g i x) else {}
def Sf(j:Cn)(T:Expr->Tr)(o:Expr)(m:Str)(p:Pos)(s:Ab)(c:Pos):Tr:=(oq s).elim
  (if (decide (m=("get":Str)) && yI o && (p.endLine == c.line))=true then (qR s).elim {} (fun z=>.ofV ((T o).v.bind fun x=>(T z.1).v.bind fun y=>(T z.2).v.map fun z=>Ed x y z)) else
   (JN s).elim (M0 j (T o).e o m (s.map λx=>(T x).e) p c) λa=>if M3 j o m "setdefault" p c=true then .ofE ((T o).e.bind λx=>(T a).v.map λy=>nB x y (d8 ar)) else M0 j (T o).e o m (s.map λx=>(T x).e) p c)
  λa=>if M3 j o m "append" p c=true then .ofE ((T o).e.bind λx=>(T a).e.map λy=>bY x y) else
   if M3 j o m "extend" p c=true then .ofE ((T o).e.bind λx=>(T a).v.map λy=>gj x y) else
   if (decide (m=("index":Str)) && yI o && (p.endLine == c.line))=true then .ofV ((T o).v.bind λx=>(T a).v.map λy=>yd x y) else
   (lJ a).elim (M0 j (T o).e o m (s.map λx=>(T x).e) p c) λe=>if M3 j o m "get" p c=true then .ofE ((T o).e.bind λx=>(sk (e.map λz=>(T z).v)).map λy=>tu x y) else M0 j (T o).e o m (s.map λx=>(T x).e) p c
def SW(j:Cn)(T:Expr->Tr)(d:Cn->Expr->Tr)(e:Expr):Tr:=match e with
  | .Constant c _ _=>match c with
   | .int i=>.ofV (some (vC (.int i)))
   | .bool i=>.ofV (some (vC (.bl i)))
   | .none=>.ofV (some (vC .non))
   | .str i=>.ofV (some (vC (.str i)))
   |_=>{}
  | .Name x _=>if (cU j.ks x [.local,.cell,.free] && jo x)=true then .ofE ((kQ j.N x).map O) else
    if (cU j.ks x [.globalImplicit] && jo x)=true then .ofV ((j.G x).bind λv=>if FS v=true then none else some (vC v)) else {}
  | .BinOp a p b _=>.ofV ((Sv p).bind λg=>(T a).v.bind λx=>(T b).v.map λh=>bz g x h)
  | .UnaryOp p a _=>match p with
   | .USub=>.ofV ((T a).v.map (NH Dj))
   | .Not=>.ofB ((T a).b.map sL) ((T a).w.map sL)
   |_=>{}
  | .BoolOp p s _=>.ofB (wv p (s.map λx=>(T x).b)) (wv p (s.map λx=>(T x).w))
  | .Compare a n r _=>(oq n).elim (.ofC ((qR n).bind λo=>(qR r).bind λz=>(Nb o.1).bind λg=>(Nb o.2).bind λu=>(T a).v.bind λx=>(T z.1).v.bind λh=>(T z.2).v.map λz=>nZ g u x h z))
    λp=>(oq r).elim {} λb=>(Nb p).elim (.ofC ((Gu (Mi b) p).bind λg=>(T a).e.bind λx=>(T b).e.map λh=>ce g x h)) λg=>.ofC ((T a).v.bind λx=>(T b).v.map λh=>bz g x h)
  | .IfExp c a b _=>{ Tr.ofV ((T c).b.bind λq=>(T a).v.bind λx=>(T b).v.map λh=>NJ q x h) with b:=none }
  | .Tuple s _ _=>.ofV ((sk (s.map λx=>(T x).v)).map aJ)
  | .List s _=>.ofV ((sk (s.map λx=>(T x).v)).map a9)
  | .Dict k H _=>if (k.isEmpty && H.isEmpty)=true then { e:=some o6,v:=some (vE o6) } else {}
  | .Subscript a i _=>(Sh i).elim (if w_ j 4 a=true then (lJ i).elim (.ofE ((T a).e.bind λx=>(T i).v.map λh=>o5 x h)) λs=>.ofE ((T a).e.bind λx=>(sk (s.map λz=>(T z).v)).map λh=>xp x h) else .ofV ((T a).v.bind λx=>(T i).v.map λh=>bz cR x h))
    λz=>if z.2.2.isSome=true then {} else Tr.ofV ((T a).v.bind λx=>(QV (z.1.map λh=>(T h).v)).bind λh=>(QV (z.2.1.map λz=>(T z).v)).map λz=>qP x h z)
  | .Call t m k w=>if k.isEmpty=true then (GY t).elim ((PC t).elim {} λz=>Sf j T z.1 z.2.1 z.2.2 m w) (λf=>Se j T f m) else {}
  | .Attribute o f _=>if yI o=true then .ofE ((T o).e.map λx=>d9 j.A x f) else {}
  | .ListComp y l E _=>(Nc l).elim {} λz=>.ofV (jk j d y z.1 z.2.1 z.2.2 E)
  |_=>{}
def tr(j:Cn):Nat->Expr->Tr
 |0,_=>{}
 |n+1,e=>SW j (λx=>tr j n x) (λh x=>tr h n x) e
def L9(e:Expr):Bool:=match e with
 | .Lambda ⟨[],[⟨x,none,_⟩],none,[],[],none,[]⟩ (.Call (.Name g _) [.Name r _,.Name y _] [] _) sc p=>decide (x=Str.ofString "standing") && decide (g=Str.ofString "ends_on") && decide (r=Str.ofString "board") && decide (y=Str.ofString "standing") && decide (sc=pu) && decide (p=vq)
 |_=>false
theorem IY(h:L9 e=true):∃p x a s n,e=.Lambda (w4 p) (vr x a s n) pu vq:=by
 unfold L9 at h;split at h
 .simp only[av,ux]at h;obtain⟨⟨⟨⟨⟨rfl,rfl⟩,rfl⟩,rfl⟩,rfl⟩,rfl⟩:=h;exact⟨_,_,_,_,_,rfl⟩
 .cases h
def L_(j:Cn)(a:Ab):Option Expr:=(qR a).bind λz=>if (L9 z.2 && j.deep.contains (Str.ofString "<lambda>") && cU j.ks (Str.ofString "board") [.cell])=true then some z.1 else none
def NM(j:Cn)(n _k:Nat)(e:Expr):Option EE:=(r9 e).elim (tr j n e).e λz=>if (cU j.ks z.1 [.globalImplicit] && jo z.1 && !z.2.isEmpty && j.deep.contains z.1)=true then
   (j.F z.1).elim (tr j n e).e λg=>(L_ j z.2).elim ((CF (z.2.map λx=>(tr j n x).e)).map λa=>kW g a) λa=>(kQ j.N (Str.ofString "board")).bind λi=>(tr j n a).v.map λx=>vW g i x
  else (tr j n e).e
def PV(j:Cn)(n k:Nat)(e:Expr):Option EE:=NM j n k e
structure XOk(Γ:Cn)(X:Cx):Prop where
 hN:X.N=Γ.N
 nd:X.N.Nodup
 ks:X.e.scope.names=Γ.ks
 kd:X.e.scope.kind=.function
 calm:X.c=true
 hu:X.A.units+64 < cLine
 fns:∀x g,Γ.F x=some g->∃k f fd ps,FnOk X.p X.w X.K X.g X.b pf k f fd ps (oe X.K g)/\Room k X.A/\X.g x=some (.ref f)/\dZ X.K (.ref f)=true/\Binds X.K fd ps []
 blt:∀x ∈ Jy,X.g x=none
 glb:∀x v,Γ.G x=some v->lD X.w X.K X.g x v
 attrs:Qs X.K Γ.A
 meths:Qp X Γ.M
 mks:∀c g,Γ.I c=some g->∃C k f fd ps,kB X.K c C/\X.g c=some (.ref C)/\Mk X.K C f/\FnOk X.p X.w X.K X.g X.b pf k f fd ps (oe X.K g)/\Room (k+1) X.A/\Binds X.K fd ps (if Ms.contains c=true then [.none] else [])
 lam:Γ.deep.contains (Str.ofString "<lambda>")=true->Kn X/\∀x,X.fn x=true
 lmf:∀g,Γ.L=some g->∃k f fd ps,FnOk X.p X.w X.K X.g X.b pf k f fd ps (oe X.K g)/\Room (k+1) X.A/\X.g "ends_on"=some (.ref f)/\dZ X.K (.ref f)=true/\Binds X.K fd ps []
structure Good(X:Cx)(ex:Expr)(t:Tr):Prop where
 v:∀f,t.v=some f->PE X ex (tV X.K f)
 e:∀f,t.e=some f->PE X ex (tE X.K f)
 b:∀f,t.b=some f->PT X ex (tQ X.K f)
 w:∀f,t.w=some f->PE X ex (tV X.K (vB f))
section
variable{X:Cx}{e:Expr}
theorem Good.no:Good X e {}:=⟨λ_ h=>(by cases h),λ_ h=>(by cases h),λ_ h=>(by cases h),λ_ h=>(by cases h)⟩
theorem Good.el{B:Type}{o:Option B}{b:Tr}{f:B->Tr}(h:∀a,o=some a->Good X e (f a))(x:o=none->Good X e b):Good X e (o.elim b f):=by
 cases o with
 |none=>exact x rfl
 |some a=>exact h a rfl
theorem Good.ite{c:Prop}[Decidable c]{a b:Tr}(h:c->Good X e a)(x:Good X e b):Good X e (if c then a else b):=by
 by_cases q:c
 .rw [af q];exact h q
 .rw [ah q];exact x
def GU(e:Expr):Prop:=∀env w,isTrue e env w=(do let v <- w;standAt e.pos;holding [v] (truthy v))
theorem Good.ofV{t:Option EV}(h:∀f,t=some f->PE X e (tV X.K f))(p:GU e):Good X e (.ofV t) where
 v:=h
 e:=λf q=>by
  cases t with
  |none=>cases q
  |some g=>cases q;exact MX (h _ rfl)
 b:=λf q=>by
  cases t with
  |none=>cases q
  |some g=>cases q;exact yT (MX (h _ rfl)) (p _)
 w:=λf q=>by
  cases t with
  |none=>cases q
  |some g=>cases q;exact Bn (h _ rfl)
theorem Good.ofC{t:Option EV}(h:∀f,t=some f->PE X e (tV X.K f))(x:∀f,t=some f->PT X e (tQ X.K (bV f))):Good X e (.ofC t) where
 v:=h
 e:=λf q=>by
  cases t with
  |none=>cases q
  |some g=>cases q;exact MX (h _ rfl)
 b:=λf q=>by
  cases t with
  |none=>cases q
  |some g=>cases q;exact x _ rfl
 w:=λf q=>by
  cases t with
  |none=>cases q
  |some g=>cases q;exact Bn (h _ rfl)
theorem Good.ofE{t:Option EE}(h:∀f,t=some f->PE X e (tE X.K f))(p:GU e):Good X e (.ofE t) where
 v:=λf q=>by
  cases t with
  |none=>cases q
  |some g=>cases q;exact QD (h _ rfl)
 e:=h
 b:=λf q=>by
  cases t with
  |none=>cases q
  |some g=>cases q;exact yT (h _ rfl) (p _)
 w:=λf q=>by
  cases t with
  |none=>cases q
  |some g=>cases q;exact Bn (QD (h _ rfl))
theorem Good.ofB{b w:Option EB}(h:∀f,b=some f->PT X e (tQ X.K f))(hw:∀f,w=some f->PE X e (tV X.K (vB f))):Good X e (.ofB b w) where
 v:=λf q=>by
  cases w with
  |none=>cases q
  |some g=>cases q;exact hw _ rfl
 e:=λf q=>by
  cases w with
  |none=>cases q
  |some g=>cases q;exact MX (hw _ rfl)
 b:=h
 w:=hw
end
theorem kt{B x:Type}{o:Option B}{b r:x}{f:B->x}(h:o.elim b f=r):(∃a,o=some a/\f a=r)\/(o=none/\b=r):=by
 cases o with
 |none=>exact .inr ⟨rfl,h⟩
 |some a=>exact .inl ⟨a,rfl,h⟩
def gx(e:Expr):Prop:=∀s env,starEach (e::s) env=(false,eval e env)::starEach s env
structure RdE(e:Expr):Prop where
 st:gx e
 ix:nO e
 mr:∀op,behindInMarks op e=false
 ms:∀op op' b,lastMarks [op,op'] [b,e]=false
 ps:sg e
 sw:gD e=false->∀t l env,swapsWith e t l env=pure false
 fs:∀env x,foldedSetIterable e env x=pure x
theorem rd_of{j:Cn}{n:Nat}{e:Expr}(h:(tr j n e).v.isSome=true\/(tr j n e).e.isSome=true):RdE e:=by
 cases n with
 |zero=>rcases h with h|h<;>cases h
 |succ n=>cases e<;>first|(rcases h with h|h<;>cases h;done)|exact⟨λ_ _=>rfl,λ_ _=>rfl,λ_=>rfl,λ_ _ _=>rfl,λ_ _ _ _=>rfl,λc _ _ _=>(by first|rfl|cases c),λ_ _=>rfl⟩
theorem iq{j:Cn}{n:Nat}{e:Expr}{f:EV}(h:(tr j n e).v=some f):RdE e:=rd_of (.inl (by rw[h];rfl))
theorem re{j:Cn}{n:Nat}{e:Expr}{f:EE}(h:(tr j n e).e=some f):RdE e:=rd_of (.inr (by rw[h];rfl))
variable{env:Env}{u:Pos}
theorem km(h:∀e ∈ s,gx e):(backTo u (starEach s env)).any (·.1)=false:=by
 induction s with
 |nil=>rfl
 |cons e s i=>
  rw[h e aI s env];have:=i λx a=>h x (aH _ a)
  unfold backTo at this ⊢;rw[aC,cT,this];rfl
section
variable{j:Cn}{X:Cx}(h:XOk j X)
include h
theorem XOk.gl(q:cU j.ks x [.globalImplicit]=true):Gl X x:=by
 unfold Gl Env.kindOf;rw[h.ks];unfold cU at q;cases e:j.ks.lookup x with
 |none=>rw[e]at q;cases q
 |some k=>rw[e]at q;cases k<;>first|rfl|cases q
theorem XOk.vis(q:cU j.ks x [.local,.cell,.free]=true):JE X.e.scope x:=by
 unfold JE;rw[h.ks];unfold cU at q;cases e:j.ks.lookup x with
 |none=>rw[e]at q;cases q
 |some k=>rw[e]at q;cases k<;>first|exact .inl rfl|exact .inr (.inl rfl)|exact .inr (.inr rfl)|cases q
theorem XOk.loc(q:cU j.ks x [.local,.cell]=true):L2.Loc X.e.scope x:=by
 unfold L2.Loc;rw[h.ks];unfold cU at q;cases e:j.ks.lookup x with
 |none=>rw[e]at q;cases q
 |some k=>rw[e]at q;cases k<;>first|exact .inl rfl|exact .inr rfl|cases q
theorem XOk.local(q:cU j.ks x [.local]=true):X.e.scope.names.lookup x=some .local:=by
 rw[h.ks];unfold cU at q;cases e:j.ks.lookup x with
 |none=>rw[e]at q;cases q
 |some k=>rw[e]at q;cases k<;>first|rfl|cases q
omit h in
theorem dR{x:Str}(q:jo x=true):(x == ("__debug__":Str))=false/\(x == ("__classdict__":Str))=false:=by unfold jo at q;rw[av]at q;exact⟨by simpa using q.1,by simpa using q.2⟩
theorem XOk.get(q:kQ j.N x=some i):X.N[i]? = some x:=by rw[h.hN];exact rG q
omit h in
theorem ip{j:Cn}{n:Nat}:∀{s:Ab}{k:kn},(∀e ∈ s,Good X e (tr j n e))->sk (s.map λx=>(tr j n x).v)=some k->PA X s (qf X.K k)/\∀e ∈ s,gx e
 | [],k,_,q=>by cases q;exact⟨JC,λ_ z=>by cases z⟩
 |e::s,k,g,q=>by
  obtain⟨f,b,p⟩:=au q;obtain⟨r,v,rfl⟩:=aE p;obtain⟨m,t⟩:=ip (λx a=>g x (aH _ a)) v;have b:(tr j n e).v=some f:=b;have c:gx e:=(iq b).st;refine⟨GR ((g e aI).v f b) m (c _ _),λx a=>?_⟩;rcases aL.mp a with a|a
  .subst a;exact c
  .exact t x a
omit h in
theorem m7{j:Cn}{n:Nat}:∀{s:Ab}{k:sN},(∀e ∈ s,Good X e (tr j n e))->CF (s.map λx=>(tr j n x).e)=some k->PA X s (CG X.K k)/\∀e ∈ s,gx e
 | [],k,_,q=>by cases q;exact⟨Pc,λ_ z=>by cases z⟩
 |e::s,k,g,q=>by
  obtain⟨f,b,p⟩:=au q;obtain⟨r,v,rfl⟩:=aE p;obtain⟨m,t⟩:=m7 (λx a=>g x (aH _ a)) v;have b:(tr j n e).e=some f:=b;have c:gx e:=(re b).st;refine⟨Mu ((g e aI).e f b) m (c _ _),λx a=>?_⟩;rcases aL.mp a with a|a
  .subst a;exact c
  .exact t x a
omit h in
theorem wt{o:BoolOp}{u:Pos}{j:Cn}{n:Nat}:∀{s:Ab}{f:EB},(∀e ∈ s,Good X e (tr j n e))->wv o (s.map λx=>(tr j n x).b)=some f->PW X (.BoolOp o s u) (tQ X.K f)
 | [],f,_,q=>by cases q
 | [a],f,g,q=>by
  cases o with
  |And=>exact Nq ((g a aI).b f q)
  |Or=>exact Qz ((g a aI).b f q)
 |a::b::s,f,g,q=>by
  obtain⟨x,k,m⟩:=au q;obtain⟨r,t,rfl⟩:=aE m;have i:=wt (s:=b::s) (u:=u) (λx c=>g x (aH _ c)) t;cases o with
  |And=>exact QC ((g a aI).b x k) i
  |Or=>exact SJ ((g a aI).b x k) i
omit h in
theorem wu{o:BoolOp}{u:Pos}{j:Cn}{n:Nat}:∀{s:Ab}{f:EB},(∀e ∈ s,Good X e (tr j n e))->wv o (s.map λx=>(tr j n x).w)=some f->PE X (.BoolOp o s u) (tV X.K (vB f))
 | [],f,_,q=>by cases q
 | [a],f,g,q=>NE ((g a aI).w f q)
 |a::b::s,f,g,q=>by
  obtain⟨x,k,m⟩:=au q;obtain⟨r,t,rfl⟩:=aE m;have i:=wu (s:=b::s) (u:=u) (λx c=>g x (aH _ c)) t;cases o with
  |And=>exact QR ((g a aI).w x k) i
  |Or=>exact SK ((g a aI).w x k) i
omit h in
theorem Eh{j:Cn}{n:Nat}{o:Option Expr}{f:EO}(g:∀e,Good X e (tr j n e))(q:QV (o.map λy=>(tr j n y).v)=some f):PO X o (tO X.K f):=by
 cases o with
 |none=>cases q;exact LZ
 |some e=>obtain⟨x,a,rfl⟩:=aE (show((tr j n e).v).map jz=some f from q);exact LY ((g e).v x a)
theorem MJ{o:Operator}{g:P->P->Option P}(q:Sv o=some g):pF X (binaryOp o) g:=by cases o<;>first|(cases q;exact LP)|(cases q;exact Oq)|(cases q;exact LO)|(cases q;exact IK)|(cases q;exact Ow)|(cases q;exact Ot)|cases q
omit h in
theorem oJ{o:CmpOp}{g:P->P->Option P}(q:Nb o=some g):pF X (compareOp o) g:=by cases o<;>first|(cases q;exact Rp)|(cases q;exact Rq)|(cases q;exact Rr)|(cases q;exact Rs)|cases q
theorem Jr{o:CmpOp}{g:D->D->Y->Option P}(q:Pr o=some g):je X (compareOp o) (rE X.K g):=by cases o<;>first|(cases q;exact OB h.hu)|(cases q;exact Ou h.hu)|(cases q;exact Oz h.hu)|(cases q;exact Fi h.hu)|(cases q;exact Ox)|(cases q;exact Fj)|cases q
theorem xu(q:Gu k p=some g):je X (compareOp p) (rE X.K g):=by
 cases k
 .exact Jr h q
 .cases p<;>first|(cases q;exact Fh h.hu)|cases q
theorem Ju{f:Str}{g:GF}{a:Expr}{s:Ab}{x:kn}{b u:Pos}(t:j.F f=some g)(hk:cU j.ks f [.globalImplicit]=true)(v:jo f=true)(c:PA X (a::s) (qf X.K x))(n:∀e ∈ a::s,gx e) :
  PE X (.Call (.Name f b) (a::s) [] u) (tV X.K (bj (bD g) x)):=by
 obtain⟨k,w,i,l,G,d,q,p,m⟩:=h.fns f g t;exact ND (FnOk.pure G) d (h.gl hk) q p m c (dR v).1 (n a aI _ _) (km λe r=>n e (aH _ r))
theorem xE{f:Str}{g:GF}{a:Expr}{s:Ab}{x:sN}{c u:Pos}(d:j.F f=some g)(hk:cU j.ks f [.globalImplicit]=true)(q:jo f=true)(m:PA X (a::s) (CG X.K x))(n:∀e ∈ a::s,gx e) :
  PE X (.Call (.Name f c) (a::s) [] u) (tV X.K (fI g x))/\PE X (.Call (.Name f c) (a::s) [] u) (tE X.K (kW g x)):=by
 obtain⟨k,w,i,l,G,v,t,p,r⟩:=h.fns f g d;exact⟨HF G v (h.gl hk) t p r m (dR q).1 (n a aI _ _) (km fun e b=>n e (aH _ b)),
  KQ G v (h.gl hk) t p r m (dR q).1 (n a aI _ _) (km λe b=>n e (aH _ b))⟩
theorem MK{f:Str}{g:List P->Option P}{a:Expr}{k:Ab}{b:kn}{m u:Pos}(x:GG f=some g)(hk:cU j.ks f [.globalImplicit]=true)(n:PA X (a::k) (qf X.K b))(c:∀e ∈ a::k,gx e) :
  PE X (.Call (.Name f m) (a::k) [] u) (tV X.K (bj g b)):=by
 have s:=c a aI k X.e;have p:=km (env:=X.e) (u:=u) λe s=>c e (aH _ s);unfold GG at x;split at x
 .rename_i e;subst e;cases x;exact KC (h.gl hk) (h.blt _ (by decide)) n s p
 split at x
 .rename_i e;subst e;cases x;exact KA (h.gl hk) (h.blt _ (by decide)) n s p
 split at x
 .rename_i e;subst e;cases x;exact HD (h.gl hk) (h.blt _ (by decide)) n s p
 split at x
 .rename_i e;subst e;cases x;exact Nv (h.gl hk) (h.blt _ (by decide)) n s p
 split at x
 .rename_i e;subst e;cases x;exact Nu (h.gl hk) (h.blt _ (by decide)) n h.calm s p
 split at x
 .rename_i e;subst e;cases x;exact Nt (h.gl hk) (h.blt _ (by decide)) n h.calm s p
 .cases x
theorem Mh{t:Str}{T:String}{a:Expr}{f:EE}{b p u:Pos}(x:FO t=some T)(hk:cU j.ks ("isinstance":Str) [.globalImplicit]=true)(k:cU j.ks t [.globalImplicit]=true)(s:PE X a (tE X.K f))(c:gx a) :
  PE X (.Call (.Name "isinstance" b) [a,.Name t p] [] u) (tV X.K (wy T f)):=by
 have n:starEach [a,.Name t p] X.e=[(false,eval a X.e),(false,eval (.Name t p) X.e)]:=by rw[c];rfl
 have m:=h.blt ("isinstance":Str) (by decide);unfold FO at x;split at x
 .rename_i e;subst e;cases x;exact JI (.inl rfl) (h.gl hk) m (h.gl k) (h.blt _ (by decide)) uj s (by decide) (by decide) n
 split at x
 .rename_i e;subst e;cases x;exact JI (.inr rfl) (h.gl hk) m (h.gl k) (h.blt _ (by decide)) Ht s (by decide) (by decide) n
 .cases x
omit h in
theorem np{f g:Str}(q:vD j f g=true):f=g/\cU j.ks f [.globalImplicit]=true:=by unfold vD at q;rw[av]at q;exact⟨aN q.1,q.2⟩
theorem JZ{n:Nat}{m e:Expr}{f:kn}(g:∀x,Good X x (tr j n x))(q:HU j (λx=>tr j n x) m e=some f):PI X m e (tI X.K f):=by
 have plain:((tr j n e).v.map gU=some f)->PI X m e (tI X.K f):=λq=>by obtain⟨x,s,rfl⟩:=aE q;exact iS ((g e).v x s)
 have d:=kt q;clear q;rcases d with ⟨⟨i,v⟩,z,q⟩|⟨_,q⟩
 .obtain⟨l,u,rfl⟩:=jI z;dsimp only at q;split at q
  .rename_i r;obtain⟨rfl,r⟩:=np r;obtain⟨a,b,k⟩:=au q;clear q;cases gb b;obtain⟨x,s,rfl⟩:=aE k;exact Tu (h.gl r) (h.blt ("range":Str) (by decide)) ((g a).v x s) ((iq s).st _ _)
  .split at q
   .rename_i r;obtain⟨rfl,r⟩:=np r;obtain⟨a,b,k⟩:=au q;clear q;cases gb b;split at k
    .rename_i t;obtain⟨x,s,rfl⟩:=aE k;obtain⟨w,t⟩:=uh.mp t;obtain⟨c,p,rfl⟩:=ju t;exact Tv (h.gl r) (h.blt ("enumerate":Str) (by decide)) ((g a).v x s) ((iq s).st _ _)
    .cases k
   .exact plain q
 .exact plain q
omit h in
theorem Cr{f:Str}{a b c:Expr}(q:D4 j f a=some (b,c)):f="dict"/\∃r p x,a=.Call (.Name r p) [b,c] [] x/\vD j r "zip"=true:=by
 obtain⟨⟨r,m⟩,z,n⟩:=au q;obtain⟨⟨t,v⟩,k,s⟩:=au n;clear q n;obtain⟨p,x,rfl⟩:=jI z;cases j3 k;split at s
 .rename_i e;cases s;simp only[av]at e;exact⟨aN e.1,r,p,x,rfl,e.2⟩
 .cases s
omit h in
theorem Fx{f:Str}{a b:Expr}(q:JW j f a=some b):f="list"/\∃r p c,a=.Call (.Name r p) [b] [] c/\vD j r "range"=true:=by
 obtain⟨⟨r,m⟩,z,s⟩:=au q;obtain⟨t,k,e⟩:=au s;clear q s;obtain⟨p,n,rfl⟩:=jI z;cases gb k;split at e
 .rename_i x;cases e;simp only[av]at x;exact⟨aN x.1,r,p,n,rfl,x.2⟩
 .cases e
omit h in
theorem w8{n:Nat}{t e:Expr}{f:kn}(q:HU j (λx=>tr j n x) t e=some f)(env:Env)(x:Value):foldedSetIterable e env x=pure x:=by
 have s:=kt q;clear q;rcases s with ⟨⟨b,a⟩,z,q⟩|⟨_,q⟩
 .obtain⟨p,u,rfl⟩:=jI z;rfl
 .obtain⟨x,k,rfl⟩:=aE q;exact(iq k).fs _ _
theorem GH(q:y8 j E o Q n=true):BlockOk X E o Q n:=by
 unfold y8 at q;simp only[av]at q;obtain⟨⟨⟨⟨⟨⟨f,b⟩,c⟩,m⟩,r⟩,p⟩,v⟩:=q;have s:j.N=o.take j.N.length:=aN r;refine⟨aN f,λx a=>?_,λx a l=>?_,λx a l=>?_,?_,?_,λx a l i k=>?_⟩
 .simpa using bb.mp b x a
 .have:=bb.mp c x a;rw[l]at this;simpa using this
 .have:=bb.mp m x a;rw[l]at this;have t:E.names.lookup x.1=some .free/\(j.ks.lookup x.1=some .cell\/j.ks.lookup x.1=some .free):=by simpa using this
  refine⟨t.1,?_⟩;unfold Env.kindOf;rw[h.ks];exact t.2
 .rw [h.hN];exact s
 .rw [h.hN];exact aN p
 .have:=bb.mp v x a;rw[l]at this;have e:kQ j.N x.1=some i:=oX (by rw[<- h.hN];exact h.nd) (by rw[<- h.hN];exact k);rw[e]at this;simpa using this
end
theorem JT{X:Cx}{N:LS}{s:List (Str×NameKind)}{k:List NameKind}{e:Expr}{g:kD}(f:X.N=N)(d:X.N.Nodup)(hk:∀x,cU s x k=true->L2.Loc X.e.scope x/\(X.fn x=true\/X.e.scope.names.lookup x=some .local))(q:K1 N s k e=some g):∃x p,e=.Name x p/\PG X (.Name x p) (gT X.K g):=by
 obtain⟨x,b,h⟩:=au q;clear q;obtain⟨p,rfl⟩:=oz b;split at h
 .rename_i c;obtain⟨i,m,rfl⟩:=aE h;obtain⟨a,n⟩:=hk _ c;exact⟨x,p,rfl,Mn i d (by rw[f];exact rG m) a n⟩
 .cases h
theorem tg_ok{X:Cx}{N:LS}{n:List (Str×NameKind)}{k:List NameKind}{e:Expr}{g:kD}(t:X.c=true)(b:X.N=N)(d:X.N.Nodup)(hk:∀x,cU n x k=true->L2.Loc X.e.scope x/\(X.fn x=true\/X.e.scope.names.lookup x=some .local))(q:HS N n k e=some g):PG X e (gT X.K g):=by
 have all:∀{s:Ab}{h:List kD},Ei N n k s=some h->GsOk X s h:=by
  intro s;induction s with
  |nil=>intro h q;cases q;exact .nil
  |cons e s i=>intro h q;obtain⟨g,f,m⟩:=au q;obtain⟨r,w,rfl⟩:=aE m;clear q m;obtain⟨x,p,rfl,a⟩:=JT b d hk f;exact .cons a (i w)
 have v:=kt q;clear q;rcases v with ⟨s,z,q⟩|⟨_,q⟩
 .obtain⟨c,p,rfl⟩:=ju z;obtain⟨h,f,rfl⟩:=aE q;exact Mm t (all f)
 .obtain⟨x,p,rfl,a⟩:=JT b d hk q;exact a
variable{E:Scope}
theorem EI(hk:env.scope.kind=.function):(relabel E env).names=sT E.names env.scope.names:=by unfold relabel sT Env.kindOf;rw[hk];simp
variable{j:Cn}{X:Cx}{o:LS}{Q:List Nat}{n:Nat}
theorem XOk.inn(h:XOk j X)(B:BlockOk X E o Q n)(d:o.Nodup)(s:Shared)(H:Hp)(C:Addr)(f:List Addr) :
  XOk ⟨o,[],[],j.refs,sT E.names j.ks,j.F,j.G,j.A,j.M,j.I,none⟩ (Ev.inn X E o s H C f) where
 hN:=rfl
 nd:=d
 ks:=by show(relabel E X.e).names=_;rw[EI h.kd,h.ks]
 kd:=B.kind
 calm:=h.calm
 hu:=h.hu
 fns:=h.fns
 blt:=h.blt
 glb:=h.glb
 attrs:=h.attrs
 meths:=h.meths
 mks:=h.mks
 lam:=λz=>by cases z
 lmf:=λg z=>by cases z
theorem ke(B:BlockOk X E o Q n)(I:Inv X m J H s):closureFor E X.e=pure (mh E X.e):=by
 have all:∀x ∈ E.names,x.2=.free->∃c,X.e.cells.lookup x.1=some c:=λx v h=>I.o.has x.1 (B.fr x v h).2;unfold closureFor mh;have f:∀(l:List (Str×NameKind))(a:List (Str×Addr)),(∀x ∈ l,x.2=.free->∃c,X.e.cells.lookup x.1=some c) ->
   (forIn l a fun (x:Str×NameKind) (r:List (Str×Addr))=>(do
    if x.2 == .free then do
     let c <- cellOf X.e x.1
     pure (ForInStep.yield ((x.1,c)::r))
    else pure (ForInStep.yield r):Sem (ForInStep (List (Str×Addr)))))=pure ((((l.filter λx=>x.2 == .free).map λx=>(x.1,(X.e.cells.lookup x.1).getD 0)).reverse)++a):=by
  intro l;induction l with
  |nil=>intro a _;rfl
  |cons x l i=>
   intro a h;rw[i3];by_cases hk:(x.2 == NameKind.free)=true
   .obtain⟨c,b⟩:=h x aI (by simpa using hk);rw[af hk,p9 (p:=λ(x:Str×NameKind)=>x.2 == .free) hk,aC,List.reverse_cons,fg];have q:cellOf X.e x.1=pure c:=by unfold cellOf;rw[b]
    rw[q,b];show(forIn l ((x.1,c)::a) _:Sem _)=_;rw[i ((x.1,c)::a) λy e=>h y (aH _ e)];rfl
   .rw [ah hk,p7 (p:=λ(x:Str×NameKind)=>x.2 == .free) hk];show(forIn l a _:Sem _)=_;rw[i a λy e=>h y (aH _ e)]
 have k:=f E.names [] all;rw [dJ] at k;show (Bind.bind (forIn E.names [] fun (x:Str×NameKind) (r:List (Str×Addr))=>(do
    if x.2 == .free then do
     let c <- cellOf X.e x.1
     pure (ForInStep.yield ((x.1,c)::r))
    else pure (ForInStep.yield r):Sem (ForInStep (List (Str×Addr))))) λt=>pure t:Sem (List (Str×Addr)))=_
 rw[k];rfl
def nP(n:Nat):Prop:=∀(j:Cn)(X:Cx),XOk j X->∀e,Good X e (tr j n e)
theorem XOk.own(h:XOk j X)(o:LS):XOk ⟨j.N,o,j.deep,j.refs,j.ks,j.F,j.G,j.A,j.M,j.I,j.L⟩ X:=⟨h.hN,h.nd,h.ks,h.kd,h.calm,h.hu,h.fns,h.blt,h.glb,h.attrs,h.meths,h.mks,h.lam,h.lmf⟩
theorem kX{j:Cn}{X:Cx}(h:XOk j X){n:Nat}(G:nP n){y t iter:Expr}{k:Ab}{E:Scope}{f:EV}(q:jk j (λd x=>tr d n x) y t iter k E=some f) :
  ∃o Q m g w u,BlockOk X E o Q m/\si X t iter f Q m g w u/\(∀s H C p,PG (inn X E o s H C p) t (gT X.K g))/\(∀s H C p,PIfs (inn X E o s H C p) k w)/\(∀s H C p,PE (inn X E o s H C p) y (tV X.K u)) /\
   ∀x,foldedSetIterable iter X.e x=pure x:=by
 unfold jk at q;generalize N:j.N++pD j.N (iI t)=o at q;generalize K:R0 j.N (iI t)=Q at q;generalize D:(pD j.N (iI t)).length=m at q;split at q
 .rename_i b;rw[av]at b;obtain⟨l,P,q⟩:=au q;obtain⟨c,v,q⟩:=au q;obtain⟨e,A,q⟩:=au q;have B:BlockOk X E o Q m:=GH h b.1;have S:o.Nodup:=aN b.2;have i:=λs H C p=>(h.inn B S s H C p).own (j.own.filter (λx=>!(iI t).contains x))
  have W:si X t iter f Q m l c e/\∀x,foldedSetIterable iter X.e x=pure x:=by
   .obtain⟨I,F,rfl⟩:=aE q;exact⟨Ps (JZ h (G j X h) F),λx=>w8 F _ x⟩
  refine⟨o,Q,m,l,c,e,B,W.1,λs H C p=>?_,λs H C p=>?_,λs H C p=>?_,W.2⟩
  .exact tg_ok h.calm rfl S (λx z=>⟨.inl ((i s H C p).local z),.inr ((i s H C p).local z)⟩) P
  .cases k with
   |nil=>cases v;exact PIfs.none
   |cons a r=>
    cases r with
    |nil=>exact PIfs.one ((G _ _ (i s H C p) a).b c v)
    |cons _ _=>cases v
  .exact (G _ _ (i s H C p) y).v e A
 .cases q
theorem xw{j:Cn}{X:Cx}(h:XOk j X){n:Nat}(G:nP n){y t iter:Expr}{k:Ab}{E:Scope}{u:Pos}{f:EV}(q:jk j (λr x=>tr r n x) y t iter k E=some f) :
  PE X (.ListComp y [⟨t,iter,k,0⟩] E u) (tV X.K f)/\∀(i:Nat){x:Str}{c e:Pos},X.N.Nodup->swapsWith (.ListComp y [⟨t,iter,k,0⟩] E u) (some (.Name x c)) e.line X.e=pure true->X.N[i]? = some x->L2.Loc X.e.scope x->(X.fn x=true\/X.e.scope.names.lookup x=some .local) ->
   PS X (.Assign [.Name x c] (.ListComp y [⟨t,iter,k,0⟩] E u) e) (kJ X.K (aB i (U f))):=by
 obtain⟨o,Q,m,P,F,K,B,W,v,d,w,g⟩:=kX h G q;exact⟨λp s J H a I q=>NB B h.calm W v d w (ke B I) g p s J H a I q,λi x c e N S b z l p s J H D I q=>No i N B h.calm W v d w (ke B I) S g b z l p s J H D I q⟩
variable{y:Expr}{f:EV}
theorem tF(h:XOk j X)(G:nP n)(q:jk j (λe x=>tr e n x) y t iter i E=some f):PE X (.ListComp y [⟨t,iter,i,0⟩] E u) (tE X.K (o7 f)):=by obtain⟨o,Q,m,g,v,d,B,W,k,b,c,r⟩:=kX h G q;exact λp s J H a I q=>KO B h.calm W k b c (ke B I) r p s J H a I q
variable{x:Str}
theorem Dn(h:XOk j X)(G:nP n)(q:jk j (λb x=>tr b n x) y t iter a E=some f)(i:Nat)(z:swapsWith (.ListComp y [⟨t,iter,a,0⟩] E u) (some (.Name x l)) k.line X.e=pure true)
  (e:X.N[i]? = some x) (r:L2.Loc X.e.scope x) (c:X.fn x=true\/X.e.scope.names.lookup x=some .local):PS X (.Assign [.Name x l] (.ListComp y [⟨t,iter,a,0⟩] E u) k) (kJ X.K (aB i (o7 f))):=by
 obtain⟨o,Q,m,K,S,F,B,W,v,d,w,g⟩:=kX h G q;exact λp s J H D I q=>Kv i h.nd B h.calm W v d w (ke B I) z g e r c p s J H D I q
theorem Ex{s:Ab}{a:Expr}(h:JN s=some a):∃p,s=[a,.List [] p]:=by
 obtain⟨⟨c,b⟩,e,f⟩:=au h;obtain⟨m,n,x⟩:=au f;obtain⟨p,rfl⟩:=xa n;split at x
 .rename_i k;cases x;cases mO.mp k;exact⟨p,j3 e⟩
 .cases x
theorem vl{j:Cn}{o:Expr}{m n:Str}{a c:Pos}(h:M3 j o m n a c=true):m=n/\yI o=true/\(a.endLine == c.line)=true:=by unfold M3 at h;simp only[av]at h;exact⟨aN h.1.1.1,h.1.2,h.2⟩
theorem dF{o:Expr}{x:Str}{env:Env}(h:yI o=true):attributeBase o x env (eval o env)=eval o env:=by
 cases o with
 |Call f a k p=>
  cases f with
  |Name x q=>
   cases k with
   |nil=>cases a with
    |nil=>cases h
    |cons _ _=>rfl
   |cons _ _=>cases h
  |_=>rfl
 |_=>rfl
theorem Jk(h:∀e ∈ a,gx e)(l:a.length < 29):methodCallForm (a.length+([]:List Keyword).length) (backTo u (starEach a env)) (backToKw u (keywordEach [] env))=true:=by
 unfold methodCallForm;have s:=km (env:=env) (u:=u) h;have n:(backTo u (starEach a env)).all (λx=>!x.1)=true:=by
  rw[bb];intro x f;cases b:x.1 with
  |false=>rfl
  |true=>have:(backTo u (starEach a env)).any (·.1)=true:=pW.mpr ⟨x,f,b⟩;rw[s]at this;cases this
 rw[n];have k:(backToKw u (keywordEach [] env))=[]:=rfl;rw[k];simp;lia
theorem u3{j:Cn}{X:Cx}(h:XOk j X){n:Nat}(g:∀x,Good X x (tr j n x)){o:Expr}{m:Str}{r:Ab}{p k:Pos}:Good X (.Call (.Attribute o m p) r [] k) (M0 j (tr j n o).e o m (r.map λx=>(tr j n x).e) p k):=by
 unfold M0;split
 .rename_i c;simp only[av]at c;have l:r.length < 29:=by have:=aN c.2;rwa [aU]at this
  refine .ofE (λf q=>?_) λ_ _=>rfl;obtain⟨x,t,q⟩:=au q;obtain⟨a,v,rfl⟩:=aE q;obtain⟨d,s⟩:=m7 (λe _=>g e) v;have b:=L4 (o:=o) (y:=m) (j:=p) (N:=k) (u:=r) (v:=X.e) (dF c.1.1) (Jk s l) c.1.2;cases r with
  |nil=>cases v;exact KE h.meths ((g o).e x t) b
  |cons e i=>exact Nx h.meths ((g o).e x t) d (s e aI _ _) (km λy w=>s y (aH _ w)) b
 .exact .no
theorem IS{j:Cn}{X:Cx}(h:XOk j X){f:Str}{g:GF}{a:Expr}{s:Ab}{x:sN}{p u:Pos}(t:j.I f=some g)(hk:cU j.ks f [.globalImplicit]=true)(v:jo f=true)(c:PA X (a::s) (CG X.K x))(n:∀e ∈ a::s,gx e) :
  PE X (.Call (.Name f p) (a::s) [] u) (tE X.K (lO g f x)):=by
 obtain⟨C,k,l,y,z,b,q,mk,G,d,m⟩:=h.mks f g t;have w:=n a aI s X.e;have i:=km (env:=X.e) (u:=u) λe r=>n e (aH _ r);exact Ny mk G d (h.gl hk) q b m c (dR v).1 w i
theorem y3{g:List Comprehension}{t iter:Expr}{i:Ab}(h:Nc g=some (t,iter,i)):g=[⟨t,iter,i,0⟩]:=by
 obtain⟨⟨a,b,c,d⟩,x,p⟩:=au h;split at p
 .rename_i hd;cases p;cases (show d=0 from hd);exact gb x
 .cases p
section
variable{j:Cn}{X:Cx}(h:XOk j X){n:Nat}(g:∀x,Good X x (tr j n x))
include h g
theorem K3{f:Str}{z:Ab}{I D:Pos}:Good X (.Call (.Name f I) z [] D) (Se j (λx=>tr j n x) f z):=by
 refine .ite (λs=>?_) (.ite (λs=>.el (λa u=>?_) λ_=>.no) .no);rotate_left
 .rw [av]at s;cases gb u;refine .ofV (λf2 q=>?_) λ_ _=>rfl;obtain⟨M,q0,q⟩:=au q;obtain⟨i,m,q⟩:=au q;obtain⟨x,p,rfl⟩:=aE q;obtain⟨k,fe,fd,ps,G,v,N,hk,l⟩:=h.lmf M q0;have Q:JE X.e.scope f:=by
   unfold JE;rw[h.ks];have s:=s.1;unfold cU at s;split at s
   .rename_i R E;rw[E];cases R<;>first|exact .inl rfl|cases s
   .cases s
  exact KS G v N hk l (Nw i (h.get m) Q (dR s.2).1 (dR s.2).2) ((g _).v x p) ((iq p).st _ _)
 simp only[av,mS]at s;cases z with
 |nil=>cases s.2
 |cons a z=>
 refine .el (λL H=>?_) λ_=>.el (λL H=>.ite (λ_=>?_) ?_) λ_=>.el (λP u=>?_) λ_=>.el (λ⟨P,t⟩ u=>?_) λ_=>.no
 .refine .ofE (λf q=>?_) λ_ _=>rfl;obtain⟨x,m,rfl⟩:=aE q;obtain⟨d,w⟩:=m7 (λe _=>g e) m;exact IS h H s.1.1 s.1.2 d w
 .refine .ofV (λf q=>?_) λ_ _=>rfl;obtain⟨x,m,rfl⟩:=aE q;obtain⟨d,w⟩:=m7 (λe _=>g e) m;exact(xE h H s.1.1 s.1.2 d w).1
 .refine .ofV (λf q=>?_) λ_ _=>rfl;obtain⟨x,m,rfl⟩:=aE q;obtain⟨d,w⟩:=ip (λe _=>g e) m;exact Ju h H s.1.1 s.1.2 d w
 .cases gb u;refine .ite (λF=>?_) (.ite (λF=>?_) (.el (λb l=>?_) λ_=>.el (λ⟨b,c⟩ l=>?_) λ_=>?_))
  .subst F;refine .ofV (λf q=>?_) λ_ _=>rfl
   obtain⟨x,m,rfl⟩:=aE q;exact QL (h.gl s.1.1) (h.blt _ (by decide)) ((g _).e x m) ((re m).st _ _)
  .subst F;refine .ofV (λf q=>?_) λ_ _=>rfl
   obtain⟨x,m,rfl⟩:=aE q;exact D' (h.gl s.1.1) (h.blt _ (by decide)) ((g _).e x m) ((re m).st _ _)
  .obtain⟨rfl,r,Z,C,rfl,v⟩:=Fx l;refine .ofV (λf q=>?_) λ_ _=>rfl;obtain⟨x,m,rfl⟩:=aE q;obtain⟨rfl,v⟩:=np v;exact HE h.calm (h.gl s.1.1) (h.blt _ (by decide)) (h.gl v) (h.blt _ (by decide)) ((g _).v x m) ((iq m).st _ _)
  .obtain⟨rfl,r,Z,C,rfl,v⟩:=Cr l;refine .ofE (λf q=>?_) λ_ _=>rfl;obtain⟨x,m,q⟩:=au q;obtain⟨y,p,rfl⟩:=aE q;obtain⟨rfl,v⟩:=np v;have K:starEach [c] X.e=[(false,eval c X.e)]:=(iq p).st _ _;exact KH h.calm (h.gl s.1.1) (h.blt _ (by decide)) (h.gl v) (h.blt _ (by decide)) ((g _).v x m) ((g _).v y p) (by rw[(iq m).st,K]) K Hy
  .refine .ofV (λf q=>?_) λ_ _=>rfl;obtain⟨o,m,q⟩:=au q;obtain⟨x,p,rfl⟩:=aE q;obtain⟨d,w⟩:=ip (s:=[a]) (λe _=>g e) p;exact MK h m s.1.1 d w
 .refine .ite (λS=>?_) .no;rw[av]at S;cases aN S.1;obtain⟨⟨d,w⟩,A,V⟩:=au u;obtain⟨t',B,W⟩:=aE V;cases W;obtain⟨tp,rfl⟩:=oz B;cases j3 A;refine .el (λT m=>?_) λ_=>.no;refine .ofV (λf q=>?_) λ_ _=>rfl;obtain⟨x,p,rfl⟩:=aE q;exact Mh h m s.1.1 S.2 ((g _).e x p) (re p).st
theorem K4{o:Expr}{m:Str}{u:Ab}{w i:Pos}:Good X (.Call (.Attribute o m w) u [] i) (Sf j (λx=>tr j n x) o m w u i):=by
 have l:X.A.units+1 < cLine:=by have:=h.hu;lia
 refine .el (λa d=>?_) λ_=>?_
 .cases gb d;refine .ite (λs=>?_) (.ite (λs=>?_) (.ite (λs=>?_) (.el (λA K=>.ite (λs=>?_) (u3 h g)) λ_=>u3 h g)))
  .obtain⟨rfl,t,v⟩:=vl s;refine .ofE (λf q=>?_) λ_ _=>rfl;obtain⟨x,r,q⟩:=au q;obtain⟨y,k,rfl⟩:=aE q;exact HI ((g _).e x r) ((g _).e y k) ((re k).st _ _) (dF t) v
  .obtain⟨rfl,t,v⟩:=vl s;refine .ofE (λf q=>?_) λ_ _=>rfl;obtain⟨x,r,q⟩:=au q;obtain⟨y,k,rfl⟩:=aE q;exact HH ((g _).e x r) ((g _).v y k) ((iq k).st _ _) (dF t) v
  .simp only[av]at s;cases aN s.1.1;refine .ofV (λf q=>?_) λ_ _=>rfl;obtain⟨x,r,q⟩:=au q;obtain⟨y,k,rfl⟩:=aE q;exact KG h.hu ((g _).v x r) ((g _).v y k) ((iq k).st _ _) (dF s.1.2) s.2
  .obtain⟨c,p,rfl⟩:=ju K;obtain⟨rfl,t,v⟩:=vl s;refine .ofE (λf q=>?_) λ_ _=>rfl;obtain⟨x,r,q⟩:=au q;obtain⟨y,k,rfl⟩:=aE q;exact NA l ((g _).e x r) (ip (λe _=>g e) k).1 ⟨dF t,rfl,v,rfl⟩
 .refine .ite (λs=>.el (λ⟨a,b⟩ d=>?_) λ_=>.no) (.el (λa d=>.ite (λs=>?_) (u3 h g)) λ_=>u3 h g)
  .simp only[av]at s;cases aN s.1.1;cases j3 d;refine .ofV (λf q=>?_) λ_ _=>rfl;obtain⟨x,r,q⟩:=au q;obtain⟨y,k,q⟩:=au q;obtain⟨z,S,rfl⟩:=aE q;have P:starEach [b] X.e=[(false,eval b X.e)]:=(iq S).st _ _;have F:starEach [a,b] X.e=[(false,eval a X.e),(false,eval b X.e)]:=by rw[(iq k).st,P]
   exact KD l ((g _).v x r) ((g _).v y k) ((g _).v z S) ⟨dF s.1.2,by rw[F];rfl,s.2,by rw[F];rfl⟩
  .obtain⟨p,rfl⟩:=Ex d;obtain⟨rfl,t,v⟩:=vl s;refine .ofE (λf q=>?_) λ_ _=>rfl;obtain⟨x,r,q⟩:=au q;obtain⟨y,k,rfl⟩:=aE q;have H:=(iq k).st;exact HG ((g _).e x r) ((g _).v y k) (JJ JC) ⟨dF t,by rw[H];rfl,v,by rw[H];rfl⟩
end
theorem m5:∀n,nP n
 |0=>λj X h e=>Good.no
 |n+1=>by
  have G:=m5 n;intro j X h e;have g:=G j X h;cases e with
  |Constant c k p=>
   cases c with
   |int i=>exact .ofV (λf q=>by cases q;exact QO) λ_ _=>rfl
   |bool i=>exact .ofV (λf q=>by cases q;exact SR) λ_ _=>rfl
   |none=>exact .ofV (λf q=>by cases q;exact QI) λ_ _=>rfl
   |str i=>exact .ofV (λf q=>by cases q;exact QF) λ_ _=>rfl
   |_=>exact .no
  |Name x p=>
   refine .ite (λw=>?_) (.ite (λw=>?_) .no)
   .rw [av]at w;refine .ofE (λf q=>?_) λ_ _=>rfl;obtain⟨i,r,rfl⟩:=aE q;exact Nw i (h.get r) (h.vis w.1) (dR w.2).1 (dR w.2).2
   .rw [av]at w;refine .ofV (λf q=>?_) λ_ _=>rfl;obtain⟨v,r,q⟩:=au q;split at q
    .cases q
    .rename_i hd;cases q;exact Nz (h.gl w.1) ((h.glb _ v r).1 (by simpa using hd)) (dR w.2).1
  |BinOp a l b p=>refine .ofV (λf q=>?_) λ_ _=>rfl;obtain⟨o,r,q⟩:=au q;obtain⟨x,t,q⟩:=au q;obtain⟨s,d,rfl⟩:=aE q;exact SM (MJ h r) ((g _).v x t) ((g _).v s d)
  |UnaryOp l a p=>
   cases l with
   |USub=>refine .ofV (λf q=>?_) λ_ _=>rfl;obtain⟨x,r,rfl⟩:=aE q;exact QJ ((g _).v x r)
   |Not=>
    refine .ofB (λf q=>?_) λf q=>?_
    .obtain⟨x,r,rfl⟩:=aE q;exact QA ((g _).b x r)
    .obtain⟨x,r,rfl⟩:=aE q;exact QH ((g _).w x r)
   |_=>exact .no
  |BoolOp l K p=>exact .ofB (λf q=>(wt (λe _=>g e) q).pt) λf q=>wu (λe _=>g e) q
  |Compare a H F p=>
   refine .el (λl A=>?_) λ_=>?_
   .cases gb A;refine .el (λb Q=>?_) λ_=>.no
    cases gb Q;refine .el (λP r=>?_) λ_=>?_
    .have u:∀f,((tr j n a).v.bind λx=>(tr j n b).v.map λs=>bz P x s)=some f->PE X (.Compare a [l] [b] p) (tV X.K f)/\PT X (.Compare a [l] [b] p) (tQ X.K (bV f)):=λf q=>by
      obtain⟨x,t,q⟩:=au q;obtain⟨s,d,rfl⟩:=aE q;exact⟨QQ (oJ r) ((g _).v x t) ((g _).v s d) ((iq d).mr _),QB (oJ r) ((g _).v x t) ((g _).v s d) ((iq d).mr _)⟩
     exact .ofC (λf q=>(u f q).1) λf q=>(u f q).2
    .have u:∀f,((Gu (Mi b) l).bind λg=>(tr j n a).e.bind λx=>(tr j n b).e.map λs=>ce g x s)=some f->PE X (.Compare a [l] [b] p) (tV X.K f)/\PT X (.Compare a [l] [b] p) (tQ X.K (bV f)):=λf q=>by
      obtain⟨o,r,q⟩:=au q;obtain⟨x,t,q⟩:=au q;obtain⟨s,d,rfl⟩:=aE q;exact⟨NC (xu h r) ((g _).e x t) ((g _).e s d) ((re d).mr _),Np (xu h r) ((g _).e x t) ((g _).e s d) ((re d).mr _)⟩
     exact .ofC (λf q=>(u f q).1) λf q=>(u f q).2
   .have u:∀f,((qR H).bind λo=>(qR F).bind λz=>(Nb o.1).bind λg=>(Nb o.2).bind λP=>(tr j n a).v.bind λx=>(tr j n z.1).v.bind λs=>(tr j n z.2).v.map λz=>nZ g P x s z)=some f->PE X (.Compare a H F p) (tV X.K f)/\PT X (.Compare a H F p) (tQ X.K (bV f)):=λf q=>by
     obtain⟨⟨o1,o2⟩,L,D⟩:=au q;obtain⟨⟨b,c⟩,M,p1⟩:=au D;clear q D;cases j3 L;cases j3 M;obtain⟨o,r,q⟩:=au p1;obtain⟨o',t,q⟩:=au q;obtain⟨x,d,q⟩:=au q;obtain⟨s,I,q⟩:=au q;obtain⟨z,S,rfl⟩:=aE q;exact⟨KP (oJ r) (oJ t) ((g _).v x d) ((g _).v s I) ((g _).v z S) ((iq S).ms _ _ _),Kw (oJ r) (oJ t) ((g _).v x d) ((g _).v s I) ((g _).v z S) ((iq S).ms _ _ _)⟩
    exact .ofC (λf q=>(u f q).1) λf q=>(u f q).2
  |IfExp c a b p=>
   have C:∀f,((tr j n c).b.bind λq=>(tr j n a).v.bind λx=>(tr j n b).v.map λs=>NJ q x s)=some f->PE X (.IfExp c a b p) (tV X.K f):=λf q=>by obtain⟨o,r,q⟩:=au q;obtain⟨x,t,q⟩:=au q;obtain⟨s,d,rfl⟩:=aE q;exact SQ ((g _).b o r) ((g _).v x t) ((g _).v s d)
   refine⟨C,λf q=>?_,λf q=>(by cases q),λf q=>?_⟩
   .obtain⟨x,r,rfl⟩:=aE (show ug U _=some f from q);exact MX (C _ r)
   .obtain⟨x,r,rfl⟩:=aE (show ug bV _=some f from q);exact Bn (C _ r)
  |Tuple K c p=>refine .ofV (λf q=>?_) λ_ _=>rfl;obtain⟨x,r,rfl⟩:=aE q;exact QE (ip (λe _=>g e) r).1
  |List K p=>refine .ofV (λf q=>?_) λ_ _=>rfl;obtain⟨x,r,rfl⟩:=aE q;exact QK (ip (λe _=>g e) r).1
  |Dict Z vs p=>refine .ite (λw=>?_) .no;rw[av]at w;cases mO.mp w.1;cases mO.mp w.2;exact⟨λf q=>(by cases q;exact QD Ea),λf q=>(by cases q;exact Ea),λf q=>(by cases q),λf q=>(by cases q)⟩
  |Subscript a i p=>
   have B:X.A.units+1 < cLine:=by have:=h.hu;lia
   refine .el (λ⟨lo,hi,st⟩ T=>?_) λ_=>.ite (λ_=>.el (λK N=>?_) λ_=>?_) ?_
   .obtain⟨p,rfl⟩:=Lb T;cases st with
    |some _=>exact .no
    |none=>
     refine .ite (λ_=>.no) (.ofV (λf q=>?_) λ_ _=>rfl)
     .obtain⟨x,r,q⟩:=au q;obtain⟨s,t,q⟩:=au q;obtain⟨z,d,rfl⟩:=aE q;exact QG ((g _).v x r) (Eh g t) (Eh g d)
   .obtain⟨c,p,rfl⟩:=ju N;refine .ofE (λf q=>?_) λ_ _=>rfl;obtain⟨x,r,q⟩:=au q;obtain⟨s,t,rfl⟩:=aE q;exact QM B ((g _).e x r) (ip (λe _=>g e) t).1 λ_ _=>rfl
   .refine .ofE (λf q=>?_) λ_ _=>rfl;obtain⟨x,r,q⟩:=au q;obtain⟨s,t,rfl⟩:=aE q;exact QN B ((g _).e x r) ((g _).v s t) (iq t).ix
   .refine .ofV (λf q=>?_) λ_ _=>rfl;obtain⟨x,r,q⟩:=au q;obtain⟨s,t,rfl⟩:=aE q;exact SN B ((g _).v x r) ((g _).v s t) (iq t).ix
  |Call fn as Z cp=>
   refine .ite (λhk=>?_) .no;cases mO.mp hk;refine .el (λf R=>?_) λ_=>.el (λ⟨o,m,ap⟩ A=>?_) λ_=>.no
   .obtain⟨fp,rfl⟩:=oz R;exact K3 h g
   .cases GO A;exact K4 h g
  |Attribute o f p=>refine .ite (λw=>?_) .no;refine .ofE (λf q=>?_) λ_ _=>rfl;obtain⟨x,r,rfl⟩:=aE q;exact QP h.attrs ((g _).e x r) (dF w)
  |ListComp y gs E p=>refine .el (λ⟨tg,iter,W⟩ V=>?_) λ_=>.no;cases y3 V;exact .ofV (λf q=>(xw h G q).1) λ_ _=>rfl
  |_=>exact .no
theorem Bu{j:Cn}{X:Cx}(h:XOk j X){n k:Nat}{e:Expr}{f:EE}(q:NM j n k e=some f):PE X e (tE X.K f)/\(gD e=false->∀t l env,swapsWith e t l env=pure false)/\gx e:=by
 have g:=m5 n j X h;have v:∀{e},(tr j n e).e=some f->PE X e (tE X.K f)/\(gD e=false->∀t l env,swapsWith e t l env=pure false)/\gx e:=λq=>⟨(g _).e f q,(re q).sw,(re q).st⟩;have I:=kt q;clear q;rcases I with ⟨⟨Q,r⟩,z,q⟩|⟨_,q⟩
 .obtain⟨T,N,rfl⟩:=jI z;dsimp only at q;split at q
  .rename_i c;simp only[av,mS]at c;rcases kt q with ⟨F,w,q⟩|⟨_,q⟩
   .refine⟨?_,(λ_ _ _ _=>rfl),λ_ _=>rfl⟩;cases r with
    |nil=>cases c.1.2
    |cons a L=>
     rcases kt q with ⟨b,A,d⟩|⟨_,q⟩
     .obtain⟨⟨M,V⟩,H,p⟩:=au A;split at p
      .rename_i y;cases p;simp only[av]at y;cases j3 H;obtain⟨p,W,Z,p4,p5,rfl⟩:=IY y.1.1;obtain⟨i,qi,d⟩:=au d;obtain⟨x,s,rfl⟩:=aE d;obtain⟨k,f,R,ps,G,C,B,hk,P⟩:=h.fns _ F w;obtain⟨E,m⟩:=h.lam y.1.2;have K:X.e.scope.names.lookup (Str.ofString "board")=some .cell:=by
        rw[h.ks];have z:=y.2;unfold cU at z;split at z
        .rename_i D S;rw[S];cases D<;>first|rfl|cases z
        .cases z
       exact KR G C (h.gl c.1.1.1) B hk P E (h.get qi) K (m _) ((g _).v x s) (dR c.1.1.2).1 ((iq s).st _ _)
      .cases p
     .obtain⟨x,s,rfl⟩:=aE q;obtain⟨u,o⟩:=m7 (λe _=>g e) s;exact(xE h w c.1.1.1 c.1.1.2 u o).2
   .exact v q
  .exact v q
 .exact v q
theorem qT{j:Cn}{X:Cx}(h:XOk j X){n k:Nat}{e:Expr}{f:EE}(q:PV j n k e=some f):PE X e (tE X.K f)/\(gD e=false->∀t l env,swapsWith e t l env=pure false):=⟨(Bu h q).1,(Bu h q).2.1⟩
def wB(T:Stmt->Option ES):List Stmt->Option ES
 | []=>some dU
 | [s]=>T s
 |s::r=>(T s).bind λf=>(wB T r).map λg=>ai f g
noncomputable def OP(e:Expr):Option Unit:=if h:e.ctorIdx=6 then Expr.Dict.elim e h λk v _=>if (k.isEmpty && v.isEmpty)=true then some () else none else none
theorem Je{e:Expr}{u:Unit}(h:OP e=some u):∃p,e=.Dict [] [] p:=by
 have c:=Kg h;revert h;exact Expr.Dict.elim e c λk v p h=>by
  cases k with
  |cons _ _=>cases h
  |nil=>
   cases v with
   |cons _ _=>cases h
   |nil=>exact⟨p,rfl⟩
def TM(j:Cn)(e:Expr):Option Expr:=(r9 e).bind λz=>(oq z.2).bind λa=>if vD j z.1 "dict"=true then some a else none
def Sd(j:Cn)(n:Nat)(t v:Expr):Option ES:=
 (GY t).elim ((Q_ t).elim ((PC t).elim (if gD v=true then none else (lJ t).bind fun _=>if (lJ v).isSome=true then none else (HS j.N j.ks [.local,.cell] t).bind fun g=>(tr j n v).v.map fun z=>yp g z)
   λz=>if ((OP v).isSome && j.deep.contains z.2.1)=true then (tr j n z.1).e.map λx=>oR j.A x z.2.1 yX else (tr j n z.1).e.bind λx=>(PV j n 5 v).map λy=>oR j.A x z.2.1 y)
  λz=>if gD v=true then none else (tr j n z.1).e.bind λx=>(tr j n v).v.bind λw=>if Mi z.1=true then (tr j n z.2).v.map λy=>Bz x y w else (lJ z.2).elim ((tr j n z.2).v.map λy=>jw x y w) λe=>(sk (e.map λz=>(tr j n z).v)).map λy=>Ey x y w)
 λx=>if cU j.ks x [.local,.cell]=true then (kQ j.N x).bind λi=>(if Sk.contains x=true then TM j v else none).elim ((if (j.deep.contains x && !gD v)=true then (PV j n 5 v).map (aB i) else (if j.own.contains x=true then FQ v else none).elim (if (j.own.contains x && gD v)=true then (tr j n v).v.map λf=>aB i (o7 f) else (tr j n v).e.map (aB i)) λe=>(sk (e.map λy=>(tr j n y).v)).map λa=>aB i (d8 a))) λa=>(tr j n a).v.map λf=>aB i (vV f)
  else none
def QU(j:Cn)(n:Nat)(e:Expr):Option ES:=if gD e=true then (tr j n e).v.map λf=>aS (o7 f) else
 (PV j n 5 e).map aS
def KZ(j:Cn):Nat->Stmt->Option ES
 |0,_=>none
 |n+1,st=>match st with
  | .Assign Q v _=>(oq Q).bind λt=>Sd j n t v
  | .Return r _=>r.bind λe=>if j.own.contains ("return":Str)=true then QU j n e else (tr j n e).e.map aS
  | .AugAssign t p v _=>(GY t).bind λx=>if (cU j.ks x [.local,.cell] && decide (p.ctorIdx=Operator.Add.ctorIdx))=true then (kQ j.N x).bind λi=>(tr j n v).v.map (EA i) else none
  | .Raise ..=>some vc
  | .Expr e _=>if gD e=true then none else (tr j n e).e.map cE
  | .If c a b _=>(tr j n c).b.bind λq=>(wB (KZ j n) a).bind λx=>(wB (KZ j n) b).map λy=>cV q x y
  | .While c o l _=>if l.isEmpty=false then none else (tr j n c).b.bind λq=>(wB (KZ j n) o).map λb=>va 1000 q b
  | .For h iter o l _=>if l.isEmpty=false then none else (HS j.N j.ks [.local,.cell] h).bind λg=>(HU j (λy=>tr j n y) h iter).bind λs=>(wB (KZ j n) o).map λb=>bS s g b
  |_=>none
theorem Fm{e:Ab}{c:Nat}{p:Pos}{v:Expr}{env:Env}(h:¬(lJ v).isSome=true):swappedStores [.Tuple e c p] v env=pure none:=by cases v<;>first|rfl|exact absurd rfl h
theorem HR{j:Cn}{n:Nat}{y:Expr}{g:List Comprehension}{E:Scope}{u:Pos}{f:EE}(h:(tr j n (.ListComp y g E u)).e=some f) :
  ∃k t iter i s,n=k+1/\g=[⟨t,iter,i,0⟩]/\jk j (λa x=>tr a k x) y t iter i E=some s/\f=U s:=by
 cases n with
 |zero=>cases h
 |succ n=>
  replace h:((Nc g).elim {} λz=>Tr.ofV (jk j (λa x=>tr a n x) y z.1 z.2.1 z.2.2 E)).e=some f:=h;cases e:Nc g with
  |none=>rw[e]at h;cases h
  |some z=>rw[e]at h;obtain⟨x,q,rfl⟩:=aE (show ug U _=some f from h);exact⟨n,_,_,_,x,rfl,y3 e,q,rfl⟩
theorem lr{X:Cx}{T:Stmt->Option ES}(h:∀st f,T st=some f->PS X st (kJ X.K f)):∀{a:List Stmt}{f:ES},wB T a=some f->oQ X a (kJ X.K f)
 | [],f,q=>by cases q;exact Qw
 | [s],f,q=>Qv (h s f q)
 |s::t::r,f,q=>by obtain⟨x,e,q⟩:=au q;obtain⟨y,n,rfl⟩:=aE q;exact Nn (h s x e) (lr h n)
theorem wA(h:(tr j n (.ListComp y s E u)).v=some f) :
  ∃k t iter i,n=k+1/\s=[⟨t,iter,i,0⟩]/\jk j (λa x=>tr a k x) y t iter i E=some f:=by
 cases n with
 |zero=>cases h
 |succ n=>
  replace h:((Nc s).elim {} λz=>Tr.ofV (jk j (λa x=>tr a n x) y z.1 z.2.1 z.2.2 E)).v=some f:=h;cases e:Nc s with
  |none=>rw[e]at h;cases h
  |some z=>rw[e]at h;exact⟨n,_,_,_,rfl,y3 e,h⟩
theorem K0{j:Cn}{X:Cx}(h:XOk j X){n:Nat}{e:Expr}{p:Pos}{f:ES}(q:QU j n e=some f):PS X (.Return (some e) p) (kJ X.K f):=by
 have g:=m5 n j X h;unfold QU at q;split at q
 .rename_i l;have c:e.ctorIdx=8:=eq_of_beq l;obtain⟨m,s,rfl⟩:=aE q;clear q l;revert s;refine Expr.ListComp.elim e c λa r c d s=>?_
  obtain⟨k,t,iter,i,rfl,rfl,b⟩:=wA s;exact Kt (tF h (m5 k) b)
 .obtain⟨x,s,rfl⟩:=aE q;exact Kt (qT h s).1
theorem K2{j:Cn}{X:Cx}(h:XOk j X)(H:∀x,X.fn x=true){n:Nat}{t l:Expr}{N:Pos}{f:ES}(q:Sd j n t l=some f):PS X (.Assign [t] l N) (kJ X.K f):=by
 have g:=m5 n j X h;have R:X.A.units+1 < cLine:=by have:=h.hu;lia
 rcases kt q with ⟨x,hx,B⟩|⟨_,B⟩
 .clear q;obtain⟨M,rfl⟩:=oz hx;split at B
  .rename_i hk;obtain⟨i,qi,q⟩:=au B;have qq:=kt q;clear q B;rcases qq with ⟨a,Q,q⟩|⟨_,B⟩
   .split at Q
    .obtain⟨⟨r,as⟩,b1,K⟩:=au Q;obtain⟨a',b2,K⟩:=au K;clear Q;obtain⟨fp,cp,rfl⟩:=jI b1;cases gb b2;split at K
     .rename_i W;cases K;obtain⟨rfl,W⟩:=np W;obtain⟨z,m,rfl⟩:=aE q;exact Cs i h.nd (KL h.calm (by have:=h.hu;lia) (h.gl W) (h.blt ("dict":Str) (by decide)) ((g _).v z m) ((iq m).st _ _)) (h.get qi) (h.loc hk) rfl (.inl (H x))
     .cases K
    .cases Q
   have q:=B;clear B;split at q
   .rename_i hd;rw[av]at hd;obtain⟨V,m,rfl⟩:=aE q;exact Cs i h.nd (qT h m).1 (h.get qi) (h.loc hk) ((qT h m).2 (by simpa using hd.2) _ _ _) (.inl (H x))
   .rcases kt q with ⟨T,D,q⟩|⟨_,q⟩
    .split at D
     .obtain⟨a,m,rfl⟩:=aE q;obtain⟨p,rfl⟩:=xa D;exact Cs i h.nd (JJ (ip (λe _=>g e) m).1) (h.get qi) (h.loc hk) rfl (.inl (H x))
     .cases D
    split at q
    .rename_i P;rw[av]at P;have P:=P.2;obtain⟨V,m,rfl⟩:=aE q;have c:l.ctorIdx=8:=eq_of_beq P;clear q P;revert m;refine Expr.ListComp.elim l c λa gs c d m=>?_
     obtain⟨k,L,iter,S,rfl,rfl,F⟩:=wA m;have A:swapsWith (.ListComp a [⟨L,iter,S,0⟩] c d) (some (.Name x M)) N.line X.e=pure (X.e.blockKind == .function && X.e.kindOf x == some .local && M.line == (Expr.ListComp a [⟨L,iter,S,0⟩] c d).pos.line
       && !(c.names.any λ(n,k)=>n == x && (k == .local ||k == .cell))):=rfl
     revert A;generalize (X.e.blockKind == .function && X.e.kindOf x == some .local && M.line == (Expr.ListComp a [⟨L,iter,S,0⟩] c d).pos.line && !(c.names.any λ(n,k)=>n == x && (k == .local ||k == .cell)))=b;intro A;cases b with
     |true=>exact Dn h (m5 k) F i A (h.get qi) (h.loc hk) (.inl (H x))
     |false=>exact Cs i h.nd (tF h (m5 k) F) (h.get qi) (h.loc hk) A (.inl (H x))
    .obtain⟨V,m,rfl⟩:=aE q;cases P:gD l with
     |false=>exact Cs i h.nd ((g l).e V m) (h.get qi) (h.loc hk) ((re m).sw P _ _ _) (.inl (H x))
     |true=>
      have c:l.ctorIdx=8:=eq_of_beq P;clear q P;revert m;refine Expr.ListComp.elim l c fun a gs c d m=>?_;obtain⟨k,L,iter,S,f',rfl,rfl,F,rfl⟩:=HR m;have cu:=xw (u:=d) h (m5 k) F;have A:swapsWith (.ListComp a [⟨L,iter,S,0⟩] c d) (some (.Name x M)) N.line X.e=pure (X.e.blockKind == .function && X.e.kindOf x == some .local && M.line == (Expr.ListComp a [⟨L,iter,S,0⟩] c d).pos.line
       && !(c.names.any λ(n,k)=>n == x && (k == .local ||k == .cell))):=rfl
      revert A;generalize (X.e.blockKind == .function && X.e.kindOf x == some .local && M.line == (Expr.ListComp a [⟨L,iter,S,0⟩] c d).pos.line && !(c.names.any λ(n,k)=>n == x && (k == .local ||k == .cell)))=b;intro A;cases b with
      |true=>exact cu.2 i h.nd A (h.get qi) (h.loc hk) (.inl (H x))
      |false=>exact Cs i h.nd (MX cu.1) (h.get qi) (h.loc hk) A (.inl (H x))
  .cases B
 rcases kt B with ⟨⟨o,i⟩,hz,K⟩|⟨_,K⟩
 .clear q B;obtain⟨p,rfl⟩:=Le hz;split at K
  .cases K
  rename_i G;obtain⟨x,m,C⟩:=au K;obtain⟨w,I,E⟩:=au C;have A:=(iq I).sw (by simpa using G);clear K C;split at E
  .obtain⟨y,F,rfl⟩:=aE E;exact Nh (by have:=h.hu;lia) ((g o).e x m) ((g i).v y F) ((g l).v w I) (A _ _ _)
  have q0:=kt E;clear E;rcases q0 with ⟨T,et,q⟩|⟨_,q⟩
  .obtain⟨c,p,rfl⟩:=ju et;obtain⟨y,F,rfl⟩:=aE q;exact Ng R ((g o).e x m) (ip (λe _=>g e) F).1 ((g l).v w I) (A _ _ _)
  .obtain⟨y,F,rfl⟩:=aE q;exact Nj R ((g o).e x m) ((g i).v y F) ((g l).v w I) (A _ _ _) rfl (iq F).ps
 rcases kt K with ⟨⟨o,f,ap⟩,hz,C⟩|⟨_,C⟩
 .clear q B K;cases GO hz;split at C
  .rename_i hd;rw[av]at hd;obtain⟨s,R⟩:=uh.mp hd.1;obtain⟨p,rfl⟩:=Je R;obtain⟨x,m,rfl⟩:=aE C;exact Nl h.attrs ((g o).e x m) KJ rfl
  obtain⟨x,m,q⟩:=au C;obtain⟨z,F,rfl⟩:=aE q;refine Nl h.attrs ((g o).e x m) (qT h F).1 ?_;cases P:gD l with
  |false=>exact(qT h F).2 P _ _ _
  |true=>have c:l.ctorIdx=8:=eq_of_beq P;clear q F C P;exact Expr.ListComp.elim (motive_1:=λv=>swapsWith v (some (.Attribute o f ap)) N.line X.e=pure false) l c λ_ _ _ _=>rfl
 .clear q B K;split at C
  .cases C
  rename_i G;obtain⟨T,D,E⟩:=au C;clear C;obtain⟨c,p,rfl⟩:=ju D;split at E
  .cases E
  .rename_i Z;obtain⟨gg,m,q⟩:=au E;obtain⟨z,I,rfl⟩:=aE q;exact Qt ((g l).v z I) (tg_ok h.calm h.hN h.nd (λx hx=>⟨h.loc hx,.inl (H x)⟩) m) (show swapsWith l (some (.Tuple T c p)) N.line X.e=pure false from(iq I).sw (by simpa using G) _ _ _) (Fm Z) rfl
theorem Eg{j:Cn}{X:Cx}(h:XOk j X)(k:∀x,X.fn x=true)(S:PassesOwn (model X.p X.w) X.A X.e X.xe):∀n (st:Stmt) (f:ES),KZ j n st=some f->PS X st (kJ X.K f)
 |0,st,f,q=>by cases q
 |n+1,st,f,q=>by
  have u:=Eg h k S n;have g:=m5 n j X h;cases st with
  |Assign Q v I=>obtain⟨t,d,m⟩:=au q;clear q;cases gb d;exact K2 h k m
  |Return r p=>
   obtain⟨e,d,m⟩:=au q;cases (show r=some e from d);clear q d;split at m
   .exact K0 h m
   .obtain⟨x,s,rfl⟩:=aE m;exact Kt ((g _).e x s)
  |AugAssign t P v p=>
   obtain⟨x,d,m⟩:=au q;clear q;obtain⟨G,rfl⟩:=oz d;split at m
   .rename_i z;rw[av]at z;obtain⟨i,qi,A⟩:=au m;obtain⟨F,s,rfl⟩:=aE A;cases P with
    |Add=>exact Qy i h.nd ((g _).v F s) (h.get qi) (h.loc z.1) (.inl (k x))
    |_=>cases aN z.2
   .cases m
  |Raise a b p=>cases q;exact Ku
  |Expr e p=>
   replace q:(if gD e=true then none else (tr j n e).e.map cE)=some f:=q;split at q
   .cases q
   .rename_i H;obtain⟨x,s,rfl⟩:=aE q;exact Nm ((g _).e x s) ((re s).sw (by simpa using H) _ _ _)
  |If c a b p=>obtain⟨c,s,q⟩:=au q;obtain⟨x,w,q⟩:=au q;obtain⟨y,C,rfl⟩:=aE q;exact SI ((g _).b c s) (lr u w) (lr u C)
  |While c o l p=>
   cases l with
   |cons _ _=>cases q
   |nil=>obtain⟨c,s,q⟩:=au q;obtain⟨b,w,rfl⟩:=aE q;exact Ks S ((g _).b c s) (lr u w)
  |For L iter o l p=>
   cases l with
   |cons _ _=>cases q
   |nil=>obtain⟨D,B,q⟩:=au q;obtain⟨E,s,q⟩:=au q;obtain⟨b,w,rfl⟩:=aE q;exact Qx S h.calm (JZ h g s) (tg_ok h.calm h.hN h.nd (λx K=>⟨h.loc K,.inl (k x)⟩) B) (lr u w) λx=>w8 s _ x
  |_=>cases q
structure Df where
 name:Str
 short:Str
 cls:Str
 st:Stmt
 N:LS
 ps:LS
 own:LS
 deep:LS
 refs:LS
noncomputable abbrev At:=List (Str×LS)
noncomputable def aT(T:At)(c f:Str):Bool:=T.any λx=>decide (x.1=c) && x.2.contains f
noncomputable def fT(D:List Df)(h:Str->GF)(x:Str):Option GF:=if (D.any λd=>decide (d.name=x) && d.cls.cps.isEmpty)=true then some (h x) else none
noncomputable def P_(c m:Str)(d:Df):Bool:=decide (d.cls=c) && decide (d.short=m) && !d.cls.cps.isEmpty
def mT(D:List Df)(h:Str->GF)(c m:Str):Option GF:=if m=("__init__":Str) then none else (D.find? (P_ c m)).map λd=>h d.name
def RH(D:List Df)(h:Str->GF)(c:Str):Option GF:=(D.find? (P_ c "__init__")).map λd=>h d.name
noncomputable abbrev P3:=(Str->GF)×(Str->Option GF)×Option GF
def RN(G:Str->Option P)(T:At)(D:List Df)(p:P3)(d:Df):Cn:=⟨d.N,d.own,d.deep,d.refs,(br d.st).names,fT D p.1,G,aT T,mT D p.1,p.2.1,p.2.2⟩
def wa(G:Str->Option P)(T:At)(D:List Df)(p:P3)(d:Df):ES:=(wB (KZ (RN G T D p d) 60) (fw d.st)).getD vc
noncomputable def stays(n:Nat)(x:Str):Bool:=(decide (x=("ends_on":Str)) && pQ 14 n) ||((decide (x=("hand_ends":Str)) ||decide (x=("flaw_ends":Str))) && pQ 13 n)
def oP(G:Str->Option P)(T:At)(D:List Df):Nat->P3
 |0=>(λ_ _ _=>none,λ_=>none,none)
 | n+1=>(fun x=>cond (stays n x) ((oP G T D n).1 x) (match D.find? fun d=>decide (d.name=x) with
  |some d=>l8 d.ps.length d.N.length (wa G T D (oP G T D n) d)
  |none=>λ_ _=>none),RH D (oP G T D n).1,fT D (oP G T D n).1 "ends_on")
noncomputable def JF(G:Str->Option P)(T:At)(D:List Df)(n:Nat):Str->GF:=(oP G T D n).1
theorem CO{G:Str->Option P}{T:At}{D:List Df}{n:Nat}{x:Str}(h:stays n x=true):JF G T D (n+1) x=JF G T D n x:=by show cond (stays n x) _ _=_;rw[h];rfl
theorem cond_ok{B:Type}{c:Bool}{a b:B}{p:B->Prop}(h:p b)(x:p a):p (cond c a b):=by cases c<;>assumption
def PZ(d:Df):Bool:=decide ((br d.st).kind=.function) && !(br d.st).isCoroutine && !(br d.st).isGenerator && decide d.N.Nodup && decide (d.N.take d.ps.length=d.ps)
 && d.ps.all (λx=>(br d.st).names.lookup x == some .local ||(br d.st).names.lookup x == some .cell) && (br d.st).names.all (λy=>y.2 != .free)
theorem Ld{d:Df}(h:PZ d=true):FnScope d.N d.ps (br d.st):=by
 unfold PZ at h;simp only[av]at h;obtain⟨⟨⟨⟨⟨⟨a,e⟩,s⟩,n⟩,k⟩,f⟩,b⟩:=h;refine⟨aN a,by simpa using e,by simpa using s,aN n,aN k,λx c=>?_,λy m=>?_⟩
 .have:=bb.mp f x c;simpa using this
 .have:=bb.mp b y m;simpa using this
structure DOk(K:FG)(mg:SV)(d:Df)(f:Addr)(fd:FuncData):Prop where
 fn:Fun K d.short d.name d.st f fd
 bd:Binds K fd d.ps []
 pl:d.cls.cps.isEmpty=true->∃kV doc pm an cdv ct,fd=ji d.short d.name (iu d.st) (fw d.st) (br d.st) .none kV doc pm an cdv ct
 bn:d.short=("__init__":Str)->Ms.contains d.cls=true->Binds K fd d.ps [.none]
 gl:d.cls.cps.isEmpty=true->mg d.name=some (.ref f)
 cl:d.cls.cps.isEmpty=false->∃C,kB K d.cls C/\mg d.cls=some (.ref C)/\Cls K C/\(d.short=("__init__":Str)->Mk K C f)/\(d.short≠("__init__":Str)->Meth K C d.short f)
def vA(o:Obj):Bool:=match o.data with
 | .fields v=>(match v.toList with|_::.str n _::_=>n == FF|_=>false)
 |_=>false
def B1(K:FG):Bool:=K.all λp=>!vA p.2 ||(match El p with|some P=>x6 K p.1 P|none=>false)
theorem FE(h:B1 K=true)(x:jj K d FF=true):∃c P,d=.ref c/\x6 K c P=true/\P ∈ cw K:=by
 unfold jj at x;split at x
 .rename_i c;split at x
  .rename_i l i v n hk;have m:=DY hk;have a:=bb.mp h _ m;have e:vA ⟨l,i,.fields v,n⟩=true:=x;rw[e]at a;simp only[p',lp]at a;split at a
   .rename_i P s;exact⟨c,P,rfl,a,lj.mpr ⟨_,m,s⟩⟩
   .cases a
  .cases x
 .cases x
structure TOk(w:World)(G:Str->Option P)(T:At)(D:List Df)(K:FG)(mg:SV):Prop where
 fn:∀d ∈ D,∃f fd,DOk K mg d f fd
 sc:D.all PZ=true
 un:(D.map (·.name)).Nodup
 z:∀x ∈ Jy,mg x=none
 gl:∀x v,G x=some v->lD w K mg x v
 at':Qs K (aT T)
 lam:B1 K=true
 lm:∀d ∈ D,d.deep.contains (Str.ofString "<lambda>")=true->d.name=FF
theorem rS:∀{D:List Df}{d:Df},(D.map (·.name)).Nodup->d ∈ D->(D.find? λe=>decide (e.name=d.name))=some d
 | [],_,_,h=>by cases h
 |a::r,d,x,h=>by
  rw[aC,bW]at x;rcases aL.mp h with h|h
  .subst h;simp
  .have n:¬a.name=d.name:=λz=>x.1 (by rw[z];exact aZ.mpr ⟨d,h,rfl⟩);rw[List.find?_cons_of_neg (by simpa using n)];exact rS x.2 h
theorem xI{D:List Df}{x:Str}{a:Str->GF}{g:GF}(h:fT D a x=some g):∃d ∈ D,d.name=x/\d.cls.cps.isEmpty=true/\g=a x:=by
 unfold fT at h;split at h
 .rename_i c;cases h;obtain⟨d,hd,e⟩:=pW.mp c;rw[av]at e;exact⟨d,hd,aN e.1,e.2,rfl⟩
 .cases h
theorem FP(h:P_ c m d=true):d.cls=c/\d.short=m/\d.cls.cps.isEmpty=false:=by unfold P_ at h;simp only[av]at h;exact⟨aN h.1.1,aN h.1.2,by simpa using h.2⟩
theorem GP{D:List Df}{x:Str->GF}{c m:Str}{g:GF}(h:mT D x c m=some g):m≠("__init__":Str)/\∃d ∈ D,d.cls=c/\d.short=m/\d.cls.cps.isEmpty=false/\g=x d.name:=by
 unfold mT at h;split at h
 .cases h
 .rename_i n;obtain⟨d,q,rfl⟩:=aE h;obtain⟨a,e,s⟩:=FP (Ao q);exact⟨n,d,AK q,a,e,s,rfl⟩
theorem GQ{D:List Df}{x:Str->GF}{c:Str}{g:GF}(h:RH D x c=some g):∃d ∈ D,d.cls=c/\d.short=("__init__":Str)/\d.cls.cps.isEmpty=false/\g=x d.name:=by unfold RH at h;obtain⟨d,q,rfl⟩:=aE h;obtain⟨a,e,s⟩:=FP (Ao q);exact⟨d,AK q,a,e,s,rfl⟩
theorem Cb {G:Str->Option P}{T:At}{D:List Df}{Pg:Program}{w:World}{K:FG}{mg:SV}{base:Heap} (Tk:TOk w G T D K mg):∀n,(∀d ∈ D,
  ∀f fd,Fun K d.short d.name d.st f fd->FnOk Pg w K mg base pf n f fd d.ps (oe K (JF G T D n d.name))) /\
  (∀c g,(oP G T D n).2.1 c=some g->∃m,n=m+1/\∃C f fd ps,kB K c C/\mg c=some (.ref C)/\Mk K C f/\FnOk Pg w K mg base pf m f fd ps (oe K g)/\Binds K fd ps (if Ms.contains c=true then [.none] else [])) /\
  ∀g,(oP G T D n).2.2=some g->∃m,n=m+1/\∃f fd ps,FnOk Pg w K mg base pf m f fd ps (oe K g)/\mg "ends_on"=some (.ref f)/\dZ K (.ref f)=true/\Binds K fd ps []
 |0=>⟨λd hd f fd hF=>Ga,λc g h=>(by cases (show(none:Option GF)=some g from h)),λg h=>(by cases (show(none:Option GF)=some g from h))⟩
 |n+1=>by
  have ih:=Cb (Pg:=Pg) (w:=w) (base:=base) Tk n;refine⟨λd hd f fd hF=>?_,λc g h=>?_,λg h=>?_⟩
  .have e:JF G T D (n+1) d.name=cond (stays n d.name) (JF G T D n d.name) (l8 d.ps.length d.N.length (wa G T D (oP G T D n) d)):=by
    show cond _ _ (match D.find? λd'=>decide (d'.name=d.name) with|some d=>l8 d.ps.length d.N.length (wa G T D (oP G T D n) d)|none=>λ_ _=>none)=_;rw[rS Tk.un hd];rfl
   rw[e];have hsc:=Ld (bb.mp Tk.sc d hd);have XO:∀(cdv:Value),jj K cdv d.name=true->∀(A:Around)(outer:List Env)(s:Shared)(H:Hp)(E':XK),Room n (A.deeper (envOfC d.name (br d.st) s.heap.objs.size f cdv)) ->
     XOk (RN G T D (oP G T D n) d) (xq pf Pg w K mg base d.N d.name (br d.st) f cdv A outer s H E').nox:=fun cdv hcd A outer s H E' hr=>{
    hN:=rfl
    nd:=hsc.nd
    ks:=rfl
    kd:=hsc.kind
    calm:=rfl
    hu:=by have:=hr.un;show(A.deeper (envOfC d.name (br d.st) s.heap.objs.size f cdv)).units+64 < _;lia
    fns:=λx g hg=>by obtain⟨d',hd',hn,hc,rfl⟩:=xI hg;obtain⟨f',fd',h1⟩:=Tk.fn d' hd';subst hn;exact⟨n,f',fd',d'.ps,(ih.1 d' hd' f' fd' h1.fn),hr,h1.gl hc,h1.fn.kp,h1.bd⟩
    blt:=Tk.z
    glb:=Tk.gl
    attrs:=Tk.at'
    meths:=λc m g hg=>by obtain⟨hm,d',hd',rfl,rfl,hc,rfl⟩:=GP hg;obtain⟨f',fd',h1⟩:=Tk.fn d' hd';obtain⟨C,c1,c2,c3,c4,c5⟩:=h1.cl hc;exact⟨C,n,f',fd',d'.ps,c1,c3,c5 hm,(ih.1 d' hd' f' fd' h1.fn),hr,h1.bd⟩
    mks:=λc g hg=>by obtain⟨m,rfl,C,f',fd',ps,c1,c2,c3,c4,c5⟩:=ih.2.1 c g hg;exact⟨C,m,f',fd',ps,c1,c2,c3,c4,hr,c5⟩
    lam:=λz=>by have hn:=Tk.lm d hd z;rw[hn]at hcd;obtain⟨c,P,e1,e2,e3⟩:=FE Tk.lam hcd;exact⟨⟨by show d.name++Str.ofString ".<locals>."++Str.ofString "<lambda>"=yE;rw[hn];decide,c,P,e1,e2,e3⟩,λ_=>rfl⟩
    lmf:=λg hg=>by obtain⟨m,rfl,f',fd',ps,c1,c2,c3,c4⟩:=ih.2.2 g hg;exact⟨m,f',fd',ps,c1,hr,c2,c3,c4⟩ }
   refine cond_ok (p:=λg=>FnOk Pg w K mg base pf (n+1) f fd d.ps (oe K g)) (Mp (N:=d.N) hF hsc λcdv hcd A outer s H E' hr=>?_) ((ih.1 d hd f fd hF).mono (iX n));have X:=XO cdv hcd A outer s H E' hr;unfold wa;cases q:wB (KZ (RN G T D (oP G T D n) d) 60) (fw d.st) with
   |none=>exact CN.imp' λD J H hz=>by obtain⟨F,m,L,S,fl,L',S',r,l,q,k⟩:=hz;cases q
   |some b=>exact lr (λst f q=>Eg X (λ_=>rfl) PassesOwn.never 60 st f q) q
  .obtain⟨d,hd,rfl,hs,hc,rfl⟩:=GQ (x:=(oP G T D n).1) h;obtain⟨f,fd,h1⟩:=Tk.fn d hd;obtain⟨C,c1,c2,c3,c4,c5⟩:=h1.cl hc;refine⟨n,rfl,C,f,fd,d.ps,c1,c2,c4 hs,(ih.1 d hd f fd h1.fn),?_⟩;by_cases hn:Ms.contains d.cls=true
   .rw [af hn];exact h1.bn hs hn
   .rw [ah hn];exact h1.bd
  .obtain⟨d',hd',hn,hc,rfl⟩:=xI (show fT D (oP G T D n).1 "ends_on"=some g from h);obtain⟨f',fd',h1⟩:=Tk.fn d' hd';have e:=ih.1 d' hd' f' fd' h1.fn;have e2:=h1.gl hc;rw[hn]at e e2;exact⟨n,rfl,f',fd',d'.ps,e,e2,h1.fn.kp,h1.bd⟩
theorem xc:∀s:List Int,cf K F H (s.map .int) (s.map V.int)
 | []=>rfl
 |n::r=>⟨_,_,rfl,rfl,xc r⟩
theorem L8{K:FG}{H:Hp}{a:Addr}{n:List Int}{g:GF}{E:XK}(e:Dv H)(S:iT K H a (n.map V.int))(h:bD g [.ro (n.map .int)]=some (.bl true)):oe K g [.ref a] H (λv _=>v=.bl true) E:=by
 refine qW ⟨λb=>b=a/\H a≠none,[.ro (n.map .int)],.bl true,λb x=>(by rw[x.1];exact x.2),⟨_,_,rfl,⟨a,_,rfl,?_,xc n⟩,rfl⟩,h,λv F k _ r=>r⟩;rcases S with S|S
 .rcases e a with z|z|⟨o,f,z⟩
  .rcases S with S|⟨o,S⟩<;>rw[z]at S<;>cases S
  .rcases S with S|⟨o,S⟩<;>rw[z]at S<;>cases S
  .rcases S with S|⟨s,S⟩
   .rw [z]at S;cases S
   .exact .inl ⟨⟨rfl,by rw[z];exact λq=>nomatch q⟩,s,S⟩
 .exact .inr (.inr S)
open PySem L2
section
variable(L:Lc)(S:Y)
@[simp] theorem Qe(i:Nat):O i L S=match L[i]? with|some (some d)=>some (d,S)|_=>none:=rfl
@[simp] theorem HK(r:EE):dP r L S=bQ (r L S) λd h=>match dt d h with|some n=>some (.int (n:Int),h)|none=>none:=by
 unfold dP;cases r L S with
 |none=>rfl
 |some z=>obtain⟨d,h⟩:=z;rw[az,az];cases dt d h<;>rfl
@[simp] theorem Qb(i:Nat)(v:P):am i v L=some (L.set i (some (.p v))):=rfl
end
@[simp] theorem rT(x:List B):(few x=true)=(x.length≤1000000):=by unfold few;simp
@[simp] theorem nC(n:Nat):(iO n=true)=(n≤1000000):=by unfold iO;simp
theorem bu{B:Type}{s:List B}{i:Int}{x:B}(a:0≤i)(h:s[i.toNat]? = some x):L2.atI s i=some x:=by have l:=(bB.mp h).1;unfold L2.atI L2.Dy;rw[af a,af (by lia)];exact h
@[simp] theorem PB(x:B)(s:List B):L2.atI (x::s) 0=some x:=bu (by lia) rfl
@[simp] theorem Qn(x y:B)(s:List B):L2.atI (x::y::s) 1=some y:=bu (by lia) rfl
@[simp] theorem Qm(x y z:B)(s:List B):L2.atI (x::y::z::s) 2=some z:=bu (by lia) rfl
@[simp] theorem Nd(x y z w:B)(s:List B):L2.atI (x::y::z::w::s) 3=some w:=bu (by lia) rfl
@[simp] theorem Qi(x:List P)(i:Int):cR (.tup x) (.int i)=L2.atI x i:=rfl
@[simp] theorem Qj(x:List P)(i:Int):cR (.lst x) (.int i)=L2.atI x i:=rfl
@[simp] theorem RX(x:List P)(i:Int):cR (.ro x) (.int i)=L2.atI x i:=rfl
@[simp] theorem Qk(k:List cg)(v:List P)(x:Str):cR (.dct k v) (.str x)=b8 (.inr x) k v:=rfl
@[simp] theorem Po(i j:Int):y0 (.int i) (.int j)=some (.bl (decide (i=j))):=rfl
@[simp] theorem Pn(i j:Str):y0 (.str i) (.str j)=some (.bl (decide (i=j))):=rfl
@[simp] theorem Ql(i j:Bool):y0 (.bl i) (.bl j)=some (.bl (decide (i=j))):=rfl
@[simp] theorem Qh(i j:Int):MB (.int i) (.int j)=some (.bl (!decide (i=j))):=rfl
@[simp] theorem Qg(i j:Str):MB (.str i) (.str j)=some (.bl (!decide (i=j))):=rfl
@[simp] theorem RW(i j:Bool):MB (.bl i) (.bl j)=some (.bl (!decide (i=j))):=rfl
@[simp] theorem Pp(i j:Int):vZ (.int i) (.int j)=some (.int (i+j)):=rfl
@[simp] theorem Pj(i j:Int):vY (.int i) (.int j)=if gC i j=true then some (.int (i * j)) else none:=rfl
@[simp] theorem M7(x:List P)(n:Int):ja (.tup x) (.int n)=if (iO (x.length * n.toNat) && decide (n.natAbs < 1000000))=true then some (.tup (List.replicate n.toNat x).flatten) else none:=rfl
@[simp] theorem M8(x:Str)(n:Int):ja (.str x) (.int n)=vY (.str x) (.int n):=rfl
@[simp] theorem Pf(i:Int):Dj (.int i)=some (.int (-i)):=rfl
theorem aK(a n:Nat)(b:ES)(s:List P):bD (l8 a n b) s=if s.length=a then match b (s.map (λp=>some (.p p))++List.replicate (n-s.length) none) [] with
 |some (.rt d,_,S)=>(toP 9 d S).map (·.1)
 |some (.nx,_,_)=>some .non
 |_=>none else none:=by
 unfold bD l8;rw[aU,jV];by_cases h:s.length=a
 .rw [af h,af h];show (match fP (b (s.map (fun p=>some (D.p p))++List.replicate (n-s.length) none) []) with
   |some (d,S)=>(toP 9 d S).map (λ(x:P×Y)=>x.1)
   |none=>none)=_
  cases b (s.map (λp=>some (D.p p))++List.replicate (n-s.length) none) [] with
  |none=>rfl
  |some z=>obtain⟨f,L,S⟩:=z;cases f<;>simp[fP]
 .rw [ah h,ah h]
theorem bP{g:kD}{b:ES}{v:P}{r:List P}{L h L2:Lc}{S x:Y}(a:g v L=some h)(e:b h S=some (.nx,L2,x)):bR g b (v::r) L S=bR g b r L2 x:=by simp[bR,a,e]
theorem xj{g:kD}{b:ES}{v:P}{r:List P}{L h L2:Lc}{S x:Y}{d:D}(a:g v L=some h)(e:b h S=some (.rt d,L2,x)):bR g b (v::r) L S=some (.rt d,L2,x):=by simp[bR,a,e]
section
variable(L:Lc)(S:Y)
@[simp] theorem Ja(a:EV):jq a L S=bQ (a L S) λx h=>match x with | .int n=>if (decide (n.natAbs < 1000000))=true then some (intsFrom 0 n.toNat,h) else none|_=>none:=by
 unfold jq;cases a L S with
 |none=>rfl
 |some z=>obtain⟨x,h⟩:=z;cases x<;>first|rfl|simp
@[simp] theorem O1(g:List kD)(v:List P):bG g (.tup v) L=rO g v L:=rfl
@[simp] theorem OZ:rO [] [] L=some L:=rfl
@[simp] theorem M6(g:kD)(s:List kD)(v:P)(h:List P):rO (g::s) (v::h) L=match g v L with|some a=>rO s h a|none=>none:=rfl
@[simp] theorem QT(v:P):HQ (.p v) S=yh v:=rfl
@[simp] theorem PU(b:Bool):yh (.bl b)=some b:=rfl
@[simp] theorem NL(i:Int):yh (.int i)=some (i != 0):=rfl
@[simp] theorem Sr(x y:P):oH (.p x) (.p y) S=(Dz x y).map .bl:=rfl
@[simp] theorem Sq(x y:P):GZ (.p x) (.p y) S=(Dw x y).map .bl:=rfl
end
@[simp] theorem Qd(i j:Int):Dz (.int i) (.int j)=some (decide (i=j)):=rfl
@[simp] theorem Qc(i j:Str):Dz (.str i) (.str j)=some (decide (i=j)):=rfl
@[simp] theorem RU(i j:Bool):Dz (.bl i) (.bl j)=some (decide (i=j)):=rfl
@[simp] theorem P7(i j:Int):Dw (.int i) (.int j)=some (!decide (i=j)):=rfl
@[simp] theorem P6(i j:Str):Dw (.str i) (.str j)=some (!decide (i=j)):=rfl
@[simp] theorem Rw(i j:Bool):Dw (.bl i) (.bl j)=some (!decide (i=j)):=rfl
@[simp] theorem Na(i j:Int):fN (.int i) (.int j)=some (.int (i+j)):=rfl
@[simp] theorem M_(x y:Str):fN (.str x) (.str y)=vZ (.str x) (.str y):=rfl
@[simp] theorem M'(x y:List P):fN (.lst x) (.lst y)=if iO (x.length+y.length)=true then some (.lst (x++y)) else none:=rfl
@[simp] theorem M9(i j:Int):ja (.int i) (.int j)=if gC i j=true then some (.int (i * j)) else none:=rfl
@[simp] theorem Dl(x:List P)(n:Int):ja (.lst x) (.int n)=if (iO (x.length * n.toNat) && decide (n.natAbs < 1000000))=true then some (.lst (List.replicate n.toNat x).flatten) else none:=rfl
theorem Ge(h:cK 20 v=true):Dz v v=some true:=by
 unfold Dz;have e:dO (pd v) (pd v)=true:=uw _ (fq 20 v h).1;cases q:y0 v v with
 |none=>simp[h,e]
 |some z=>
  cases v with
  |int i=>cases q;simp
  |str i=>cases q;simp
  |bl i=>cases q;simp
  |non=>cases q
  |tup _=>cases q
  |lst _=>cases q
  |ro _=>cases q
  |dct _ _=>cases h
theorem Fo(h:cK 20 v=true):Dw v v=some false:=by
 unfold Dw;have e:dO (pd v) (pd v)=true:=uw _ (fq 20 v h).1;cases q:MB v v with
 |none=>simp[h,e]
 |some z=>
  cases v with
  |int i=>cases q;simp
  |str i=>cases q;simp
  |bl i=>cases q;simp
  |non=>cases q
  |tup _=>cases q
  |lst _=>cases q
  |ro _=>cases q
  |dct _ _=>cases h
theorem B'(h:cK 20 (.lst s)=true):Dz (.lst s) (.lst [])=some s.isEmpty:=by unfold Dz;have e:cK 20 (.lst [])=true:=rfl;show(if (cK 20 (.lst s) && cK 20 (.lst []))=true then some (dO (pd (.lst s)) (pd (.lst []))) else none)=_;rw[h,e];cases s<;>rfl
theorem nh(h:cK 20 (.lst s)=true):Dw (.lst s) (.lst [])=some (!s.isEmpty):=by unfold Dw;have e:cK 20 (.lst [])=true:=rfl;show(if (cK 20 (.lst s) && cK 20 (.lst []))=true then some (!PyData.eqv (pd (.lst s)) (pd (.lst []))) else none)=_;rw[h,e];cases s<;>rfl
section
variable{L:Lc}{S:Y}
@[simp high] theorem TL(d:D):O 0 (some d::L) S=some (d,S):=rfl
@[simp high] theorem TK(a:Option D)(i:Nat):O (i+1) (a::L) S=O i L S:=rfl
@[simp ↓ high] theorem TJ(x y:a):(if few ([]:List B)=true then x else y)=x:=rfl
@[simp ↓ high] theorem TH(a:B)(x y:s):(if few ([a]:List B)=true then x else y)=x:=rfl
@[simp ↓ high] theorem TF(a h:B)(x y:s):(if few ([a,h]:List B)=true then x else y)=x:=rfl
@[simp ↓ high] theorem TD(a h e:B)(x y:s):(if few ([a,h,e]:List B)=true then x else y)=x:=rfl
@[simp ↓ high] theorem TC(a h e s:B)(x y:k):(if few ([a,h,e,s]:List B)=true then x else y)=x:=rfl
@[simp ↓ high] theorem TB(a h e s n:B)(x y:k):(if few ([a,h,e,s,n]:List B)=true then x else y)=x:=rfl
@[simp ↓ high] theorem Tz(a h e s n k:B)(x y:b):(if few ([a,h,e,s,n,k]:List B)=true then x else y)=x:=rfl
@[simp ↓ high] theorem Tx(a h e s n k f:B)(x y:b):(if few ([a,h,e,s,n,k,f]:List B)=true then x else y)=x:=rfl
@[simp high] theorem TR(v:P)(S:Y):toP 9 (.p v) S=some (v,S):=rfl
@[simp ↓ high] theorem Sw(x:Option (B×Y))(f:B->Y->Option s):bQ x f=match x with|some (a,S)=>f a S|none=>none:=rfl
@[simp ↓ high] theorem Tq(x y:a):(if true=true then x else y)=x:=rfl
@[simp ↓ high] theorem Ts(x y:a):(if false=true then x else y)=y:=rfl
end
@[simp] theorem Rn(a b:String):(Str.ofString a=Str.ofString b)=(a=b):=by rw[zi,zi];exact propext ⟨λh=>String.toList_inj.mp ((Aw λ_ _=>Char.toNat_inj.mp).mp (by simpa using h)),λh=>by rw[h]⟩
end Ev
set_option tactic.hygienic false
namespace My
open PySem L2 Ev
noncomputable abbrev qp(x:P):Option D:=some (.p x)
noncomputable abbrev qi(x:Int):Option D:=some (.p (.int x))
noncomputable abbrev qs(x:Str):Option D:=some (.p (.str x))
noncomputable abbrev ql(x:List P):Option D:=some (.p (.lst x))
noncomputable abbrev qt(x:List P):Option D:=some (.p (.tup x))
noncomputable abbrev qr(x:Nat):Option D:=some (.ref x)
@[simp] abbrev vv(k:Nat):EV:=vE (O k)
@[simp] abbrev vi(i:Int):EV:=vC (.int i)
@[simp] abbrev vt(x:Str):EV:=vC (.str x)
@[simp] abbrev v1(a:EV):kn:=ab a ar
@[simp] abbrev v2(a b:EV):kn:=ab a (ab b ar)
@[simp] abbrev v3(a b c:EV):kn:=ab a (ab b (ab c ar))
@[simp] abbrev v4(a b c d:EV):kn:=ab a (ab b (ab c (ab d ar)))
@[simp] abbrev v5(a b c d e:EV):kn:=ab a (ab b (ab c (ab d (ab e ar))))
@[simp] abbrev v6(a b c d e f:EV):kn:=ab a (ab b (ab c (ab d (ab e (ab f ar)))))
@[simp] abbrev v7(a b c d e f g:EV):kn:=ab a (ab b (ab c (ab d (ab e (ab f (ab g ar))))))
@[simp] abbrev v8(a b c d e f g h:EV):kn:=ab a (ab b (ab c (ab d (ab e (ab f (ab g (ab h ar)))))))
@[simp] abbrev Kz(a:EE):sN:=bw a dY
@[simp] abbrev MW(a b:EE):sN:=bw a (bw b dY)
@[simp] abbrev MV(a b c:EE):sN:=bw a (bw b (bw c dY))
@[simp] abbrev Sc(a b c d:EE):sN:=bw a (bw b (bw c (bw d dY)))
@[simp] abbrev Ky(a b c d e:EE):sN:=bw a (bw b (bw c (bw d (bw e dY))))
@[simp] abbrev Sb(a b c d e f:EE):sN:=bw a (bw b (bw c (bw d (bw e (bw f dY)))))
@[simp] abbrev bv(a b:EE):EB:=bV (ce oH a b)
@[simp] abbrev kq(a b:EE):EB:=bV (ce GZ a b)
@[simp] abbrev aQ:EV->EV->EV:=bz gm
@[simp] abbrev D_:EV->EV->EV:=bz RY
@[simp] abbrev D8:EV->EV->EV:=bz MA
@[simp] abbrev uV:EV->EV->EV:=bz Mx
@[simp] abbrev aO:EV->EV->EV:=bz ma
@[simp] abbrev dA:EV->EV->EV:=bz ja
@[simp] abbrev aX:EV->EV->EV:=bz fN
@[simp] abbrev Bl:EV->EV->EV:=bz Kh
@[simp] abbrev ag:EV->EV->EV:=bz cR
@[simp] abbrev D9:EV->EV->EV:=bz Pm
@[simp] abbrev Nr:EV->EV->EV:=bz Pk
@[simp] abbrev cD(g:GF):kn->EV:=bj (bD g)
@[simp] abbrev cc:EV:=vE (O 0)
@[simp] abbrev ei:EV:=vE (O 1)
@[simp] abbrev gA:EV:=vE (O 3)
@[simp] abbrev qe:EV:=vE (O 5)
@[simp] abbrev mX:EV:=vE (O 7)
@[simp] abbrev kG:EV:=vE (O 4)
@[simp] abbrev lE:EV:=vE (O 6)
@[simp] abbrev uU:EV:=vE (O 8)
@[simp] abbrev gB:EV:=vE (O 2)
@[simp] abbrev nX:EV:=vE (O 10)
@[simp] abbrev mW:EV:=vE (O 9)
@[simp] abbrev lF:EV:=vE (O 11)
@[simp] abbrev dD:EV:=vC (.int 1)
@[simp] abbrev gy:EV:=vC (.int 2)
@[simp] abbrev eQ:EV:=vC (.int 0)
@[simp] abbrev sP:EV:=vC (.int 4)
@[simp] abbrev io:EV:=vC (.int 3)
@[simp] abbrev uW:EV:=vC (.int 5)
@[simp] abbrev fZ:EE:=O 0
@[simp] abbrev jZ:EE:=O 2
@[simp] abbrev kC:EE:=O 1
@[simp] abbrev Ct:EE:=O 3
@[simp] abbrev Bm:EE:=O 4
@[simp] abbrev ph:EE:=O 10
noncomputable def JM(i:Nat):Stmt:=PySem.Challenge.pw_roadsall_k53_quiet_hands_and_plain_facts.main.body.getD i (.Pass ⟨0,0,0,0⟩)
noncomputable def Gv(x:Str):Option P:=if x=("HIGHEST_LETTER":Str) then some (.int 999) else if x=("KNOWING":Str) then some (.tup [.str "some knows",.str "each knows"]) else if x=("MOST_STANDINGS":Str) then some (.int 2000) else if x=("NOBODY":Str) then some (.int (-1)) else none
noncomputable def P0:LS:=["Board.family_of","Board.__init__","flaw_ends","Board.hands_beside","takeable","targets_of","posted","sendings","step_ends","hand_ends","ends_on"]
def Rz(st:Stmt):LS:=((br st).names.filter λx=>[NameKind.local,.cell].contains x.2).map (·.1)
def Rx(x:Str)(t k:Nat)(N o d:LS):Df:=⟨x,x,"",JM t,N,N.take k,o,d,P0⟩
def iR(x:Str)(t k:Nat)(o d:LS:=[]):Df:=Rx x t k (Rz (JM t)) o d
def qm:Df:=iR "law" 58 1
noncomputable def Att:At:=[("Board",["families","homes","members","pairs","places"])]
def Nf:List Df:=[iR "_law_mix" 44 2,iR "_law_cell_at" 43 2,iR "_law_roads" 50 2 ["_law_roads_here"],iR "_law_name" 45 2,iR "_law_cells" 46 2 ["_law_cells_here"],iR "_law_rooms" 49 2,iR "_law_sum" 47 2,iR "_law_sends" 51 5 ["_law_sends_here"],iR "_law_condition" 48 2,iR "_law_step" 52 6 ["_law_changes"],Rx "_law_plan" 53 2 ["_law_script","_law_most","_law_many","_law_names","_law_roads_here","_law_families","_law_k","_law_family","_law_crew","_law_cells_here","_law_rooms_here","_law_whos","_law_steps","_law_j","_law_place","_law_drawn","_law_wishes","_law_still","_law_when","_law_step_here"] ["_law_families","_law_steps","_law_wishes"] [],iR "families_of" 11 1 ["homes"],iR "pairs_of" 12 1 ["pairs"],iR "rows_from" 35 2 ["listed","rows"],iR "begin" 13 1 ["hands"],iR "has_flaw" 26 3,iR "unlike_spots" 18 2,iR "replaced" 29 3,iR "without" 28 2,iR "flawed" 27 3,iR "flaw_ends" 25 3 ["board","ends"],iR "values_of" 16 2,iR "compared" 6 3,iR "value_of" 4 2,iR "holds" 5 2,iR "takeable" 17 4 ["board","found"],iR "cells_behind" 20 4 ["given","numbers"],iR "whos_behind" 21 4,iR "targets_of" 23 5 ["board"],iR "posted" 24 5 ["board"],iR "sendings" 22 6 ["board","further"],iR "step_ends" 19 5 ["board","ends","values"] ["values","values_of"],iR "hand_ends" 15 3 ["board","ends"],iR "ends_on" 14 2 ["board","ends"],iR "coming_rows" 34 1 ["board","return"] ["<lambda>","rows_from"],iR "comings" 33 1 ["return"],iR "steps_at" 41 2,iR "is_quiet_room" 40 2,iR "is_quiet_hand" 39 3,iR "_law_part" 54 3,iR "_law_fact" 55 5,iR "parts_of" 36 1,iR "is_plain" 38 1,iR "_law_is_quiet" 56 3,iR "_law_is_plain" 57 1,qm]
def Sy:List Df:=[⟨"Board.family_of","family_of","Board",(L2.ly (JM 10) 1),["self","hand"],["self","hand"],["self"],[],P0⟩,⟨"Board.__init__","__init__","Board",(L2.ly (JM 10) 0),["self","plan","place","pair","hand"],["self","plan"],["self"],["families_of","pairs_of","places","self"],P0⟩,⟨"Board.hands_beside","hands_beside","Board",(L2.ly (JM 10) 2),["self","hand","name"],["self","hand","name"],["self"],[],P0⟩]
noncomputable def Tb:List Df:=Nf++Sy
noncomputable def Ph(n:Nat):Str->GF:=JF Gv Att Tb n
abbrev EQ(x:Str)(a b:Nat)(f:(Str->GF)->ES):Prop:=∀n,Ph (n+2) x=l8 a b (f (Ph (n+1)))
def iP(h:Str->GF):ES:=(aB 0 (U (aQ cc (vi 2147483648))))
def kY (h:Str->GF):ES:=(ai (cV (bV (D_ cc (D8 (vi 10) (vi 12)))) (ai (aB 0 (U (uV (aQ cc (D8 (vi 10) (vi 12))) dD)))
  (ai (bS (jq (aO ei (vi 61))) (am 2) (iP h))
  (aS (U (aO cc (vi 2147483648)))))) dU)
  (ai (aB 3 (U (aO (dA (aX (aX (aO cc (vi 1000003)) (dA (dA ei ei) (vi 7919))) ei) (vi 48271)) (vi 2147483629))))
  (ai (aB 3 (U (aO (dA gA gA) (vi 2147483587))))
  (aS (U (aQ (aO (dA gA (aX gA gy)) (vi 2147483579)) (vi 7)))))))
theorem o4:EQ "_law_mix" 2 4 kY:=λ_=>by kernel_rfl
def h7 (h:Str->GF):ES:=(ai (cV (bV (Bl ei (dP fZ))) (aS (U (ag cc ei))) dU)
  (aS (U eQ)))
theorem ku:EQ "_law_cell_at" 2 2 h7:=λ_=>by kernel_rfl
def eM (h:Str->GF):ES:=(ai (aB 7 (U (cD (h "_law_mix") (v2 (cD (h "_law_cell_at") (v2 cc sP)) (aX (dA io gA) qe)))))
  (cV (bV (D9 (aO mX sP) eQ)) (ai (aB 8 (U (ag (a9 (v2 (vt "row") (vt "heap"))) (aO (aQ mX sP) gy))))
  (cE (bY jZ (U (aJ (v6 kG lE uU dD (ce oH (U (aO (aQ mX (vi 16)) io)) (U dD)) (ce oH (U (aO (aQ mX (vi 48)) io)) (U dD)))))))) dU))
def gH(h:Str->GF):ES:=(bS (lZ ei) (bG [am 5,am 6]) (eM h))
def lT (h:Str->GF):ES:=(ai (aB 2 (d8 ar))
  (ai (bS (lZ ei) (bG [am 3,am 4]) (gH h))
  (aS jZ)))
theorem sG:EQ "_law_roads" 2 9 lT:=λ_=>by kernel_rfl
def nL (h:Str->GF):ES:=(ai (aB 2 (U (cD (h "_law_mix") (v2 (cD (h "_law_cell_at") (v2 cc dD)) ei))))
  (aS (U (aX (dA (ag (vt "abcdefghijklmnop") ei) (aX dD (aO gB sP))) (ag (vt "xyz") (aO (aQ gB sP) io))))))
theorem vS:EQ "_law_name" 2 3 nL:=λ_=>by kernel_rfl
def gJ (h:Str->GF):ES:=(ai (aB 4 (U (cD (h "_law_mix") (v2 (cD (h "_law_cell_at") (v2 cc (aX gy ei))) (aX gy gA)))))
  (ai (aB 5 (U (ag (a9 (v4 eQ eQ (NH Dj dD) uW)) (aO kG sP))))
  (ai (aB 6 (U (aX qe (ag (a9 (v4 dD dD eQ dD)) (aO (aQ kG sP) sP)))))
  (cE (bY jZ (U (aJ (v4 (cD (h "_law_name") (v2 cc (aX gy gA))) qe lE (aX qe (aO (aQ kG (vi 16)) (aX (uV lE qe) dD)))))))))))
def lU (h:Str->GF):ES:=(ai (aB 2 (d8 ar))
  (ai (bS (jq (aO (cD (h "_law_mix") (v2 (cD (h "_law_cell_at") (v2 cc (aX gy ei))) dD)) gy)) (am 3) (gJ h))
  (aS jZ)))
theorem sH:EQ "_law_cells" 2 7 lU:=λ_=>by kernel_rfl
def lS (h:Str->GF):ES:=(ai (aB 2 (U (aX dD (aO (cD (h "_law_mix") (v2 (cD (h "_law_cell_at") (v2 cc (aX gy ei))) (vi 9))) gy))))
  (aS (U (bK (jq gB) [] 1 (am 3) fQ (cD (h "_law_name") (v2 cc (aX sP gA)))))))
theorem sF:EQ "_law_rooms" 2 3 lS:=λ_=>by kernel_rfl
def d_ (h:Str->GF):ES:=(ai (cV (y9 (bv kC (U (a9 ar))) (bv (U (aO cc uW)) (U eQ))) (aS (U (aJ (v2 (vt "number") (aO (aQ cc uW) io))))) dU)
  (ai (aB 2 (U (aJ (v2 (vt "name") (ag ei (aO (aQ cc uW) (dP kC)))))))
  (ai (cV (bv (U (aO cc uW)) (U dD)) (aS jZ) dU)
  (ai (cV (bv (U (aO cc uW)) (U gy)) (aS (U (aJ (v3 (vt "plus") gB (aJ (v2 (vt "number") (aO (aQ cc (vi 20)) io))))))) dU)
  (ai (cV (bv (U (aO cc uW)) (U io)) (aS (U (aJ (v3 (vt "minus") (aJ (v3 (vt "times") gB (aJ (v2 (vt "number") (aO (aQ cc (vi 20)) io))))) (aJ (v2 (vt "number") (aO (aQ cc (vi 60)) gy))))))) dU)
  (aS (U (aJ (v3 (vt "minus") (aJ (v2 (vt "number") dD)) gB)))))))))
theorem fM:EQ "_law_sum" 2 3 d_:=λ_=>by kernel_rfl
def eK (h:Str->GF):ES:=(ai (aB 8 (U (aQ cc gy)))
  (ai (aB 9 (U (cD (h "_law_sum") (v2 (aO (aQ uU (vi 12)) (vi 300)) gB))))
  (ai (aB 10 (U (ag (a9 (v2 (vt "ma") (vt "mb"))) (dA (aO uU gy) (aO (aQ uU (vi 2000)) gy)))))
  (cV (iU (kq Ct (U (a9 ar))) (bv (U (aO (aQ uU gy) io)) (U dD))) (cE (bY (O 6) (U (aJ (v4 nX mW (vt "who") (ag gA eQ)))))) (cV (kq (O 5) (U (a9 ar))) (cE (bY (O 6) (U (aJ (v4 nX mW (ag (a9 (v2 (vt "all") (vt "any"))) (aO (aQ uU (vi 6)) gy)) (ag qe (aO (aQ uU io) (dP (O 5))))))))) dU)))))
def lR (h:Str->GF):ES:=(ai (aB 5 (U (bK (gU kG) [] 1 (am 11) (bv (U (ag lF eQ)) kC) (ag lF dD))))
  (ai (aB 6 (d8 ar))
  (ai (bS (jq (aO cc gy)) (am 7) (eK h))
  (aS (O 6)))))
theorem sE:EQ "_law_sends" 5 11 lR:=λ_=>by kernel_rfl
def cB (h:Str->GF):ES:=(ai (cV (y9 (bv kC (U (a9 ar))) (bV (Bl (aO cc uW) gy))) (aS (U (aJ (v1 (vt "true"))))) dU)
  (ai (aB 2 (U (ag (a9 (v6 (vt "=") (vt "!=") (vt "<") (vt "<=") (vt ">") (vt ">="))) (aO (aQ cc uW) (vi 6)))))
  (ai (aB 3 (U (aJ (v4 (vt "is") gB (aJ (v2 (vt "name") (ag ei (aO (aQ cc (vi 30)) (dP kC))))) (cD (h "_law_sum") (v2 (aQ cc (vi 90)) ei))))))
  (ai (cV (bv (U (aO cc uW)) (U gy)) (aS (U (aJ (v2 (vt "not") gA)))) dU)
  (ai (cV (bv (U (aO cc uW)) (U io)) (aS (U (aJ (v3 (vt "or") gA (aJ (v3 (vt "and") (aJ (v1 (vt "true"))) (aJ (v4 (vt "is") (vt "=") (aJ (v2 (vt "number") dD)) (aJ (v2 (vt "name") (ag ei eQ))))))))))) dU)
  (aS Ct))))))
theorem de:EQ "_law_condition" 2 4 cB:=λ_=>by kernel_rfl
def fE (h:Str->GF):ES:=(cV (iU (kq (O 7) (U (a9 ar))) (bv (U (aO (ag cc eQ) io)) (U dD))) (ai (aB 11 (U (vt "")))
  (ai (cV (iU (kq (O 6) (U (a9 ar))) (bv (U (aO (aQ (ag cc eQ) io) gy)) (U dD))) (ai (aB 11 (U (ag lE (NH Dj dD))))
  (aB 9 (U (qP lE kr (jz (NH Dj dD)))))) dU)
  (ai (aB 12 (U (vt "")))
  (ai (cV (iU (kq Bm (U (a9 ar))) (bv (U (aO (aQ (ag cc eQ) (vi 6)) gy)) (U dD))) (aB 12 (U (ag kG eQ))) dU)
  (ai (aB 8 (U (aJ (v4 (ag (a9 (v2 (vt "ma") (vt "mb"))) (aO (aQ (ag cc eQ) (vi 12)) gy)) (ag mX (aO (aQ (ag cc eQ) (vi 24)) (dP (O 7)))) lF (vv 12)))))
  (aB 10 (U (a9 (v1 (vt "it")))))))))) dU)
def fD(h:Str->GF):ES:=(cV (bv (U (aO (aQ (ag cc dD) (ag (a9 (v2 dD (vi 1000))) (vv 14))) gy)) (U dD)) (cE (bY (O 13) (U (aJ (v2 (vv 15) (cD (h "_law_sum") (v2 (aO (aQ (ag cc dD) (ag (a9 (v2 gy (vi 2000))) (vv 14))) (vi 300)) (aX lE nX)))))))) dU)
def nK (h:Str->GF):ES:=(ai (aB 6 (U (bK (gU gA) [] 1 (am 18) fQ (ag (vv 18) eQ))))
  (ai (aB 7 (U (bK (gU qe) [] 1 (am 18) (bv (U (ag (vv 18) dD)) kC) (ag (vv 18) eQ))))
  (ai (aB 8 (U (vC (.non))))
  (ai (aB 9 (U (bj jr (v1 lE))))
  (ai (aB 10 (U (a9 ar)))
  (ai (fE h)
  (ai (aB 13 (d8 ar))
  (ai (bS (lZ mW) (bG [am 14,am 15]) (fD h))
  (ai (aB 16 (U (cD (h "_law_sends") (v5 (ag cc gy) ei lE kG qe))))
  (ai (aB 17 (U (cD (h "_law_condition") (v2 (aO (ag cc io) (vi 27000)) lE))))
  (aS (U (aJ (v6 (ag gB (aO (aQ (ag cc io) (vi 27000)) (dP jZ))) (vv 17) uU (vv 13) (vv 16) (ag gB (aO (aQ (ag cc io) (vi 81000)) (dP jZ)))))))))))))))))
theorem vP:EQ "_law_step" 6 18 nK:=λ_=>by kernel_rfl
def fH (h:Str->GF):ES:=(ai (aB 14 (U (aX uW (dA sP (aX (dA io lE) (vv 13))))))
  (ai (aB 15 (U (bK (jq sP) [] 1 (am 20) fQ (cD (h "_law_mix") (v2 (cD (h "_law_cell_at") (v2 cc (aX (vv 14) (vv 20)))) (vi 11))))))
  (cE (bY (O 12) (U (aX (aJ (v1 (cD (h "_law_name") (v2 cc (aX (vi 11) (vv 13)))))) (cD (h "_law_step") (v6 (vv 15) mX nX mW lF kG))))))))
def fG (h:Str->GF):ES:=(ai (aB 8 (U (ag (a9 (v2 (aX dD (aO (aQ (cD (h "_law_cell_at") (v2 cc eQ)) gy) gy)) dD)) (uV gB dD))))
  (ai (aB 9 (U (cD (h "_law_cells") (v2 cc lE))))
  (ai (aB 10 (U (cD (h "_law_rooms") (v2 cc lE))))
  (ai (aB 11 (U (dA (a9 (v1 (cD (h "_law_name") (v2 cc (vi 10))))) (dA (aO (cD (h "_law_mix") (v2 (cD (h "_law_cell_at") (v2 cc (aX gy lE))) (vi 8))) gy) (bj mi (v1 (ce oH (U (dP ph)) (U dD))))))))
  (ai (aB 12 (d8 ar))
  (ai (bS (jq (aX dD (aO (cD (h "_law_mix") (v2 (cD (h "_law_cell_at") (v2 cc (aX gy lE))) (vi 7))) gy))) (am 13) (fH h))
  (cE (bY (O 5) (U (aJ (v6 mX uU nX mW lF (vv 12))))))))))))
def fF (h:Str->GF):ES:=(ai (aB 15 (U (cD (h "_law_mix") (v2 (cD (h "_law_cell_at") (v2 cc sP)) (aX (vi 20) lE)))))
  (ai (aB 7 (o5 (O 5) (aO (vv 15) gB)))
  (cE (bY (O 16) (U (aJ (v3 (ag (a9 (v2 (vt "weak") (vt "strong"))) (aO (aQ (vv 15) gy) gy)) (ag mX eQ) (ag (ag (ag mX uW) (aO (aQ (vv 15) sP) (dP (U (ag mX uW))))) eQ))))))))
def kg (h:Str->GF):ES:=(ai (aB 2 (U (aX dD (aO (cD (h "_law_cell_at") (v2 cc eQ)) gy))))
  (ai (aB 3 (U (bK (jq gB) [6] 0 (am 6) fQ (cD (h "_law_name") (v2 cc lE)))))
  (ai (aB 4 (U (cD (h "_law_roads") (v2 cc gA))))
  (ai (aB 5 (d8 ar))
  (ai (bS (lZ gA) (bG [am 6,am 7]) (fG h))
  (ai (aB 16 (d8 ar))
  (ai (cV (bv (U (aO (aQ (cD (h "_law_cell_at") (v2 cc eQ)) (vi 64)) sP)) (U dD)) (ai (aB 17 (U (a9 (v2 (aJ (v4 (cD (h "_law_name") (v2 cc (vi 12))) io io io)) (aJ (v4 (cD (h "_law_name") (v2 cc (vi 13))) eQ eQ eQ))))))
  (ai (aB 18 (U (ag (a9 (v2 (aJ (v1 (vt "true"))) (aJ (v2 (vt "not") (aJ (v1 (vt "true"))))))) (aO (aQ (cD (h "_law_cell_at") (v2 cc eQ)) (vi 256)) gy))))
  (ai (aB 19 (U (aJ (v7 (cD (h "_law_name") (v2 cc (vi 14))) (cD (h "_law_name") (v2 cc (vi 15))) (vv 18) (vC (.non)) (a9 ar) (a9 ar) (cD (h "_law_name") (v2 cc (vi 15)))))))
  (cE (bY (O 5) (U (aJ (v6 (cD (h "_law_name") (v2 cc io)) dD (a9 (v1 (cD (h "_law_name") (v2 cc (vi 15))))) (vv 17) (a9 (v1 (cD (h "_law_name") (v2 cc (vi 9))))) (a9 (v1 (vv 19))))))))))) dU)
  (ai (bS (jq (aO (aQ (cD (h "_law_cell_at") (v2 cc eQ)) (vi 20)) io)) (am 6) (fF h))
  (aS (U (aJ (v3 qe kG (vv 16)))))))))))))
theorem vQ:EQ "_law_plan" 2 20 kg:=λ_=>by kernel_rfl
def fJ(h:Str->GF):ES:=(cE (gj kC (dA (a9 (v1 gB)) (ag gA dD))))
def kA (h:Str->GF):ES:=(ai (aB 1 (d8 ar))
  (ai (bS (lZ (ag cc eQ)) (bG [am 2,am 3]) (fJ h))
  (aS kC)))
theorem pB:EQ "families_of" 1 4 kA:=λ_=>by kernel_rfl
def fC (h:Str->GF):ES:=(cV (bv (O 5) (U (ag gA eQ))) (ai (aB 6 (U (bK (jq (dP kC)) [] 1 (am 7) (iU (kq (O 7) Bm) (bv (U (ag ei mX)) (U (ag gA dD)))) mX)))
  (cE (gj jZ (bK (gU lE) [] 1 (am 7) fQ (aJ (v3 gA kG mX)))))) dU)
def kz(h:Str->GF):ES:=(bS (lZ ei) (bG [am 4,am 5]) (fC h))
def nJ (h:Str->GF):ES:=(ai (aB 1 (U (bK (gU (cD (h "families_of") (v1 cc))) [] 1 (am 7) fQ (ag (ag (ag cc eQ) mX) eQ))))
  (ai (aB 2 (d8 ar))
  (ai (bS (gU (ag cc dD)) (am 3) (kz h))
  (aS jZ))))
theorem vO:EQ "pairs_of" 1 7 nJ:=λ_=>by kernel_rfl
def lH(h:Str->GF):ES:=(aS (o5 (d9 (aT Att) fZ "families") (vE (o5 (d9 (aT Att) fZ "homes") ei))))
theorem ie:EQ "Board.family_of" 2 2 lH:=λ_=>by kernel_rfl
def cC(h:Str->GF):ES:=(cE (bY (nB (d9 (aT Att) (O 0) "members") (bz cR (vE (dC (mT Tb h) (O 0) "family_of" (bw (O 4) dY))) (vC (.int 0))) (d8 ar)) (O 4)))
def gu(h:Str->GF):ES:=(Ey (d9 (aT Att) fZ "places") (v2 (ag gA dD) (ag gA gy)) gB)
def iQ (h:Str->GF):ES:=(ai (oR (aT Att) fZ "families" (U (ag ei eQ)))
  (ai (oR (aT Att) fZ "homes" (kW (h "families_of") (Kz kC)))
  (ai (oR (aT Att) fZ "pairs" (kW (h "pairs_of") (Kz kC)))
  (ai (oR (aT Att) fZ "places" yX)
  (ai (bS (lZ (vE (d9 (aT Att) fZ "pairs"))) (bG [am 2,am 3]) (gu h))
  (ai (oR (aT Att) fZ "members" o6)
  (bS (jq (dP (d9 (aT Att) fZ "homes"))) (am 4) (cC h))))))))
theorem rW:EQ "Board.__init__" 2 5 iQ:=λ_=>by kernel_rfl
def jK (h:Str->GF):ES:=(cV (bV (ce lA (O 7) (O 3))) (ai (cV (bV (ce oH (U (dP (O 2))) (U (vC (.int 2000))))) vc dU)
  (ai (Bz (O 3) (vE (O 7)) (vC (.bl true)))
  (cE (bY (O 2) (U (aJ (ab (vE (O 7)) (ab (vE (O 4)) (ab (vE (O 6)) ar))))))))) dU)
def eJ(h:Str->GF):ES:=(jK h)
def eI (x h:Str->GF):ES:=(ai (aB 5 (o5 (o5 (O 2) (vE (O 4))) (vC (.int 0))))
  (ai (bS (gU (qQ (h "ends_on") 1 (vE (O 5)))) (bG [am 6,am 7]) (eJ x))
  (EA 4 (vC (.int 1)))))
def js (x h:Str->GF):ES:=(ai (aB 2 (o7 (bK (gU (vE (O 0))) [] 1 (am 8) fQ (aJ (ab (vE (O 8)) (ab (vC (.non)) (ab (vC (.non)) ar)))))))
  (ai (aB 3 (vV (bK (gU (vE (O 0))) [] 1 (am 8) fQ (aJ (ab (vE (O 8)) (ab (vC (.bl true)) ar))))))
  (ai (aB 4 (U (vC (.int 0))))
  (ai (va 1000 (bV (bz Kh (vE (O 4)) (dP (O 2)))) (eI x h))
  (aS (O 2))))))
theorem sD(n:Nat):Ph (n+2) "rows_from"=l8 2 8 (js (Ph (n+1)) (Ph n)):=by kernel_rfl
def kl (h:Str->GF):ES:=(ai (aB 3 (U (ag (ag (ag cc eQ) gB) io)))
  (ai (aB 4 (U (ag (ag (ag cc eQ) gB) sP)))
  (cE (bY kC (U (aJ (v3 eQ (bj fx (v1 (bK (gU gA) [] 1 (am 5) fQ (ag qe io)))) (dA (aJ (v1 (vi (-1)))) (dP Bm)))))))))
def tS (h:Str->GF):ES:=(ai (aB 1 (d8 ar))
  (ai (bS (gU (cD (h "families_of") (v1 cc))) (am 2) (kl h))
  (aS (U (aJ (v2 (bj fx (v1 ei)) (dA (aJ (v1 (aJ ar))) (dP (U (cD (h "pairs_of") (v1 cc)))))))))))
theorem De:EQ "begin" 1 5 tS:=λ_=>by kernel_rfl
def kj (h:Str->GF):ES:=(ai (cV (bv kC (U (vt "lose"))) (aS (U (ag cc sP))) dU)
  (aS (U (vB (iU (bV (ag cc uW)) (bV (Bl (dP jZ) (ag cc io))))))))
theorem nA:EQ "has_flaw" 3 3 kj:=λ_=>by kernel_rfl
def gG (h:Str->GF):ES:=(ai (aB 2 (U (NI (dP kC))))
  (ai (cV (bv fZ (U (vt "row"))) (aS jZ) dU)
  (aS (U (bK (gU gB) [] 1 (am 3) (bv (U (yd ei (ag ei gA))) Ct) gA)))))
theorem jD:EQ "unlike_spots" 2 3 gG:=λ_=>by kernel_rfl
def nI(h:Str->GF):ES:=(aS (U (aX (aX (qP cc kr (jz ei)) (aJ (v1 gB))) (qP cc (jz (aX ei dD)) kr))))
theorem vN:EQ "replaced" 3 3 nI:=λ_=>by kernel_rfl
def pc(h:Str->GF):ES:=(aS (U (aX (qP cc kr (jz ei)) (qP cc (jz (aX ei dD)) kr))))
theorem xm:EQ "without" 2 2 pc:=λ_=>by kernel_rfl
def se (h:Str->GF):ES:=(ai (cV (bv fZ (U (vt "lose"))) (aS (U (cD (h "without") (v2 ei gB)))) dU)
  (aS (U (aX (qP ei kr (jz (aX gB dD))) (qP ei (jz gB) kr)))))
theorem yV:EQ "flawed" 3 3 se:=λ_=>by kernel_rfl
def gK (h:Str->GF):ES:=(ai (aB 11 (U (cD (h "replaced") (v3 (ag ei dD) kG (cD (h "flawed") (v3 gB mW nX))))))
  (cE (bY Ct (U (aJ (v2 (aJ (v4 gB mX uU nX)) (aJ (v2 (ag ei eQ) lF))))))))
def eP (h:Str->GF):ES:=(ai (yp (bG [am 6,am 7,am 8]) qe)
  (ai (aB 9 (U (ag (ag ei dD) kG)))
  (cV (bT (U (cD (h "has_flaw") (v3 lE gB mW)))) (bS (gU (cD (h "unlike_spots") (v2 (ag lE gy) mW))) (am 10) (gK h)) dU)))
def g0 (h:Str->GF):ES:=(ai (aB 3 (d8 ar))
  (ai (bS (lZ (vE (d9 (aT Att) fZ "pairs"))) (bG [am 4,am 5]) (eP h))
  (aS Ct)))
theorem sJ:Ph 13 "flaw_ends"=l8 3 12 (g0 (Ph 12)):=by kernel_rfl
def lQ(h:Str->GF):ES:=(aS (yW (bK (gU (ag cc io)) [] 1 (am 2) fQ (ag gB eQ)) ei))
theorem sC:EQ "values_of" 2 2 lQ:=λ_=>by kernel_rfl
def dg (h:Str->GF):ES:=(ai (cV (bv fZ (U (vt "="))) (aS (U (ce oH kC jZ))) dU)
  (ai (cV (bv fZ (U (vt "!="))) (aS (U (ce GZ kC jZ))) dU)
  (ai (cV (bv fZ (U (vt "<"))) (aS (U (Bl ei gB))) dU)
  (ai (cV (bv fZ (U (vt "<="))) (aS (U (Nr ei gB))) dU)
  (ai (cV (bv fZ (U (vt ">"))) (aS (U (D9 ei gB))) dU)
  (aS (U (D_ ei gB))))))))
theorem vU:EQ "compared" 3 3 dg:=λ_=>by kernel_rfl
def eG (h:Str->GF):ES:=(ai (aB 2 (U (ag cc eQ)))
  (ai (cV (bv jZ (U (vt "number"))) (aS (U (ag cc dD))) dU)
  (ai (cV (bv jZ (U (vt "name"))) (aS (U (ag ei (ag cc dD)))) dU)
  (ai (aB 3 (U (cD (h "value_of") (v2 (ag cc dD) ei))))
  (ai (aB 4 (U (cD (h "value_of") (v2 (ag cc gy) ei))))
  (ai (cV (bv jZ (U (vt "plus"))) (aS (U (aX gA kG))) dU)
  (ai (cV (bv jZ (U (vt "minus"))) (aS (U (uV gA kG))) dU)
  (aS (U (dA gA kG))))))))))
theorem gh:EQ "value_of" 2 5 eG:=λ_=>by kernel_rfl
def iB (h:Str->GF):ES:=(ai (aB 2 (U (ag cc eQ)))
  (ai (cV (bv jZ (U (vt "true"))) (aS (U (vC (.bl true)))) dU)
  (ai (cV (bv jZ (U (vt "not"))) (aS (U (vB (sL (bV (cD (h "holds") (v2 (ag cc dD) ei))))))) dU)
  (ai (cV (bv jZ (U (vt "and"))) (aS (U (vB (iU (bV (cD (h "holds") (v2 (ag cc dD) ei))) (bV (cD (h "holds") (v2 (ag cc gy) ei))))))) dU)
  (ai (cV (bv jZ (U (vt "or"))) (aS (U (vB (y9 (bV (cD (h "holds") (v2 (ag cc dD) ei))) (bV (cD (h "holds") (v2 (ag cc gy) ei))))))) dU)
  (aS (U (cD (h "compared") (v3 (ag cc dD) (cD (h "value_of") (v2 (ag cc gy) ei)) (cD (h "value_of") (v2 (ag cc io) ei)))))))))))
theorem jE:EQ "holds" 2 3 iB:=λ_=>by kernel_rfl
def gw(h:Str->GF):ES:=(aS (U (bK (gU (vE (o5 (d9 (aT Att) fZ "members") gB))) [] 1 (am 3) (kq Ct kC) gA)))
theorem j':EQ "Board.hands_beside" 3 3 gw:=λ_=>by kernel_rfl
def fA (h:Str->GF):ES:=(ai (aB 6 (xp (d9 (aT Att) fZ "places") (v2 qe gB)))
  (ai (aB 7 (o5 (o5 (o5 (d9 (aT Att) fZ "pairs") lE) eQ) gy))
  (ai (aB 8 (U (ag ei lE)))
  (ai (aB 9 (U (NJ (bv (O 7) (U (vt "row"))) (qP (NI (dP (O 8))) kr (jz dD)) (cD (h "unlike_spots") (v2 mX uU)))))
  (cE (gj Bm (bK (gU mW) [] 1 (am 10) (bv (U (ag (ag uU nX) eQ)) (U (ag gA eQ))) (aJ (v2 qe nX)))))))))
def kf (h:Str->GF):ES:=(ai (cV (bV (ce sv Ct (U (vC (.non))))) (aS (U (a9 (v1 (vC (.non)))))) dU)
  (ai (aB 4 (d8 ar))
  (ai (bS (gU (vE (dC (mT Tb h) fZ "hands_beside" (MW jZ (U (ag gA dD)))))) (am 5) (fA h))
  (aS Bm))))
theorem nw:EQ "takeable" 4 10 kf:=λ_=>by kernel_rfl
def ig(h:Str->GF):ES:=(jw Bm qe (cD (h "value_of") (v2 lE gA)))
def bq (h:Str->GF):ES:=(ai (aB 10 (U (Ed kG (ag mW eQ) (ag ei uU))))
  (ai (cV (iU (bV (ce kS (U (ag mW eQ)) Bm)) (sL (bV (nZ Pk Pk (ag mW dD) nX (ag mW gy))))) (aS (U (vC (.non)))) dU)
  (cE (bY (O 7) ph))))
def gL (h:Str->GF):ES:=(ai (aB 4 o6)
  (ai (bS (gU (ag gB sP)) (bG [am 5,am 6]) (ig h))
  (ai (cV (iU (bV (ce cW (U (ag gB io)) (U (vC (.non))))) (kq (U (ag (ag gB io) gy)) (U (vt "")))) (jw Bm (ag (ag gB io) gy) (ag gA (vt "it"))) dU)
  (ai (aB 7 (d8 ar))
  (ai (bS (lZ (ag cc io)) (bG [am 8,am 9]) (bq h))
  (aS (U (bj fx (v1 mX)))))))))
theorem jF:EQ "cells_behind" 4 11 gL:=λ_=>by kernel_rfl
def fy (h:Str->GF):ES:=(ai (cV (y9 (bV (ce sv jZ (U (vC (.non))))) (bv (U (ag gB io)) (U (vt "")))) (aS kC) dU)
  (aS (U (cD (h "replaced") (v3 ei (yd (ag cc sP) (ag gB io)) (ag gA eQ))))))
theorem hX:EQ "whos_behind" 4 4 fy:=λ_=>by kernel_rfl
def gn (h:Str->GF):ES:=(ai (cV (bv jZ (U (vt "who"))) (aS (U (a9 (v1 (aJ (v2 (aJ ar) (a9 (v1 (ag kG (yd (ag (vE (dC (mT Tb h) fZ "family_of" (Kz kC))) sP) gA)))))))))) dU)
  (ai (aB 5 (dC (mT Tb h) fZ "hands_beside" (MW kC Ct)))
  (ai (cV (bv jZ (U (vt "all"))) (aS (U (a9 (v1 (aJ (v2 (aJ ar) qe)))))) dU)
  (aS (U (bK (gU qe) [] 1 (am 6) fQ (aJ (v2 (aJ (v1 lE)) (a9 (v1 lE))))))))))
theorem iN:EQ "targets_of" 5 6 gn:=λ_=>by kernel_rfl
def gY (h:Str->GF):ES:=(ai (aB 6 (tu (d9 (aT Att) fZ "places") (v2 gB qe)))
  (ai (cV (y9 (bV (ce sv (O 6) (U (vC (.non))))) (bV (D9 (bj pb (v1 (ag kG dD))) (vi 999)))) (aS (U (vC (.non)))) dU)
  (ai (aB 7 (o5 (o5 (d9 (aT Att) fZ "pairs") lE) eQ))
  (ai (cV (bV (D_ (dP (U (ag ei lE))) (ag mX io))) (aS (U (vC (.non)))) dU)
  (ai (aB 8 (U (aX (ag ei lE) (aJ (v1 kG)))))
  (ai (cV (bv (U (ag mX gy)) (U (vt "heap"))) (aB 8 (U (bj fx (v1 (Ec (O 8)))))) dU)
  (aB 1 (U (cD (h "replaced") (v3 ei lE uU))))))))))
def mj (h:Str->GF):ES:=(ai (bS (gU gA) (am 5) (gY h))
  (aS kC))
theorem rV:EQ "posted" 5 9 mj:=λ_=>by kernel_rfl
def hZ (h:Str->GF):ES:=(ai (aB 17 (U (fI (h "posted") (Ky fZ (O 14) kC (O 16) (O 11)))))
  (cV (bV (ce cW (O 17) (U (vC (.non))))) (cE (bY (O 12) (U (aJ (v2 (aX (vv 13) (vv 15)) (vv 17)))))) dU))
def fB(h:Str->GF):ES:=(bS (gU (fI (h "targets_of") (Ky fZ kC (O 9) ph (O 5)))) (bG [am 15,am 16]) (hZ h))
def hY (h:Str->GF):ES:=(ai (aB 11 (U (aJ (v2 mX (cD (h "value_of") (v2 uU gA))))))
  (ai (aB 12 (d8 ar))
  (ai (bS (gU lE) (bG [am 13,am 14]) (fB h))
  (aB 6 (O 12)))))
def nH (h:Str->GF):ES:=(ai (aB 6 (U (a9 (v1 (aJ (v2 (aJ ar) kG))))))
  (ai (bS (gU gB) (bG [am 7,am 8,am 9,am 10]) (hY h))
  (aS (O 6))))
theorem vM:EQ "sendings" 6 18 nH:=λ_=>by kernel_rfl
def jJ(h:Str->GF):ES:=(cE (bY (O 13) (U (aJ (v2 (aJ (v5 (vt "step") gB (ag gA eQ) kG (vv 14))) (aJ (v2 (vv 12) (vv 15))))))))
def eX (h:Str->GF):ES:=(ai (aB 5 (dC (mT Tb h) fZ "family_of" (Kz jZ)))
  (ai (yp (bG [am 6,am 7,am 8]) (ag (ag ei eQ) gB))
  (ai (aB 9 (U (ag ei dD)))
  (ai (aB 10 (kW (h "values_of") (MW (O 5) (O 7))))
  (ai (cV (bV (ce cW Bm (U (vC (.non))))) (ai (aB 11 (xp (d9 (aT Att) fZ "places") (v2 (ag kG eQ) gB)))
  (ai (jw ph (vt "it") (ag (ag (ag mW lF) (ag kG dD)) dD))
  (aB 9 (U (cD (h "replaced") (v3 mW lF (cD (h "without") (v2 (ag mW lF) (ag kG dD))))))))) dU)
  (ai (aB 7 (U (cD (h "cells_behind") (v4 qe mX gA nX))))
  (ai (cV (bV (ce sv (O 7) (U (vC (.non))))) (aS (U (a9 ar))) dU)
  (ai (aB 8 (U (cD (h "whos_behind") (v4 qe uU (ag gA io) kG))))
  (ai (aB 12 (U (cD (h "replaced") (v3 (ag ei eQ) gB (aJ (v3 (yd (ag qe gy) (ag gA (vi 6))) mX uU))))))
  (ai (aB 13 (d8 ar))
  (ai (bS (gU (fI (h "sendings") (Sb fZ jZ (U (ag gA uW)) ph (O 9) (O 8)))) (bG [am 14,am 15]) (jJ h))
  (aS (O 13)))))))))))))
theorem lN:EQ "step_ends" 5 16 eX:=λ_=>by kernel_rfl
def jL(h:Str->GF):ES:=(cE (gj (O 8) (fI (h "step_ends") (Ky fZ kC jZ (O 9) ph))))
def eO(h:Str->GF):ES:=(cV (iU (bv (U (ag mW dD)) (U (ag (ag gA gy) kG))) (bT (U (cD (h "holds") (v2 (ag mW gy) mX))))) (bS (gU (fI (h "takeable") (Sc fZ (U (ag ei dD)) jZ (U (ag mW io))))) (am 10) (jL h)) dU)
def gZ (h:Str->GF):ES:=(ai (aB 3 (dC (mT Tb h) fZ "family_of" (Kz jZ)))
  (ai (yp (bG [am 4,am 5,am 6]) (ag (ag ei eQ) gB))
  (ai (aB 7 (U (cD (h "values_of") (v2 gA qe))))
  (ai (aB 8 (d8 ar))
  (ai (bS (gU (ag gA uW)) (am 9) (eO h))
  (aS (O 8)))))))
theorem sI:Ph 13 "hand_ends"=l8 3 11 (gZ (Ph 12)):=by kernel_rfl
def kZ(h:Str->GF):ES:=(cE (gj jZ (fI (h "hand_ends") (MV fZ kC Ct))))
def k4 (h:Str->GF):ES:=(ai (aB 2 (d8 ar))
  (ai (bS (jq (dP (d9 (aT Att) fZ "homes"))) (am 3) (kZ h))
  (ai (cE (gj jZ (fI (h "flaw_ends") (MV fZ kC (U (vt "lose"))))))
  (ai (cE (gj jZ (fI (h "flaw_ends") (MV fZ kC (U (vt "double"))))))
  (aS jZ)))))
theorem xn:Ph 14 "ends_on"=l8 2 4 (k4 (Ph 13)):=by kernel_rfl
def h_ (h x:Str->GF):ES:=(ai (aB 1 (lO (x "Board.__init__") "Board" (bw (O 0) dY)))
  (aS (vW (h "rows_from") 1 (a9 (ab (bj (bD (h "begin")) (ab (vE (O 0)) ar)) ar)))))
theorem pC(n:Nat):Ph (n+2) "coming_rows"=l8 1 2 (h_ (Ph (n+1)) (Ph n)):=by kernel_rfl
def k5(h:Str->GF):ES:=(aS (o7 (bK (gU (bj (bD (h "coming_rows")) (ab (vE (O 0)) ar))) [] 1 (am 1) fQ (bz cR (vE (O 1)) (vC (.int 0))))))
theorem xo:EQ "comings" 1 1 k5:=λ_=>by kernel_rfl
def nG(h:Str->GF):ES:=(aS (U (bK (gU (bz cR (vE (O 0)) (vC (.int 5)))) [] 1 (am 2) (bV (ce oH (U (bz cR (vE (O 2)) (vC (.int 1)))) (U (bz cR (bz cR (vE (O 0)) (vC (.int 2))) (vE (O 1)))))) (vE (O 2)))))
theorem vL:EQ "steps_at" 2 2 nG:=λ_=>by kernel_rfl
def jd(h:Str->GF):ES:=(aS (U (bj tL (ab (bK (gU (bj (bD (h "steps_at")) (ab (vE (O 0)) (ab (vE (O 1)) ar)))) [] 1 (am 2) fQ (vB (iU (bV (ce sv (U (bz cR (vE (O 2)) (vC (.int 3)))) (U (vC (.non))))) (bV (ce oH (U (dP (U (bz cR (vE (O 2)) (vC (.int 5)))))) (U (vC (.int 0)))))))) ar))))
theorem ny:EQ "is_quiet_room" 2 2 jd:=λ_=>by kernel_rfl
def gq(h x:Str->GF):ES:=(aS (U (bj (bD (h "is_quiet_room")) (ab (vE (dC (mT Tb h) (lO (x "Board.__init__") "Board" (bw (O 0) dY)) "family_of" (bw (O 2) dY))) (ab (bz cR (bz cR (bz cR (vE (O 1)) (vC (.int 0))) (vE (O 2))) (vC (.int 0))) ar)))))
theorem nz(n:Nat):Ph (n+2) "is_quiet_hand"=l8 3 3 (gq (Ph (n+1)) (Ph n)):=by kernel_rfl
def kh (h:Str->GF):ES:=(ai (aB 3 (U (bz cR (bz cR (vE (O 1)) (vC (.int 0))) (bz ma (vE (O 0)) (dP (U (bz cR (vE (O 1)) (vC (.int 0)))))))))
  (ai (aB 4 (U (bK (gU (bz cR (vE (O 3)) (vC (.int 3)))) [] 1 (am 11) fQ (bz cR (vE (O 11)) (vC (.int 0))))))
  (ai (aB 5 (U (bz cR (bz fN (a9 (ab (vC (.str "")) ar)) (bz cR (vE (O 3)) (vC (.int 2)))) (bz ma (bz gm (vE (O 0)) (vC (.int 2))) (bz fN (dP (U (bz cR (vE (O 3)) (vC (.int 2))))) (vC (.int 1)))))))
  (ai (aB 6 (U (bj (bD (h "_law_condition")) (ab (bz ma (bz gm (vE (O 0)) (vC (.int 12))) (vC (.int 27000))) (ab (vE (O 4)) ar)))))
  (ai (aB 7 (U (bz cR (a9 (ab (vC (.str "=")) (ab (vC (.str "!=")) (ab (vC (.str "<")) (ab (vC (.str "<=")) (ab (vC (.str ">")) (ab (vC (.str ">=")) ar))))))) (bz ma (bz gm (vE (O 0)) (vC (.int 360))) (vC (.int 6))))))
  (ai (aB 8 (U (bz ma (bz gm (vE (O 0)) (vC (.int 2160))) (vC (.int 4)))))
  (ai (aB 9 (U (bz ma (bz gm (vE (O 0)) (vC (.int 8640))) (vC (.int 6)))))
  (ai (cV (bV (ce oH (O 9) (U (vC (.int 0))))) (aS (U (aJ (ab (vC (.str "all")) (ab (bz cR (vE (O 3)) (vC (.int 0))) (ab (vE (O 5)) (ab (vE (O 6)) ar))))))) dU)
  (ai (cV (bV (ce oH (O 9) (U (vC (.int 1))))) (aS (U (aJ (ab (vC (.str "many")) (ab (bz cR (vE (O 3)) (vC (.int 0))) (ab (vE (O 5)) (ab (vE (O 6)) (ab (vE (O 7)) (ab (vE (O 8)) ar))))))))) dU)
  (ai (cV (bV (ce oH (O 9) (U (vC (.int 2))))) (ai (aB 10 (U (bz cR (bz cR (vE (O 1)) (vC (.int 0))) (bz ma (bz gm (vE (O 0)) (vC (.int 4))) (dP (U (bz cR (vE (O 1)) (vC (.int 0)))))))))
  (aS (U (aJ (ab (vC (.str "letters")) (ab (bz cR (vE (O 3)) (vC (.int 0))) (ab (bz cR (vE (O 10)) (vC (.int 0))) (ab (bz cR (a9 (ab (vC (.str "")) (ab (vC (.str "ma")) (ab (vC (.str "mb")) ar)))) (bz ma (bz gm (vE (O 0)) (vC (.int 24))) (vC (.int 3)))) (ab (vE (O 7)) (ab (vE (O 8)) ar)))))))))) dU)
  (ai (cV (bV (ce oH (O 9) (U (vC (.int 3))))) (aS (U (aJ (ab (vC (.str "dry")) ar)))) dU)
  (ai (cV (iU (bV (ce oH (O 9) (U (vC (.int 4))))) (bT (O 2))) (aS (U (aJ (ab (vC (.str "true")) ar)))) dU)
  (aS (U (aJ (ab (vC (.str "some")) (ab (bz cR (vE (O 3)) (vC (.int 0))) (ab (vE (O 5)) (ab (vE (O 6)) ar)))))))))))))))))))
theorem vR:EQ "_law_part" 3 11 kh:=λ_=>by kernel_rfl
def df (h:Str->GF):ES:=(ai (aB 5 (U (bj (bD (h "_law_mix")) (ab (bj (bD (h "_law_cell_at")) (ab (vE (O 0)) (ab (vE (O 2)) ar))) (ab (bz fN (vC (.int 3)) (vE (O 3))) ar)))))
  (ai (aB 6 (U (bz ma (vE (O 5)) (vC (.int 8)))))
  (ai (cV (y9 (bV (bz Pm (vE (O 3)) (vC (.int 6)))) (bV (bz Kh (vE (O 6)) (vC (.int 2))))) (aS (U (bj (bD (h "_law_part")) (ab (bz gm (vE (O 5)) (vC (.int 8))) (ab (vE (O 1)) (ab (vE (O 4)) ar)))))) dU)
  (ai (cV (bV (ce oH (O 6) (U (vC (.int 2))))) (aS (U (aJ (ab (vC (.str "not")) (ab (bj (bD (h "_law_fact")) (ab (vE (O 0)) (ab (vE (O 1)) (ab (vE (O 2)) (ab (bz fN (bz ja (vC (.int 2)) (vE (O 3))) (vC (.int 1))) (ab (vE (O 4)) ar)))))) ar))))) dU)
  (ai (cV (y9 (bV (bz Kh (vE (O 6)) (vC (.int 5)))) (sL (bT (O 4)))) (ai (aB 7 (U (bz cR (a9 (ab (vC (.str "and")) (ab (vC (.str "or")) ar))) (bz ma (bz gm (vE (O 5)) (vC (.int 8))) (vC (.int 2))))))
  (ai (aB 8 (U (bj (bD (h "_law_fact")) (ab (vE (O 0)) (ab (vE (O 1)) (ab (vE (O 2)) (ab (bz fN (bz ja (vC (.int 2)) (vE (O 3))) (vC (.int 1))) (ab (vE (O 4)) ar))))))))
  (aS (U (aJ (ab (vE (O 7)) (ab (vE (O 8)) (ab (bj (bD (h "_law_fact")) (ab (vE (O 0)) (ab (vE (O 1)) (ab (vE (O 2)) (ab (bz fN (bz ja (vC (.int 2)) (vE (O 3))) (vC (.int 2))) (ab (vE (O 4)) ar)))))) ar)))))))) dU)
  (ai (aB 9 (U (bz cR (bz cR (bz cR (vE (O 1)) (vC (.int 0))) (bz ma (bz gm (vE (O 5)) (vC (.int 8))) (dP (U (bz cR (vE (O 1)) (vC (.int 0))))))) (vC (.int 0)))))
  (ai (aB 7 (U (bz cR (a9 (ab (vC (.str "some knows")) (ab (vC (.str "each knows")) ar))) (bz ma (bz gm (vE (O 5)) (vC (.int 16))) (vC (.int 2))))))
  (aS (U (aJ (ab (vE (O 7)) (ab (vE (O 9)) (ab (bj (bD (h "_law_fact")) (ab (vE (O 0)) (ab (vE (O 1)) (ab (vE (O 2)) (ab (bz fN (bz ja (vC (.int 2)) (vE (O 3))) (vC (.int 1))) (ab (vE (O 4)) ar)))))) ar)))))))))))))
theorem gi:EQ "_law_fact" 5 10 df:=λ_=>by kernel_rfl
def gp (h:Str->GF):ES:=(ai (aB 1 (U (bz cR (vE (O 0)) (vC (.int 0)))))
  (ai (cV (bV (ce oH (O 1) (U (vC (.str "not"))))) (aS (U (bz fN (a9 (ab (vE (O 0)) ar)) (bj (bD (h "parts_of")) (ab (bz cR (vE (O 0)) (vC (.int 1))) ar))))) dU)
  (ai (cV (bV (ce kS (O 1) (U (aJ (ab (vC (.str "and")) (ab (vC (.str "or")) ar)))))) (aS (U (bz fN (bz fN (a9 (ab (vE (O 0)) ar)) (bj (bD (h "parts_of")) (ab (bz cR (vE (O 0)) (vC (.int 1))) ar))) (bj (bD (h "parts_of")) (ab (bz cR (vE (O 0)) (vC (.int 2))) ar))))) dU)
  (ai (cV (bV (ce kS (O 1) (U (vC (.tup [.str "some knows",.str "each knows"]))))) (aS (U (bz fN (a9 (ab (vE (O 0)) ar)) (bj (bD (h "parts_of")) (ab (bz cR (vE (O 0)) (vC (.int 2))) ar))))) dU)
  (aS (U (a9 (ab (vE (O 0)) ar))))))))
theorem ir:EQ "parts_of" 1 2 gp:=λ_=>by kernel_rfl
def nM(h:Str->GF):ES:=(aS (U (vB (sL (bV (bj tK (ab (bK (gU (bj (bD (h "parts_of")) (ab (vE (O 0)) ar))) [] 1 (am 1) fQ (vB (y9 (bV (ce oH (U (bz cR (vE (O 1)) (vC (.int 0)))) (U (vC (.str "dry"))))) (bV (ce kS (U (bz cR (vE (O 1)) (vC (.int 0)))) (U (vC (.tup [.str "some knows",.str "each knows"])))))))) ar)))))))
theorem vT:EQ "is_plain" 1 1 nM:=λ_=>by kernel_rfl
def dB(h:Str->GF):ES:=(aB 3 (U (bz fN (vE (O 3)) (bz ja (a9 (ab (vE (O 4)) ar)) (bz cR (vE (O 4)) (vC (.int 1)))))))
def bI(h:Str->GF):ES:=(cV (iU (bV (ce oH (O 7) (O 5))) (y9 (bV (ce cW (O 9) (U (vC (.non))))) (bV (bz Pm (dP (O 11)) (vC (.int 0)))))) (aS (U (vC (.bl false)))) dU)
def gI (h:Str->GF):ES:=(ai (aB 3 (U (a9 ar)))
  (ai (bS (gU (bz cR (vE (O 0)) (vC (.int 0)))) (am 4) (dB h))
  (ai (aB 4 (U (bz cR (vE (O 3)) (vE (O 2)))))
  (ai (aB 5 (U (bz cR (bz cR (vE (O 4)) (vC (.int 2))) (bz cR (bz cR (bz cR (vE (O 1)) (vC (.int 0))) (vE (O 2))) (vC (.int 0))))))
  (ai (bS (gU (bz cR (vE (O 4)) (vC (.int 5)))) (bG [am 6,am 7,am 8,am 9,am 10,am 11,am 12]) (bI h))
  (aS (U (vC (.bl true)))))))))
theorem oI:EQ "_law_is_quiet" 3 13 gI:=λ_=>by kernel_rfl
def eN (h:Str->GF):ES:=(ai (cV (bV (ce kS (U (bz cR (vE (O 0)) (vC (.int 0)))) (U (a9 (ab (vC (.str "and")) (ab (vC (.str "or")) ar)))))) (aS (U (vB (iU (bV (bj (bD (h "_law_is_plain")) (ab (bz cR (vE (O 0)) (vC (.int 1))) ar))) (bV (bj (bD (h "_law_is_plain")) (ab (bz cR (vE (O 0)) (vC (.int 2))) ar))))))) dU)
  (ai (cV (bV (ce oH (U (bz cR (vE (O 0)) (vC (.int 0)))) (U (vC (.str "not"))))) (aS (U (bj (bD (h "_law_is_plain")) (ab (bz cR (vE (O 0)) (vC (.int 1))) ar)))) dU)
  (aS (U (ce oG (U (bz cR (vE (O 0)) (vC (.int 0)))) (U (a9 (ab (vC (.str "dry")) (ab (vC (.str "some knows")) (ab (vC (.str "each knows")) ar))))))))))
theorem gF:EQ "_law_is_plain" 1 1 eN:=λ_=>by kernel_rfl
def mq (h:Str->GF):ES:=(ai (aB 5 (U (bj (bD (h "is_quiet_hand")) (ab (vE (O 2)) (ab (vE (O 3)) (ab (vE (O 4)) ar))))))
  (cV (y9 (sL (bT (U (wy "bool" (O 5))))) (bV (ce GZ (O 5) (U (bj (bD (h "_law_is_quiet")) (ab (vE (O 1)) (ab (vE (O 3)) (ab (vE (O 4)) ar)))))))) (aS (U (vC (.bl false)))) dU))
def ki(h:Str->GF):ES:=(bS (jq (dP (U (bz cR (vE (O 3)) (vC (.int 0)))))) (am 4) (mq h))
def mn (h:Str->GF):ES:=(ai (aB 8 (U (bj (bD (h "_law_fact")) (ab (vE (O 0)) (ab (vE (O 1)) (ab (vE (O 6)) (ab (vC (.int 0)) (ab (vE (O 7)) ar))))))))
  (ai (aB 5 (U (bj (bD (h "is_plain")) (ab (vE (O 8)) ar))))
  (cV (y9 (sL (bT (U (wy "bool" (O 5))))) (bV (ce GZ (O 5) (U (bj (bD (h "_law_is_plain")) (ab (vE (O 8)) ar)))))) (aS (U (vC (.bl false)))) dU)))
def ml(h:Str->GF):ES:=(bS (gU (a9 (ab (vC (.bl false)) (ab (vC (.bl true)) ar)))) (am 7) (mn h))
def qu (h:Str->GF):ES:=(ai (aB 1 (U (bj (bD (h "_law_plan")) (ab (vE (O 0)) (ab (vC (.int 2)) ar)))))
  (ai (aB 2 (U (aJ (ab (bj jr (ab (bz cR (vE (O 1)) (vC (.int 0))) ar)) (ab (bj jr (ab (bz cR (vE (O 1)) (vC (.int 1))) ar)) (ab (bj jr (ab (bz cR (vE (O 1)) (vC (.int 2))) ar)) ar))))))
  (ai (bS (gU (bj (bD (h "comings")) (ab (vE (O 1)) ar))) (am 3) (ki h))
  (ai (bS (gU (a9 (ab (vC (.int 56)) (ab (vC (.int 57)) (ab (vC (.int 58)) ar))))) (am 6) (ml h))
  (aS (U (ce oH (O 2) (O 1))))))))
theorem Jp:EQ "law" 1 9 qu:=λ_=>by kernel_rfl
variable{a:Type}{m:List a}{n:Nat}
theorem RA(h:m.length=n+1):∃a r,m=a::r/\r.length=n:=by
 cases m with
 |nil=>cases h
 |cons a r=>exact⟨a,r,rfl,Nat.succ.inj h⟩
theorem Sm(h:m.length=1):∃a,m=[a]:=by obtain⟨a,r,rfl,x⟩:=RA h;exact⟨a,by rw[fY x]⟩
theorem P8(h:m.length=2):∃a b,m=[a,b]:=by obtain⟨a,r,rfl,x⟩:=RA h;obtain⟨b,rfl⟩:=Sm x;exact⟨a,b,rfl⟩
theorem Ti(h:m.length=3):∃a b c,m=[a,b,c]:=by obtain⟨a,r,rfl,x⟩:=RA h;obtain⟨b,c,rfl⟩:=P8 x;exact⟨a,b,c,rfl⟩
theorem wr:∀{s:LS}{m:LV},s.Nodup->m.length=s.length->(s.filterMap λn=>((s.zip m).lookup n).map (n,·))=s.zip m/\∀n ∈ s,((s.zip m).lookup n).isNone=false
 | [],m,_,l=>by cases fY l;simp
 |p::s,[],_,l=>by cases l
 |p::s,u::m,x,l=>by
  obtain⟨k,f⟩:=bW.mp x;obtain⟨i,t⟩:=wr f (Nat.succ.inj l);have a:∀n ∈ s,(n == p)=false:=λn h=>beq_false_of_ne λz=>k (z ▸ h);refine⟨?_,λn r=>?_⟩
  .have c:∀{qs:LS},(∀n ∈ qs,(n == p)=false)->(qs.filterMap λn=>(((p,u)::s.zip m).lookup n).map (n,·))=qs.filterMap λn=>((s.zip m).lookup n).map (n,·):=λ{qs} h=>by
    induction qs with
    |nil=>rfl
    |cons q qs v=>rw[mR,mR,v λn x=>h n (aH _ x)];simp[fV,h q aI]
   rw[Ax,List.filterMap_cons_some (b:=(p,u)) (by simp[List.lookup_cons_self]),c a,i]
  .rw [Ax];by_cases e:n=p
   .subst e;simp[fV]
   .simp only[fV,beq_false_of_ne e];exact t n ((aL.mp r).resolve_left e)
noncomputable def yv(a:Arguments)(p:LS):Bool:=a.posonlyargs.isEmpty && a.kwonlyargs.isEmpty && a.vararg.isNone && a.kwarg.isNone && decide (a.args.map (·.arg)=p) && decide p.Nodup
theorem GI{f:FuncData}{p:LS}(h:yv f.params p=true)(hd:f.defaults=.none){m:LV}(l:m.length=p.length):bindArgs f ⟨m,[]⟩=pure (p.zip m):=by
 simp only[yv,av,ux,mO,Option.isNone_iff_eq_none]at h;obtain⟨⟨⟨⟨⟨x,a⟩,e⟩,s⟩,k⟩,b⟩:=h;obtain⟨t,q⟩:=wr b l;have c:(p.filter λn=>((p.zip m).lookup n).isNone)=[]:=AC.mpr λn r=>by simp[q n r]
 have v:p.take p.length=p:=mP;have z:p.drop p.length=[]:=pY;unfold bindArgs;simp only[x,a,e,s,k,hd,eC,eD,dJ,l];simp[seqItems?,c,t,z];rfl
theorem sc:Tb.all PZ=true:=by decide +kernel
theorem un:(Tb.map (·.name)).Nodup:=by decide +kernel
inductive Fn(K:FG)(x:Str)(st:Stmt):Prop
 |mk (f:Addr) (oc:Value) (od:Option Addr) (kV dc pm:Value) (an:Option Addr) (cd ct:Value) (sl:Array (OV)):nU K mainGlobals x=some (some (.ref f))->K.lookup f=some ⟨oc,od,.func (ji x x (iu st) (fw st) (br st) .none kV dc pm an cd ct),sl⟩->jj K cd x=true->dZ K (.ref f)=true->Fn K x st
def LR(d:Df):Bool:=d.cls.cps.isEmpty && decide (d.short=d.name) && !Ms.contains d.cls && yv (iu d.st) d.ps
theorem Rv:Nf.all LR=true:=by decide +kernel
structure Ck(K:FG)(x:Str)(C:Addr):Prop where
 ns:nU K mainGlobals x=some (some (.ref C))
 get:qK K C Str.empty=true
 dct:uM K C=true
 ovr:x_ K C=true
 set:dS K (.ref C) "__setattr__"=some (some (.builtin "object.__setattr__"))
 mak:x4 K C=true
 kp:dZ K (.ref C)=true
inductive Mt(K:FG)(C:Addr)(st:Stmt)(m q:Str)(dV:Value):Prop
 |mk (f:Addr) (oc:Value) (od:Option Addr) (kV dc pm:Value) (an:Option Addr) (cd ct:Value) (sl:Array (OV)):dS K (.ref C) m=some (some (.ref f))->uv K (.ref f)=true->K.lookup f=some ⟨oc,od,.func (ji m q (iu st) (fw st) (br st) dV kV dc pm an cd ct),sl⟩->jj K cd q=true->dZ K (.ref f)=true->Mt K C st m q dV
section
variable{K:FG}{h:Heap}{b:SV}(X:K.In h)(G:h.Ns mainGlobals b)
include X G
theorem dk{d:Df}(H:Fn K d.name d.st)(p:LR d=true):∃f s,DOk K b d f s:=by obtain⟨x,P,e,st,N,S,y,i,F⟩:=d;simp only[LR,av,mS,ux]at p;obtain⟨⟨⟨n,rfl⟩,r⟩,t⟩:=p;obtain⟨f,o,j,kV,g,z,v,w,u,A,a,l,c,k⟩:=H;exact⟨_,_,⟨F_ l c k,.all λm q=>GI t rfl q,λ_=>⟨_,_,_,_,_,_,rfl⟩,λ_ (h:Ms.contains e=true)=>absurd h (by rw[r];decide),λ_=>uA X G a,λ(h:e.cps.isEmpty=false)=>absurd h (by rw[n];decide)⟩⟩
theorem dm(c:Ck K x C)(M:Mt K C st e q r)(j:x.cps.isEmpty=false)
  (m:∀(kV o p:Value)(n:Option Addr)(d t:Value),Binds K (ji e q (iu st) (fw st) (br st) r kV o p n d t) u []/\(e=("__init__":Str)->Ms.contains x=true->Binds K (ji e q (iu st) (fw st) (br st) r kV o p n d t) u [.none])):∃f i,DOk K b ⟨q,e,x,st,N,u,A,y,B⟩ f i:=by
 obtain⟨f,H,S,kV,s,p,n,h,t,F,a,w,l,g,k⟩:=M;have v:x.cps.isEmpty=true->False:=λz=>by rw[j]at z;cases z
 exact⟨_,_,⟨F_ l g k,(m kV s p n h t).1,λz=>(v z).elim,(m kV s p n h t).2,λz=>(v z).elim,λ_=>⟨C,c.ns,uA X G c.ns,⟨c.get,c.dct,c.ovr,c.set⟩,λz=>⟨c.mak,z ▸ a,w,c.kp⟩,λ_=>⟨a,w,k⟩⟩⟩⟩
end
def Gi(K:FG)(x:Str)(i:Int):Prop:=∃t,nU K mainGlobals x=some (some (.int i t))
variable{w:World}{h:Heap}{x:Str}
theorem F7(X:K.In h)(G:h.Ns mainGlobals b){i:Int}(H:Gi K x i):lD w K b x (.int i):=by obtain⟨t,a⟩:=H;exact .plain ⟨_,.int i,uA X G a,⟨_,rfl⟩,λ_ _=>rfl⟩ rfl
def Gk(K:FG)(x s t:Str):Prop:=∃a h n k l,nU K mainGlobals x=some (some (.ref a))/\K.lookup a=some ⟨.type "tuple",none,.seq #[.str s k,.str t l] n,h⟩
theorem O0(X:K.In h)(G:h.Ns mainGlobals b)(H:Gk K x e t):lD w K b x (.tup [.str e,.str t]):=by obtain⟨a,c,n,k,l,s,f⟩:=H;exact .plain (C_ [e,t] (uA X G s) f (by show 2≤sizeLine;decide) (.cons ⟨_,rfl⟩ (.cons ⟨_,rfl⟩ .nil))) rfl
structure BoardOk(K:FG)(C:Addr):Prop where
 ck:Ck K "Board" C
 a_families:dS K (.ref C) "families"=some none
 a_homes:dS K (.ref C) "homes"=some none
 a_members:dS K (.ref C) "members"=some none
 a_pairs:dS K (.ref C) "pairs"=some none
 a_places:dS K (.ref C) "places"=some none
 m_Board_family_of:Mt K C (L2.ly (JM 10) 1) "family_of" "Board.family_of" .none
 m_Board_hands_beside:Mt K C (L2.ly (JM 10) 2) "hands_beside" "Board.hands_beside" .none
 m_Board_init:Mt K C (L2.ly (JM 10) 0) "__init__" "Board.__init__" .none
theorem Tj:(Tb.all λd=>!d.deep.contains (Str.ofString "<lambda>") ||decide (d.name=FF))=true:=by decide +kernel
set_option tactic.hygienic true in
theorem HW(k:(PySem.W.kmHook K i e u).says w h)(l:B1 (K w.params)=true)(p:((cw (K w.params)).all λP=>u.contains P)=true) :
  ∀P ∈ cw (K w.params),h.get? P=some (qI #[])/\∃c,qH h c P:=λP f=>by
 refine⟨PySem.W.km_tabs_of k P (by simpa using bb.mp p P f),?_⟩;obtain⟨⟨c,o⟩,m,x⟩:=lj.mp f;have a:=bb.mp l _ m;have b:vA o=true:=by
  unfold El at x;split at x
  .rename_i v hd;split at x
   .rename_i q t g n j;split at x
    .rename_i r;unfold vA;have d:o.data=.fields v:=hd;rw[d];obtain⟨s⟩:=v;match s,n with
     |_::_::_,n=>cases (show _=_ from cm n);simpa using r
    .cases x
   .cases x
  .cases x
 rw[b]at a;simp only[p',lp]at a;rw[x]at a;exact⟨c,DU (PySem.W.km_in_of k) a⟩
open PySem.W in
theorem MO{w:World}{K:Frag}{h:Heap}{b:SV}(X:K.In h)(G:h.Ns mainGlobals b){C:Addr}(a:BoardOk K C)
  (j:∀d ∈ Nf,Fn K d.name d.st) (l:B1 K=true) (q:Gi K "MOST_STANDINGS" 2000) (u:Gk K "KNOWING" "some knows" "each knows")
  (g:Gi K "HIGHEST_LETTER" 999) (p:Gi K "NOBODY" (-1)) (z:∀x ∈ Jy,nsIn K mainGlobals x=some none):TOk w Gv Att Tb K b:=by
 refine⟨λd hd=>?_,sc,un,λx k=>mg_none_of X G (z x k),λx v s=>?_,λc f i=>?_,l,λd hd y=>?_⟩
 .rcases bN.mp hd with hd|hd
  .exact dk X G (j d hd) (bb.mp Rv d hd)
  simp only[Sy,aL,cZ,cY]at hd;rcases hd with rfl|rfl|rfl;all_goals first
   |exact dm X G a.ck a.m_Board_family_of (by decide +kernel) λ_ _ _ _ _ _=>⟨.all λm l=>by obtain⟨_,_,rfl⟩:=P8 l;rfl,λh n=>by first|exact absurd h (by decide +kernel)|exact absurd n (by decide +kernel)⟩
   |exact dm X G a.ck a.m_Board_hands_beside (by decide +kernel) λ_ _ _ _ _ _=>⟨.all λm l=>by obtain⟨_,_,_,rfl⟩:=Ti l;rfl,λh n=>by first|exact absurd h (by decide +kernel)|exact absurd n (by decide +kernel)⟩
   |exact dm X G a.ck a.m_Board_init (by decide +kernel) λ_ _ _ _ _ _=>⟨.all λm l=>by obtain⟨_,_,rfl⟩:=P8 l;rfl,λh n=>by first|exact absurd h (by decide +kernel)|exact absurd n (by decide +kernel)⟩
 .unfold Gv at s;by_cases e:x=("HIGHEST_LETTER":Str)
  .rw [af e]at s;subst e;cases s;exact F7 X G g
  rw[ah e]at s;clear e;by_cases e:x=("KNOWING":Str)
  .rw [af e]at s;subst e;cases s;exact O0 X G u
  rw[ah e]at s;clear e;by_cases e:x=("MOST_STANDINGS":Str)
  .rw [af e]at s;subst e;cases s;exact F7 X G q
  rw[ah e]at s;clear e;by_cases e:x=("NOBODY":Str)
  .rw [af e]at s;subst e;cases s;exact F7 X G p
  rw[ah e]at s;clear e;cases s
 .obtain⟨x,k,e⟩:=pW.mp i;rw[av]at e;have t:=aN e.1;have r:f ∈ x.2:=by simpa using e.2
  subst t;simp only[Att,aL,cZ,cY]at k;rcases k with rfl
  .simp only[aL,cZ,cY]at r;rcases r with rfl|rfl|rfl|rfl|rfl
   .exact⟨_,a.ck.ns,⟨a.ck.get,a.ck.dct,a.ck.ovr,a.ck.set⟩,a.a_families⟩
   .exact⟨_,a.ck.ns,⟨a.ck.get,a.ck.dct,a.ck.ovr,a.ck.set⟩,a.a_homes⟩
   .exact⟨_,a.ck.ns,⟨a.ck.get,a.ck.dct,a.ck.ovr,a.ck.set⟩,a.a_members⟩
   .exact⟨_,a.ck.ns,⟨a.ck.get,a.ck.dct,a.ck.ovr,a.ck.set⟩,a.a_pairs⟩
   .exact⟨_,a.ck.ns,⟨a.ck.get,a.ck.dct,a.ck.ovr,a.ck.set⟩,a.a_places⟩
 .have:=bb.mp Tj d hd;rw[y]at this;simpa using this
theorem log2_small{i:Int}(h:i.natAbs < 2 ^ 60):i.natAbs.log2 < 60:=by
 by_cases e:i.natAbs=0
 .rw [e];decide
 .exact (z0 e).mpr h
theorem bL{i j:Int}(h:i.natAbs < 2 ^ 60)(x:j.natAbs < 2 ^ 60):gC i j=true:=by unfold gC;have a:=log2_small h;have b:=log2_small x;exact gO (by lia)
theorem LU:∀(n:Nat)(v:P),cK n v=true->cK (n+1) v=true:=by
 intro n;induction n with
 |zero=>intro v h;cases v<;>first|rfl|exact h|cases h
 |succ n i=>
  intro v h;cases v with
  |tup s=>exact bb.mpr λx a=>i x (bb.mp h x a)
  |lst s=>exact bb.mpr λx a=>i x (bb.mp h x a)
  |ro s=>exact bb.mpr λx a=>i x (bb.mp h x a)
  |non=>rfl
  |bl _=>rfl
  |int _=>rfl
  |str _=>exact h
  |dct _ _=>cases h
variable{v:P}
theorem dQ(h:cK n v=true)(m:n≤e):cK e v=true:=by
 obtain⟨k,rfl⟩:=Nat.exists_eq_add_of_le m;clear m;induction k with
 |zero=>exact h
 |succ k i=>exact LU _ _ i
def strOk(x:Str):Prop:=aG x=true
@[simp] theorem BQ(n:Nat)(i:Int):cK n (.int i)=true:=by cases n<;>rfl
@[simp] theorem Ru(n:Nat)(i:Bool):cK n (.bl i)=true:=by cases n<;>rfl
@[simp] theorem P4(n:Nat):cK n .non=true:=by cases n<;>rfl
@[simp] theorem vk(n:Nat)(x:Str):cK n (.str x)=aG x:=by cases n<;>rfl
@[simp] theorem P2(n:Nat)(s:List P):cK (n+1) (.tup s)=s.all (cK n):=rfl
@[simp] theorem P5(n:Nat)(s:List P):cK (n+1) (.lst s)=s.all (cK n):=rfl
theorem JS(h:∀x ∈ s,cK n x=true):cK (n+1) (.lst s)=true:=bb.mpr h
@[simp] theorem BZ(c:Nat):mB ⟨#[c]⟩=1:=rfl
theorem CI(h:strOk x)(a:strOk y):strOk (x++y):=by show(x.cps++y.cps).all (λc=>decide (c < 0x110000))=true;rw[AQ,av];exact⟨h,a⟩
theorem CH(e:strOk x)(n:Nat):strOk (d4 x n):=by
 have k:∀(n:Nat)(a:Array Nat),a.all (λc=>decide (c < 0x110000))=true->((List.replicate n x.cps).foldl (·++·) a).all (λc=>decide (c < 0x110000))=true:=by
  intro n;induction n with
  |zero=>intro a h;exact h
  |succ n i=>intro a h;rw[cJ,fW];exact i _ (by rw[AQ,av];exact⟨h,e⟩)
 exact k n #[] (by simp)
variable{k:Int}
theorem Go(f:strOk x)(a:0≤k)(s:k < x.length)(n:x.length≤1000000):∃c,strOk ⟨#[c]⟩/\cR (.str x) (.int k)=some (.str ⟨#[c]⟩):=by
 have l:k.toNat < x.cps.toList.length:=by simp only[mV];unfold mB at s;lia
 have h:k.toNat < x.cps.size:=by simpa using l
 refine⟨x.cps.toList[k.toNat],?_,?_⟩
 .have:=Array.all_eq_true.mp f k.toNat h;show(#[x.cps.toList[k.toNat]].all λc=>decide (c < 0x110000))=true;simpa using this
 .have e:L2.atI x.cps.toList k=some (x.cps.toList[k.toNat]):=bu a (by simp[h]);show(if iO x.length=true then (L2.atI x.cps.toList k).map λc=>P.str ⟨#[c]⟩ else none)=_;rw[af (by simp only[nC];exact n),e];rfl
theorem Dm(h:x.length+y.length≤1000000):vZ (.str x) (.str y)=some (.str (x++y)):=by show(if iO (x.length+y.length)=true then some (P.str (x++y)) else none)=_;rw[af (by rw[nC];exact h)]
variable{s:List a}
theorem ee(h:s≠[])(a:Int):∃x ∈ s,L2.atI s (a % (s.length:Int))=some x:=by
 have l:(0:Int) < (s.length:Int):=by cases s with|nil=>exact absurd rfl h|cons _ _=>simp
 have e:=gM a (Int.ne_of_gt l);have n:=iW a l;have hk:(a % (s.length:Int)).toNat < s.length:=by lia
 exact⟨s[(a % (s.length:Int)).toNat],ik _,bu e (by simp[hk])⟩
theorem mu(h:0≤k)(a:k < (s.length:Int)):∃x ∈ s,L2.atI s k=some x:=by
 have hk:k.toNat < s.length:=by lia
 exact⟨s[k.toNat],ik _,bu h (by simp[hk])⟩
theorem GN(h:s≠[]):∃x ∈ s,L2.atI s (-1)=some x:=by
 have l:0 < s.length:=Ay.mpr h;refine⟨s[s.length-1],ik _,?_⟩;unfold L2.atI L2.Dy;rw[ah (by lia),af (by lia)];have e:(-1+(s.length:Int)).toNat=s.length-1:=by lia
 simp[e,l]
theorem cM{g:kD}{b:ES}{Inv:Nat->Lc->Y->Prop}:∀{s:List P}{k:Nat}{L:Lc}{S:Y},(∀i v L S,s[i]? = some v->Inv (k+i) L S->∃f L2 n,g v L=some f/\b f S=some (.nx,L2,n)/\Inv (k+i+1) L2 n)->Inv k L S ->
  ∃x a,bR g b s L S=some (.nx,x,a)/\Inv (k+s.length) x a
 | [],k,L,S,_,h=>⟨L,S,rfl,h⟩
 |v::r,k,L,S,c,h=>by
  obtain⟨f,L2,n,m,t,d⟩:=c 0 v L S rfl h;obtain⟨x,a,p,u⟩:=cM (g:=g) (b:=b) (Inv:=Inv) (s:=r) (k:=k+1) (L:=L2) (S:=n) (λi w L S e q=>by have:=c (i+1) w L S (by simpa using e) (by rw[show k+(i+1)=k+1+i by lia];exact q);rwa [show k+(i+1)+1=k+1+i+1 by lia]at this) d
  exact⟨x,a,by rw[bP m t];exact p,by rw[aR,show k+(r.length+1)=k+1+r.length by lia];exact u⟩
theorem oK{g:kD}{c:EB}{e:EV}{Inv:Lc->Prop}{Q:P->Prop}{S:Y}:∀{s:List P}{L:Lc},(∀v ∈ s,∀L,Inv L->∃x k,g v L=some x/\Inv x/\c x S=some (k,S)/\(k=true->∃y,e x S=some (y,S)/\Q y))->Inv L ->
  ∃a,bZ g c e s L S=some (a,S)/\(∀y ∈ a,Q y)/\a.length≤s.length
 | [],L,_,h=>⟨[],rfl,λ_ z=>(by cases z),ak _⟩
 |v::r,L,t,h=>by
  obtain⟨x,k,n,i,f,d⟩:=t v aI L h;obtain⟨a,b,m,j⟩:=oK (s:=r) (L:=x) (λw hw=>t w (aH _ hw)) i;cases k with
  |false=>exact⟨a,by simp[bZ,n,f,b],m,by simp;lia⟩
  |true=>obtain⟨y,p,q⟩:=d rfl;exact⟨y::a,by simp[bZ,n,f,b,p],λz u=>(aL.mp u).elim (λe=>e ▸ q) (m z),by simp;lia⟩
theorem mf{g:kD}{e:EV}{Inv:Lc->Prop}{Q:P->Prop}{S:Y}:∀{s:List P}{L:Lc},(∀v ∈ s,∀L,Inv L->∃x y,g v L=some x/\Inv x/\e x S=some (y,S)/\Q y)->Inv L ->
  ∃a,bZ g fQ e s L S=some (a,S)/\(∀y ∈ a,Q y)/\a.length=s.length
 | [],L,_,h=>⟨[],rfl,λ_ z=>(by cases z),rfl⟩
 |v::r,L,n,h=>by obtain⟨x,y,k,i,f,q⟩:=n v aI L h;obtain⟨a,b,c,m⟩:=mf (s:=r) (L:=x) (λw hw=>n w (aH _ hw)) i;exact⟨y::a,by simp[bZ,k,f,b],λz t=>(aL.mp t).elim (λe=>e ▸ q) (c z),by simp[m]⟩
theorem cj{g:kD}{c:EB}{e:EV}{Inv:Lc->Prop}{S:Y}{p:P->Bool}{f:P->P}:∀{s:List P}{L:Lc},(∀v ∈ s,∀L,Inv L->∃x,g v L=some x/\Inv x/\c x S=some (p v,S)/\(p v=true->e x S=some (f v,S)))->Inv L ->
  bZ g c e s L S=some ((s.filter p).map f,S)
 | [],L,_,h=>rfl
 |v::r,L,m,h=>by
  obtain⟨x,n,i,a,t⟩:=m v aI L h;have b:=cj (s:=r) (L:=x) (λw hw=>m w (aH _ hw)) i;cases k:p v with
  |false=>rw[k]at a;simp[bZ,n,a,b,k]
  |true=>rw[k]at a;simp[bZ,n,a,b,k,t k]
theorem ints_get{lo:Int}{n i:Nat}{v:P}(h:(intsFrom lo n)[i]? = some v):v=.int (lo+i)/\i < n:=by
 unfold Ev.intsFrom at h;rw[b9]at h;cases e:(List.range n)[i]? with
 |none=>rw[e]at h;cases h
 |some j=>
  rw[e]at h;cases h;have:=bB.mp e
  obtain⟨x,a⟩:=this;simp at x a;subst a;exact⟨rfl,x⟩
theorem g8{lo:Int}{n:Nat}{v:P}(h:v ∈ intsFrom lo n):∃i:Nat,v=.int (lo+i)/\i < n:=by obtain⟨i,x,e⟩:=i6.mp h;exact⟨i,ints_get (by rw[bo x,e])⟩
theorem cP(lo:Int)(n:Nat):(intsFrom lo n).length=n:=by simp[Ev.intsFrom]
theorem Fu(n k:Str->GF)(s:List P):∀(a:Int)(p t q:Option D),∃(r:Int)(e:Option D),bR (am 2) (iP n) s [qi a,p,t,q] []=some (.nx,[qi r,p,e,q],[]):=by
 induction s with
 |nil=>intro a p t q;exact⟨a,t,rfl⟩
 |cons x s i=>intro a p t q;obtain⟨r,e,h⟩:=i (a / 2147483648) p (qp x) q;exact⟨r,e,by simpa[bR,iP] using h⟩
theorem Ft(a:Int){p:Int}(s:0≤p)(k:p < 1000):∃r:Int,0≤r/\bD (Ph (n+2) "_law_mix") [.int a,.int p]=some (.int r):=by
 by_cases h:(1000000000000:Int)≤a
 .obtain⟨r,g,e⟩:=Fu (Ph (n+1)) (Ph n) (intsFrom 0 (p % 61).toNat) (a / 1000000000000-1) (qi p) none none;refine⟨r % 2147483648,gM _ (by decide),?_⟩;have c:(p % 61).natAbs < 1000000:=by lia
  rw[o4,aK];simp[kY,h,c,e]
 .have m:0≤p * p/\p * p≤1000000:=⟨Int.mul_nonneg s s,Int.le_trans (Int.mul_le_mul (zm k) (zm k) s (by decide)) (by decide)⟩;have v:gC p p=true:=bL (by lia) (by lia);have d:gC (p * p) 7919=true:=bL (by lia) (by decide);have m3:gC (a % 1000003+p * p * 7919+p) 48271=true:=bL (by lia) (by decide);generalize f:(a % 1000003+p * p * 7919+p) * 48271 % 2147483629=x;have t:0≤x/\x < 2147483629:=by subst f;exact⟨gM _ (by decide),iW _ (by decide)⟩
  have w:gC x x=true:=bL (by lia) (by lia);generalize b:x * x % 2147483587=y;have q:0≤y/\y < 2147483587:=by subst b;exact⟨gM _ (by decide),iW _ (by decide)⟩
  have u:gC y (y+2)=true:=bL (by lia) (by lia);refine⟨y * (y+2) % 2147483579 / 7,Int.ediv_nonneg (gM _ (by decide)) (by decide),?_⟩;rw[o4,aK];simp[kY,h,v,d,m3,f,w,b,u]
noncomputable def fj(n:List Int):P:=.ro (n.map .int)
theorem Ch(s:List Int)(x:0≤k):∃r:Int,bD (Ph (n+2) "_law_cell_at") [fj s,.int k]=some (.int r):=by
 by_cases h:k < (s.length:Int)
 .have hk:k.toNat < s.length:=by lia
  refine⟨s[k.toNat],?_⟩;have e:L2.atI (s.map P.int) k=some (.int s[k.toNat]):=bu x (by simp[hk]);rw[ku,aK];simp[h7,fj,dt,dW,h,e]
 .refine⟨0,?_⟩;rw[ku,aK];simp[h7,fj,dt,dW,h]
inductive Drw(n:Nat)(ns:List Int)(k p:Int):Prop
 |mk (c r:Int):0≤r->bD (Ph (n+2) "_law_cell_at") [fj ns,.int k]=some (.int c)->bD (Ph (n+2) "_law_mix") [.int c,.int p]=some (.int r)->Drw n ns k p
theorem gX{n:Nat}(s:List Int){k p:Int}(x:0≤k)(a:0≤p)(f:p < 1000):Drw n s k p:=by obtain⟨c,e⟩:=Ch (n:=n) s x;obtain⟨r,b,h⟩:=Ft (n:=n) c a f;exact⟨c,r,b,e,h⟩
theorem LQ:strOk "xyz":=by unfold strOk;decide +kernel
theorem BY:("xyz":Str).length=3:=by decide +kernel
theorem PD:∀k:Nat,k < 16->cR (.str "abcdefghijklmnop") (.int (k:Int))=some (.str ⟨#[97+k]⟩):=by
 intro k hk;have e:∀k:Nat,k < 16->L2.atI ((("abcdefghijklmnop":Str)).cps.toList) (k:Int)=some (97+k):=by decide +kernel
 show(if iO (("abcdefghijklmnop":Str)).length=true then (L2.atI ((("abcdefghijklmnop":Str)).cps.toList) (k:Int)).map λc=>P.str ⟨#[c]⟩ else none)=_;rw[e k hk,af (by decide +kernel)];rfl
noncomputable def hd(x:Str):Option Nat:=x.cps[0]?
theorem Lg(c n:Nat)(x:Str):hd (d4 ⟨#[c]⟩ (n+1)++x)=some c:=by
 have k:∀(n:Nat)(a:Array Nat),a[0]? = some c->((List.replicate n #[c]).foldl (·++·) a)[0]? = some c:=by
  intro n;induction n with
  |zero=>intro a h;exact h
  |succ n i=>intro a h;rw[cJ,fW];refine i _ ?_;have s:0 < a.size:=(AU.mp h).1;rw[AT s];exact h
 have h:=k n (#[]++#[c]) (by simp);have s:0 < ((List.replicate n #[c]).foldl (·++·) (#[]++#[c])).size:=(AU.mp h).1;show(((List.replicate (n+1) #[c]).foldl (·++·) #[])++x.cps)[0]? = some c;rw[cJ,fW,AT s];exact h
theorem lu{n:Nat}(s:List Int){k:Nat}(r:k < 16):∃x:Str,strOk x/\hd x=some (97+k)/\bD (Ph (n+3) "_law_name") [fj s,.int (k:Int)]=some (.str x):=by
 obtain⟨c,a,t,e,b⟩:=gX (n:=n) s (k:=1) (p:=(k:Int)) (by lia) (by lia) (by lia);have u:=PD k r;obtain⟨d,h,f⟩:=Go (k:=a / 4 % 3) LQ (by lia) (by rw[BY];lia) (by rw[BY];lia);have hk:strOk ⟨#[97+k]⟩:=by show(#[97+k].all λc=>decide (c < 0x110000))=true;simp;lia
 have m:vY (.str ⟨#[97+k]⟩) (.int (1+a % 4))=some (.str (d4 ⟨#[97+k]⟩ ((a % 4).toNat+1))):=by show(if (iO ((1+a % 4).toNat * 1) && decide ((1+a % 4).natAbs < 1000000))=true then some (P.str (d4 ⟨#[97+k]⟩ (1+a % 4).toNat)) else none)=_;rw[af (by rw[av,nC];exact⟨by lia,gO (by lia)⟩),show(1+a % 4).toNat=(a % 4).toNat+1 by lia]
 have z:=Dm (x:=d4 ⟨#[97+k]⟩ ((a % 4).toNat+1)) (y:=⟨#[d]⟩) (by rw[lK,BZ,BZ];lia);refine⟨d4 ⟨#[97+k]⟩ ((a % 4).toNat+1)++⟨#[d]⟩,CI (CH hk _) h,Lg _ _ _,?_⟩;rw[vS,aK];simp[nL,e,b,u,f,m,z]
theorem al(h:f L S=some (.nx,e,c)):ai f g L S=g e c:=by rw[ai,h]
theorem vG{c:EB}{x y:ES}{L:Lc}{S:Y}(h:c L S=some (true,S)):cV c x y L S=x L S:=by rw[cV,h];rfl
theorem B3{c:EB}{x y:ES}{L:Lc}{S:Y}(h:c L S=some (false,S)):cV c x y L S=y L S:=by rw[cV,h];rfl
theorem wF{A R:ES}{L:Lc}{S:Y}{p:Lc->Prop}{G:Bs->Prop}(h:∃x,p x/\A L S=some (.nx,x,S))(k:∀x,p x->G (R x S)):G (ai A R L S):=by obtain⟨x,a,e⟩:=h;rw[al e];exact k x a
theorem Ry(a:Int):∃r:Int,-1≤r/\r≤5/\L2.atI [P.int 0,.int 0,.int (-1),.int 5] (a % 4)=some (.int r):=by
 have h:a % 4=0\/a % 4=1\/a % 4=2\/a % 4=3:=by lia
 rcases h with h|h|h|h<;>rw[h]<;>simp
theorem OT(a:Int):∃r:Int,0≤r/\r≤1/\L2.atI [P.int 1,.int 1,.int 0,.int 1] (a % 4)=some (.int r):=by
 have h:a % 4=0\/a % 4=1\/a % 4=2\/a % 4=3:=by lia
 rcases h with h|h|h|h<;>rw[h]<;>simp
inductive isCel(v:P):Prop
 |mk (x:Str) (lo hi at':Int):strOk x->-1≤lo->lo≤at'->at'≤hi->(hi≤7/\hi≤lo+1/\hd x≠some 105)->v=.tup [.str x,.int lo,.int hi,.int at']->isCel v
noncomputable def mY:P->List P
 | .tup s=>s
 | .lst s=>s
 |_=>[]
def gc(v:P)(k:Nat):P:=(mY v)[k]?.getD .non
noncomputable def iv:P->Int
 | .int i=>i
 |_=>0
@[simp] theorem SS(s:List P):mY (.tup s)=s:=rfl
@[simp] theorem QS(s:List P):mY (.lst s)=s:=rfl
@[simp] theorem OG(s:List P)(k:Nat):gc (.tup s) k=s[k]?.getD .non:=rfl
@[simp] theorem Tl(i:Int):iv (.int i)=i:=rfl
noncomputable def ba:P->Str
 | .tup (.str s::_)=>s
 |_=>""
def pe(v:List P):Prop:=(∀c ∈ v,isCel c)/\∃o,∀i c,v[i]? = some c->hd (ba c)=some (o+i)
@[simp] theorem Ek(v:List P):toP 9 (.ref 0) [.lst (v.map .p)]=some (.lst v,[.fz (.lst v)]):=f6 rfl
theorem d6(s:List P)(v:P):s.map D.p++[.p v]=(s++[v]).map .p:=by simp
theorem eY{Q:P->Prop}{s:List P}{v:P}(h:∀x ∈ s,Q x)(e:Q v):∀x ∈ s++[v],Q x:=λx a=>(bN.mp a).elim (h x) λa=>by rw[cz.mp a];exact e
theorem xh{Q:Nat->P->Prop}{s:List P}{v:P}(h:∀i x,s[i]? = some x->Q i x)(n:Q s.length v):∀i x,(s++[v])[i]? = some x->Q i x:=λi x a=>by
 by_cases e:i < s.length
 .rw [cA e]at a;exact h i x a
 .rw [b_ (by lia)]at a;have:i-s.length=0:=by
   have:=(bB.mp a).1;simp at this;lia
  rw[this]at a;cases a;rw[show i=s.length by lia];exact n
theorem Gw{n:Nat}(r:List Int){f:Int}(h0:0≤f):∃m:List P,m.length≤1/\pe m/\bD (Ph (n+4) "_law_cells") [fj r,.int f]=some (.lst m):=by
 obtain⟨c,a,ha,I,M⟩:=gX (n:=n+1) r (k:=2+f) (p:=1) (by lia) (by lia) (by lia);have hm:a % 2 < 2:=iW _ (by lia);have X:0≤a % 2:=gM _ (by lia);let Inv:Nat->Lc->Y->Prop:=λi L S=>∃(m:List P)(H F K A:Option D),m.length=i/\((∀c ∈ m,isCel c)/\∀i c,m[i]? = some c->hd (ba c)=some (99+i))/\L=[qp (fj r),qi f,qr 0,H,F,K,A]/\S=[.lst (m.map .p)]
 obtain⟨L',S',e,m,H,F,K,A,l,o,rfl,rfl⟩:=cM (g:=am 3) (b:=gJ (Ph (n+3))) (Inv:=Inv) (s:=Ev.intsFrom 0 (a % 2).toNat) (k:=0)
  (L:=[qp (fj r),qi f,qr 0,none,none,none,none]) (S:=[.lst []]) (fun i v L S hv T=>by
   obtain⟨rfl,hi⟩:=ints_get hv;obtain⟨m,H,F,K,A,l,o,rfl,rfl⟩:=T;obtain⟨c2,d,hd,E,G⟩:=gX (n:=n+1) r (k:=2+f) (p:=2+(i:Int)) (by lia) (by lia) (by lia);obtain⟨x,hx,t,R⟩:=lu (n:=n) r (k:=2+i) (by lia);obtain⟨lo,y,W,N⟩:=Ry d;obtain⟨u,hup,B,Q⟩:=OT (d / 4);have C:0 < lo+u-lo+1:=by lia
   have V:m.length≤1000000:=by lia
   generalize hw:d / 16 % (lo+u-lo+1)=w;have hw0:0≤w/\w < lo+u-lo+1:=by subst hw;exact⟨gM _ (by lia),iW _ C⟩
   have z:My.hd x≠some 105:=by rw[t];intro q;have:=cm q;lia
   refine⟨_,[qp (fj r),qi f,qr 0,qi (i:Int),qi d,qi lo,qi (lo+u)],[.lst ((m++[P.tup [.str x,.int lo,.int (lo+u),.int (lo+w)]]).map D.p)],rfl,?_,_,_,_,_,_,by simp;lia,⟨eY o.1 ⟨x,lo,lo+u,lo+w,hx,y,by lia,by lia,⟨by lia,by lia,z⟩,rfl⟩,xh o.2 ?_⟩,rfl,rfl⟩
   .rw [<- d6];have j:bD (Ph (n+3) "_law_name") [fj r,.int (2+(i:Int))]=some (.str x):=by rw[<- R];rfl
    simp[gJ,E,G,j,N,Q,C,fO,V,hw]
   .show My.hd x=_;rw[t,l];congr 1;lia) ⟨[],none,none,none,none,rfl,⟨λ_ h=>(by cases h),λ_ _ h=>(by cases h)⟩,rfl,rfl⟩
 refine⟨m,by rw[l,cP];lia,⟨o.1,99,o.2⟩,?_⟩;have Z:(a % 2).natAbs < 1000000:=by lia
 rw[sH,aK];simp[lU,I,M,Z,e]
@[simp] theorem PY:aG "number"=true/\aG "name"=true/\aG "plus"=true/\aG "minus"=true/\aG "times"=true/\aG "true"=true/\aG "not"=true/\aG "or"=true/\aG "and"=true/\aG "is"=true/\aG "="=true/\aG "!="=true/\aG "<"=true/\aG "<="=true/\aG ">"=true/\aG ">="=true/\aG "row"=true/\aG "heap"=true/\aG "ma"=true/\aG "mb"=true/\aG "who"=true/\aG "all"=true/\aG "any"=true/\aG ""=true/\aG "it"=true/\aG "weak"=true/\aG "strong"=true/\aG "step"=true/\aG "lose"=true/\aG "double"=true:=by decide +kernel
def j9(v:P):Prop:=∃s:Str,aG s=true/\v=.str s
theorem j9.ok(h:j9 v)(n:Nat):cK n v=true:=by obtain⟨s,h,rfl⟩:=h;simpa using h
theorem gf{s:List P}(h:∀x ∈ s,j9 x)(n:Nat):cK (n+1) (.lst s)=true:=JS λx a=>(h x a).ok n
theorem di(h:s≠[]):s.isEmpty=false:=by cases s with|nil=>exact absurd rfl h|cons _ _=>rfl
theorem len_pos(h:s≠[]):0 < s.length:=Ay.mpr h
noncomputable abbrev oo(k:Int):P:=.tup [.str "number",.int k]
noncomputable abbrev pj(y:P):P:=.tup [.str "name",y]
def oZ(N:List P)(v:P):Prop:=(∃k,v=oo k)\/∃y ∈ N,v=pj y\/(∃k,v=.tup [.str "plus",pj y,oo k])\/(∃k j:Int,0≤k/\k≤2/\v=.tup [.str "minus",.tup [.str "times",pj y,oo k],oo j])\/v=.tup [.str "minus",oo 1,pj y]
variable{N:List P}
theorem oZ.ok(a:∀x ∈ N,j9 x)(h:oZ N v):cK 4 v=true:=by
 rcases h with ⟨k,rfl⟩|⟨y,e,h⟩
 .simp
 .have o:∀k,cK k y=true:=λk=>(a y e).ok k;rcases h with rfl|⟨k,rfl⟩|⟨k,j,_,_,rfl⟩|rfl<;>simp[o]
theorem yk{n:Nat}(d:Int){s:List P}(c:∀x ∈ s,j9 x):∃v,oZ s v/\bD (Ph (n+2) "_law_sum") [.int d,.lst s]=some v:=by
 have e:=B' (gf c 19);by_cases k:s=[]
 .subst k;refine⟨oo (d / 5 % 3),.inl ⟨_,rfl⟩,?_⟩;rw[fM,aK];simp[d_,e]
 rw[di k]at e;have l:=len_pos k;obtain⟨y,f,a⟩:=ee k (d / 5);have b:d % 5=0\/d % 5=1\/d % 5=2\/d % 5=3\/d % 5=4:=by lia
 rcases b with h|h|h|h|h
 .refine⟨oo (d / 5 % 3),.inl ⟨_,rfl⟩,?_⟩;rw[fM,aK];simp[d_,e,h]
 .refine⟨pj y,.inr ⟨y,f,.inl rfl⟩,?_⟩;rw[fM,aK];simp[d_,e,h,dt,dW,l,a]
 .refine⟨.tup [.str "plus",pj y,oo (d / 20 % 3)],.inr ⟨y,f,.inr (.inl ⟨_,rfl⟩)⟩,?_⟩;rw[fM,aK];simp[d_,e,h,dt,dW,l,a]
 .refine⟨.tup [.str "minus",.tup [.str "times",pj y,oo (d / 20 % 3)],oo (d / 60 % 2)],.inr ⟨y,f,.inr (.inr (.inl ⟨_,_,by lia,by lia,rfl⟩))⟩,?_⟩;rw[fM,aK];simp[d_,e,h,dt,dW,l,a]
 .refine⟨.tup [.str "minus",oo 1,pj y],.inr ⟨y,f,.inr (.inr (.inr rfl))⟩,?_⟩;rw[fM,aK];simp[d_,e,h,dt,dW,l,a]
def j_(N:List P)(v:P):Prop:=∃w y s,y ∈ N/\oZ N s/\aG w=true/\v=.tup [.str "is",.str w,pj y,s]
def rJ(N:List P)(v:P):Prop:=v=.tup [.str "true"]\/j_ N v\/(∃p,(j_ N p\/p=.tup [.str "true"])/\v=.tup [.str "not",p])\/∃p z,j_ N p/\z ∈ N/\v=.tup [.str "or",p,.tup [.str "and",.tup [.str "true"],.tup [.str "is",.str "=",oo 1,pj z]]]
theorem j_.ok(a:∀x ∈ N,j9 x)(h:j_ N v):cK 5 v=true:=by obtain⟨w,y,s,n,e,hw,rfl⟩:=h;have o:∀k,cK k y=true:=λk=>(a y n).ok k;simp[o,e.ok a,hw]
theorem rJ.ok(a:∀x ∈ N,j9 x)(h:rJ N v):cK 7 v=true:=by
 rcases h with rfl|h|⟨p,h,rfl⟩|⟨p,z,h,e,rfl⟩
 .simp
 .exact dQ (h.ok a) (by lia)
 .rcases h with h|rfl
  .simp [dQ (h.ok a) (show 5≤6 by lia)]
  .simp
 .have o:∀k,cK k z=true:=λk=>(a z e).ok k;simp[dQ (h.ok a) (show 5≤6 by lia),o]
theorem w6(a:Int):∃w:Str,aG w=true/\L2.atI [P.str "=",.str "!=",.str "<",.str "<=",.str ">",.str ">="] (a % 6)=some (.str w):=by obtain⟨w,hw,e⟩:=mu (s:=[P.str "=",.str "!=",.str "<",.str "<=",.str ">",.str ">="]) (k:=a % 6) (by lia) (by simp;lia);simp only[aL,cZ,cY]at hw;rcases hw with rfl|rfl|rfl|rfl|rfl|rfl<;>exact⟨_,by simp,e⟩
theorem cond_ok{n:Nat}(d:Int){s:List P}(m:∀x ∈ s,j9 x):∃v,rJ s v/\bD (Ph (n+3) "_law_condition") [.int d,.lst s]=some v:=by
 have e:=B' (gf m 19);by_cases a:s=[]
 .subst a;refine⟨.tup [.str "true"],.inl rfl,?_⟩;rw[de,aK];simp[cB,e]
 rw[di a]at e;have l:=len_pos a;obtain⟨y,g,c⟩:=ee a (d / 30);obtain⟨z,i,r⟩:=mu (s:=s) (k:=0) (by lia) (by lia);obtain⟨w,hw,b⟩:=w6 (d / 5);obtain⟨v,u,f⟩:=yk (n:=n) (d / 90) m;have p:j_ s (.tup [.str "is",.str w,pj y,v]):=⟨w,y,v,g,u,hw,rfl⟩;by_cases t:d % 5 < 2
 .refine⟨.tup [.str "true"],.inl rfl,?_⟩;rw[de,aK];simp[cB,e,t]
 have q:d % 5=2\/d % 5=3\/d % 5=4:=by lia
 rcases q with h|h|h
 .refine⟨_,.inr (.inr (.inl ⟨_,.inl p,rfl⟩)),?_⟩;rw[de,aK];simp[cB,e,h,dt,dW,l,c,b,f]
 .refine⟨_,.inr (.inr (.inr ⟨_,z,p,i,rfl⟩)),?_⟩;rw[de,aK];simp[cB,e,h,dt,dW,l,c,r,b,f]
 .refine⟨_,.inr (.inl p),?_⟩;rw[de,aK];simp[cB,e,h,dt,dW,l,c,b,f]
inductive isRoad(v:P):Prop
 |mk (a b k:Str) (c:Int) (d e:Bool):aG a=true->aG b=true->(k="row"\/k="heap")->1≤c->c≤1->v=.tup [.str a,.str b,.str k,.int c,.bl d,.bl e]->isRoad v
noncomputable def rA:P->Str
 | .tup (.str a::_)=>a
 |_=>""
noncomputable def rB:P->Str
 | .tup (_::.str b::_)=>b
 |_=>""
def RD(r h:P):Prop:=¬(rA r=rA h/\rB r=rB h)
def Kl(F:List P)(v:List P):Prop:=v.length≤8/\(∀r ∈ v,isRoad r/\.str (rA r) ∈ F/\.str (rB r) ∈ F)/\v.Pairwise RD
def Rh(F:List P)(v:List P)(i j:Nat):Prop:=∀r ∈ v,∃h x,F[h]? = some (.str (rA r))/\F[x]? = some (.str (rB r))/\(h < i\/(h=i/\x < j))
theorem EZ{a b:P}(d:Int):∃w,(w=a\/w=b)/\L2.atI [a,b] (d % 2)=some w:=by obtain⟨w,hw,e⟩:=mu (s:=[a,b]) (k:=d % 2) (by lia) (by simp;lia);exact⟨w,by simpa using hw,e⟩
theorem kU{s:List P}{i:Nat}{v:P}(h:(cy 0 s)[i]? = some v):∃x,s[i]? = some x/\v=.tup [.int (i:Int),x]:=by obtain⟨x,a,e⟩:=lB h;exact⟨x,a,by rw[e];simp⟩
theorem bH{a:Type}{s:List a}{i:Nat}{x:a}(h:s[i]? = some x):i < s.length:=(bB.mp h).1
theorem EG{n:Nat}(F:List Int){s:List P}(hx:∀x ∈ s,j9 x)(N:∀(i j:Nat) x,s[i]? = some x->s[j]? = some x->i=j)(hl:s.length≤2):∃f:List P,Kl s f/\bD (Ph (n+3) "_law_roads") [fj F,.lst s]=some (.lst f):=by
 let I:Nat->Option D->Option D->Nat->Lc->Y->Prop:=λii k K j L S=>∃(f:List P)(E G M A:Option D),(Kl s f/\Rh s f ii j/\f.length≤2 * ii+j)/\L=[qp (fj F),ql s,qr 0,k,K,E,G,M,A]/\S=[.lst (f.map .p)]
 let Inv:Nat->Lc->Y->Prop:=λi L S=>∃k K,I i k K 0 L S
 obtain⟨L',S',e,k0,one0,f,E,G,M,A,⟨o,_,_⟩,rfl,rfl⟩:=cM (g:=bG [am 3,am 4]) (b:=gH (Ph (n+2))) (Inv:=Inv) (s:=cy 0 s) (k:=0)
  (L:=[qp (fj F),ql s,qr 0,none,none,none,none,none,none]) (S:=[.lst []]) (fun i v L S hv hI=>by
   obtain⟨x,t,rfl⟩:=kU hv;have hi:=bH t;have R:=aY t;obtain⟨a,ha,rfl⟩:=hx x R;obtain⟨_,_,f,E,G,M,A,o,rfl,rfl⟩:=hI;rw[fU]at o ⊢;obtain⟨L',S',e,hI2⟩:=cM (g:=bG [am 5,am 6]) (b:=eM (Ph (n+2))) (Inv:=I i (qi (i:Int)) (qs a)) (s:=cy 0 s) (k:=0)
    (L:=[qp (fj F),ql s,qr 0,qi (i:Int),qs a,E,G,M,A]) (S:=[.lst (f.map .p)]) (fun j v L S hv hI=>by
     obtain⟨y,q,rfl⟩:=kU hv;have hj:=bH q;have T:=aY q;obtain⟨b,hb,rfl⟩:=hx y T;obtain⟨f,E,G,M,A,⟨o,m,hvl⟩,rfl,rfl⟩:=hI;rw[fU]at m hvl ⊢;obtain⟨c,d,hd,V,W⟩:=gX (n:=n) F (k:=4) (p:=3 * (i:Int)+(j:Int)) (by lia) (by lia) (by lia);have m4:gC 3 (i:Int)=true:=bL (by decide) (by lia);by_cases hg:0 < d % 4
     .obtain⟨w,hw,X⟩:∃w:Str,(w="row"\/w="heap")/\L2.atI [P.str "row",.str "heap"] (d / 4 % 2)=some (.str w):=by
       obtain⟨w,hw,X⟩:=EZ (a:=.str "row") (b:=.str "heap") (d / 4);rcases hw with rfl|rfl
       .exact⟨_,.inl rfl,X⟩
       .exact⟨_,.inr rfl,X⟩
      have Q:f.length≤1000000:=by lia
      refine⟨_,[qp (fj F),ql s,qr 0,qi (i:Int),qs a,qi (j:Int),qs b,qi d,qs w],[.lst ((f++[P.tup [.str a,.str b,.str w,.int 1,.bl (decide (d / 16 % 3=1)),.bl (decide (d / 48 % 3=1))]]).map D.p)],rfl,?_,_,_,_,_,_,⟨⟨by simp;lia,eY o.2.1 ⟨⟨a,b,w,_,_,_,ha,hb,hw,by lia,by lia,rfl⟩,R,T⟩,List.pairwise_append.mpr ⟨o.2.2,List.pairwise_singleton _ _,λr H z hz=>?_⟩⟩,eY (λr H=>?_) ⟨i,j,t,q,.inr ⟨rfl,by lia⟩⟩,by simp;lia⟩,rfl,rfl⟩;rotate_left
      .rw [cz.mp hz];rintro ⟨V,W⟩;obtain⟨B,C,u,l,Z⟩:=m r H;rw[V]at u;rw[W]at l;have:=N _ _ _ u t
       have:=N _ _ _ l q;lia
      .obtain⟨B,C,u,l,Z⟩:=m r H;exact⟨B,C,u,l,by lia⟩
      rw[<- d6];simp[eM,V,W,m4,hg,X,fO,Q]
     .refine⟨_,[qp (fj F),ql s,qr 0,qi (i:Int),qs a,qi (j:Int),qs b,qi d,A],[.lst (f.map D.p)],rfl,?_,f,_,_,_,_,⟨o,λr H=>?_,by lia⟩,rfl,rfl⟩;rotate_left
      .obtain⟨B,C,u,l,Z⟩:=m r H;exact⟨B,C,u,l,by lia⟩
      simp[eM,V,W,m4,hg]) ⟨f,E,G,M,A,o,rfl,rfl⟩
   obtain⟨vs',z6,z7,z8,z9,⟨hi1,hi2,hi5⟩,hi3,hi4⟩:=hI2;rw[fU,eF]at hi5;exact⟨_,L',S',rfl,by simpa[gH] using e,_,_,vs',z6,z7,z8,z9,⟨hi1,λr H=>by obtain⟨B,C,u,l,Z⟩:=hi2 r H;exact⟨B,C,u,l,by lia⟩,by lia⟩,hi3,hi4⟩) ⟨none,none,[],none,none,none,none,⟨⟨by simp,λ_ h=>(by cases h),List.Pairwise.nil⟩,λ_ h=>(by cases h),by simp⟩,rfl,rfl⟩
 refine⟨f,o,?_⟩;rw[sG,aK];simp[lT,e]
end My
namespace My
open PySem L2 Ev
variable{s:Str}{o:List P}
theorem yt(l:∀c ∈ o,isRoad c)(L:Lc)(j k:Nat)(m:j < L.length)(h:k≠j)(hk:L[k]? = some (qs s))(S:Y) :
  ∃n,bZ (am j) (bv (U (ag (vv j) eQ)) (O k)) (ag (vv j) dD) o L S=some (n,S)/\(∀y ∈ n,j9 y/\∃r ∈ o,rA r=s/\y=.str (rB r))/\n.length≤o.length:=by
 refine oK (Inv:=λf=>∃d,f=L.set j d) (λv t f w=>?_) ⟨L[j],(gR m).symm⟩;obtain⟨d,rfl⟩:=w;obtain⟨a,b,kd,c,x,e,z,u,i,_,_,rfl⟩:=l v t;have g:((L.set j d).set j (qt [.str a,.str b,.str kd,.int c,.bl x,.bl e]))[j]? = some (qt [.str a,.str b,.str kd,.int c,.bl x,.bl e]):=by rw[bA (by simpa using m)]
 have p:((L.set j d).set j (qt [.str a,.str b,.str kd,.int c,.bl x,.bl e]))[k]? = some (qs s):=by rw[aV (aP h),aV (aP h)];exact hk
 exact⟨_,decide (a=s),rfl,⟨_,cI ..⟩,by simp[-cI,g,p],λq=>⟨.str b,by simp[-cI,g],⟨b,u,rfl⟩,_,t,aN q,rfl⟩⟩
theorem CL(l:∀c ∈ o,isRoad c)(L:Lc)(j k:Nat)(m:j < L.length)(h:k≠j)(hk:L[k]? = some (qs s))(S:Y) :
  ∃n,bZ (am j) (bv (U (ag (vv j) dD)) (O k)) (ag (vv j) eQ) o L S=some (n,S)/\(∀y ∈ n,j9 y/\∃r ∈ o,rB r=s/\y=.str (rA r))/\n.length≤o.length:=by
 refine oK (Inv:=λf=>∃d,f=L.set j d) (λv t f w=>?_) ⟨L[j],(gR m).symm⟩;obtain⟨d,rfl⟩:=w;obtain⟨a,b,kd,c,x,e,u,z,i,_,_,rfl⟩:=l v t;have g:((L.set j d).set j (qt [.str a,.str b,.str kd,.int c,.bl x,.bl e]))[j]? = some (qt [.str a,.str b,.str kd,.int c,.bl x,.bl e]):=by rw[bA (by simpa using m)]
 have p:((L.set j d).set j (qt [.str a,.str b,.str kd,.int c,.bl x,.bl e]))[k]? = some (qs s):=by rw[aV (aP h),aV (aP h)];exact hk
 exact⟨_,decide (b=s),rfl,⟨_,cI ..⟩,by simp[-cI,g,p],λq=>⟨.str a,by simp[-cI,g],⟨a,u,rfl⟩,_,t,aN q,rfl⟩⟩
theorem wH(h:o.length≤8):o.length≤1000000:=by lia
theorem ri(d:Int):∃w:Str,(w=a\/w=b)/\L2.atI [P.str a,.str b] (d % 2)=some (.str w):=by
 obtain⟨w,hw,e⟩:=EZ (a:=.str a) (b:=.str b) d;rcases hw with rfl|rfl
 .exact⟨_,.inl rfl,e⟩
 .exact⟨_,.inr rfl,e⟩
inductive isSend(s:Str)(rs whos N:List P)(v:P):Prop
 |mk (m:Str) (t:P) (way nm:Str):aG m=true->aG nm=true->oZ N t->((way="who"/\P.str nm ∈ whos)\/((way="all"\/way="any")/\∃r ∈ rs,rA r=s/\nm=rB r))->v=.tup [.str m,t,.str way,.str nm]->isSend s rs whos N v
variable{u:List P}
theorem isSend.ok(a:∀x ∈ N,j9 x)(h:isSend s o u N v):cK 5 v=true:=by
 obtain⟨m,t,w,f,e,n,k,hw,rfl⟩:=h;have hw:aG w=true:=by rcases hw with ⟨rfl,_⟩|⟨rfl|rfl,_⟩<;>simp
 simp[e,n,hw,k.ok a]
variable{n:Nat}
theorem Ew(d:Int)(hnm:∀x ∈ M,j9 x)(hw:∀x ∈ u,j9 x)(hr:∀c ∈ o,isRoad c)(hrl:o.length≤8) :
  ∃m:List P,m.length≤1/\(∀c ∈ m,isSend s o u M c)/\bD (Ph (n+3) "_law_sends") [.int d,.str s,.lst M,.lst u,.lst o]=some (.lst m):=by
 have hm:d % 2 < 2:=iW _ (by lia);have hm0:0≤d % 2:=gM _ (by lia);obtain⟨gs,eg,I,hgl⟩:=yt (s:=s) hr [qi d,qs s,ql M,ql u,ql o,none,none,none,none,none,none,none] 11 1 (by simp) (by lia) rfl [];have W:=nh (gf hw 19);have V:=nh (gf (λx hx=>(I x hx).1) 19);let F:Option D->Option D->Option D->Option D->Lc:=λN B p q=>[qi d,qs s,ql M,ql u,ql o,ql gs,qr 0,N,B,p,q]
 let Inv:Nat->Lc->Y->Prop:=λi L S=>∃(m:List P)(N B p q:Option D),m.length≤i/\(∀c ∈ m,isSend s o u M c)/\L=F N B p q/\S=[.lst (m.map .p)]
 obtain⟨L',S',e,m,N,B,p,q,hc,ho,rfl,rfl⟩:=cM (g:=am 7) (b:=eK (Ph (n+2))) (Inv:=Inv) (s:=Ev.intsFrom 0 (d % 2).toNat) (k:=0)
  (L:=F none none none none) (S:=[.lst []]) (fun i v L S hv hI=>by
   obtain⟨rfl,hi⟩:=ints_get hv;obtain⟨m,N,B,p,q,hc,ho,rfl,rfl⟩:=hI;simp only[cS];generalize hso:d / 2=f;obtain⟨tr,htr,etr⟩:=yk (n:=n) (f / 12 % 300) hnm;have mo:gC (f % 2) (f / 2000 % 2)=true:=bL (by lia) (by lia);obtain⟨mk,hmk,emk⟩:∃w:Str,(w="ma"\/w="mb")/\L2.atI [P.str "ma",.str "mb"] (f % 2 * (f / 2000 % 2))=some (.str w):=by
    have h:f % 2 * (f / 2000 % 2)=0\/f % 2 * (f / 2000 % 2)=1:=by
     have X:f % 2=0\/f % 2=1:=by lia
     have Z:f / 2000 % 2=0\/f / 2000 % 2=1:=by lia
     rcases X with X|X<;>rcases Z with Z|Z<;>rw[X,Z]<;>simp
    rcases h with h|h<;>rw[h]
    .exact⟨"ma",.inl rfl,by simp⟩
    .exact⟨"mb",.inr rfl,by simp⟩
   have omk:aG mk=true:=by rcases hmk with rfl|rfl<;>simp
   have l:m.length≤1000000:=by lia
   let T:=F (qi (i:Int)) (qi f) (qp tr) (qs mk)
   let G:Bs->Prop:=λx=>∃L2 Q,x=some (.nx,L2,Q)/\Inv (0+i+1) L2 Q
   have E:∀{x:Bs}(y w:Str),aG w=true->((y="who"/\P.str w ∈ u)\/((y="all"\/y="any")/\∃r ∈ o,rA r=s/\w=rB r))->x=some (.nx,T,[.lst (m.map .p++[.p (.tup [.str mk,tr,.str y,.str w])])])->G x:=λy w ow h e=>⟨_,_,e,m++[.tup [.str mk,tr,.str y,.str w]],_,_,_,_,by simp;lia,eY ho ⟨mk,tr,y,w,omk,ow,htr,h,rfl⟩,rfl,by rw[d6]⟩
   suffices h:G (eK (Ph (n+2)) (F (qi (i:Int)) B p q) [.lst (m.map .p)]) by obtain⟨L2,Q,e,h⟩:=h;exact⟨_,L2,Q,rfl,e,h⟩
   unfold eK;rw[al (e:=F (qi (i:Int)) (qi f) p q) (c:=[.lst (m.map .p)]) (by simp[F,hso]),al (e:=F (qi (i:Int)) (qi f) (qp tr) q) (c:=[.lst (m.map .p)]) (by simp[F,etr]),al (e:=T) (c:=[.lst (m.map .p)]) (by simp[F,T,mo,emk])];by_cases R:u≠[]/\f / 2 % 3=1
   .obtain⟨w,j,ew⟩:=mu (s:=u) (k:=0) (by lia) (by have:=len_pos R.1;lia);obtain⟨w,K,rfl⟩:=hw w j;rw[di R.1]at W;rw[vG (by simp[F,T,W,R.2])];exact E "who" w K (.inl ⟨rfl,j⟩) (by simp[F,T,ew,fO,l])
   rw [B3 (by
    cases H:u.isEmpty<;>rw[H]at W
    .have h3:¬f / 2 % 3=1:=λz=>R ⟨λz=>(by rw[z]at H;cases H),z⟩;simp[F,T,W,h3]
    .simp [F,T,W])]
   by_cases C:gs=[]
   .rw [C]at V;exact⟨T,[.lst (m.map .p)],by rw[B3 (by simp[F,T,C,V])];rfl,m,_,_,_,_,by lia,ho,rfl,rfl⟩
   obtain⟨w,j,ew⟩:=ee C (f / 3);obtain⟨⟨w,K,rfl⟩,r,hrm,hra,A⟩:=I w j;have A:w=rB r:=by cases A;rfl
   have hl:=len_pos C;rw[di C]at V;rw[vG (by simp[F,T,V])];obtain⟨aa,haa,eaa⟩:=ri (a:="all") (b:="any") (f / 6);exact E aa w K (.inr ⟨haa,r,hrm,hra,A⟩) (by simp[F,T,eaa,dt,dW,hl,ew,fO,l])) ⟨[],none,none,none,none,by simp,λ_ h=>(by cases h),rfl,rfl⟩
 refine⟨m,by rw[cP]at hc;lia,ho,?_⟩;have hq:(d % 2).natAbs < 1000000:=by lia
 rw[sE,aK];simp[lR,bK,wH hrl,lG,eg,hq];simp[F]at e;simp[e]
@[simp] theorem OF(L:Lc)(S:Y):kr L S=some (none,S):=rfl
@[simp] theorem OE(a:EV)(L:Lc)(S:Y):jz a L S=bQ (a L S) λv h=>match v with | .int i=>some (some i,h)|_=>none:=rfl
@[simp] theorem Pe(t:List P)(lo h:Option Int):Mz (.lst t) lo h=some (.lst (cut t lo h)):=rfl
@[simp] theorem Pd(t:List P)(lo h:Option Int):Mz (.tup t) lo h=some (.tup (cut t lo h)):=rfl
variable{t:List P}
theorem qo:(∀x ∈ cut t lo i,x ∈ t)/\(cut t lo i).length≤t.length:=by
 unfold cut;refine⟨λx h=>?_,?_⟩
 .first
   |exact uJ (AA h)
   |exact AA (uJ h)
 .simp only[il,uH];lia
def j8(s:Str)(o u:List P)(v:P):Prop:=v=.non\/∃m a i w,aG m=true/\aG a=true/\aG i=true/\aG w=true/\(∃r ∈ o,rB r=s/\a=rA r)/\(w=""\/P.str w ∈ u)/\v=.tup [.str m,.str a,.str i,.str w]
noncomputable def more:P->List P
 | .non=>[]
 |_=>[.str "it"]
theorem j8.ok(h:j8 s o u v):cK 2 v=true:=by
 rcases h with rfl|⟨m,a,i,w,x,e,n,k,_,_,rfl⟩
 .rfl
 .simp [x,e,n,k]
def yM(N f:List P)(t:P):Prop:=∀m a i w,t=.tup [m,a,.str i,w]->i=""\/(P.str i ∈ N/\P.str i ∉ f)
theorem Gq:cut (t++[x]) none (some (-1))=t:=by
 unfold cut;have e:HT.eS (t++[x]).length (t++[x]).length (some (-1))=t.length:=by show(if (-1:Int) < 0 then ((-1:Int)+(((t++[x]).length:Nat):Int)).toNat else min ((-1:Int).toNat) (t++[x]).length)=t.length;rw[af (by decide),a_,p6];lia
 rw[e,HT.qZ,mM,uq,List.take_left'];rfl
theorem FC(h:t≠[])(n:t.Nodup)(e:L2.atI t (-1)=some x):x ∉ cut t none (some (-1)):=by
 rcases List.eq_nil_or_concat t with rfl|⟨s,y,rfl⟩
 .exact absurd rfl h
 rw[List.concat_eq_append] at *
 have:x=y:=by
  unfold L2.atI L2.Dy at e;rw[ah (by decide),af (by simp;lia)]at e;have a:(-1+(((s++[y]).length:Nat):Int)).toNat=s.length:=by simp;lia
  simp only[a,mD]at e;rw[b_ (ak _)]at e;simp at e;exact e.symm
 subst this;rw[Gq];intro k;have:=(lh.mp n).2.2
 exact this x k x (by simp) rfl
theorem step_if(ψ ι:Str->GF){d0:Int}(hn:∀x ∈ f,j9 x)(R:f.Nodup)(hw:∀x ∈ u,j9 x)(hs:∀x ∈ d,j9 x/\∃r ∈ o,rB r=s/\x=.str (rA r)) :
  ∃j c m v,j8 s o u j/\(∀x ∈ c,x ∈ f)/\c.length≤f.length/\yM f c j /\
   fE ψ [ql (.int d0::ds),qs s,qp rooms,qp cells,ql u,ql o,ql f,ql d,qp .non,ql f,ql [],none,none,none,none,none,none,none] []
    = some (.nx,[ql (.int d0::ds),qs s,qp rooms,qp cells,ql u,ql o,ql f,ql d,qp j,ql c,ql (more j),m,v,none,none,none,none,none],[]):=by
 have K:=nh (gf (λx y=>(hs x y).1) 19);have N:=nh (gf hn 19);have W:=nh (gf hw 19);let F:Option D->List P->List P->Option D->Option D->Lc:=λq8 l9 l10 m v=>[ql (.int d0::ds),qs s,qp rooms,qp cells,ql u,ql o,ql f,ql d,q8,ql l9,ql l10,m,v,none,none,none,none,none]
 let G:Bs->Prop:=λx=>∃j c m v,j8 s o u j/\(∀x ∈ c,x ∈ f)/\c.length≤f.length/\yM f c j/\x=some (.nx,F (qp j) c (more j) m v,[])
 show G (fE ψ (F (qp .non) f [] none none) []);unfold fE;by_cases H:d≠[]/\d0 % 3=1
 .rw [di H.1]at K;obtain⟨s1,X,es⟩:=ee H.1 (d0 / 24);have M:=len_pos H.1;obtain⟨mk,Q,C⟩:=ri (a:="ma") (b:="mb") (d0 / 12);obtain⟨⟨sn,osn,rfl⟩,r,V,T,l⟩:=hs s1 X;have l:sn=rA r:=by cases l;rfl
  have omk:aG mk=true:=by rcases Q with rfl|rfl<;>simp
  rw[vG (by simp[F,K,H.2])];rw[al (e:=F (qp .non) f [] (qs "") none) (c:=[]) rfl];refine wF (G:=G) (p:=λL=>∃i c,aG i=true/\(∀x ∈ c,x ∈ f)/\c.length≤f.length/\(i=""\/(P.str i ∈ f/\P.str i ∉ c))/\L=F (qp .non) c [] (qs i) none) ?_ λL ⟨i,c,hi,hf,E,I,e⟩=>?_
  .by_cases g:f≠[]/\d0 / 3 % 2=1
   .obtain⟨x,y,B⟩:=GN g.1;obtain⟨x,ox,rfl⟩:=hn x y;rw[di g.1]at N;exact⟨_,⟨x,cut f none (some (-1)),ox,qo.1,qo.2,.inr ⟨y,FC g.1 R B⟩,rfl⟩,by simp[F,N,g.2,B]⟩
   .refine⟨_,⟨"",f,by simp,λ_ h=>h,ak _,.inl rfl,rfl⟩,?_⟩;cases n:f.isEmpty<;>rw[n]at N
    .have S:¬d0 / 3 % 2=1:=λq=>g ⟨λz=>(by rw[z]at n;cases n),q⟩;simp[F,N,S]
    .simp [F,N]
  subst e;rw[al (e:=F (qp .non) c [] (qs i) (qs "")) (c:=[]) rfl];refine wF (G:=G) (p:=λL=>∃w,aG w=true/\(w=""\/P.str w ∈ u)/\L=F (qp .non) c [] (qs i) (qs w)) ?_ λL ⟨w,A,Z,e⟩=>?_
  .by_cases g:u≠[]/\d0 / 6 % 2=1
   .obtain⟨x,y,B⟩:=mu (s:=u) (k:=0) (by lia) (by have:=len_pos g.1;lia);obtain⟨x,ox,rfl⟩:=hw x y;rw[di g.1]at W;exact⟨_,⟨x,ox,.inr y,rfl⟩,by simp[F,W,g.2,B]⟩
   .refine⟨_,⟨"",by simp,.inl rfl,rfl⟩,?_⟩;cases n:u.isEmpty<;>rw[n]at W
    .have S:¬d0 / 6 % 2=1:=λq=>g ⟨λz=>(by rw[z]at n;cases n),q⟩;simp[F,W,S]
    .simp [F,W]
  subst e;exact⟨.tup [.str mk,.str sn,.str i,.str w],c,qs i,qs w,.inr ⟨mk,sn,i,w,omk,osn,hi,A,⟨r,V,T,l⟩,Z,rfl⟩,hf,E,λ_ _ _ _ q=>by cases q;exact I,by simp[F,more,dt,dW,M,es,C]⟩
 .refine⟨.non,f,none,none,.inl rfl,λ_ h=>h,ak _,λ_ _ _ _ q=>(by cases q),?_⟩;cases n:d.isEmpty<;>rw[n]at K
  .have S:¬d0 % 3=1:=λq=>H ⟨λz=>(by rw[z]at n;cases n),q⟩;simp[F,more,K,S]
  .simp [F,more,K]
def oy(s:List P):List P:=s.map λc=>.str (ba c)
theorem ou(e:∀c ∈ a,isCel c):∀x ∈ oy a,j9 x:=λx s=>by obtain⟨c,h,rfl⟩:=aZ.mp s;obtain⟨x,_,_,_,o,_,_,_,_,rfl⟩:=e c h;exact⟨x,o,rfl⟩
theorem oM(m:∀c ∈ k,isCel c)(L:Lc)(j:Nat)(s:j < L.length)(S:Y) :
  bZ (am j) fQ (ag (vv j) eQ) k L S=some (oy k,S):=by
 have:=cj (g:=am j) (c:=fQ) (e:=ag (vv j) eQ) (S:=S) (p:=fun _=>true) (f:=fun c=>.str (ba c)) (s:=k) (L:=L) (Inv:=fun h=>∃d,h=L.set j d) (fun v r h b=>by
  obtain⟨d,rfl⟩:=b;obtain⟨x,lo,i,a,q,_,_,_,_,rfl⟩:=m v r;have n:((L.set j d).set j (qt [.str x,.int lo,.int i,.int a]))[j]? = some (qt [.str x,.int lo,.int i,.int a]):=by rw[bA (by simpa using s)]
  exact⟨_,rfl,⟨_,cI ..⟩,rfl,λ_=>by simp[-cI,n,ba]⟩) ⟨L[j],(gR s).symm⟩
 rw[this,jW.mpr λ_ _=>rfl];rfl
def J1(N:List P)(c:P):Prop:=∃x t,aG x=true/\oZ N t/\c=.tup [.str x,t]
structure Stp(s:Str)(rooms cells whos rs:List P)(rm when tk:P)(chg sn:List P)(rm2:P):Prop where
 h1:rm ∈ rooms
 h2:rm2 ∈ rooms
 wh:rJ (oy cells) when
 htk:j8 s rs whos tk
 cl:chg.length≤3
 ch:∀c ∈ chg,J1 (oy cells++more tk) c
 cn:∀c ∈ chg,P.str (ba c) ∈ oy cells
 ci:yM (oy cells) (chg.map λc=>.str (ba c)) tk
 sl:sn.length≤1
 hsn:∀c ∈ sn,isSend s rs whos (oy cells) c
variable{cells:List P}
theorem L3(h:pe cells):(oy cells).Nodup:=by refine uO.mpr λi j x a n q=>?_;unfold oy at x a q;rw[aU]at x a;rw[pZ,pZ]at q;obtain⟨_,o,h⟩:=h;have e:=h i _ (bo x);have s:=h j _ (bo a);rw[P.str.inj q,s]at e;simp at e;lia
theorem vm(v:P):∀x ∈ more v,j9 x:=λx h=>by
 cases v with
 |non=>cases h
 |_=>exact⟨"it",by simp,by simpa[more] using h⟩
theorem Fs(v:P):(more v).length≤1:=by cases v<;>simp[more]
theorem HZ(I B G y:Int)(hrm:∀x ∈ r,j9 x)(E:r≠[])(Q:pe cells)(hcl:cells.length≤2)(hw:∀x ∈ u,j9 x)(hr:∀c ∈ o,isRoad c)(hrl:o.length≤8) :
  ∃rm wh K l sn rm2,Stp s r cells u o rm wh K l sn rm2/\bD (Ph (n+4) "_law_step") [.lst [.int I,.int B,.int G,.int y],.str s,.lst r,.lst cells,.lst u,.lst o]=some (.tup [rm,wh,K,.lst l,.lst sn,rm2]):=by
 have M:=Q.1;have X:=L3 Q;have e1:=oM M [ql [.int I,.int B,.int G,.int y],qs s,ql r,ql cells,ql u,ql o,none,none,none,none,none,none,none,none,none,none,none,none,none] 18 (by simp) [];have p:=ou M;have hnl:(oy cells).length=cells.length:=by simp[oy]
 generalize N:oy cells=f at e1 p hnl X;obtain⟨snd,e2,hsn,_⟩:=CL (s:=s) hr [ql [.int I,.int B,.int G,.int y],qs s,ql r,ql cells,ql u,ql o,ql f,none,none,none,none,none,none,none,none,none,none,none,none] 18 1 (by simp) (by lia) rfl [];obtain⟨K,fr,q11,q12,htk,T,hfl,hio,e3⟩:=step_if (Ph (n+3)) (Ph (n+2)) (d0:=I) (ds:=[.int B,.int G,.int y]) (rooms:=.lst r) (cells:=.lst cells) p X hw hsn;have hml:=Fs K;have W:=vm K;generalize hM:more K=mo at e3 hml W;have Z:∀x ∈ f++mo,j9 x:=λx hx=>(bN.mp hx).elim (p x) (W x)
 have H:f.length+mo.length≤1000000:=by lia
 have hcf:cells.length≤1000000:=by lia
 let F:Option D->Option D->Lc:=λd j=>[ql [.int I,.int B,.int G,.int y],qs s,ql r,ql cells,ql u,ql o,ql f,ql snd,qp K,ql fr,ql mo,q11,q12,qr 0,d,j,none,none]
 let Inv:Nat->Lc->Y->Prop:=λi L S=>∃(A:List P)(d j:Option D),A.length≤i/\(∀c ∈ A,J1 (f++mo) c/\P.str (ba c) ∈ fr)/\L=F d j/\S=[.lst (A.map .p)]
 obtain⟨L',S',e4,l,d,j,R,C,rfl,rfl⟩:=cM (g:=bG [am 14,am 15]) (b:=fD (Ph (n+3))) (Inv:=Inv) (s:=cy 0 fr) (k:=0) (L:=F none none) (S:=[.lst []]) (fun i v L S hv hI=>by
   obtain⟨x,hx1,rfl⟩:=kU hv;have hi:=bH hx1;have hxf:=aY hx1;obtain⟨x,ox,rfl⟩:=p x (T x hxf);obtain⟨A,d,j,M,ho,rfl,rfl⟩:=hI;have V:A.length≤1000000:=by lia
   obtain⟨a,b,ha,hb,ea,eb⟩:∃a b:Int,(0 < a/\a < 1152921504606846976)/\(0 < b/\b < 1152921504606846976)/\L2.atI [P.int 1,.int 1000] (i:Int)=some (.int a)/\L2.atI [P.int 2,.int 2000] (i:Int)=some (.int b):=by
    have:i=0\/i=1:=by lia
    rcases this with rfl|rfl
    .exact⟨1,2,by decide,by decide,by simp,by simp⟩
    .exact⟨1000,2000,by decide,by decide,by simp,by simp⟩
   by_cases h:B / a % 2=1
   .obtain⟨tr,htr,etr⟩:=yk (n:=n+1) (B / b % 300) Z;refine⟨_,F (qi (i:Int)) (qs x),[.lst ((A++[P.tup [.str x,tr]]).map D.p)],rfl,?_,_,_,_,by simp;lia,eY ho ⟨⟨x,tr,ox,htr,rfl⟩,hxf⟩,rfl,rfl⟩;rw[<- d6];simp[fD,F,ea,eb,ha,hb,h,H,etr,fO,V]
   .refine⟨_,F (qi (i:Int)) (qs x),[.lst (A.map D.p)],rfl,?_,A,_,_,by lia,ho,rfl,rfl⟩;simp[fD,F,ea,ha,h]) ⟨[],none,none,by simp,λ_ h=>(by cases h),rfl,rfl⟩
 rw[eF]at R;obtain⟨sn,hsl,hsd,e5⟩:=Ew (n:=n) G (s:=s) p hw hr hrl;obtain⟨wh,hwh,e6⟩:=cond_ok (n:=n) (y % 27000) p;obtain⟨r1,hr1,e7⟩:=ee E (y / 27000);obtain⟨r2,hr2,e8⟩:=ee E (y / 81000);have hl:=len_pos E;refine⟨r1,wh,K,l,sn,r2,⟨hr1,hr2,N ▸ hwh,htk,by lia,N ▸ hM ▸ λc h=>(C c h).1,N ▸ λc h=>T _ (C c h).2,N ▸ λm a into who q=>(hio m a into who q).imp id λz=>⟨z.1,λw=>by obtain⟨c,M,e⟩:=aZ.mp w;exact z.2 (e ▸ (C c M).2)⟩,hsl,N ▸ hsd⟩,?_⟩
 rw[vP,aK];simp only[F]at e4;simp[nK,bK,hcf,wH hrl,lG,e1,e2,jr,e3,e4,H,dt,dW,e5,e6,hl,e7,e8,f6]
inductive isStep(s:Str)(rooms cells whos rs:List P)(v:P):Prop
 |mk (x:Str) (rm wh tk:P) (chg sn:List P) (rm2:P):aG x=true->Stp s rooms cells whos rs rm wh tk chg sn rm2->v=.tup [.str x,rm,wh,tk,.lst chg,.lst sn,rm2]->isStep s rooms cells whos rs v
variable{h:Type}
noncomputable def eT:List (List h)->List (List h)
 | []=>[[]]
 |t::r=>t.flatMap λx=>(eT r).map (x::·)
def pi(c:P):List P:=(List.range (iv (gc c 2)-iv (gc c 1)+1).toNat).map λ(i:Nat)=>.int (iv (gc c 1)+(i:Int))
def g9(cells:List P):List (List P):=eT (cells.map pi)
structure Fam(rs:List P)(nm:Str)(crew:Nat)(rooms cells whos steps:List P):Prop where
 hnm:aG nm=true
 hcr:1≤crew/\crew≤4
 hro:∀x ∈ rooms,j9 x
 r0:rooms≠[]
 rl:rooms.length≤8
 hce:pe cells
 cl:cells.length≤3
 hwh:∀x ∈ whos,j9 x
 wl:whos.length≤2
 s0:steps≠[]
 sl:steps.length≤8
 hst:∀x ∈ steps,isStep nm rooms cells whos rs x
 sd:steps.Pairwise λa b=>ba a≠ba b
 b1:steps.length≤2
 b2:rooms.length * (g9 cells).length * 2 ^ whos.length≤4
 b3:(g9 cells).length≤2
inductive isFam(rs:List P)(v:P):Prop
 |mk (nm:Str) (crew:Nat) (rooms cells whos steps:List P):Fam rs nm crew rooms cells whos steps->v=.tup [.str nm,.int (crew:Int),.lst rooms,.lst cells,.lst whos,.lst steps]->isFam rs v
variable{m:Nat}
theorem yz(s:List Int)(j:Nat)(o:Nat)(L:Lc)(c:j < L.length)(r:L[0]? = some (qp (fj s)))(h:0≠j)(u:o+m≤16)(S:Y) :
  ∃a,bZ (am j) fQ (cD (Ph (n+3) "_law_name") (v2 cc (aX (vi (o:Int)) (vv j)))) (Ev.intsFrom 0 m) L S=some (a,S)/\(∀y ∈ a,j9 y)/\a.length=(Ev.intsFrom 0 m).length:=by
 refine mf (Inv:=λf=>∃d,f=L.set j d) (λv p f t=>?_) ⟨L[j],(gR c).symm⟩;obtain⟨d,rfl⟩:=t;obtain⟨i,rfl,w⟩:=g8 p;obtain⟨x,q,_,e⟩:=lu (n:=n) s (k:=o+i) (by lia);have e:bD (Ph (n+3) "_law_name") [fj s,.int ((o:Int)+(i:Int))]=some (.str x):=by rw[<- e];rfl
 have g:((L.set j d).set j (qi (0+(i:Int))))[j]? = some (qi (0+(i:Int))):=by rw[bA (by simpa using c)]
 have b:((L.set j d).set j (qi (0+(i:Int))))[0]? = some (qp (fj s)):=by rw[aV (aP h),aV (aP h)];exact r
 simp only[cS]at g b ⊢;exact⟨_,.str x,rfl,⟨_,cI ..⟩,by simp[-cI,g,b,e],x,q,rfl⟩
theorem Mr(s:List Int)(l:Int)(D:0≤l)(L:Lc)(A:L.length=21)(K:L[0]? = some (qp (fj s)))(x:L[14]? = some (qi l))(S:Y) :
  ∃z o H F:Int,bZ (am 20) fQ (cD (Ph (n+2) "_law_mix") (v2 (cD (Ph (n+2) "_law_cell_at") (v2 cc (aX (vv 14) (vv 20)))) (vi 11))) (Ev.intsFrom 0 4) L S=some ([.int z,.int o,.int H,.int F],S):=by
 obtain⟨C,e,y,h⟩:=mf (Q:=fun v=>∃d:Int,v=.int d) (g:=am 20) (e:=cD (Ph (n+2) "_law_mix") (v2 (cD (Ph (n+2) "_law_cell_at") (v2 cc (aX (vv 14) (vv 20)))) (vi 11))) (S:=S) (s:=Ev.intsFrom 0 4) (Inv:=fun f=>∃d,f=L.set 20 d) (L:=L) (fun v B f P=>by
  obtain⟨d,rfl⟩:=P;obtain⟨i,rfl,E⟩:=g8 B;obtain⟨c,r,G,m,q⟩:=gX (n:=n) s (k:=l+(0+(i:Int))) (p:=11) (by lia) (by lia) (by lia);have w:((L.set 20 d).set 20 (qi (0+(i:Int))))[20]? = some (qi (0+(i:Int))):=by rw[bA (by simp[A])]
  have u:((L.set 20 d).set 20 (qi (0+(i:Int))))[0]? = some (qp (fj s)):=by rw[aV (by decide),aV (by decide)];exact K
  have j:((L.set 20 d).set 20 (qi (0+(i:Int))))[14]? = some (qi l):=by rw[aV (by decide),aV (by decide)];exact x
  simp only[cS]at w u j m q ⊢;exact⟨_,.int r,rfl,⟨_,cI ..⟩,by simp[-cI,w,u,j,m,q],r,rfl⟩) ⟨L[20]'(by lia),(gR (by lia)).symm⟩
 rw[cP]at h;match C,h with
 | [a,b,c,d],_=>obtain⟨a,rfl⟩:=y a (by simp);obtain⟨b,rfl⟩:=y b (by simp);obtain⟨c,rfl⟩:=y c (by simp);obtain⟨d,rfl⟩:=y d (by simp);exact⟨a,b,c,d,e⟩
abbrev PL(c:List Int)(m r t p v d w u q h x a e s n k f b:Option D):Lc:=[qp (fj c),qi 2,m,r,t,p,v,d,w,u,q,h,x,a,e,s,n,k,f,b]
theorem iw(S:Y)(x:SO):(S++[x])[S.length]? = some x:=by simp
theorem H0(C:List Int)(k:Nat)(hk:k≤1)(hro:∀x ∈ r,j9 x)(hr0:r≠[])(hc:pe cells)(X:cells.length≤2)(hw:∀x ∈ u,j9 x)(hr:∀c ∈ o,isRoad c)(hrl:o.length≤8)(hm:m≤2)(q2 q3 q5 q8 a e q H K A B:Option D)(T:Y) :
  ∃(p:List P)(f d w:Option D),p.length=m/\(∀c ∈ p,isStep I r cells u o c)/\(∀j v,p[j]? = some v->hd (ba v)=some (108+j)) /\
   bR (am 13) (fH (Ph (n+5))) (Ev.intsFrom 0 m) (PL C q2 q3 (ql o) q5 (qi (k:Int)) (qs I) q8 (ql cells) (ql r) (ql u) (qr T.length) a e q H K A B) (T++[.lst []])
    = some (.nx,PL C q2 q3 (ql o) q5 (qi (k:Int)) (qs I) q8 (ql cells) (ql r) (ql u) (qr T.length) f d w H K A B,T++[.lst (p.map .p)]):=by
 let F:Option D->Option D->Option D->Lc:=λa e q=>PL C q2 q3 (ql o) q5 (qi (k:Int)) (qs I) q8 (ql cells) (ql r) (ql u) (qr T.length) a e q H K A B
 let Inv:Nat->Lc->Y->Prop:=λi L S=>∃(z:List P)(a e q:Option D),z.length=i/\((∀c ∈ z,isStep I r cells u o c)/\∀k v,z[k]? = some v->hd (ba v)=some (108+k))/\L=F a e q/\S=T++[.lst (z.map .p)]
 obtain⟨L',S',e4,p,f,d,w,hsl,⟨hst,hsn⟩,rfl,rfl⟩:=cM (g:=am 13) (b:=fH (Ph (n+5))) (Inv:=Inv) (s:=Ev.intsFrom 0 m) (k:=0) (L:=F a e q) (S:=T++[.lst []]) (fun i v L S hv hI=>by
   obtain⟨rfl,hi⟩:=ints_get hv;obtain⟨z,a,e,q,W,⟨ho,Z⟩,rfl,rfl⟩:=hI;simp only[cS];have m1:gC 3 (k:Int)=true:=bL (by decide) (by lia);have m2:gC 4 (3 * (k:Int)+(i:Int))=true:=bL (by decide) (by lia);obtain⟨d0,d1,d2,d3,ed⟩:=Mr (n:=n+3) C (5+4 * (3 * (k:Int)+(i:Int))) (by lia) (F (qi (i:Int)) (qi (5+4 * (3 * (k:Int)+(i:Int)))) q++[none]) rfl rfl rfl (T++[.lst (z.map .p)]);obtain⟨x,hx,hxh,V⟩:=lu (n:=n+2) C (k:=11+i) (by lia);have V:bD (Ph (n+5) "_law_name") [fj C,.int (11+(i:Int))]=some (.str x):=by rw[<- V];rfl
   obtain⟨M,R,Q,l,N,y,hys,es⟩:=HZ (n:=n+1) d0 d1 d2 d3 (s:=I) hro hr0 hc X hw hr hrl;have G:z.length≤1000000:=by lia
   have E:fN (.tup [.str x]) (.tup [M,R,Q,.lst l,.lst N,y])=some (.tup [.str x,M,R,Q,.lst l,.lst N,y]):=rfl;refine⟨_,F (qi (i:Int)) (qi (5+4 * (3 * (k:Int)+(i:Int)))) (ql [.int d0,.int d1,.int d2,.int d3]),T++[.lst ((z++[P.tup [.str x,M,R,Q,.lst l,.lst N,y]]).map D.p)],rfl,?_,_,_,_,_,by simp;lia,⟨eY ho ⟨x,M,R,Q,l,N,y,hx,hys,rfl⟩,xh Z (by show hd x=_;rw[hxh,W];congr 1;lia)⟩,rfl,rfl⟩;rw[<- d6];simp only[F,PL,pX,eD]at ed;simp[fH,F,PL,m1,m2,bK,cP,lG,ed,V,es,E,fO,G]) ⟨[],_,_,_,rfl,⟨λ_ h=>(by cases h),λ_ _ h=>(by simp at h)⟩,rfl,rfl⟩
 rw[cP]at hsl;exact⟨p,f,d,w,by lia,hst,hsn,e4⟩
theorem wT(c:List Int)(j:Nat)(L:Lc)(o:j < L.length)(H:L[0]? = some (qp (fj c)))(b:0≠j)(K:m≤16)(S:Y) :
  ∃q,bZ (am j) fQ (cD (Ph (n+3) "_law_name") (v2 cc (vv j))) (Ev.intsFrom 0 m) L S=some (q,S)/\(∀y ∈ q,j9 y)/\(∀(i:Nat) y,q[i]? = some y->∃x,y=.str x/\hd x=some (97+i))/\q.length=(Ev.intsFrom 0 m).length:=by
 let f:P->P:=λv=>(bD (Ph (n+3) "_law_name") [fj c,v]).getD .non
 have w:∀i,i < m->∃x,aG x=true/\hd x=some (97+i)/\bD (Ph (n+3) "_law_name") [fj c,.int (i:Int)]=some (.str x)/\f (.int (i:Int))=.str x:=λi e=>by obtain⟨x,t,u,r⟩:=lu (n:=n) c (k:=i) (by lia);exact⟨x,t,u,r,by simp[f,r]⟩
 refine⟨(Ev.intsFrom 0 m).map f,?_,λy a=>?_,λi y a=>?_,by simp⟩
 .rw [cj (p:=λ_=>true) (f:=f) (Inv:=λg=>∃d,g=L.set j d) (λv h g F=>?_) ⟨L[j],(gR o).symm⟩,jW.mpr λ_ _=>rfl];obtain⟨d,rfl⟩:=F;obtain⟨i,rfl,e⟩:=g8 h;obtain⟨x,t,_,r,s⟩:=w i e;have l:((L.set j d).set j (qi (0+(i:Int))))[j]? = some (qi (0+(i:Int))):=by
   rw[bA (by simpa using o)]
  have z:((L.set j d).set j (qi (0+(i:Int))))[0]? = some (qp (fj c)):=by rw[aV (aP b),aV (aP b)];exact H
  simp only[cS]at l z ⊢;exact⟨_,rfl,⟨_,cI ..⟩,rfl,λ_=>by rw[s];simp[-cI,l,z,r]⟩
 .obtain⟨v,h,rfl⟩:=aZ.mp a;obtain⟨i,rfl,e⟩:=g8 h;obtain⟨x,t,_,_,s⟩:=w i e;rw[cS,s];exact⟨x,t,rfl⟩
 .rw [b9]at a;cases h:(Ev.intsFrom 0 m)[i]? with
  |none=>rw[h]at a;cases a
  |some v=>rw[h]at a;cases a;obtain⟨rfl,e⟩:=ints_get h;obtain⟨x,_,u,_,s⟩:=w i e;exact⟨x,by rw[cS,s],u⟩
noncomputable def cX:P->Nat
 | .tup (_::.int c::_)=>c.toNat
 |_=>0
def yH(v:P):Prop:=∃(k f s:Str),(k="weak"\/k="strong")/\aG f=true/\aG s=true/\v=.tup [.str k,.str f,.str s]
theorem jx:∀s:List (List h),(eT s).length=(s.map mL).foldr (· * ·) 1
 | []=>rfl
 |t::r=>by
  have e:=jx r;have:∀a:List h,(a.flatMap λx=>(eT r).map (x::·)).length=a.length * (eT r).length:=λa=>by
   induction a with
   |nil=>simp
   |cons y a i=>rw[fX,a_,i,aU,aR,mG];lia
  rw[eT,this,e];rfl
theorem EH(h:isCel c):(pi c).length≤2:=by
 obtain⟨x,lo,i,a,_,_,_,_,e,rfl⟩:=h;have:=e.2.1
 simp[pi];lia
theorem MC(h:pe cells)(l:cells.length≤1):(g9 cells).length≤2:=by
 unfold g9;rw[jx];match cells,l,h with
 | [],_,_=>simp
 | [c],_,h=>have:=EH (h.1 c (by simp));simpa using this
def wD(z:P):Prop:=cX z=1/\(mY (gc z 2)).length=1/\(g9 (mY (gc z 3))).length=1
structure Pln(fams roads wishes:List P):Prop where
 hf:∀f ∈ fams,isFam roads f
 cr:∃c,(∀f ∈ fams,cX f≤c)/\fams.length * c≤4
 f0:1≤fams.length/\fams.length≤4
 hr:∀r ∈ roads,isRoad r
 ra:∀r ∈ roads,(∃f ∈ fams,ba f=rA r)/\∃f ∈ fams,ba f=rB r
 rl:roads.length≤8
 hw:∀w ∈ wishes,yH w
 wl:wishes.length≤6
 rd:roads.Pairwise RD
 fd:∀f ∈ fams,∀g ∈ fams,ba f=ba g->f=g
 st:∃base tl,fams=base++tl/\((∃f,base=[f]/\cX f≤2)\/∃f g,base=[f,g]/\cX f≤1/\cX g≤1)/\(tl=[]\/∃z,tl=[z]/\wD z)/\∀r ∈ roads,∀z ∈ tl,ba z≠rA r/\ba z≠rB r
theorem qv(f:h->x)(t:List h)(i:Int):L2.atI (t.map f) i=(L2.atI t i).map f:=by
 unfold L2.atI;rw[aU];cases L2.Dy t.length i with
 |none=>rfl
 |some j=>simp
theorem EF(s:List Int){f:Int}(u:0≤f):∃v:List P,1≤v.length/\v.length≤2/\(∀x ∈ v,j9 x)/\bD (Ph (n+4) "_law_rooms") [fj s,.int f]=some (.lst v):=by
 obtain⟨c,a,g,b,t⟩:=gX (n:=n+1) s (k:=2+f) (p:=9) (by lia) (by lia) (by lia);have i:a % 2 < 2:=iW _ (by lia);have q:0≤a % 2:=gM _ (by lia);obtain⟨r,e,o,h⟩:=yz (n:=n) s 3 4 [qp (fj s),qi f,qi (1+a % 2),none] (by simp) rfl (by decide) (m:=(1+a % 2).toNat) (by lia) [];rw[cP]at h;refine⟨r,by lia,by lia,o,?_⟩;have d:(1+a % 2).natAbs < 1000000:=by lia
 have w:(1+a % 2).toNat≤1000000:=by lia
 rw[sF,aK];simp only[show((4:Nat):Int)=4 from rfl]at e;simp[lS,b,t,d,w,bK,cP,lG,e]
theorem Gc{n:Nat}(S:List Int){M:Int}(e0:bD (Ph (n+5) "_law_cell_at") [fj S,.int 0]=some (.int M)){k m:Nat}(hk:k≤1)(hm:m=1\/m=2){F:Str}(hnm:aG F=true){o:List P}(hr:∀c ∈ o,isRoad c)(hrl:o.length≤8){s:List P}(hfl:s.length≤100)(T:Y)(E q8 q9 L G C d g l a e b t:Option D) :
  ∃f,isFam o f/\ba f=F/\cX f≤3-m/\∃q8' q9' q10' q11' q12' K A B T',fG (Ph (n+5)) (PL S (qi (m:Int)) E (ql o) (qr 0) (qi (k:Int)) (qs F) q8 q9 L G C d g l a e b t) (.lst (s.map .p)::T)
   = some (.nx,PL S (qi (m:Int)) E (ql o) (qr 0) (qi (k:Int)) (qs F) q8' q9' q10' q11' q12' K A B a e b t,.lst ((s++[f]).map .p)::T'):=by
 obtain⟨H,hcr0,hcr1,V,ecr⟩:∃H:Nat,1≤H/\H≤2/\H≤3-m/\L2.atI [P.int (1+M / 2 % 2),.int 1] ((m:Int)-1)=some (.int (H:Int)):=by
  rcases hm with rfl|rfl
  .exact⟨(1+M / 2 % 2).toNat,by lia,by lia,by lia,by simp;lia⟩
  .exact⟨1,by lia,by lia,by lia,by simp⟩
 obtain⟨cells,hcl,hc,ec⟩:=Gw (n:=n+1) S (f:=(k:Int)) (by lia);obtain⟨r,I,hr2,hro,er⟩:=EF (n:=n+1) S (f:=(k:Int)) (by lia);have Z:r≠[]:=λq=>by rw[q]at I;simp at I
 obtain⟨x,hx,_,ex⟩:=lu (n:=n+2) S (k:=10) (by lia);have ex:bD (Ph (n+5) "_law_name") [fj S,.int 10]=some (.str x):=by rw[<- ex];rfl
 obtain⟨c8,N,ha8,Q,e82⟩:=gX (n:=n+3) S (k:=2+(k:Int)) (p:=8) (by lia) (by lia) (by lia);obtain⟨a7,ha7,e72⟩:=Ft (n:=n+3) c8 (p:=7) (by lia) (by lia);obtain⟨z,w,u,ez,mz,hz,ew,hwi,hwl⟩:∃(z w:Int)(u:List P),mi [.bl (decide (r.length=1))]=some (.int z)/\gC (N % 2) z=true/\N % 2 * z=w/\ja (.lst [.str x]) (.int w)=some (.lst u)/\(∀y ∈ u,j9 y)/\r.length * 2 ^ u.length≤2:=by
  have R:N % 2=0\/N % 2=1:=by lia
  by_cases h:r.length=1
  .have hm:gC (N % 2) 1=true:=bL (by lia) (by decide);rcases R with R|R
   .exact⟨1,0,[],by simp[h,mi,tJ],hm,by rw[R];simp,by simp,λ_ h=>(by cases h),by simp;lia⟩
   .exact⟨1,1,[.str x],by simp[h,mi,tJ],hm,by rw[R];simp,by simp,λy hy=>⟨x,hx,by simpa using hy⟩,by simp;lia⟩
  .exact⟨0,0,[],by simp[h,mi,tJ],bL (by lia) (by decide),by simp,by simp,λ_ h=>(by cases h),by simp;lia⟩
 have hwl2:u.length≤1:=by
  rcases z3 u.length 2 with h|h
  .lia
  .have h4:2 ^ 2≤2 ^ u.length:=jS (by decide) h;have:1 * 2 ^ u.length≤r.length * 2 ^ u.length:=Nat.mul_le_mul_right _ I;lia
 obtain⟨v,K,A,B,hsl,hst,hsn,es⟩:=H0 (n:=n) S k hk (I:=F) hro Z hc (by lia) hwi hr hrl (m:=(1+a7 % 2).toNat) (by lia) (qi (m:Int)) E (qr 0) (qi (H:Int)) d g l a e b t (.lst (s.map .p)::T);have W:=MC hc hcl;refine⟨.tup [.str F,.int (H:Int),.lst r,.lst cells,.lst u,.lst v],⟨F,H,r,cells,u,v,⟨hnm,by lia,hro,Z,by lia,hc,by lia,hwi,by lia,fun q=>by rw [q] at hsl;simp at hsl;lia,by lia,hst,uO.mpr fun i j hi hj hij q=>by
  have h1:=hsn i _ (bo hi);have h2:=hsn j _ (bo hj);rw[q,h2]at h1;have:=cm h1
  lia,by lia,?_,W⟩,rfl⟩,rfl,by simpa[cX] using V,qi (H:Int),ql cells,ql r,ql u,some (.ref (SO.lst (s.map .p)::T).length),K,A,B,T++[.fz (.lst v)],?_⟩
 .have:r.length * (g9 cells).length * 2 ^ u.length=r.length * 2 ^ u.length * (g9 cells).length:=by rw[Nat.mul_right_comm]
  rw[this];exact aA (mH hwl W) (by decide)
 have q2:(1+a7 % 2).natAbs < 1000000:=by lia
 have X:s.length≤1000000:=by lia
 unfold fG;rw [al (e:=PL S (qi (m:Int)) E (ql o) (qr 0) (qi (k:Int)) (qs F) (qi (H:Int)) q9 L G C d g l a e b t) (c:=.lst (s.map .p)::T) (by simp [PL,e0,ecr])];rw [al (e:=PL S (qi (m:Int)) E (ql o) (qr 0) (qi (k:Int)) (qs F) (qi (H:Int)) (ql cells) L G C d g l a e b t) (c:=.lst (s.map .p)::T) (by simp [PL,ec])];rw [al (e:=PL S (qi (m:Int)) E (ql o) (qr 0) (qi (k:Int)) (qs F) (qi (H:Int)) (ql cells) (ql r) G C d g l a e b t) (c:=.lst (s.map .p)::T) (by simp [PL,er])];rw [al (e:=PL S (qi (m:Int)) E (ql o) (qr 0) (qi (k:Int)) (qs F) (qi (H:Int)) (ql cells) (ql r) (ql u) C d g l a e b t) (c:=.lst (s.map .p)::T) (by
  have hdc:(decide ((r.length:Int)=1))=decide (r.length=1):=by by_cases h:r.length=1<;>simp[h]<;>lia
  simp[PL,ex,Q,e82,dt,dW,hdc,ez,mz,hz,-Dl,ew])]
 rw[al (e:=PL S (qi (m:Int)) E (ql o) (qr 0) (qi (k:Int)) (qs F) (qi (H:Int)) (ql cells) (ql r) (ql u) (some (.ref (SO.lst (s.map .p)::T).length)) d g l a e b t) (c:=(.lst (s.map .p)::T)++[.lst []]) (by simp[PL])];rw[al (e:=PL S (qi (m:Int)) E (ql o) (qr 0) (qi (k:Int)) (qs F) (qi (H:Int)) (ql cells) (ql r) (ql u) (some (.ref (SO.lst (s.map .p)::T).length)) K A B a e b t) (c:=(.lst (s.map .p)::T)++[.lst (v.map .p)]) (by rw[bS];rw[show jq (aX dD (aO (cD (Ph (n+5) "_law_mix") (v2 (cD (Ph (n+5) "_law_cell_at") (v2 cc (aX gy lE))) (vi 7))) gy)) (PL S (qi (m:Int)) E (ql o) (qr 0) (qi (k:Int)) (qs F) (qi (H:Int)) (ql cells) (ql r) (ql u) (some (.ref (SO.lst (s.map .p)::T).length)) d g l a e b t) ((.lst (s.map .p)::T)++[.lst []])=some (Ev.intsFrom 0 (1+a7 % 2).toNat,(.lst (s.map .p)::T)++[.lst []]) by simp[PL,Q,e72,q2]];exact es)]
 have hg:((.lst (s.map .p)::T)++[SO.lst (v.map .p)])[(SO.lst (s.map .p)::T).length]? = some (.lst (v.map .p)):=iw _ _;have ht:toP 9 (.ref (T.length+1)) (.lst (s.map .p)::(T++[SO.lst (v.map .p)]))=_:=f6 hg;have hs:(SO.lst (s.map .p)::(T++[SO.lst (v.map .p)])).set (T.length+1) (.fz (.lst v))=.lst (s.map .p)::(T++[.fz (.lst v)]):=by simp
 rw[hs]at ht;rw[<- d6];simp[PL,fO,ht,X]
noncomputable def qV(h a e x s n:Str)(w:P):P:=.tup [.str s,.int 1,.lst [.str x],.lst [.tup [.str h,.int 3,.int 3,.int 3],.tup [.str a,.int 0,.int 0,.int 0]],.lst [.str n],.lst [.tup [.str e,.str x,w,.non,.lst [],.lst [],.str x]]]
theorem Er(t:strOk e)(s:hd e=some 109)(v:strOk f)(n:hd f=some 110)(d:strOk b)(u:strOk a)(z:strOk g)(H:strOk p)(hw:w=.tup [.str "true"]\/w=.tup [.str "not",.tup [.str "true"]]):isFam o (qV e f b a g p w)/\wD (qV e f b a g p w):=by
 have j:∀{x:Str}{k:Nat},hd x=some k->k≠105->hd x≠some 105:=λh hk q=>by rw[h]at q;exact hk (cm q)
 refine⟨⟨g,1,[.str a],_,[.str p],_,⟨z,by lia,λy r=>⟨a,u,by simpa using r⟩,by simp,by simp,⟨λc l=>?_,109,λi c m=>?_⟩,by simp,λy r=>⟨p,H,by simpa using r⟩,by simp,by simp,by simp,λy r=>?_,by simp,by simp,by simp[g9,eT,pi],by simp[g9,eT,pi]⟩,rfl⟩,rfl,rfl,by simp[qV,g9,eT,pi]⟩
 .simp only[aL,cZ,cY]at l;rcases l with rfl|rfl
  .exact⟨e,3,3,3,t,by decide,by decide,by decide,⟨by decide,by decide,j s (by decide)⟩,rfl⟩
  .exact⟨f,0,0,0,v,by decide,by decide,by decide,⟨by decide,by decide,j n (by decide)⟩,rfl⟩
 .match i,m with
  |0,m=>cases m;exact s
  |1,m=>cases m;exact n
 .cases cz.mp r;refine⟨b,.str a,w,.non,[],[],.str a,d,⟨by simp,by simp,?_,.inl rfl,by simp,λ_ h=>(by cases h),λ_ h=>(by cases h),λ_ _ _ _ q=>(by cases q),by simp,λ_ h=>(by cases h)⟩,rfl⟩;rcases hw with rfl|rfl
  .exact .inl rfl
  .exact .inr (.inr (.inl ⟨_,.inr rfl,rfl⟩))
theorem Cu{n:Nat}(X:List Int){m:Nat}(hm:m=1\/m=2){o s:List P}(hf:∀f ∈ s,isFam o f)(hml:m≤s.length)(q3 q4 G M q8 q9 y z H K A q B C E:Option D)(T:Y){w:Nat}(hw:w≤6) :
  ∃(V:List P)(I N j:Option D),V.length=w/\(∀c ∈ V,yH c)/\bR (am 6) (fF (Ph (n+5))) (Ev.intsFrom 0 w) (PL X (qi (m:Int)) q3 q4 (qr 0) G M q8 q9 y z H K A q (qr (T.length+1)) B C E) (.lst (s.map .p)::(T++[.lst []]))
   = some (.nx,PL X (qi (m:Int)) q3 q4 (qr 0) I N q8 q9 y z H K A j (qr (T.length+1)) B C E,.lst (s.map .p)::(T++[.lst (V.map .p)])):=by
 let F:Option D->Option D->Option D->Lc:=λG M q=>PL X (qi (m:Int)) q3 q4 (qr 0) G M q8 q9 y z H K A q (qr (T.length+1)) B C E
 let Inv:Nat->Lc->Y->Prop:=λi L S=>∃(l:List P)(G M q:Option D),l.length=i/\(∀c ∈ l,yH c)/\L=F G M q/\S=.lst (s.map .p)::(T++[.lst (l.map .p)])
 obtain⟨L',S',e4,V,I,N,j,hsl,hst,rfl,rfl⟩:=cM (g:=am 6) (b:=fF (Ph (n+5))) (Inv:=Inv) (s:=Ev.intsFrom 0 w) (k:=0) (L:=F G M q) (S:=.lst (s.map .p)::(T++[.lst []])) (fun i v L S hv hI=>by
   obtain⟨rfl,hi⟩:=ints_get hv;obtain⟨l,G,M,q,hc1,ho,rfl,rfl⟩:=hI;simp only[cS];obtain⟨c,d,hd,e1,e2⟩:=gX (n:=n+3) X (k:=4) (p:=20+(i:Int)) (by lia) (by lia) (by lia);have hmp:0 < (m:Int):=by lia
   have hmn:0 < m:=by lia
   obtain⟨f,hfm,ef⟩:=mu (s:=s) (k:=d % (m:Int)) (gM _ (by lia)) (by have:=iW d hmp;lia);obtain⟨R,Z,r,cells,u,e,W,rfl⟩:=hf f hfm;obtain⟨st,hsm,est⟩:=ee W.s0 (d / 4);obtain⟨x,rm,wh,tk,chg,sn,rm2,hx,hys,rfl⟩:=W.hst st hsm;obtain⟨k,hk,ek⟩:=ri (a:="weak") (b:="strong") (d / 2);have hl:=len_pos W.s0;have Q:l.length≤1000000:=by lia
   have hg:(T++[SO.lst (l.map .p)])[T.length]? = some (.lst (l.map .p)):=iw _ _;refine⟨_,F (qi (i:Int)) (qt [.str R,.int (Z:Int),.lst r,.lst cells,.lst u,.lst e]) (qi d),.lst (s.map .p)::(T++[.lst ((l++[P.tup [.str k,.str R,.str x]]).map D.p)]),rfl,?_,_,_,_,_,by simp;lia,eY ho ⟨k,R,x,hk,W.hnm,hx,rfl⟩,rfl,rfl⟩;have ef2:L2.atI (s.map D.p) (d % (m:Int))=qt [.str R,.int (Z:Int),.lst r,.lst cells,.lst u,.lst e]:=by rw[qv,ef];rfl
   have e5:L2.atI [P.str R,.int (Z:Int),.lst r,.lst cells,.lst u,.lst e] 5=some (.lst e):=bu (by decide) rfl;rw[<- d6];simp[fF,F,PL,e1,e2,hmn,o5,ef2,ek,e5,dt,dW,hl,est,fO,Q]) ⟨[],_,_,_,rfl,λ_ h=>(by cases h),rfl,rfl⟩
 rw[cP]at hsl;exact⟨V,I,N,j,by lia,hst,e4⟩
theorem IA{n:Nat}(E:List Int):∃fams s N,Pln fams s N/\bD (Ph (n+6) "_law_plan") [fj E,.int 2]=some (.tup [.lst fams,.lst s,.lst N]):=by
 obtain⟨I,e0⟩:=Ch (n:=n+3) E (k:=0) (by lia);obtain⟨m,hm⟩:∃m:Nat,1+I % 2=(m:Int):=⟨(1+I % 2).toNat,by lia⟩;have hm2:m=1\/m=2:=by lia
 obtain⟨p,en,hnm,hnh,hnl⟩:=wT (n:=n+2) E 6 (PL E (qi (m:Int)) none none none none none none none none none none none none none none none none none) (by simp [PL]) rfl (by decide) (m:=m) (by lia) [];rw [cP] at hnl;obtain⟨s,⟨hrl,hr,hrd⟩,er⟩:=EG (n:=n+2) E hnm (fun i j x W X=>by
  obtain⟨a,rfl,ha⟩:=hnh i _ W;obtain⟨b,e,hb⟩:=hnh j _ X;cases e;rw[ha]at hb;have:=cm hb
  lia) (by lia)
 let F:Option D->Option D->Option D->Option D->Option D->Option D->Option D->Option D->Option D->Option D->Lc:=λq6 q7 Z q9 u H K A B C=>PL E (qi (m:Int)) (ql p) (ql s) (qr 0) q6 q7 Z q9 u H K A B C none none none none
 let Inv:Nat->Lc->Y->Prop:=λi L S=>∃(vs:List P)(T:Y)(q6 q7 Z q9 u H K A B C:Option D),vs.length=i/\(∀c ∈ vs,isFam s c/\cX c≤3-m)/\(∀j x,p[j]? = some x->j < i->∃f,vs[j]? = some f/\x=.str (ba f))/\L=F q6 q7 Z q9 u H K A B C/\S=.lst (vs.map .p)::T
 obtain⟨L',S',e1,base,T,q6,q7,Z,q9,u,H,K,A,B,C,hfl,hfa,hfn,rfl,rfl⟩:=cM (g:=bG [am 6,am 7]) (b:=fG (Ph (n+5))) (Inv:=Inv) (s:=cy 0 p) (k:=0) (L:=F none none none none none none none none none none) (S:=[.lst []]) (fun i v L S hv hI=>by
   obtain⟨x,hx1,rfl⟩:=kU hv;have hi:=bH hx1;obtain⟨nm,hnm1,rfl⟩:=hnm x (aY hx1);obtain⟨vs,T,q6,q7,Z,q9,u,H,K,A,B,C,hc,ho,hon,rfl,rfl⟩:=hI;obtain⟨f,hf1,hf2,hf3,q8',q9',q10',q11',q12',q13',q14',q15',T',ef⟩:=Gc (n:=n) E e0 (k:=i) (m:=m) (by lia) hm2 hnm1 (λr h=>(hr r h).1) hrl (s:=vs) (by lia) T (ql p) Z q9 u H K A B C none none none none;refine⟨F (qi (i:Int)) (qs nm) Z q9 u H K A B C,_,_,rfl,ef,vs++[f],T',_,_,_,_,_,_,_,_,_,_,by simp;lia,eY ho ⟨hf1,hf3⟩,λj x hj hji=>?_,rfl,rfl⟩;by_cases hjj:j < i
   .obtain⟨g,Q,e⟩:=hon j x hj (by lia);exact⟨g,by rw[cA (bH Q)];exact Q,e⟩
   .have:j=i:=by lia
    subst this;rw[hx1]at hj;cases hj;exact⟨f,by rw[b_ (by lia),hc];simp,by rw[hf2]⟩) ⟨[],[],none,none,none,none,none,none,none,none,none,none,rfl,λ_ h=>(by cases h),λ_ _ _ h=>(by lia),rfl,rfl⟩
 have hfm:base.length=m:=by rw[hfl,eF,hnl];lia
 obtain⟨G,q17,q18,q19,R,e2⟩:∃(G:List P) (q17 q18 q19:Option D),(G=[]\/∃z,G=[z]/\isFam s z/\wD z/\hd (ba z)=some 100)/\∀(q16:Option D) (T:Y),cV (bv (U (aO (aQ (cD (Ph (n+5) "_law_cell_at") (v2 cc eQ)) (vi 64)) sP)) (U dD)) (ai (aB 17 (U (a9 (v2 (aJ (v4 (cD (Ph (n+5) "_law_name") (v2 cc (vi 12))) io io io)) (aJ (v4 (cD (Ph (n+5) "_law_name") (v2 cc (vi 13))) eQ eQ eQ))))))
  (ai (aB 18 (U (ag (a9 (v2 (aJ (v1 (vt "true"))) (aJ (v2 (vt "not") (aJ (v1 (vt "true"))))))) (aO (aQ (cD (Ph (n+5) "_law_cell_at") (v2 cc eQ)) (vi 256)) gy))))
  (ai (aB 19 (U (aJ (v7 (cD (Ph (n+5) "_law_name") (v2 cc (vi 14))) (cD (Ph (n+5) "_law_name") (v2 cc (vi 15))) (vv 18) (vC (.non)) (a9 ar) (a9 ar) (cD (Ph (n+5) "_law_name") (v2 cc (vi 15)))))))
  (cE (bY (O 5) (U (aJ (v6 (cD (Ph (n+5) "_law_name") (v2 cc io)) dD (a9 (v1 (cD (Ph (n+5) "_law_name") (v2 cc (vi 15))))) (vv 17) (a9 (v1 (cD (Ph (n+5) "_law_name") (v2 cc (vi 9))))) (a9 (v1 (vv 19))))))))))) dU
   (PL E (qi (m:Int)) (ql p) (ql s) (qr 0) q6 q7 Z q9 u H K A B C q16 none none none) (.lst (base.map .p)::T)=some (.nx,PL E (qi (m:Int)) (ql p) (ql s) (qr 0) q6 q7 Z q9 u H K A B C q16 q17 q18 q19,.lst ((base++G).map .p)::T):=by
  by_cases h:I / 64 % 4=1
  .have V:∀k:Nat,k < 16->∃x:Str,strOk x/\hd x=some (97+k)/\bD (Ph (n+5) "_law_name") [fj E,.int (k:Int)]=some (.str x):=λk hk=>lu (n:=n+2) E hk;obtain⟨x12,o12,h12,e12⟩:=V 12 (by decide);obtain⟨x13,o13,h13,e13⟩:=V 13 (by decide);obtain⟨x14,o14,_,e14⟩:=V 14 (by decide);obtain⟨x15,o15,_,e15⟩:=V 15 (by decide);obtain⟨x3,o3,h3,e3⟩:=V 3 (by decide);obtain⟨x9,o9,_,e9⟩:=V 9 (by decide);obtain⟨wh,hwh,ewh⟩:=EZ (a:=.tup [.str "true"]) (b:=.tup [.str "not",.tup [.str "true"]]) (I / 256);obtain⟨s1,s2⟩:=Er (o:=s) o12 h12 o13 h13 o14 o15 o3 o9 hwh;simp only[show((12:Nat):Int)=12 from rfl,show((13:Nat):Int)=13 from rfl,show((14:Nat):Int)=14 from rfl,show((15:Nat):Int)=15 from rfl,show((3:Nat):Int)=3 from rfl,show((9:Nat):Int)=9 from rfl]at e12 e13 e14 e15 e3 e9;have hlen:base.length≤1000000:=by lia
   refine⟨[qV x12 x13 x14 x15 x3 x9 wh],ql [.tup [.str x12,.int 3,.int 3,.int 3],.tup [.str x13,.int 0,.int 0,.int 0]],qp wh,qt [.str x14,.str x15,wh,.non,.lst [],.lst [],.str x15],.inr ⟨_,rfl,s1,s2,h3⟩,λq16 T=>?_⟩;rw[<- d6];rw[vG (by simp[PL,e0,h])];rw[al (by simp[PL,e12,e13];exact⟨rfl,rfl⟩),al (by simp[PL,e0,ewh];exact⟨rfl,rfl⟩),al (by simp[PL,e14,e15];exact⟨rfl,rfl⟩)];simp[PL,e3,e15,e9,fO,hlen,qV]
  .exact⟨[],none,none,none,.inl rfl,λq16 T=>by simp[PL,e0,h]⟩
 have hfa2:∀f ∈ base++G,isFam s f:=λf w=>by
  rcases bN.mp w with w|w
  .exact (hfa f w).1
  .rcases R with rfl|⟨z,rfl,hz,_⟩
   .cases w
   .rw [cz.mp w];exact hz
 have hw6:(I / 20 % 3).toNat≤6:=by lia
 obtain⟨ws,q6',q7',q15',hwl,hwi,e3⟩:=Cu (n:=n) E hm2 hfa2 (by rw[a_];lia) (ql p) (ql s) q6 q7 Z q9 u H K A B C q17 q18 q19 T hw6;have M:∀x ∈ p,∃f ∈ base,x=.str (ba f):=λx hx=>by obtain⟨j,hj,e⟩:=i6.mp hx;obtain⟨f,w,e⟩:=hfn j x (by rw[bo hj,e]) (by rw[eF];lia);exact⟨f,aY w,e⟩
 have hfd:∀f ∈ base,∃a:Nat,base[a]? = some f/\hd (ba f)=some (97+a):=λf w=>by obtain⟨a,ha,e⟩:=i6.mp w;have W:=bo ha;rw[e]at W;have X:=bo (l:=p) (i:=a) (by lia);obtain⟨g,Q,e2⟩:=hfn a _ X (by rw[eF];lia);rw[W]at Q;cases Q;obtain⟨y,e3,hy⟩:=hnh a _ X;rw[e2]at e3;cases e3;exact⟨a,W,hy⟩
 have hne:∀f ∈ base,∀z ∈ G,ba z≠ba f:=λf w z hz q=>by
  obtain⟨a,W,X⟩:=hfd f w;rcases R with rfl|⟨z',rfl,_,_,hz'⟩
  .cases hz
  .rw [cz.mp hz]at q;rw[<- q,hz']at X;have:=cm X
   have:=bH W;lia
 have htl1:G.length≤1:=by rcases R with rfl|⟨z,rfl,_⟩<;>simp
 refine⟨base++G,s,ws,⟨hfa2,⟨3-m,λf w=>?_,?_⟩,by rw[a_];lia,λr h=>(hr r h).1,λr h=>⟨?_,?_⟩,hrl,hwi,by lia,hrd,λf w g Q q=>?_,base,G,rfl,?_,R.imp id λ⟨z,W,_,X,_⟩=>⟨z,W,X⟩,λr h z hz=>⟨λq=>?_,λq=>?_⟩⟩,?_⟩
 .rcases bN.mp w with w|w
  .exact (hfa f w).2
  .rcases R with rfl|⟨z,rfl,_,hz,_⟩
   .cases w
   .rw [cz.mp w,hz.1];lia
 .rw [a_,hfm];rcases hm2 with rfl|rfl<;>lia
 .obtain⟨f,w,e⟩:=M _ (hr r h).2.1;exact⟨f,i5 _ w,(P.str.inj e).symm⟩
 .obtain⟨f,w,e⟩:=M _ (hr r h).2.2;exact⟨f,i5 _ w,(P.str.inj e).symm⟩
 .rcases bN.mp w with w|w<;>rcases bN.mp Q with Q|Q
  .obtain⟨a,W,X⟩:=hfd f w;obtain⟨a',h3,h4⟩:=hfd g Q;rw[q,h4]at X;have:=cm X
   rw[show a=a' by lia,h3]at W;exact(cm W).symm
  .exact absurd q.symm (hne f w g Q)
  .exact absurd q (hne g Q f w)
  .rcases R with rfl|⟨z,rfl,_⟩
   .cases w
   .rw [cz.mp w,cz.mp Q]
 .rcases hm2 with rfl|rfl
  .obtain⟨f,rfl⟩:=Sm hfm;exact .inl ⟨f,rfl,(hfa f (by simp)).2⟩
  .obtain⟨f,g,rfl⟩:=P8 hfm;exact .inr ⟨f,g,rfl,(hfa f (by simp)).2,(hfa g (by simp)).2⟩
 .obtain⟨f,w,e⟩:=M _ (hr r h).2.1;exact hne f w z hz (q.trans (P.str.inj e))
 .obtain⟨f,w,e⟩:=M _ (hr r h).2.2;exact hne f w z hz (q.trans (P.str.inj e))
 have q3:m < 1000000:=by lia
 have q4:m≤1000000:=by lia
 have q5:(I / 20 % 3).natAbs < 1000000:=by lia
 rw [vQ,aK];show (if [fj E,P.int 2].length=2 then match kg (Ph (n+5)) (PL E none none none none none none none none none none none none none none none none none none) [] with
  |some (.rt d,_,S)=>(toP 9 d S).map (·.1)
  |some (.nx,_,_)=>some .non
  |_=>none else none)=_
 rw[af (show[fj E,P.int 2].length=2 from rfl)];unfold kg;simp only[F]at e1;rw[al (e:=PL E (qi (m:Int)) none none none none none none none none none none none none none none none none none) (c:=[]) (by simp[PL,e0,hm])];rw[al (e:=PL E (qi (m:Int)) (ql p) none none none none none none none none none none none none none none none none) (c:=[]) (by simp only[PL]at en;simp[PL,q3,q4,bK,cP,lG,en])];rw[al (e:=PL E (qi (m:Int)) (ql p) (ql s) none none none none none none none none none none none none none none none) (c:=[]) (by simp[PL,er])];rw[al (e:=PL E (qi (m:Int)) (ql p) (ql s) (qr 0) none none none none none none none none none none none none none none) (c:=[.lst []]) (by simp[PL])];rw[al (e:=_) (c:=_) (by rw[bS];rw[show lZ gA (PL E (qi (m:Int)) (ql p) (ql s) (qr 0) none none none none none none none none none none none none none none) [.lst []]=some (cy 0 p,[.lst []]) by simp[PL]];exact e1)];rw[al (e:=PL E (qi (m:Int)) (ql p) (ql s) (qr 0) q6 q7 Z q9 u H K A B C (qr (T.length+1)) none none none) (c:=.lst (base.map .p)::(T++[.lst []])) (by simp[PL])];rw[al (e2 _ _)];rw[al (e:=_) (c:=_) (by rw[bS];rw[show jq (aO (aQ (cD (Ph (n+5) "_law_cell_at") (v2 cc eQ)) (vi 20)) io) (PL E (qi (m:Int)) (ql p) (ql s) (qr 0) q6 q7 Z q9 u H K A B C (qr (T.length+1)) q17 q18 q19) (.lst ((base++G).map .p)::(T++[.lst []]))=some (Ev.intsFrom 0 (I / 20 % 3).toNat,.lst ((base++G).map .p)::(T++[.lst []])) by simp[PL,e0,q5]];exact e3)];have t0:toP 9 (.ref 0) (SO.lst ((base++G).map .p)::(T++[.lst (ws.map .p)]))=some (.lst (base++G),.fz (.lst (base++G))::(T++[.lst (ws.map .p)])):=f6 rfl;have t1:toP 9 (.ref (T.length+1)) (SO.fz (.lst (base++G))::(T++[.lst (ws.map .p)]))=some (.lst ws,.fz (.lst (base++G))::(T++[.fz (.lst ws)])):=by rw[f6 (T:=ws) (by simp)];simp
 generalize base++G=fams at t0 t1 ⊢;simp[PL,t0,t1]
end My
namespace My
open PySem L2 Ev
section
variable{m:List P}
def hw:Nat->List P->List (Nat×P)
 |_,[]=>[]
 |k,f::r=>List.replicate (cX f) (k,f)++hw (k+1) r
theorem isFam.crew(h:isFam m e):cX e≤4:=by obtain⟨n,c,r,a,w,s,f,rfl⟩:=h;simpa[cX] using f.hcr.2
theorem FY:∀{a:List P}(k:Nat),(∀f ∈ a,isFam m f)->(hw k a).length≤4 * a.length
 | [],k,_=>by simp[hw]
 |f::r,k,h=>by have:=FY (a:=r) (k+1) λx e=>h x (aH _ e);have c:=(h f aI).crew;simp[hw];lia
theorem oD:∀{a:List P}{k:Nat}{x:Nat×P},x ∈ hw k a->∃j,x.1=k+j/\a[j]? = some x.2
 | [],k,x,h=>by simp[hw]at h
 |f::r,k,x,h=>by
  unfold hw at h;rcases bN.mp h with h|h
  .obtain⟨_,rfl⟩:=mQ.mp h;exact⟨0,by simp,by simp⟩
  .obtain⟨j,s,e⟩:=oD h;exact⟨j+1,by lia,by simpa using e⟩
def homes(f:List P):List P:=(hw 0 f).map λx=>.int (x.1:Int)
def be(f:List P):List P:=(hw 0 f).map (·.2)
theorem iA(k:Nat):((k+1:Nat):Int)=(k:Int)+1:=by lia
theorem B9(y K:Str->GF)(S:Y)(l:P):∀(b:List P)(k:Nat)(n:List P)(g i:Option D),(∀f ∈ b,isFam m f)->n.length+4 * b.length≤1000 ->
  ∃q v,bR (bG [am 2,am 3]) (fJ y) (cy (k:Int) b) [qp l,qr S.length,g,i] (S++[.lst (n.map .p)])=some (.nx,[qp l,qr S.length,q,v],S++[.lst ((n++(hw k b).map λx=>P.int (x.1:Int)).map .p)])
 | [],k,n,g,i,_,_=>⟨g,i,by simp[cy,bR,hw]⟩
 |f::r,k,n,g,i,h,H=>by
  obtain⟨u,c,o,a,w,s,z,rfl⟩:=h f aI;have A:=z.hcr.2;simp only[aR]at H;obtain⟨q,v,e⟩:=B9 y K S l r (k+1) (n++List.replicate c (P.int (k:Int))) (qi (k:Int)) (qt [.str u,.int (c:Int),.lst o,.lst a,.lst w,.lst s]) (λx F=>h x (aH _ F)) (by simp;lia);refine⟨q,v,?_⟩;have j:(hw k (.tup [.str u,.int (c:Int),.lst o,.lst a,.lst w,.lst s]::r)).map (λx=>P.int (x.1:Int))=List.replicate c (P.int (k:Int))++(hw (k+1) r).map (λx=>P.int (x.1:Int)):=by simp[hw,cX]
  rw[j,<- fg];unfold cy;rw[iA]at e;refine(bP (h:=[qp l,qr S.length,qi (k:Int),qt [.str u,.int (c:Int),.lst o,.lst a,.lst w,.lst s]]) (L2:=[qp l,qr S.length,qi (k:Int),qt [.str u,.int (c:Int),.lst o,.lst a,.lst w,.lst s]]) (x:=S++[.lst ((n++List.replicate c (P.int (k:Int))).map .p)]) rfl ?_).trans e;have d:c≤1000000:=by lia
  have p:c < 1000000:=by lia
  have t:n.length+c≤1000000:=by lia
  simp[fJ,fO,d,p,t]
theorem Kc(h:∀f ∈ s,isFam m f)(l:s.length≤4)(r w:P)(S:Y):Ph (n+2) "families_of" [.p (.tup [.lst s,r,w])] S=some (.ref S.length,S++[.lst ((homes s).map .p)]):=by obtain⟨q,a,e⟩:=B9 (Ph (n+1)) (Ph n) S (.tup [.lst s,r,w]) s 0 [] none none h (by simp;lia);rw[pB];simp only[eD,eC]at e;have x:=e;rw[show((0:Nat):Int)=0 from rfl]at x;simp[l8,kA,x,homes]
theorem B8(h:∀f ∈ s,isFam m f)(l:s.length≤4)(r w:P):bD (Ph (n+2) "families_of") [.tup [.lst s,r,w]]=some (.lst (homes s)):=by unfold bD;rw[aC,eC,Kc (n:=n) h l r w []];simp
def a8(f:List P):LS:=(be f).map ba
theorem iL(h:∀f ∈ s,isFam m f)(a:f ∈ be s):isFam m f:=by unfold be at a;obtain⟨x,n,rfl⟩:=aZ.mp a;obtain⟨j,_,e⟩:=oD n;exact h _ (aY e)
noncomputable def eW(N:LS)(s:Str):List Nat:=(List.range N.length).filter λi=>decide (N[i]? = some s)
theorem Ca:∀(xs:List P)(k:Nat),cy (k:Int) xs=(Al k xs.length).map λi=>.tup [.int (i:Int),(xs[i-k]?).getD .non]
 | [],k=>rfl
 |x::r,k=>by
  unfold cy;have h:=Ca r (k+1);rw[iA]at h;rw[h,aR,uI,aC];simp only[Nat.sub_self];congr 1;refine Az λi a=>?_
  have:=(List.mem_range'_1.mp a).1;rw[show i-k=(i-(k+1))+1 by lia,AE]
theorem O_(xs:List P):cy 0 xs=(List.range xs.length).map λi=>.tup [.int (i:Int),(xs[i]?).getD .non]:=by have:=Ca xs 0;rw[List.range_eq_range'];simpa using this
noncomputable def pr(road:P)(n o:Nat):P:=.tup [road,.int (n:Int),.int (o:Int)]
def yu(N:LS)(road:P):List P:=(eW N (rA road)).flatMap λn=>((eW N (rB road)).filter λo=>!decide (n=o)).map λo=>pr road n o
def bO(N:LS)(r:List P):List P:=r.flatMap (yu N)
noncomputable def cL(s:List Nat):List P:=s.map λ(i:Nat)=>P.int (i:Int)
theorem iz(N:LS)(s:Str):(eW N s).length≤N.length:=by unfold eW;exact aA (gQ _ _) (by simp)
theorem Bw(n:Nat)(road:P)(os:List Nat):((os.filter λo=>!decide (n=o)).map λo=>pr road n o).length≤os.length:=by rw[aU];exact gQ _ _
theorem BI(N:LS)(road:P)(os:List Nat)(h:os.length≤16):∀(s:List Nat),(s.flatMap λn=>(os.filter λo=>!decide (n=o)).map λo=>pr road n o).length≤16 * s.length
 | []=>by simp
 |i::s=>by
  have:=BI N road os h s;have:=Bw i road os
  simp only[fX,a_,aR];lia
theorem B4:∀{a:List P}(k:Nat),(∀f ∈ a,cX f≤e)->(hw k a).length≤a.length * e
 | [],k,_=>by simp[hw]
 |f::r,k,h=>by have:=B4 (a:=r) (k+1) λx s=>h x (aH _ s);have c:=h f aI;simp[hw,Nat.add_mul];lia
theorem iy(h:Pln s y e):(be s).length≤4:=by
 obtain⟨c,x,a⟩:=h.cr;have:=B4 0 x
 unfold be;simp;lia
theorem oF(h:Pln s y e):(a8 s).length≤4:=by unfold a8;rw[aU];exact iy h
end
section
variable{m:List P}
theorem FZ(h:e ∈ homes s):∃p f,e=.int ((p:Nat):Int)/\s[p]? = some f/\f ∈ be s:=by unfold homes at h;obtain⟨x,a,rfl⟩:=aZ.mp h;obtain⟨j,n,k⟩:=oD a;exact⟨x.1,x.2,rfl,by rw[n,fU];exact k,aZ.mpr ⟨x,a,rfl⟩⟩
theorem C6(h:∀p x,s[p]? = some x->g (.int ((p:Nat):Int))=e x):(homes s).map g=(be s).map e:=by
 unfold homes be;rw[jV,jV];refine Az λx k=>?_
 obtain⟨j,a,n⟩:=oD k;exact h x.1 x.2 (by rw[a,fU];exact n)
theorem i'(xs:List e):xs.filter (λ_=>true)=xs:=jW.mpr λ_ _=>rfl
theorem oE:(homes s).length=(be s).length:=by simp[homes,be]
theorem bF(h:xs[e]? = some s):L2.atI xs ((e:Nat):Int)=some s:=bu (by lia) (by simpa using h)
theorem EX(q:∀f ∈ s,isFam m f)(r w:P)(S:Y):bZ (am 7) fQ (ag (ag (ag cc eQ) mX) eQ) (homes s) [qt [.lst s,r,w],none,none,none,none,none,none,none] S=some ((a8 s).map .str,S):=by
 rw[cj (p:=λ_=>true) (f:=λv=>match v with | .int i=>(match s[i.toNat]? with|some f=>.str (ba f)|none=>.non)|_=>.non) (Inv:=λL=>∃d,L=[qt [.lst s,r,w],none,none,none,none,none,none,d]) (λv g L b=>?_) ⟨none,rfl⟩]
 .rw [i',C6 (e:=λf=>.str (ba f)) λp x j=>by simp[j]];simp[a8]
 .obtain⟨d,rfl⟩:=b;obtain⟨p,f,rfl,n,h⟩:=FZ g;obtain⟨l,c,o,a,k,t,u,rfl⟩:=iL q h;have e:=bF n;exact⟨[qt [.lst s,r,w],none,none,none,none,none,none,qi (p:Int)],rfl,⟨_,rfl⟩,rfl,λ_=>by simp[e,n,ba]⟩
def oth(N:LS)(s:Str)(n:Nat):List Nat:=(eW N s).filter λo=>!decide (n=o)
theorem CS(N:LS)(a b:Str)(kd:P)(c:Int)(x s:Bool)(l r:D)(o:Nat)(q n:Option D)(S:Y):bZ (am 7) (iU (kq (O 7) Bm) (bv (U (ag ei mX)) (U (ag gA dD)))) mX (Ev.intsFrom 0 N.length)
  [some l,ql (N.map .str),some r,qt [.str a,.str b,kd,.int c,.bl x,.bl s],qi (o:Int),q,n,none] S=some (cL (oth N b o),S):=by
 rw[cj (p:=λv=>match v with | .int i=>(!decide (o=i.toNat)) && decide (N[i.toNat]? = some b)|_=>false) (f:=id) (Inv:=λL=>∃d,L=[some l,ql (N.map .str),some r,qt [.str a,.str b,kd,.int c,.bl x,.bl s],qi (o:Int),q,n,d]) (λv u L t=>?_) ⟨none,rfl⟩]
 .congr 2;unfold Ev.intsFrom cL oth eW;rw[uE,uB,List.filter_filter];simp only[cS];congr 1
 .obtain⟨d,rfl⟩:=t;obtain⟨i,rfl,w⟩:=g8 u;simp only[cS];have g:N[i]? = some N[i]:=bo w;have e:L2.atI (N.map P.str) (i:Int)=some (.str N[i]):=bF (by rw[b9,g];rfl);refine⟨[some l,ql (N.map .str),some r,qt [.str a,.str b,kd,.int c,.bl x,.bl s],qi (o:Int),q,n,qi (i:Int)],rfl,⟨_,rfl⟩,?_,λ_=>by simp⟩;by_cases h:o=i
  .simp [h]
  .have k:¬(i:Int)=(o:Int):=by lia
   have m:¬i=o:=λz=>h z.symm;simp[h,k,m,e,g];first|done|exact decide_eq_decide.mpr Iff.rfl
theorem Iv(road:P)(n:Nat)(L:Lc)(l:L.length=8)(g:L[3]? = some (qp road))(x:L[4]? = some (qi (n:Int)))(os:List Nat)(S:Y):bZ (am 7) fQ (aJ (v3 gA kG mX)) (cL os) L S=some (os.map λo=>pr road n o,S):=by
 rw[cj (p:=λ_=>true) (f:=λv=>.tup [road,.int (n:Int),v]) (Inv:=λh=>∃d,h=L.set 7 d) (λv b h a=>?_) ⟨L[7],(gR (by lia)).symm⟩]
 .rw [i'];unfold cL pr;rw[jV];rfl
 .obtain⟨d,rfl⟩:=a;have k:((L.set 7 d).set 7 (qp v))[7]? = some (qp v):=by rw[bA (by simp[l])]
  have e:((L.set 7 d).set 7 (qp v))[3]? = some (qp road):=by rw[aV (by decide),aV (by decide)];exact g
  have s:((L.set 7 d).set 7 (qp v))[4]? = some (qi (n:Int)):=by rw[aV (by decide),aV (by decide)];exact x
  exact⟨_,rfl,⟨_,cI ..⟩,rfl,λ_=>by simp[-cI,k,e,s]⟩
def oS(N:LS)(road:P)(n:Nat):List P:=if decide (N[n]? = some (rA road))=true then (oth N (rB road) n).map λo=>pr road n o else []
theorem CV(N:LS)(road:P)(o:Nat)(h:N.length≤16):(oS N road o).length≤16:=by
 unfold oS;split
 .have x:=Bw o road (eW N (rB road));have a:=iz N (rB road);unfold oth;lia
 .simp
theorem Rm(E M:Str->GF)(S:Y)(l:D)(N:LS)(y:N.length≤16)(v:isRoad road):∀(r:List Nat)(x:List P)(d w k:Option D),(∀i ∈ r,i < N.length)->x.length+16 * r.length≤50000 ->
  ∃q s n,bR (bG [am 4,am 5]) (fC E) (r.map λ(i:Nat)=>P.tup [.int (i:Int),((N.map P.str)[i]?).getD .non]) [some l,ql (N.map .str),qr S.length,qp road,d,w,k] (S++[.lst (x.map .p)]) =
   some (.nx,[some l,ql (N.map .str),qr S.length,qp road,q,s,n],S++[.lst ((x++r.flatMap (oS N road)).map .p)])
 | [],x,d,w,k,_,_=>⟨d,w,k,by simp[bR]⟩
 |i::r,x,d,w,k,F,T=>by
  simp only[aR]at T;have t:=CV N road i y;have K:=F i aI;have z:N[i]? = some N[i]:=bo K;have H:((N.map P.str)[i]?).getD .non=.str N[i]:=by rw[b9,z];rfl
  rw[fX,<- fg,aC,H];by_cases h:N[i]=rA road
  .have g:oS N road i=(oth N (rB road) i).map λo=>pr road i o:=by unfold oS;rw[z,h];simp
   rw[g]at t ⊢;obtain⟨q,s,n,e⟩:=Rm E M S l N y v r (x++(oth N (rB road) i).map λo=>pr road i o) (qi (i:Int)) (qs (N[i])) (ql (cL (oth N (rB road) i))) (λj A=>F j (aH _ A)) (by rw[a_];lia);refine⟨q,s,n,?_⟩;refine(bP (h:=[some l,ql (N.map .str),qr S.length,qp road,qi (i:Int),qs (N[i]),k]) rfl ?_).trans e;have p:x.length+(oth N (rB road) i).length≤1000000:=by rw[aU]at t;lia
   have f:(oth N (rB road) i).length≤1000000:=by lia
   have m:(cL (oth N (rB road) i)).length=(oth N (rB road) i).length:=by simp[cL]
   have V:N.length < 1000000:=by lia
   have C:N.length≤1000000:=by lia
   have u:=Iv road i [some l,ql (N.map .str),qr S.length,qp road,qi (i:Int),qs (N[i]),ql (cL (oth N (rB road) i)),none] rfl rfl rfl (oth N (rB road) i) (S++[.lst (x.map .p)]);obtain⟨a,b,kd,c,G,I,Q,R,B,_,_,rfl⟩:=v;have L:=CS N a b (.str kd) c G I l (.ref S.length) i (qs (N[i])) k (S++[.lst (x.map .p)]);simp only[rA,rB]at h p f m u ⊢;simp[fC,h,bK,dt,dW,V,C,cP,lG,fO,m,f,p];simp[h]at L u;simp[L,u,m,f,p]
  .have g:oS N road i=[]:=by unfold oS;rw[z];simp[h]
   rw[g,dJ];obtain⟨q,s,n,e⟩:=Rm E M S l N y v r x (qi (i:Int)) (qs (N[i])) k (λj A=>F j (aH _ A)) (by lia);refine⟨q,s,n,?_⟩;refine(bP (h:=[some l,ql (N.map .str),qr S.length,qp road,qi (i:Int),qs (N[i]),k]) rfl ?_).trans e;obtain⟨a,b,kd,c,G,I,Q,R,B,_,_,rfl⟩:=v;simp only[rA]at h;simp[fC,h]
end
section
variable{m:List P}
theorem kT(p:e->Bool)(f:e->List s):∀xs:List e,(xs.filter p).flatMap f=xs.flatMap λx=>if p x=true then f x else []
 | []=>rfl
 |x::r=>by
  by_cases h:p x=true
  .rw [p9 h,fX,fX,kT p f r,af h]
  .rw [p7 h,fX,kT p f r,ah h,eD]
theorem Lq(N:LS)(road:P):(List.range N.length).flatMap (oS N road)=yu N road:=by unfold yu;rw[show eW N (rA road)=(List.range N.length).filter (λi=>decide (N[i]? = some (rA road))) from rfl,kT];rfl
theorem oj(N:LS)(road:P)(h:N.length≤16):(yu N road).length≤256:=by
 have x:=iz N (rA road);have a:=iz N (rB road);have:=BI N road (eW N (rB road)) (by lia) (eW N (rA road))
 unfold yu;lia
theorem Sj(u l:Str->GF)(S:Y)(p:D)(N:LS)(d:N.length≤16):∀(o:List P)(a:List P)(t q e n:Option D),(∀r ∈ o,isRoad r)->a.length+256 * o.length≤10000 ->
  ∃w x s k,bR (am 3) (kz u) o [some p,ql (N.map .str),qr S.length,t,q,e,n] (S++[.lst (a.map .p)]) =
   some (.nx,[some p,ql (N.map .str),qr S.length,w,x,s,k],S++[.lst ((a++bO N o).map .p)])
 | [],a,t,q,e,n,_,_=>⟨t,q,e,n,by simp[bR,bO]⟩
 |road::o,a,t,q,e,n,j,H=>by simp only[aR]at H;obtain⟨x,s,k,v⟩:=Rm u l S p N d (j road aI) (List.range N.length) a q e n (λi z=>by simpa using z) (by simp;lia);have F:=oj N road d;obtain⟨f,b,c,m,y⟩:=Sj u l S p N d o (a++yu N road) (qp road) x s k (λr h=>j r (aH _ h)) (by rw[a_];lia);refine⟨f,b,c,m,?_⟩;rw[show bO N (road::o)=yu N road++bO N o by simp[bO],<- fg];refine(bP (h:=[some p,ql (N.map .str),qr S.length,qp road,q,e,n]) rfl ?_).trans y;rw[Lq]at v;have g:=O_ (N.map P.str);rw[aU]at g;rw[<- g]at v;show bS _ _ _ _ _=_;simp only[bS];rw[show lZ ei [some p,ql (N.map .str),qr S.length,qp road,q,e,n] (S++[.lst (a.map .p)])=some (cy 0 (N.map P.str),S++[.lst (a.map .p)]) by simp];exact v
theorem JP(h:Pln z s y)(S:Y):Ph (n+3) "pairs_of" [.p (.tup [.lst z,.lst s,.lst y])] S=some (.ref S.length,S++[.lst ((bO (a8 z) s).map .p)]):=by
 have:=h.rl;have x:=B8 (n:=n) h.hf h.f0.2 (.lst s) (.lst y);have a:=EX h.hf (.lst s) (.lst y) S;obtain⟨q,k,f,b,e⟩:=Sj (Ph (n+2)) (Ph (n+1)) S (.p (.tup [.lst z,.lst s,.lst y])) (a8 z) (aA (oF h) (by decide)) s [] none none none none h.hr (by simp;lia);have l:(homes z).length≤1000000:=by rw[oE];have:=iy h;lia
 rw[vO];simp only[eD,eC]at e;simp[l8,nJ,x,bK,l,lG,a,e]
theorem Ix(h:Pln y s e):bD (Ph (n+3) "pairs_of") [.tup [.lst y,.lst s,.lst e]]=some (.lst (bO (a8 y) s)):=by unfold bD;rw[aC,eC,JP (n:=n) h []];simp
def rR(v:P):P:=gc v 3
def iM(f:P):P:=.tup [.int 0,.tup ((mY (gc f 3)).map rR),.tup (List.replicate (mY (gc f 4)).length (.int (-1)))]
theorem Jj(n:∀c ∈ a,isCel c)(L:Lc)(j:Nat)(e:j < L.length)(S:Y):bZ (am j) fQ (ag (vv j) io) a L S=some (a.map rR,S):=by
 rw[cj (p:=λ_=>true) (f:=rR) (Inv:=λh=>∃d,h=L.set j d) (λv k h s=>?_) ⟨L[j],(gR e).symm⟩]
 .rw [i']
 .obtain⟨d,rfl⟩:=s;obtain⟨x,lo,i,t,b,_,_,_,_,rfl⟩:=n v k;have g:((L.set j d).set j (qt [.str x,.int lo,.int i,.int t]))[j]? = some (qt [.str x,.int lo,.int i,.int t]):=by
   rw[bA (by simpa using e)]
  exact⟨_,rfl,⟨_,cI ..⟩,rfl,λ_=>by simp[-cI,g,rR]⟩
theorem MN(a b c d e f:P):L2.atI [a,b,c,d,e,f] 3=some d:=bu (by decide) rfl
theorem R1(a b c d e f:P):L2.atI [a,b,c,d,e,f] 4=some e:=bu (by decide) rfl
theorem Cj(A I:Str->GF)(S:∀f ∈ s,isFam m f)(o i:P):∀(n:List (Nat×P))(h:List P)(g d u:Option D),(∀x ∈ n,s[x.1]? = some x.2)->h.length+n.length≤1000 ->
  ∃q b v,bR (am 2) (kl A) (n.map λx=>P.int (x.1:Int)) [qt [.lst s,o,i],qr 0,g,d,u] [.lst (h.map .p)] =
   some (.nx,[qt [.lst s,o,i],qr 0,q,b,v],[.lst ((h++n.map λx=>iM x.2).map .p)])
 | [],h,g,d,u,_,_=>⟨g,d,u,by simp[bR]⟩
 |x::n,h,g,d,u,K,E=>by
  simp only[aR]at E;obtain⟨p,f⟩:=x;have F:s[p]? = some f:=K (p,f) aI;obtain⟨H,c,r,a,w,t,k,rfl⟩:=S f (aY F);have C:=bF F;obtain⟨q,b,v,e⟩:=Cj A I S o i n (h++[iM (.tup [.str H,.int (c:Int),.lst r,.lst a,.lst w,.lst t])]) (qi (p:Int)) (ql a) (ql w) (λy G=>K y (aH _ G)) (by simp;lia);refine⟨q,b,v,?_⟩;rw[aC,aC,show h++iM (.tup [.str H,.int (c:Int),.lst r,.lst a,.lst w,.lst t])::n.map (λx=>iM x.2)=h++[iM (.tup [.str H,.int (c:Int),.lst r,.lst a,.lst w,.lst t])]++n.map (λx=>iM x.2) by simp];refine(bP (h:=[qt [.lst s,o,i],qr 0,qi (p:Int),d,u]) rfl ?_).trans e;have B:=Jj k.hce.1 [qt [.lst s,o,i],qr 0,qi (p:Int),ql a,ql w,none] 5 (by simp) [.lst (h.map .p)];have j:a.length≤1000000:=by have:=k.cl;lia
  have z:w.length≤1000000/\w.length < 1000000:=by have:=k.wl;lia
  have l:h.length≤1000000:=by lia
  rw[<- d6];simp[kl,C,MN,R1,bK,j,lG,B,fx,dt,dW,z,fO,l,iM]
theorem GL(h:Pln s y z):bD (Ph (n+4) "begin") [.tup [.lst s,.lst y,.lst z]]=some (.tup [.tup ((be s).map iM),.tup (List.replicate (bO (a8 s) y).length (.tup []))]):=by
 have b:=B8 (n:=n+1) h.hf h.f0.2 (.lst y) (.lst z);have a:=Ix (n:=n) h;have t:=FY 0 h.hf;have l:=h.f0.2;obtain⟨u,g,o,e⟩:=Cj (Ph (n+3)) (Ph (n+2)) h.hf (.lst y) (.lst z) (hw 0 s) [] none none none (λx v=>by obtain⟨j,a,c⟩:=oD v;rw[a,fU];exact c) (by simp;lia);have q:(bO (a8 s) y).length≤2048:=by
  have N:(a8 s).length≤16:=aA (oF h) (by decide);have f:∀m:List P,(bO (a8 s) m).length≤256 * m.length:=by
   intro m;induction m with
   |nil=>simp[bO]
   |cons r m w=>have:=oj (a8 s) r N;rw[show bO (a8 s) (r::m)=yu (a8 s) r++bO (a8 s) m by simp[bO],a_,aR];lia
  have:=f y;have:=h.rl
  lia
 have p:(bO (a8 s) y).length≤1000000:=by lia
 have k:(bO (a8 s) y).length < 1000000:=by lia
 rw[De,aK];simp only[eD,eC]at e;rw[show(hw 0 s).map (λx=>P.int (x.1:Int))=homes s from rfl,show(hw 0 s).map (λx=>iM x.2)=(be s).map iM by simp[be]]at e;have i:∀vs:List P,toP 9 (.ref 0) [.lst (vs.map .p)]=some (.lst vs,[.fz (.lst vs)]):=Ek;generalize (be s).map iM=d at e ⊢;simp[tS,b,a,e,fx,dt,dW,p,k]
end
def k6(S:Y)(j:Nat)(xs:List P):Prop:=S[j]? = some (.lst (xs.map .p))\/S[j]? = some (.fz (.lst xs))
variable{xs:List P}{c:List P}
theorem Fv(h:xs.map D.p=c.map D.p):xs=c:=(Aw (f:=D.p) λ_ _ h=>D.p.inj h).mp h
variable{S:Y}{j:Nat}
theorem k6.lt(h:k6 S j xs):j < S.length:=by rcases h with h|h<;>exact(bB.mp h).1
theorem k6.frz(h:k6 S j xs):toP 9 (.ref j) S=some (.lst xs,S.set j (.fz (.lst xs))):=by
 rcases h with h|h
 .exact f6 h
 .have:S.set j (.fz (.lst xs))=S:=by
   obtain⟨a,x⟩:=bB.mp h;rw[<- x,gR]
  rw[this];simp[toP,h]
variable{L:Lc}
theorem k6.ix(h:k6 S j xs){i:Int}(r:s L S=some (.ref j,S))(hk:k L S=some (.int i,S))(e:L2.atI xs i=some y):o5 s k L S=some (.p y,S):=by
 rw[o5,r,az,hk,az];rcases h with h|h
 .simp only[h];rw[qv,e];rfl
 .simp only[h];show(L2.atI xs i).map _=_;rw[e];rfl
theorem k6.len(h:k6 S j xs):dt (.ref j) S=some xs.length:=by rcases h with h|h<;>simp[dt,h,dW]
structure Fr(b:Nat)(S S':Y):Prop where
 len:S.length≤S'.length
 low:∀k o,k < b->S[k]? = some o->S'[k]? = some o\/∃xs,o=.lst (xs.map .p)/\S'[k]? = some (.fz (.lst xs))
 hi:∀k o,b≤k->S[k]? = some o->S'[k]? = some o
theorem Fr.refl(b:Nat)(S:Y):Fr b S S:=⟨ak _,λ_ _ _ h=>.inl h,λ_ _ _ h=>h⟩
variable{b:Nat}{x:Y}
theorem Fr.trans(h:Fr b S x)(g:Fr b x s):Fr b S s:=by
 refine⟨aA h.len g.len,λk o hk e=>?_,λk o hk e=>g.hi k o hk (h.hi k o hk e)⟩;rcases h.low k o hk e with a|⟨xs,rfl,a⟩
 .exact g.low k o hk a
 .rcases g.low k _ hk a with a|⟨c,q,_⟩
  .exact .inr ⟨xs,rfl,a⟩
  .cases q
theorem Fr.app(b:Nat)(S T:Y):Fr b S (S++T):=by
 have y:∀k o,S[k]? = some o->(S++T)[k]? = some o:=λk o e=>by rw[cA (bH e)];exact e
 exact⟨by simp,λk o _ e=>.inl (y k o e),λk o _ e=>y k o e⟩
variable{k:Nat}
theorem Fr.set(h:Fr b S x)(s:b≤S.length)(hk:S.length≤k)(o:SO):Fr b S (x.set k o):=by
 refine⟨by rw[dw];exact h.len,λj u a e=>?_,λj u a e=>?_⟩
 .rw [aV (by lia)];exact h.low j u a e
 .have:=bH e;rw[aV (by lia)];exact h.hi j u a e
theorem Fr.frz(x:j < b)(h:k6 S j xs):Fr b S (S.set j (.fz (.lst xs))):=by
 refine⟨by simp,λk o hk e=>?_,λk o hk e=>?_⟩
 .by_cases q:j=k
  .subst q;rw[bA h.lt];rcases h with h|h<;>(rw[h]at e;cases e)
   .exact .inr ⟨xs,rfl,rfl⟩
   .exact .inl rfl
  .rw [aV q];exact .inl e
 .rw [aV (by lia)];exact e
theorem Fr.trunc(h:Fr b S x):Fr b S (trunc S.length x):=by
 unfold Ev.trunc;split
 .refine⟨by rw[il];have:=h.len;lia,λk o hk e=>?_,λk o hk e=>?_⟩
  .rw [im (bH e)];exact h.low k o hk e
  .rw [im (bH e)];exact h.hi k o hk e
 .exact h
theorem k6.fr(h:Fr b S x)(g:k6 S j xs):k6 x j xs:=by
 by_cases a:j < b
 .rcases g with g|g
  .rcases h.low j _ a g with e|⟨c,q,e⟩
   .exact .inl e
   .have:xs=c:=Fv (SO.lst.inj q);subst this;exact .inr e
  .rcases h.low j _ a g with e|⟨c,q,e⟩
   .exact .inr e
   .cases q
 .rcases g with g|g
  .exact .inl (h.hi j _ (by lia) g)
  .exact .inr (h.hi j _ (by lia) g)
def sj(S x:Y)(d:D)(c:List P):Prop:=d=.p (.lst c)\/∃k,S.length≤k/\d=.ref k/\k6 x k c
variable{d:D}
theorem sj.toP(h:sj S x d c)(f:Fr b S x)(e:b≤S.length):∃a,toP 9 d x=some (.lst c,a)/\Fr b S a:=by
 rcases h with rfl|⟨k,hk,rfl,h⟩
 .exact⟨x,by simp,f⟩
 .exact⟨_,h.frz,f.set e hk _⟩
variable{g:GF}{q:sN}{l:List D}
theorem tH(s:q L S=some (l,S))(k:g l S=some (d,x))(r:Fr b S x)(n:b≤S.length)(h:sj S x d c):∃a,fI g q L S=some (.lst c,a)/\Fr b S a:=by obtain⟨m,e,f⟩:=h.toP r n;exact⟨_,by rw[fI,s,az,k,az,e,az],f.trunc⟩
theorem GB(a:q L S=some (l,S))(s:g l S=some (.p e,x))(f:Fr b S x):∃h,fI g q L S=some (e,h)/\Fr b S h:=
 ⟨_,by rw[fI,a,az,s,az];rfl,f.trunc⟩
structure BD where
 fams:List P
 roads:List P
 wishes:List P
 ks:List (List cg)
 vs:List D
abbrev BP(B:BD):Prop:=Pln B.fams B.roads B.wishes
def BD.N(B:BD):LS:=a8 B.fams
def BD.PR(B:BD):List P:=bO B.N B.roads
def fields:LS:=["families","homes","pairs","places","members"]
structure Bat(B:BD)(b i jh jp jl jm:Nat)(mk:List cg)(mv:List D)(S:Y):Prop where
 ins:S[i]? = some (.ins "Board" fields [.p (.lst B.fams),.ref jh,.ref jp,.ref jl,.ref jm])
 ho:k6 S jh (homes B.fams)
 pr:k6 S jp B.PR
 pl:S[jl]? = some (.dtt B.ks B.vs)
 me:S[jm]? = some (.dct mk mv)
 mm:∀s ∈ B.N,∃j,j < b/\b8 (.inr s) mk mv=qr j/\k6 S j (cL (eW B.N s))
 bi:i < b
 bh:jh < b
 bp:jp < b
 bl:jl < b
 bm:jm < b
 bs:b≤S.length
inductive Bd(B:BD)(b i:Nat)(S:Y):Prop
 |mk (jh jp jl jm:Nat) (mk:List cg) (mv:List D):Bat B b i jh jp jl jm mk mv S->Bd B b i S
theorem Bat.fr{B:BD}{b i p v r t:Nat}{w:List cg}{u:List D}{S x:Y}(h:Bat B b i p v r t w u S)(f:Fr b S x):Bat B b i p v r t w u x where
 ins:=by rcases f.low i _ h.bi h.ins with e|⟨_,q,_⟩;exact e;cases q
 ho:=h.ho.fr f
 pr:=h.pr.fr f
 pl:=by rcases f.low r _ h.bl h.pl with e|⟨_,q,_⟩;exact e;cases q
 me:=by rcases f.low t _ h.bm h.me with e|⟨_,q,_⟩;exact e;cases q
 mm:=λs c=>by obtain⟨j,a,n,k⟩:=h.mm s c;exact⟨j,a,n,k.fr f⟩
 bi:=h.bi
 bh:=h.bh
 bp:=h.bp
 bl:=h.bl
 bm:=h.bm
 bs:=aA h.bs f.len
theorem Bd.fr{B:BD}{b i:Nat}{S x:Y}(h:Bd B b i S)(f:Fr b S x):Bd B b i x:=by obtain⟨p,v,r,t,w,u,h⟩:=h;exact⟨p,v,r,t,w,u,h.fr f⟩
theorem Bd.le{B:BD}{b i:Nat}{S:Y}(h:Bd B b i S):b≤S.length:=by obtain⟨p,v,r,t,w,u,h⟩:=h;exact h.bs
section
variable{B:BD}{b i p v r t:Nat}{w:List cg}{u:List D}{S:Y}{L:Lc}{o:EE}
theorem Bat.fld(h:Bat B b i p v r t w u S)(ho:o L S=some (.ref i,S))(a:aT Att "Board" e=true)(f:i9 e fields [.p (.lst B.fams),.ref p,.ref v,.ref r,.ref t]=some d):d9 (aT Att) o e L S=some (d,S):=by rw[d9,ho,az];simp only[h.ins];rw[af a,f];rfl
end
theorem lI:aT Att "Board" "families"=true/\aT Att "Board" "homes"=true/\aT Att "Board" "pairs"=true/\aT Att "Board" "places"=true/\aT Att "Board" "members"=true:=by decide +kernel
theorem IU{a b c d e:D}:i9 "families" fields [a,b,c,d,e]=some a/\i9 "homes" fields [a,b,c,d,e]=some b/\i9 "pairs" fields [a,b,c,d,e]=some c/\i9 "places" fields [a,b,c,d,e]=some d/\i9 "members" fields [a,b,c,d,e]=some e:=by simp[fields,i9]
section
variable{B:BD}{b i p v r t:Nat}{w:List cg}{u:List D}{S:Y}(h:Bat B b i p v r t w u S){L:Lc}{o:EE}(ho:o L S=some (.ref i,S))
include h ho
theorem Bat.families:d9 (aT Att) o "families" L S=some (.p (.lst B.fams),S):=h.fld ho lI.1 IU.1
theorem Bat.homes:d9 (aT Att) o "homes" L S=some (.ref p,S):=h.fld ho lI.2.1 IU.2.1
theorem Bat.pairs:d9 (aT Att) o "pairs" L S=some (.ref v,S):=h.fld ho lI.2.2.1 IU.2.2.1
theorem Bat.places:d9 (aT Att) o "places" L S=some (.ref r,S):=h.fld ho lI.2.2.2.1 IU.2.2.2.1
theorem Bat.members:d9 (aT Att) o "members" L S=some (.ref t,S):=h.fld ho lI.2.2.2.2 IU.2.2.2.2
theorem Bat.meth(m:M "Board" e=some g)(n:fields.contains e=false)(a:q L S=some (l,S)):dC M o e q L S=g (.ref i::l) S:=by rw[dC,ho,az];simp only[h.ins,m,n,a,az];rfl
end
theorem jG(h:xs.length+c.length≤1000000):fN (.tup xs) (.tup c)=some (.tup (xs++c)):=by
 cases xs with
 |nil=>rfl
 |cons x r=>show(if (!(x::r).isEmpty && iO ((x::r).length+c.length))=true then some (P.tup ((x::r)++c)) else none)=_;rw[af (by rw[av,nC];exact⟨rfl,h⟩)]
theorem Gp(k:Nat):cut xs none (some (k:Int))=xs.take k:=by
 unfold cut;rw[HT.qZ,HT.BA,mM,uq];by_cases h:k≤xs.length
 .rw [z5 h]
 .rw [Ac (by lia),mP,AD (by lia)]
theorem Gr(k:Nat):cut xs (some (k:Int)) none=xs.drop k:=by
 unfold cut;rw[HT.qZ,HT.BA];by_cases h:k≤xs.length
 .rw [z5 h,AD (by simp)]
 .rw [Ac (by lia),pY,List.drop_of_length_le (by lia)];simp
theorem tD(k:Nat):cut xs (some ((k:Int)+1)) none=xs.drop (k+1):=Gr (k+1)
variable{n:Nat}
theorem rc(hk:k < xs.length)(l:xs.length≤900000)(v:P):bD (Ph (n+2) "replaced") [.tup xs,.int (k:Int),v]=some (.tup (xs.set k v)):=by have e:=jG (xs:=xs.take k) (c:=[v]) (by simp;lia);have h:=jG (xs:=xs.take k++[v]) (c:=xs.drop (k+1)) (by simp;lia);rw[vN,aK];simp[nI,Gp,tD,e,-fg];rw[h];simp[List.set_eq_take_append_cons_drop,hk]
theorem JK(h:xs.length≤900000):bD (Ph (n+2) "without") [.tup xs,.int (k:Int)]=some (.tup (xs.eraseIdx k)):=by have e:=jG (xs:=xs.take k) (c:=xs.drop (k+1)) (by simp;lia);rw[xm,aK];simp[pc,Gp,tD,e,List.eraseIdx_eq_take_drop_succ]
def FR(l:P):Prop:=∃m i,aG m=true/\i.natAbs≤999/\l=.tup [.str m,.int i]
theorem FR.ok(h:FR e):cK 1 e=true:=by obtain⟨m,i,x,_,rfl⟩:=h;simp[x]
def wj(A:P->Prop)(s:List P):Prop:=s.length≤1/\∀l ∈ s,FR l/\A l
noncomputable def O5(w:Str)(xs:List P)(k:Nat):List P:=if w="lose" then xs.eraseIdx k else xs.take (k+1)++xs.drop k
theorem O6{n:Nat}{w:Str}(hw:w="lose"\/w="double"){A:P->Prop}{xs:List P}{k:Nat}(x:wj A xs)(a:w="double"->xs.length≤0)(hk:k < xs.length):wj A (O5 w xs k)/\bD (Ph (n+3) "flawed") [.str w,.tup xs,.int (k:Int)]=some (.tup (O5 w xs k)):=by
 have:=x.1;unfold O5;rcases hw with rfl|rfl
 .refine⟨⟨aA (AG ..) this,λl h=>x.2 l (AH h)⟩,?_⟩;have e:=JK (n:=n) (xs:=xs) (k:=k) (by lia);rw[yV,aK];simp[se,e]
 .have s:=a rfl;lia
noncomputable def Jg(w:Str)(r:P)(xs:List P):Bool:=match r with
 | .tup [_,_,_,.int c,.bl d,.bl h]=>if w="lose" then d else h && decide ((xs.length:Int) < c)
 |_=>false
theorem OU{n:Nat}{w:Str}(hw:w="lose"\/w="double"){r:P}(p:isRoad r)(xs:List P):(w="double"->Jg w r xs=true->xs.length≤0)/\bD (Ph (n+2) "has_flaw") [r,.str w,.tup xs]=some (.bl (Jg w r xs)):=by
 obtain⟨a,b,kd,c,x,d,q,v,t,f,m,rfl⟩:=p;have e:L2.atI [P.str a,.str b,.str kd,.int c,.bl x,.bl d] 3=some (.int c):=bu (by decide) rfl;have s:L2.atI [P.str a,.str b,.str kd,.int c,.bl x,.bl d] 4=some (.bl x):=bu (by decide) rfl;have k:L2.atI [P.str a,.str b,.str kd,.int c,.bl x,.bl d] 5=some (.bl d):=bu (by decide) rfl;unfold Jg;rcases hw with rfl|rfl
 .refine⟨λh=>?_,?_⟩
  .have:¬("lose":Str)="double":=by decide +kernel
   exact absurd h this
  .rw [nA,aK];simp[kj,s]
 .dsimp only;rw[ah (by decide +kernel)];refine⟨λ_ h=>?_,?_⟩
  .have:=(av _ _ ▸ h).2;have:=aN this
   lia
  .rw [nA,aK];cases d<;>simp[kj,e,k,dt,dW]
theorem rK(h:∀y ∈ xs,cK 19 y=true)(x:s ∈ xs):∃i:Nat,i < xs.length/\l0 xs s=some i:=by
 unfold l0;have a:(xs.all (cK 19) && cK 19 s)=true:=by rw[av];exact⟨bb.mpr h,h s x⟩
 rw[af a];have m:pd s ∈ jy xs:=by
  clear a h;induction xs with
  |nil=>cases x
  |cons y r n=>
   rcases aL.mp x with rfl|x
   .exact aI
   .exact aH _ (n x)
 have e:dO (pd s) (pd s)=true:=uw _ (fq 20 s (dQ (h s x) (by lia))).1;cases q:(jy xs).findIdx? λz=>dO z (pd s) with
 |none=>have:=List.findIdx?_eq_none_iff.mp q (pd s) m;rw[e]at this;cases this
 |some i=>
  refine⟨i,?_,rfl⟩;have:=(AL.mp q).1
  rwa [vh]at this
def ON(n:Nat)(y:P):Prop:=∃i:Nat,i < n/\y=.int (i:Int)
theorem J2(n:Nat):intsFrom 0 n=cL (List.range n):=by unfold Ev.intsFrom cL;simp only[cS]
def Cz(k:Str)(xs:List P):List Nat:=(List.range xs.length).filter λi=>decide (k="row") ||decide (l0 xs (xs[i]?.getD .non)=some i)
theorem JL(k:Str)(m:wj A xs):bD (Ph (n+2) "unlike_spots") [.str k,.tup xs]=some (.lst (cL (Cz k xs))):=by
 have l:=m.1;have c:xs.length < 1000000:=by lia
 have s:xs.length≤1000000:=by lia
 by_cases hk:k="row"
 .have e:Cz k xs=List.range xs.length:=by unfold Cz;rw[jW.mpr λ_ _=>by simp[hk]]
  rw[e,<- J2,jD,aK];simp[gG,hk,dt,dW,c]
 .have e:bZ (am 3) (bv (U (yd ei (ag ei gA))) Ct) gA (intsFrom 0 xs.length) [qs k,qt xs,ql (intsFrom 0 xs.length),none] []=some (cL (Cz k xs),[]):=by
   rw[cj (p:=λv=>match v with | .int z=>decide (l0 xs (xs[z.toNat]?.getD .non)=some z.toNat)|_=>false) (f:=id) (Inv:=λL=>∃d,L=[qs k,qt xs,ql (intsFrom 0 xs.length),d]) (λv t L r=>?_) ⟨none,rfl⟩,uB]
   .rw [J2];unfold cL Cz;rw[uE];congr 3;refine List.filter_congr λi _=>?_;simp[hk]
   obtain⟨d,rfl⟩:=r;obtain⟨i,rfl,a⟩:=g8 t;simp only[cS];have g:xs[i]? = some xs[i]:=bo a;have b:=bF g;obtain⟨j,o,h⟩:=rK (xs:=xs) (s:=xs[i]) (λy w=>dQ (m.2 y w).1.ok (by lia)) (ik _);refine⟨[qs k,qt xs,ql (intsFrom 0 xs.length),qi (i:Int)],rfl,⟨_,rfl⟩,?_,λ_=>by simp⟩;by_cases q:j=i
   .rw [q]at h;simp[b,h,g]
   .have u:¬(j:Int)=(i:Int):=by lia
    simp[b,h,g,q,u]
  rw[jD,aK];simp[gG,hk,dt,dW,c,s,bK,cP,lG,e]
def k7(N:List P)(ks:List cg)(vs:List P):Prop:=∀x:Str,P.str x ∈ N->∃i:Int,i.natAbs≤999/\b8 (.inr x) ks vs=some (.int i)
section
variable{N:List P}{ks:List cg}{vs:List P}
theorem ib(k:Int):bD (Ph (n+2) "value_of") [oo k,.dct ks vs]=some (.int k):=by rw[gh,aK];simp[eG]
theorem i7{i:Int}(h:b8 (.inr e) ks vs=some (.int i)):bD (Ph (n+2) "value_of") [pj (.str e),.dct ks vs]=some (.int i):=by rw[gh,aK];simp[eG,h]
theorem yc{n:Nat}{a b:P}{i j:Int}(h:bD (Ph (n+2) "value_of") [a,.dct ks vs]=some (.int i))(x:bD (Ph (n+2) "value_of") [b,.dct ks vs]=some (.int j)):bD (Ph (n+3) "value_of") [.tup [.str "plus",a,b],.dct ks vs]=some (.int (i+j)):=by rw[gh,aK];simp[eG,h,x]
theorem lq{n:Nat}{a b:P}{i j:Int}(h:bD (Ph (n+2) "value_of") [a,.dct ks vs]=some (.int i))(x:bD (Ph (n+2) "value_of") [b,.dct ks vs]=some (.int j)):bD (Ph (n+3) "value_of") [.tup [.str "minus",a,b],.dct ks vs]=some (.int (i-j)):=by rw[gh,aK];simp[eG,h,x]
theorem uX{n:Nat}{a b:P}{i j:Int}(m:gC i j=true)(h:bD (Ph (n+2) "value_of") [a,.dct ks vs]=some (.int i))(x:bD (Ph (n+2) "value_of") [b,.dct ks vs]=some (.int j)):bD (Ph (n+3) "value_of") [.tup [.str "times",a,b],.dct ks vs]=some (.int (i * j)):=by rw[gh,aK];simp[eG,h,x,m]
theorem qN(s:∀x ∈ N,j9 x)(f:k7 N ks vs){t:P}(h:oZ N t){n:Nat}:∃r:Int,bD (Ph (n+4) "value_of") [t,.dct ks vs]=some (.int r):=by
 rcases h with ⟨k,rfl⟩|⟨y,a,h⟩
 .exact⟨k,ib k⟩
 obtain⟨x,_,rfl⟩:=s y a;obtain⟨i,m,e⟩:=f x a;rcases h with rfl|⟨k,rfl⟩|⟨k,j,b,c,rfl⟩|rfl
 .exact⟨i,i7 e⟩
 .exact⟨_,yc (i7 e) (ib k)⟩
 .exact⟨_,lq (uX (bL (i:=i) (j:=k) (by lia) (by lia)) (i7 e) (ib k)) (ib j)⟩
 .exact⟨_,lq (ib 1) (i7 e)⟩
theorem Cv{K:List cg}{V:List P}(f:∀x ∈ N,j9 x)(c:k7 N ks vs)(b:∀x:Str,P.str x ∈ N->b8 (.inr x) K V=b8 (.inr x) ks vs){t:P}(h:oZ N t):∃r:Int,(∀n,bD (Ph (n+4) "value_of") [t,.dct ks vs]=some (.int r))/\∀n,bD (Ph (n+4) "value_of") [t,.dct K V]=some (.int r):=by
 rcases h with ⟨k,rfl⟩|⟨y,s,h⟩
 .exact⟨k,λn=>ib k,λn=>ib k⟩
 obtain⟨x,_,rfl⟩:=f y s;obtain⟨i,v,a⟩:=c x s;have e:=(b x s).trans a;rcases h with rfl|⟨k,rfl⟩|⟨k,j,p,q,rfl⟩|rfl
 .exact⟨i,λn=>i7 a,λn=>i7 e⟩
 .exact⟨_,λn=>yc (i7 a) (ib k),λn=>yc (i7 e) (ib k)⟩
 .have m:=bL (i:=i) (j:=k) (by lia) (by lia);exact⟨_,λn=>lq (uX m (i7 a) (ib k)) (ib j),λn=>lq (uX m (i7 e) (ib k)) (ib j)⟩
 .exact⟨_,λn=>lq (ib 1) (i7 a),λn=>lq (ib 1) (i7 e)⟩
theorem Pt(w:Str)(i j:Int):∃b,∀h,bD (l8 3 3 (dg h)) [.str w,.int i,.int j]=some (.bl b):=by
 by_cases x:w="="
 .exact⟨decide (i=j),λh=>by rw[aK];simp[dg,x]⟩
 by_cases a:w="!="
 .exact⟨!decide (i=j),λh=>by rw[aK];simp[dg,x,eq_true a]⟩
 by_cases e:w="<"
 .exact⟨decide (i < j),λh=>by rw[aK];simp[dg,x,a,eq_true e]⟩
 by_cases s:w="<="
 .exact⟨decide (i≤j),λh=>by rw[aK];simp[dg,x,a,e,eq_true s]⟩
 by_cases n:w=">"
 .exact⟨decide (j < i),λh=>by rw[aK];simp[dg,x,a,e,s,eq_true n]⟩
 exact⟨decide (j≤i),λh=>by rw[aK];simp[dg,x,a,e,s,n]⟩
theorem MD(w:Str)(i j:Int):∃b,bD (Ph (n+2) "compared") [.str w,.int i,.int j]=some (.bl b):=by obtain⟨b,e⟩:=Pt w i j;exact⟨b,by rw[vU];exact e _⟩
theorem yQ:bD (Ph (n+2) "holds") [.tup [.str "true"],.dct ks vs]=some (.bl true):=by rw[jE,aK];simp[iB]
theorem OX{n:Nat}(w:Str){a b:P}{i j:Int}(h:bD (Ph (n+5) "value_of") [a,.dct ks vs]=some (.int i))(x:bD (Ph (n+5) "value_of") [b,.dct ks vs]=some (.int j)):∃r,bD (Ph (n+6) "holds") [.tup [.str "is",.str w,a,b],.dct ks vs]=some (.bl r):=by obtain⟨r,e⟩:=MD (n:=n+3) w i j;refine⟨r,?_⟩;rw[jE,aK];simp[iB,h,x,e]
theorem J_(h:bD (Ph (n+2) "holds") [e,.dct ks vs]=some (.bl s)):bD (Ph (n+3) "holds") [.tup [.str "not",e],.dct ks vs]=some (.bl !s):=by rw[jE,aK];simp[iB,h]
theorem OY{n:Nat}{a b:P}{r s:Bool}(h:bD (Ph (n+2) "holds") [a,.dct ks vs]=some (.bl r))(x:bD (Ph (n+2) "holds") [b,.dct ks vs]=some (.bl s)):bD (Ph (n+3) "holds") [.tup [.str "and",a,b],.dct ks vs]=some (.bl (r && s)):=by rw[jE,aK];cases r<;>simp[iB,h,x]
theorem RM{n:Nat}{a b:P}{r s:Bool}(h:bD (Ph (n+2) "holds") [a,.dct ks vs]=some (.bl r))(x:bD (Ph (n+2) "holds") [b,.dct ks vs]=some (.bl s)):bD (Ph (n+3) "holds") [.tup [.str "or",a,b],.dct ks vs]=some (.bl (r ||s)):=by rw[jE,aK];cases r<;>simp[iB,h,x]
theorem F0(k:∀x ∈ N,j9 x)(f:k7 N ks vs){t:P}(h:rJ N t){n:Nat}:∃r,bD (Ph (n+9) "holds") [t,.dct ks vs]=some (.bl r):=by
 have l:∀{t:P},j_ N t->∀{n:Nat},∃r,bD (Ph (n+6) "holds") [t,.dct ks vs]=some (.bl r):=λ{t} h {n}=>by obtain⟨w,y,s,b,v,_,rfl⟩:=h;obtain⟨x,_,rfl⟩:=k y b;obtain⟨i,_,a⟩:=f x b;obtain⟨j,q⟩:=qN k f v (n:=n+1);exact OX w (i7 a) q
 rcases h with rfl|h|⟨p,h,rfl⟩|⟨p,z,h,c,rfl⟩
 .exact⟨_,yQ⟩
 .exact l h
 .rcases h with h|rfl
  .obtain⟨r,e⟩:=l h (n:=n+2);exact⟨_,J_ e⟩
  .exact⟨_,J_ yQ⟩
 .obtain⟨r,e⟩:=l h (n:=n+2);obtain⟨x,_,rfl⟩:=k z c;obtain⟨i,_,a⟩:=f x c;obtain⟨s,m⟩:=OX (n:=n+1) (ks:=ks) (vs:=vs) "=" (ib 1) (i7 a);exact⟨_,RM e (OY (yQ) m)⟩
end
def cO(a:List P):List cg:=a.map λc=>.inr (ba c)
def OO(c:P):Prop:=∃i:Int,i.natAbs≤999/\c=.int i
def SH(a f:List P):Prop:=∀(i:Nat) c v,a[i]? = some c->f[i]? = some v->v ∈ pi c
def CellsOk(a f:List P):Prop:=f.length=a.length/\(∀c ∈ f,OO c)/\SH a f
variable{a:List P}
theorem kO(h:pe a):(cO a).Nodup:=by
 unfold cO;refine uO.mpr λi j e s k q=>?_
 rw[aU]at e s;rw[pZ,pZ]at q;obtain⟨_,o,h⟩:=h;have x:=h i _ (bo e);have n:=h j _ (bo s);rw[ij q,n]at x;simp at x;lia
theorem yF(a:List P):dL (oy a)=some (cO a):=by
 unfold oy cO;induction a with
 |nil=>rfl
 |cons c r i=>simp[dL,c_,i]
theorem BX:∀{a f:List P},(f.length=a.length/\∀c ∈ f,OO c)->k7 (oy a) (cO a) f
 | [],_,_=>λx h=>by cases h
 |c::r,[],h=>by have:=h.1;simp at this
 |c::r,d::s,h=>λx p=>by
  obtain⟨i,m,rfl⟩:=h.2 d aI;show ∃i:Int,_/\(if (Sum.inr (ba c):cg)=.inr x then some _ else b8 (.inr x) (cO r) s)=_;by_cases e:ba c=x
  .exact⟨i,m,by rw[af (by rw[e])]⟩
  .have n:P.str x ∈ oy r:=by
    rcases aL.mp p with q|q
    .exact absurd (P.str.inj q).symm e
    .exact q
   obtain⟨j,t,k⟩:=BX (a:=r) (f:=s) ⟨by have:=h.1;simpa using this,λc b=>h.2 c (aH _ b)⟩ x n;exact⟨j,t,by rw[ah λq=>e (ij q)];exact k⟩
variable{f:List P}
theorem vp(h:CellsOk a f):k7 (oy a) (cO a) f:=BX ⟨h.1,h.2.1⟩
theorem Bo(h:Fam m H y s a z e)(c:CellsOk a f)(S:Y) :
  Ph (n+2) "values_of" [.p (.tup [.str H,.int (y:Int),.lst s,.lst a,.lst z,.lst e]),.p (.tup f)] S=some (.ref S.length,S++[.dct (cO a) (f.map .p)]):=by
 have r:=h.cl;have q:a.length≤1000000:=by lia
 have x:(oy a).length≤1000000:=by simp[oy];lia
 have b:=oM h.hce.1 [qt [.str H,.int (y:Int),.lst s,.lst a,.lst z,.lst e],qt f,none] 2 (by simp) S;have hk:=kO h.hce;have k:(cO a).length=f.length:=by rw[c.1];simp[cO]
 have l:(cO a).length≤f.length:=uo k;have t:f.take (cO a).length=f:=by rw[k,mP]
 rw[sC];simp[l8,lQ,MN,bK,q,lG,b,yF,hk,x,l,t,uC];first|done|(rw[<- uC,t])
theorem Cw(x:Fam m H y s a z e)(h:CellsOk a f) :
  bD (Ph (n+2) "values_of") [.tup [.str H,.int (y:Int),.lst s,.lst a,.lst z,.lst e],.tup f]=some (.dct (cO a) f):=by
 unfold bD;rw[aC,aC,eC,Bo (n:=n) x h []];have:vo (toP 8) (f.map .p) [SO.dct (cO a) (f.map .p)]=some (f,[SO.dct (cO a) (f.map .p)]):=ni ..;simp[toP,this]
end My
namespace My
open PySem L2 Ev
theorem u_(h:f L S=some (.rt d,x,a)):ai f g L S=some (.rt d,x,a):=by rw[ai,h]
theorem CJ(h:wj A l):nE l=some (.lst l):=by
 have s:sortable l=true:=by refine bb.mpr λx a=>?_;obtain⟨m,i,_,_,rfl⟩:=(h.2 x a).1;rfl
 have e:=h.1;unfold nE qX;rw[af s,af (by lia)];rfl
theorem jH:i ∈ eW N s↔N[i]? = some s:=by
 unfold eW;rw[ff];constructor
 .exact λh=>aN h.2
 .exact λh=>⟨iZ.mpr (bH h),gO h⟩
variable{B:BD}
theorem sh(h:x ∈ B.PR):∃r ∈ B.roads,∃a b:Nat,x=pr r a b:=by unfold BD.PR bO at h;obtain⟨r,e,h⟩:=bX.mp h;unfold yu at h;obtain⟨a,_,h⟩:=bX.mp h;obtain⟨b,_,rfl⟩:=aZ.mp h;exact⟨r,e,a,b,rfl⟩
theorem PJ{B:BD}{r:P}{a b:Nat}(s:r ∈ B.roads)(x:B.N[a]? = some (rA r))(e:B.N[b]? = some (rB r))(h:a≠b):pr r a b ∈ B.PR:=by unfold BD.PR bO;refine bX.mpr ⟨r,s,?_⟩;unfold yu;refine bX.mpr ⟨a,jH.mpr x,aZ.mpr ⟨b,?_,rfl⟩⟩;rw[ff];exact⟨jH.mpr e,by simpa using h⟩
structure Places(B:BD):Prop where
 get:∀(r:P)(a b:Nat),pr r a b ∈ B.PR->∃d,cF [.inl (a:Int),.inl (b:Int)] B.ks B.vs=some d
 ok:∀(x y:Int)(d:D),cF [.inl x,.inl y] B.ks B.vs=some d->∃(k:Nat)(r:P)(a b:Nat),r ∈ B.roads/\d=.p (.int (k:Int))/\B.PR[k]? = some (pr r a b)/\x=(a:Int)/\y=(b:Int)
def L5(f:P):List P:=(mY (gc f 5)).flatMap λst=>(mY (gc st 5)).flatMap λs=>(g9 (mY (gc f 3))).map λc=>.tup [gc s 0,(bD (Ph 6 "value_of") [gc s 1,.dct (cO (mY (gc f 3))) c]).getD .non]
def LH(B:BD)(hd:Nat)(l:P):Prop:=∃f,(be B.fams)[hd]? = some f/\l ∈ L5 f
def LA(B:BD)(k:Nat)(l:P):Prop:=∃r a b,B.PR[k]? = some (pr r a b)/\LH B a l
def b0(B:BD)(rds:List P):Prop:=rds.length=B.PR.length/\∀(k:Nat) r,rds[k]? = some r->∃ls,wj (LA B k) ls/\r=.tup ls
theorem b0.at{B:BD}{r:List P}(h:b0 B r){k:Nat}{x:P}(hk:B.PR[k]? = some x):k < r.length/\∃l,wj (LA B k) l/\r[k]? = some (.tup l):=by
 have a:k < r.length:=by rw[h.1];exact bH hk
 obtain⟨l,e,s⟩:=h.2 k r[k] (bo a);exact⟨a,l,e,by rw[bo a,s]⟩
theorem b0.set(h:b0 B d)(k:Nat)(a:wj (LA B k) l):b0 B (d.set k (.tup l)):=by
 refine⟨by rw[dw];exact h.1,λj r x=>?_⟩;by_cases q:k=j
 .subst q;have hk:k < d.length:=by have:=bH x;rwa [dw]at this
  rw[bA hk]at x;cases x;exact⟨l,a,rfl⟩
 .rw [aV q]at x;exact h.2 j r x
theorem wf(h:BP B):B.PR.length≤2048:=by
 have N:B.N.length≤16:=aA (oF h) (by decide);have k:∀s:List P,(bO B.N s).length≤256 * s.length:=by
  intro s;induction s with
  |nil=>simp[bO]
  |cons r s i=>have:=oj B.N r N;rw[show bO B.N (r::s)=yu B.N r++bO B.N s by simp[bO],a_,aR];lia
 have:=k B.roads;have:=h.rl
 unfold BD.PR;lia
theorem OJ(h:Str->GF):mT Tb h "Board" "family_of"=some (h "Board.family_of"):=by kernel_rfl
theorem Sl(h:Str->GF):mT Tb h "Board" "hands_beside"=some (h "Board.hands_beside"):=by kernel_rfl
theorem O4:fields.contains "family_of"=false:=by decide +kernel
theorem Ss:fields.contains "hands_beside"=false:=by decide +kernel
theorem tt{a:List P}{h:Nat}{f:P}(s:(be a)[h]? = some f):∃p:Nat,(homes a)[h]? = some (.int (p:Int))/\a[p]? = some f:=by
 unfold be at s;unfold homes;rw[b9]at s ⊢;cases e:(hw 0 a)[h]? with
 |none=>rw[e]at s;cases s
 |some x=>rw[e]at s;cases s;obtain⟨j,n,k⟩:=oD (aY e);exact⟨x.1,rfl,by rw[n,fU];exact k⟩
theorem vJ{n:Nat}{B:BD}{b i:Nat}{S:Y}(h:Bd B b i S){k:Nat}{f:P}(c:(be B.fams)[k]? = some f):Ph (n+2) "Board.family_of" [.ref i,.p (.int (k:Int))] S=some (.p f,S):=by obtain⟨j,r,l,m,mk,v,h⟩:=h;obtain⟨p,e,x⟩:=tt c;have a:o5 (d9 (aT Att) fZ "homes") ei [qr i,qi (k:Int)] S=some (.p (.int (p:Int)),S):=h.ho.ix (h.homes rfl) rfl (bF e);have s:d9 (aT Att) fZ "families" [qr i,qi (k:Int)] S=some (.p (.lst B.fams),S):=h.families rfl;rw[ie];show fP (aS _ [qr i,qi (k:Int)] S)=_;rw[aS,o5,s,az,vE,a];simp[bF x]
theorem GJ{n:Nat}{B:BD}(P:BP B){b i:Nat}{S:Y}(h:Bd B b i S)(k:Nat){s:Str}(g:s ∈ B.N):∃a,Ph (n+2) "Board.hands_beside" [.ref i,.p (.int (k:Int)),.p (.str s)] S=some (.p (.lst (cL (oth B.N s k))),a)/\Fr b S a:=by
 obtain⟨K,E,A,C,mk,G,h⟩:=h;obtain⟨j,u,m,e⟩:=h.mm s g;refine⟨_,?_,Fr.frz u e⟩;have r:o5 (d9 (aT Att) fZ "members") gB [qr i,qi (k:Int),qs s] S=some (.ref j,S):=by rw[o5,h.members rfl];simp[h.me,c_,m]
 have l:(cL (eW B.N s)).length≤1000000:=by have:=iz B.N s;have:B.N.length≤4:=oF P;simp[cL];lia
 have t:bZ (am 3) (kq Ct kC) gA (cL (eW B.N s)) [qr i,qi (k:Int),qs s,none] (S.set j (.fz (.lst (cL (eW B.N s)))))=some (cL (oth B.N s k),S.set j (.fz (.lst (cL (eW B.N s))))):=by
  rw[cj (p:=λv=>match v with | .int x=>!decide (k=x.toNat)|_=>false) (f:=id) (Inv:=λL=>∃d,L=[qr i,qi (k:Int),qs s,d]) (λv c L w=>?_) ⟨none,rfl⟩]
  .congr 2;unfold cL oth;rw[uE,uB];rfl
  .obtain⟨d,rfl⟩:=w;unfold cL at c;obtain⟨o,F,rfl⟩:=aZ.mp c;refine⟨[qr i,qi (k:Int),qs s,qi (o:Int)],rfl,⟨_,rfl⟩,?_,λ_=>by simp⟩;by_cases q:k=o
   .simp [q]
   .have y:¬(o:Int)=(k:Int):=by lia
    have H:¬o=k:=λz=>q z.symm;simp[q,y,H]
 rw[j'];show fP (aS _ [qr i,qi (k:Int),qs s] S)=_;simp only[gw,aS,U,bK,gU,vE,r,az,e.frz];rw[af (by rw[rT];exact l)];rw[show lG [] 1 [some (D.ref i),qi (k:Int),qs s]=[qr i,qi (k:Int),qs s,none] from rfl,t];rfl
theorem lz[DecidableEq r](x:r)(y:D):∀(s:List r)(a:List D),s.Nodup->s.length=a.length->(dE x y s a).1.Nodup/\(dE x y s a).1.length=(dE x y s a).2.length/\(dE x y s a).1.length≤s.length+1/\(∀k ∈ (dE x y s a).1,k=x\/k ∈ s)/\∀k,cF k (dE x y s a).1 (dE x y s a).2=if x=k then some y else cF k s a
 | [],[],_,_=>⟨by simp[dE],rfl,by simp[dE],λk h=>.inl (by simpa[dE] using h),λk=>by by_cases q:x=k<;>simp[dE,cF,q]⟩
 | [],_::_,_,h=>by simp at h
 |_::_,[],_,h=>by simp at h
 |n::s,v::a,b,l=>by
  obtain⟨hk,b⟩:=bW.mp b;by_cases q:n=x
  .have e:dE x y (n::s) (v::a)=(n::s,y::a):=by simp[dE,q]
   rw[e];refine⟨bW.mpr ⟨hk,b⟩,by simpa using l,by simp,λk h=>.inr h,λk=>?_⟩;subst q;by_cases f:n=k<;>simp[cF,f]
  .obtain⟨t,p,w,c,d⟩:=lz x y s a b (by simpa using l);have e:dE x y (n::s) (v::a)=(n::(dE x y s a).1,v::(dE x y s a).2):=by simp[dE,q]
   rw[e];refine⟨bW.mpr ⟨λz=>?_,t⟩,by simp[p],by simp;lia,λk h=>?_,λk=>?_⟩
   .rcases c n z with z|z
    .exact q z
    .exact hk z
   .rcases aL.mp h with rfl|h
    .exact .inr aI
    .rcases c k h with h|h
     .exact .inl h
     .exact .inr (aH _ h)
   .show (if n=k then some v else cF k (dE x y s a).1 (dE x y s a).2)=_;by_cases f:n=k
    .subst f;have:¬x=n:=λz=>q z.symm
     simp[cF,this]
    .rw [ah f,d];by_cases m:x=k
     .simp [m]
     .simp [m,cF,f]
def nj(p:P):List cg:=[.inl (iv (gc p 1)),.inl (iv (gc p 2))]
noncomputable abbrev KV:=List (List cg)×List D
def putAll:Nat->List P->KV->KV
 |_,[],s=>s
 |k,p::r,s=>putAll (k+1) r (dE (nj p) (.p (.int (k:Int))) s.1 s.2)
structure KVok(s:KV):Prop where
 nd:s.1.Nodup
 ln:s.1.length=s.2.length
theorem KVok.put(h:KVok s)(k:List cg)(y:D):KVok (dE k y s.1 s.2):=by obtain⟨x,a,_⟩:=lz k y s.1 s.2 h.nd h.ln;exact⟨x,a⟩
set_option tactic.hygienic true in
theorem JR:∀(x:List P)(k:Nat)(s:KV),KVok s->∀y d,cF y (putAll k x s).1 (putAll k x s).2=some d->cF y s.1 s.2=some d\/∃(j:Nat)(p:P),x[j]? = some p/\d=.p (.int ((k+j:Nat):Int))/\nj p=y
 | [],k,s,h,y,d,e=>.inl e
 |p::r,k,s,h,y,d,e=>by
  rcases JR r (k+1) _ (h.put (nj p) (.p (.int (k:Int)))) y d e with e|⟨j,b,a,n,f⟩
  .rw [(lz (nj p) (.p (.int (k:Int))) s.1 s.2 h.nd h.ln).2.2.2.2]at e;split at e
   .rename_i hk;cases e;exact .inr ⟨0,p,rfl,rfl,hk⟩
   .exact .inl e
  .exact .inr ⟨j+1,b,by simpa using a,by rw[n,show k+1+j=k+(j+1) by lia],f⟩
theorem Fd:∀(x:List P)(k:Nat)(s:KV),KVok s->∀y,((∃d,cF y s.1 s.2=some d)\/∃p ∈ x,nj p=y)->∃d,cF y (putAll k x s).1 (putAll k x s).2=some d
 | [],k,s,h,y,q=>by
  rcases q with q|⟨_,z,_⟩
  .exact q
  .cases z
 |p::r,k,s,h,y,q=>by
  refine Fd r (k+1) _ (h.put (nj p) (.p (.int (k:Int)))) y ?_;have e:=(lz (nj p) (.p (.int (k:Int))) s.1 s.2 h.nd h.ln).2.2.2.2 y;by_cases w:nj p=y
  .exact .inl ⟨_,by rw[e,af w]⟩
  .rcases q with ⟨d,q⟩|⟨a,z,q⟩
   .exact .inl ⟨d,by rw[e,ah w];exact q⟩
   .rcases aL.mp z with rfl|z
    .exact absurd q w
    .exact .inr ⟨a,z,q⟩
def pq(f r w:List P):BD:=⟨f,r,w,(putAll 0 (bO (a8 f) r) ([],[])).1,(putAll 0 (bO (a8 f) r) ([],[])).2⟩
theorem RB:KVok ([],[]):=⟨by simp,rfl⟩
theorem lv(f o w:List P):Places (pq f o w) where
 get:=λr a b h=>Fd _ 0 _ RB _ (.inr ⟨_,h,rfl⟩)
 ok:=λx y d h=>by
  rcases JR _ 0 _ RB _ d h with e|⟨j,p,n,k,s⟩
  .cases e
  .obtain⟨r,c,a,b,rfl⟩:=sh (B:=pq f o w) (aY n);exact⟨j,r,a,b,c,by rw[k,fU],n,by simp[nj,pr]at s;exact⟨s.1.symm,s.2.symm⟩⟩
theorem Ki{K:Str->GF}(l:P)(a b c:D){i j:Nat}(m:i≠j):∀(t:List P)(k:Nat)(s:KV),KVok s->s.1.length+t.length≤900000->(∀p ∈ t,∃r x y,p=.tup [r,.int x,.int y])->∀(w u:Option D)(S:Y),S[i]? = some (.ins "Board" ["families","homes","pairs","places"] [a,b,c,.ref j])->S[j]? = some (.dtt s.1 s.2)->∃n f,
  bR (bG [am 2,am 3]) (gu K) (cy (k:Int) t) [qr i,qp l,w,u,none] S=some (.nx,[qr i,qp l,n,f,none],S.set j (.dtt (putAll k t s).1 (putAll k t s).2))
 | [],k,s,_,_,_,w,u,S,_,v=>⟨w,u,by show some (Fl.nx,_,S)=some (.nx,_,S.set j (.dtt s.1 s.2));obtain⟨h,e⟩:=bB.mp v;rw[<- e,gR]⟩
 |p::r,k,s,h,A,F,w,u,S,H,v=>by
  simp only[aR]at A;obtain⟨d,x,y,rfl⟩:=F p aI;have B:=(lz (nj (.tup [d,.int x,.int y])) (.p (.int (k:Int))) s.1 s.2 h.nd h.ln).2.2.1;obtain⟨n,f,e⟩:=Ki (K:=K) l a b c m r (k+1) _ (h.put (nj (.tup [d,.int x,.int y])) (.p (.int (k:Int)))) (by lia) (λp o=>F p (aH _ o)) (qi (k:Int)) (qt [d,.int x,.int y]) (S.set j (.dtt (dE (nj (.tup [d,.int x,.int y])) (.p (.int (k:Int))) s.1 s.2).1 (dE (nj (.tup [d,.int x,.int y])) (.p (.int (k:Int))) s.1 s.2).2)) (by rw[aV (λq=>m q.symm)];exact H) (bA (bH v));refine⟨n,f,?_⟩;unfold cy putAll;rw[iA,cI]at e;refine(bP (h:=[qr i,qp l,qi (k:Int),qt [d,.int x,.int y],none]) rfl ?_).trans e;have z:=h.nd;have g:s.1.length≤1000000:=by lia
  simp[gu,lI,i9,lY,dL,c_,z,g,nj,H,v]
structure GC(B:BD) where
 b:Nat
 i:Nat
 S0:Y
 r:Nat
 bd:Bd B b i S0
 hr:S0.length≤r
theorem GC.le(G:GC B):G.b≤G.S0.length:=G.bd.le
theorem l7{i:Type}{g:kD}{b:ES}{p:i->Lc->Prop}{Sp:i->Y->Prop}{r:i->Nat}{c M:Nat}{f:P->List P}:∀{s:List P},
  (∀x ∈ s,(f x).length≤c/\∀G L S a,p G L->Sp G S->S[r G]? = some (.lst (a.map .p))->a.length+c≤M->∃m L2 n,g x L=some m/\b m S=some (.nx,L2,n)/\p G L2/\Sp G n/\n[r G]? = some (.lst ((a++f x).map .p))) ->
  (s.flatMap f).length≤c * s.length/\∀G L S a,p G L->Sp G S->S[r G]? = some (.lst (a.map .p))->a.length+c * s.length≤M->∃k e,bR g b s L S=some (.nx,k,e)/\p G k/\Sp G e/\e[r G]? = some (.lst ((a++s.flatMap f).map .p))
 | [],_=>⟨by simp,λG L S a t d h _=>⟨L,S,rfl,t,d,by rw[List.flatMap_nil,dJ];exact h⟩⟩
 |x::s,j=>by
  obtain⟨D,H⟩:=j x aI;obtain⟨I,C⟩:=l7 (s:=s) λy B=>j y (aH _ B);have A:c * (x::s).length=c+c * s.length:=by rw[aR,z4,um]
  refine⟨by rw[A,fX,a_];lia,λG L S a t d h E=>?_⟩;obtain⟨m,L2,n,l,z,v,u,F⟩:=H G L S a t d h (by lia);obtain⟨k,e,o,q,w,K⟩:=C G L2 n (a++f x) v u F (by rw[a_];lia);exact⟨k,e,by rw[bP l z];exact o,q,w,by rw[fX,<- fg];exact K⟩
theorem d7{t:Type}{g:kD}{b:ES}{p:t->Lc->Prop}{Sp:t->Y->Prop}{r:t->Nat}{R:P->List P->Prop}{c M:Nat}{s:List P}
  (h:∀x ∈ s,∃y:List P,y.length≤c/\R x y/\∀G L S a,p G L->Sp G S->S[r G]? = some (.lst (a.map .p))->a.length+c≤M->∃v L2 k,g x L=some v/\b v S=some (.nx,L2,k)/\p G L2/\Sp G k/\k[r G]? = some (.lst ((a++y).map .p))) :
  ∃f:P->List P,(s.flatMap f).length≤c * s.length/\(∀x ∈ s,R x (f x))/\∀G L S a,p G L->Sp G S->S[r G]? = some (.lst (a.map .p))->a.length+c * s.length≤M->∃q n,bR g b s L S=some (.nx,q,n)/\p G q/\Sp G n/\n[r G]? = some (.lst ((a++s.flatMap f).map .p)):=by
 let f:P->List P:=λx=>@dite _ (x ∈ s) (Classical.propDecidable _) (λe=>Classical.choose (h x e)) λ_=>[]
 have d:∀x e,f x=Classical.choose (h x e):=λx e=>dif_pos e;have m:=λx e=>Classical.choose_spec (h x e);obtain⟨w,u⟩:=l7 (f:=f) λx e=>by rw[d x e];exact⟨(m x e).1,(m x e).2.2⟩
 exact⟨f,w,λx e=>by rw[d x e];exact(m x e).2.1,u⟩
theorem Cf(N:LS)(s:Str):(eW N s).Pairwise (·≠·):=(List.nodup_range (n:=N.length)).filter _
theorem kK{S:Y}{r:Nat}{o x:SO}(h:S[r]? = some o):(S.set r x)[r]? = some x:=by rw[bA (bH h)]
theorem nv{r:EE}{a:EV}{L:Lc}{S x:Y}{k:Nat}{c y:List P}(n:r L S=some (.ref k,S))(h:S[k]? = some (.lst (c.map .p)))(s:a L S=some (.lst y,x))(e:x[k]? = some (.lst (c.map .p)))(l:c.length+y.length≤1000000):cE (gj r a) L S=some (.nx,L,x.set k (.lst ((c++y).map .p))):=by rw[cE,gj,n,az];simp only[fO,h,s,az,e,aU];rw[af (by rw[nC];exact l),i4];rfl
theorem qw{r a:EE}{L:Lc}{S x:Y}{k:Nat}{c:List P}{y:P}(n:r L S=some (.ref k,S))(h:S[k]? = some (.lst (c.map .p)))(s:a L S=some (.p y,x))(e:x[k]? = some (.lst (c.map .p)))(l:c.length≤1000000):cE (bY r a) L S=some (.nx,L,x.set k (.lst ((c++[y]).map .p))):=by rw[cE,bY,n,az];simp only[fO,h,s,az,e];rw[af (by rw[rT,aU];exact l),i4];rfl
theorem Km{B:BD}(m:BP B){f:P}(n:f ∈ B.fams):ba f ∈ B.N:=by
 have p:1≤cX f:=by
  obtain⟨q,c,o,e,w,t,h,rfl⟩:=m.hf f n;have:=h.hcr.1
  simp[cX];lia
 have y:∀(a:List P)(k:Nat),f ∈ a->∃x ∈ hw k a,x.2=f:=by
  intro a;induction a with
  |nil=>intro k h;cases h
  |cons g r i=>
   intro k h;rcases aL.mp h with rfl|h
   .exact⟨(k,f),by unfold hw;exact i5 _ (mQ.mpr ⟨by lia,rfl⟩),rfl⟩
   .obtain⟨x,s,b⟩:=i (k+1) h;exact⟨x,by unfold hw;exact fh _ s,b⟩
 obtain⟨x,s,rfl⟩:=y B.fams 0 n;unfold BD.N a8 be;exact aZ.mpr ⟨x.2,aZ.mpr ⟨x,s,rfl⟩,rfl⟩
theorem R7{B:BD}{k:Nat}{f:P}(h:(be B.fams)[k]? = some f):B.N[k]? = some (ba f):=by unfold BD.N a8;rw[b9,h];rfl
inductive LetOk(B:BD)(rds:List P)(hd:Nat)(y:P):Prop
 |mk (s sp k:Nat) (ls:List P):y=.tup [.int (s:Int),.int (sp:Int)]->cF [.inl (s:Int),.inl (hd:Int)] B.ks B.vs=qi (k:Int)->k < rds.length->rds[k]? = some (.tup ls)->wj (LA B k) ls->sp < ls.length->LetOk B rds hd y
theorem K5{B:BD}(hP:BP B)(G:Places B){n:Nat}{e:List P}(hr:b0 B e){hd s:Nat}{d:D}(g:cF [.inl (s:Int),.inl (hd:Int)] B.ks B.vs=some d){w:Str}{u:List P} :
  ∃ys:List P,ys.length≤3/\(∀y ∈ ys,LetOk B e hd y)/\∀(b i:Nat)(S:Y)(r:Nat)(t:List P)(q6 Z K A:Option D),Bd B b i S->S[r]? = some (.lst (t.map .p))->t.length+3≤1000000 ->
   ∃X q7' q8' q9',fA (Ph (n+2)) [qr i,qt e,qi (hd:Int),qt (.str w::u),qr r,qi (s:Int),q6,Z,K,A] S=some (.nx,[qr i,qt e,qi (hd:Int),qt (.str w::u),qr r,qi (s:Int),X,q7',q8',q9'],S.set r (.lst ((t++ys).map .p))):=by
 obtain⟨k,road,a,b',N,rfl,hk,_,_⟩:=G.ok _ _ _ g;obtain⟨M,l,q,j⟩:=hr.at hk;obtain⟨ra,rb,kd,c,d1,d2,ha,hb,hkd,hc1,hc2,rfl⟩:=hP.hr road N;have h3:=q.1;have f:∃f:List P,f.length≤l.length/\(∀y ∈ f,ON l.length y)/\∀(L:Lc)(S:Y),L[7]? = some (qs kd)->L[8]? = some (qt l)->NJ (bv (O 7) (U (vt "row"))) (qP (NI (dP (O 8))) kr (jz dD)) (cD (Ph (n+2) "unlike_spots") (v2 mX uU)) L S=some (.lst f,S):=by
  have eu:=JL (n:=n) kd q;have R:(cL (Cz kd l)).length≤l.length:=by unfold cL Cz;rw[aU];exact aA (gQ ..) (by simp)
  have T:∀y ∈ cL (Cz kd l),ON l.length y:=λy F=>by obtain⟨i,I,rfl⟩:=aZ.mp F;exact⟨i,iZ.mp (ff.mp I).1,rfl⟩
  have hq:l.length < 1000000:=by lia
  by_cases o:kd="row"
  .refine⟨cut (intsFrom 0 l.length) none (some 1),by have:=(qo (t:=intsFrom 0 l.length) (lo:=none) (i:=some 1)).2;rwa [cP]at this,λy F=>?_,λL S C E=>?_⟩
   .obtain⟨i,rfl,I⟩:=g8 (qo.1 y F);exact⟨i,I,by simp⟩
   .simp [C,E,o,dt,dW,hq]
  .exact⟨_,R,T,λL S C E=>by simp[C,E,o,eu]⟩
 obtain⟨f,hs1,H,es⟩:=f;let p:P->Bool:=λv=>match v with | .int x=>decide (ba (l.getD x.toNat .non)=w)|_=>false
 refine⟨(f.filter p).map λv=>.tup [.int (s:Int),v],by rw[aU];exact aA (gQ ..) (by lia),λy F=>?_,λb i S r t q6 Z K A hB hS hM=>?_⟩
 .obtain⟨v,V,rfl⟩:=aZ.mp F;obtain⟨x,W,rfl⟩:=H v (ff.mp V).1;exact⟨s,x,k,l,rfl,g,M,j,q,W⟩
 .obtain⟨jh,jp,jl,jm,mk,mv,h⟩:=hB;have e2:bZ (am 10) (bv (U (ag (ag uU nX) eQ)) (U (ag gA eQ))) (aJ (v2 qe nX)) f [qr i,qt e,qi (hd:Int),qt (.str w::u),qr r,qi (s:Int),qi (k:Int),qs kd,qt l,ql f,none] S=some ((f.filter p).map λv=>.tup [.int (s:Int),v],S):=
   cj (Inv:=λL=>∃d,L=[qr i,qt e,qi (hd:Int),qt (.str w::u),qr r,qi (s:Int),qi (k:Int),qs kd,qt l,ql f,d]) (λv V L G=>by obtain⟨d,rfl⟩:=G;obtain⟨x,W,rfl⟩:=H v V;have g:l[x]? = some l[x]:=bo W;obtain⟨m,z,_,_,hz⟩:=(q.2 l[x] (ik _)).1;rw[hz]at g;refine⟨[qr i,qt e,qi (hd:Int),qt (.str w::u),qr r,qi (s:Int),qi (k:Int),qs kd,qt l,ql f,qi (x:Int)],rfl,⟨_,rfl⟩,?_,λ_=>by simp⟩;simp[bF g,p,g,ba]) ⟨none,rfl⟩
  refine⟨qi (k:Int),qs kd,qt l,ql f,?_⟩;have Q:f.length≤1000000:=by lia
  unfold fA;refine(al (e:=[qr i,qt e,qi (hd:Int),qt (.str w::u),qr r,qi (s:Int),qi (k:Int),Z,K,A]) (c:=S) ?_).trans ?_
  .rw [aB,xp,h.places rfl];simp[lY,h.pl,dL,c_,g]
  refine(al (e:=[qr i,qt e,qi (hd:Int),qt (.str w::u),qr r,qi (s:Int),qi (k:Int),qs kd,K,A]) (c:=S) ?_).trans ?_
  .rw [aB,o5,o5,h.pr.ix (h.pairs rfl) (i:=(k:Int)) rfl (bF hk)];simp[pr]
  rw[al (by simp[bF j];exact⟨rfl,rfl⟩)];refine(al (e:=[qr i,qt e,qi (hd:Int),qt (.str w::u),qr r,qi (s:Int),qi (k:Int),qs kd,qt l,ql f]) (c:=S) ?_).trans ?_
  .rw [aB,U,es _ S rfl rfl];rfl
  refine nv rfl hS ?_ hS (by rw[aU];have:=gQ p f;lia);simp only[bK,gU,vE];simp[Q,lG,e2]
theorem HV{B:BD}(H:BP B)(hL:Places B){n:Nat}{hd:Nat}{f:P}(hf:(be B.fams)[hd]? = some f){k A:List P}(hr:b0 B k){Q:P}(ht:j8 (ba f) B.roads A Q) :
  ∃v:List P,v.length≤12/\(∀y ∈ v,(Q=.non/\y=.non)\/(Q≠.non/\LetOk B k hd y))/\∀(b i:Nat)(S:Y),Bd B b i S->∃d j,Ph (n+4) "takeable" [.ref i,.p (.tup k),.p (.int (hd:Int)),.p Q] S=some (d,j)/\Fr b S j/\sj S j d v:=by
 rcases ht with rfl|⟨m,a,t,w,_,_,_,_,⟨r,F,hrb,rfl⟩,_,rfl⟩
 .refine⟨[.non],by simp,λy K=>.inl ⟨rfl,by simpa using K⟩,λb i S z=>⟨.p (.lst [.non]),S,?_,Fr.refl _ _,.inl rfl⟩⟩;rw[nw];simp[l8,kf,sv,dj]
 .have u:rA r ∈ B.N:=by
   obtain⟨⟨f',h1,X⟩,_⟩:=H.ra r F;rw[<- X];exact Km H h1
  obtain⟨f5,h1,X,h3⟩:=d7 (t:=GC B) (g:=am 5) (b:=fA (Ph (n+3))) (Sp:=λG S=>Fr G.b G.S0 S) (r:=λG=>G.r) (R:=λ_ v=>∀y ∈ v,LetOk B k hd y) (c:=3) (M:=1000) (s:=cL (oth B.N (rA r) hd))
   (p:=fun G L=>∃q5 D E I N,L=[qr G.i,qt k,qi (hd:Int),qt [.str m,.str (rA r),.str t,.str w],qr G.r,q5,D,E,I,N]) (fun x C=>by
    unfold cL at C;obtain⟨s,u,rfl⟩:=aZ.mp C;unfold oth at u;rw[ff]at u;have hsd:s≠hd:=λq=>by have:=u.2;simp[q]at this
    obtain⟨d,hg⟩:=hL.get r s hd (PJ F (jH.mp u.1) (by rw[R7 hf,hrb]) hsd);obtain⟨v,k1,k2,k3⟩:=K5 H hL (n:=n+1) hr hg (w:=m) (u:=[.str (rA r),.str t,.str w]);refine⟨v,k1,k2,λG L S T hL' hS h hM=>?_⟩;obtain⟨q5,D,E,I,N,rfl⟩:=hL';obtain⟨q6',q7',q8',q9',e⟩:=k3 G.b G.i S G.r T D E I N (G.bd.fr hS) h (by lia);exact⟨_,_,_,rfl,e,⟨_,_,_,_,_,rfl⟩,hS.set G.le G.hr _,kK h⟩)
  have hol:(cL (oth B.N (rA r) hd)).length≤4:=by
   have h4:B.N.length≤4:=oF H;have:=iz B.N (rA r)
   have:=gQ (λo=>!decide (hd=o)) (eW B.N (rA r));simp[cL,oth];lia
  refine⟨(cL (oth B.N (rA r) hd)).flatMap f5,by lia,λy K=>.inr ⟨λq=>(by cases q),by obtain⟨x,C,K⟩:=bX.mp K;exact X x C y K⟩,λb i S z=>?_⟩
  have p:=Fr.app b S [.lst []];obtain⟨S1,e1,l⟩:=GJ (n:=n+1) H (z.fr p) hd u;have V:=p.trans l;have hb:=z.le;obtain⟨L',j,e2,⟨q5,D,E,I,N,rfl⟩,W,hl⟩:=h3 ⟨b,i,S,S.length,z,ak _⟩ [qr i,qt k,qi (hd:Int),qt [.str m,.str (rA r),.str t,.str w],qr S.length,none,none,none,none,none] S1 [] ⟨_,_,_,_,_,rfl⟩ V (l.hi _ _ hb (iw _ _)) (by simp;lia);refine⟨.ref S.length,j,?_,W,.inr ⟨S.length,ak _,rfl,.inl hl⟩⟩;rw[nw];have Z:=z.fr p;obtain⟨jh,jp,jl,jm,mk,mv,hb2⟩:=Z;have em:dC (mT Tb (Ph (n+3))) fZ "hands_beside" (MW jZ (U (ag gA dD))) [qr i,qt k,qi (hd:Int),qt [.str m,.str (rA r),.str t,.str w],qr S.length,none,none,none,none,none] (S++[.lst []])=some (.p (.lst (cL (oth B.N (rA r) hd))),S1):=
   (hb2.meth rfl (Sl _) Ss (l:=[.p (.int (hd:Int)),.p (.str (rA r))]) (by simp)).trans e1
  simp[l8,kf,sv,dj,-dC,em,e2]
def isI(v:P):Prop:=∃j:Int,v=.int j
theorem isI.ok(h:isI v)(n:Nat):cK n v=true:=by obtain⟨j,rfl⟩:=h;simp
theorem Ls{B:BD}(hP:BP B)(hL:Places B){n:Nat}{r:List P}(N:b0 B r)(hd:Nat)(t v:Int){m:Str}(hm:aG m=true)(hA:LH B hd (.tup [.str m,.int v])) :
  ∃C:Option (List P),(∀g,C=some g->b0 B g)/\∀(b i:Nat)(S:Y)(s:P)(p e x:Option D),Bd B b i S->∃F K A,
   gY (Ph (n+2)) [qr i,qt r,qi (hd:Int),qp s,qt [.str m,.int v],qi t,p,e,x] S=match C with
    |none=>some (.rt (.p .non),[qr i,qt r,qi (hd:Int),qp s,qt [.str m,.int v],qi t,F,K,A],S)
    |some g=>some (.nx,[qr i,qt g,qi (hd:Int),qp s,qt [.str m,.int v],qi t,F,K,A],S):=by
 cases I:cF [.inl (hd:Int),.inl t] B.ks B.vs with
 |none=>
  refine⟨none,λ_ q=>(by cases q),λb i S s p e x f=>⟨qp .non,e,x,?_⟩⟩;obtain⟨R,W,T,V,mk,X,h⟩:=f;unfold gY;refine(al (e:=[qr i,qt r,qi (hd:Int),qp s,qt [.str m,.int v],qi t,qp .non,e,x]) (c:=S) ?_).trans (u_ ?_)
  .rw [aB,tu,h.places rfl];simp[lY,h.pl,dL,c_,I]
  .simp [sv,dj]
 |some d=>
  obtain⟨k,road,a,b',Q,rfl,hk,z,_⟩:=hL.ok _ _ _ I;have z:hd=a:=by lia
  obtain⟨L,y,o,j⟩:=N.at hk;obtain⟨ra,rb,kd,c,d1,d2,ha,hb,hkd,hc1,hc2,l⟩:=hP.hr road Q;have E:L2.atI [P.str ra,.str rb,.str kd,.int c,.bl d1,.bl d2] 3=some (.int c):=bu (by decide) rfl;have Z:∀(b i:Nat)(S:Y)(s:P)(p e x:Option D),Bd B b i S->aB 6 (tu (d9 (aT Att) fZ "places") (v2 gB qe)) [qr i,qt r,qi (hd:Int),qp s,qt [.str m,.int v],qi t,p,e,x] S=some (.nx,[qr i,qt r,qi (hd:Int),qp s,qt [.str m,.int v],qi t,qi (k:Int),e,x],S):=λb i S s p e x f=>by obtain⟨R,W,T,V,mk,X,h⟩:=f;rw[aB,tu,h.places rfl];simp[lY,h.pl,dL,c_,I]
  by_cases hv:v.natAbs≤999
  .have u:¬(999:Int) < (if v < 0 then -v else v):=by split<;>lia
   by_cases G:c≤(y.length:Int)
   .refine⟨none,λ_ q=>(by cases q),λb i S s p e x f=>⟨qi (k:Int),qp road,x,?_⟩⟩;refine(al (Z b i S s p e x f)).trans ((al (e:=[qr i,qt r,qi (hd:Int),qp s,qt [.str m,.int v],qi t,qi (k:Int),e,x]) (c:=S) ?_).trans ((al (e:=[qr i,qt r,qi (hd:Int),qp s,qt [.str m,.int v],qi t,qi (k:Int),qp road,x]) (c:=S) ?_).trans (u_ ?_)))
    .simp [sv,dj,pb,u]
    .obtain⟨R,W,T,V,mk,X,h⟩:=f;rw[aB,o5,h.pr.ix (h.pairs rfl) (i:=(k:Int)) rfl (bF hk)];simp[pr]
    .simp [l,bF j,dt,dW,E,G]
   .have M:(y++[P.tup [.str m,.int v]]).length≤1:=by rw[a_,p6];lia
    have H:wj (LA B k) (y++[P.tup [.str m,.int v]]):=⟨M,eY o.2 ⟨⟨m,v,hm,hv,rfl⟩,road,a,b',hk,z ▸ hA⟩⟩;have ea:=jG (xs:=y) (c:=[P.tup [.str m,.int v]]) (by have:=o.1;simp;lia);have ez:=CJ H;have hpl:=wf hP;have hrl:=N.1;have er:=λ(w:P)=>rc (n:=n) (xs:=r) (k:=k) L (by lia) w;refine⟨some (r.set k (.tup (y++[P.tup [.str m,.int v]]))),λ_ q=>by cases q;exact N.set k H,λb i S s p e x f=>⟨qi (k:Int),qp road,qt (y++[P.tup [.str m,.int v]]),?_⟩⟩;refine(al (Z b i S s p e x f)).trans ((al (e:=[qr i,qt r,qi (hd:Int),qp s,qt [.str m,.int v],qi t,qi (k:Int),e,x]) (c:=S) ?_).trans ((al (e:=[qr i,qt r,qi (hd:Int),qp s,qt [.str m,.int v],qi t,qi (k:Int),qp road,x]) (c:=S) ?_).trans ?_))
    .simp [sv,dj,pb,u]
    .obtain⟨R,W,T,V,mk,X,h⟩:=f;rw[aB,o5,h.pr.ix (h.pairs rfl) (i:=(k:Int)) rfl (bF hk)];simp[pr]
    by_cases hh:kd="heap"
    .simp [l,bF j,dt,dW,E,G,ea,hh,Ig,Ic,ez,fx,er]
    .simp [l,bF j,dt,dW,E,G,ea,hh,er]
  .have u:(999:Int) < (if v < 0 then -v else v):=by split<;>lia
   refine⟨none,λ_ q=>(by cases q),λb i S s p e x f=>⟨qi (k:Int),e,x,?_⟩⟩;refine(al (Z b i S s p e x f)).trans (u_ ?_);simp[sv,dj,pb,u]
theorem BK{B:BD}(F:BP B)(H:Places B){n:Nat}(hd:Nat)(v:Int){m:Str}(K:aG m=true)(A:LH B hd (.tup [.str m,.int v])):∀{l:List P},(∀t ∈ l,isI t)->∀{d:List P},b0 B d ->
  ∃r:Option (List P),(∀s,r=some s->b0 B s)/\∀(b i:Nat)(S:Y)(w:P)(u f c p:Option D),Bd B b i S->∃L z h a k,
   bR (am 5) (gY (Ph (n+2))) l [qr i,qt d,qi (hd:Int),qp w,qt [.str m,.int v],u,f,c,p] S=match r with
    |none=>some (.rt (.p .non),L,S)
    |some s=>some (.nx,[qr i,qt s,qi (hd:Int),qp w,qt [.str m,.int v],z,h,a,k],S)
 | [],_,d,y=>⟨some d,λ_ q=>by cases q;exact y,λb i S w u f c p _=>⟨[],u,f,c,p,rfl⟩⟩
 |t::l,C,d,y=>by
  obtain⟨j,rfl⟩:=C t aI;obtain⟨r,Q,o⟩:=Ls F H (n:=n) y hd j v K A;cases r with
  |none=>refine⟨none,λ_ q=>(by cases q),λb i S w u f c p g=>?_⟩;obtain⟨h,a,k,e⟩:=o b i S w f c p g;exact⟨_,u,f,c,p,xj rfl e⟩
  |some s=>obtain⟨r,T,V⟩:=BK F H (n:=n) hd v K A (l:=l) (λx R=>C x (aH _ R)) (Q s rfl);refine⟨r,T,λb i S w u f c p g=>?_⟩;obtain⟨h,a,k,e⟩:=o b i S w f c p g;obtain⟨L,E,G,I,M,N⟩:=V b i S w (qi j) h a k g;exact⟨L,E,G,I,M,by rw[<- N];exact bP rfl e⟩
theorem Iu{B:BD}(p:BP B)(c:Places B){n:Nat}(hd:Nat)(v:Int){m:Str}(q:aG m=true)(A:LH B hd (.tup [.str m,.int v])){s:List P}(u:∀t ∈ s,isI t){d:List P}(w:b0 B d) :
  ∃a:P,(a=.non\/∃r,b0 B r/\a=.tup r)/\∀(b i:Nat)(S:Y),Bd B b i S->Ph (n+3) "posted" [.ref i,.p (.tup d),.p (.int (hd:Int)),.p (.lst s),.p (.tup [.str m,.int v])] S=some (.p a,S):=by
 obtain⟨x,f,k⟩:=BK p c (n:=n) hd v q A u w;cases x with
 |none=>refine⟨.non,.inl rfl,λb i S h=>?_⟩;obtain⟨L,_,_,_,_,e⟩:=k b i S (.lst s) none none none none h;rw[rV];simp only[Ae]at e;simp[l8,mj,e]
 |some r=>refine⟨.tup r,.inr ⟨r,f r rfl,rfl⟩,λb i S h=>?_⟩;obtain⟨L,_,_,_,_,e⟩:=k b i S (.lst s) none none none none h;rw[rV];simp only[Ae]at e;simp[l8,mj,e]
end My
namespace My
open PySem L2 Ev
def J0(dl:Nat)(y:P):Prop:=∃s h,y=.tup [.tup s,.lst h]/\s.length=dl/\(∀a ∈ s,isI a)/\∀t ∈ h,isI t
noncomputable abbrev dM(E:Str)(C:Nat)(l u j H:List P):P:=.tup [.str E,.int (C:Int),.lst l,.lst u,.lst j,.lst H]
theorem Bx{s:List P}(h:∀x ∈ s,j9 x){x:Str}(a:P.str x ∈ s):∃i:Nat,i < s.length/\l0 s (.str x)=some i:=rK (λy e=>(h y e).ok 19) a
theorem tg_ok{B:BD}(q:BP B){n:Nat}{hd:Nat}{E:Str}{C:Nat}{l u j H:List P}(s:Fam B.roads E C l u j H)(a:(be B.fams)[hd]? = some (dM E C l u j H)){A:List P}(hw:A.length=j.length)(I:∀w ∈ A,isI w){c z:Str}
  (hc:(c="who"/\P.str z ∈ j)\/((c="all"\/c="any")/\∃r ∈ B.roads,rA r=E/\z=rB r)) :
  ∃(ys:List P)(dl:Nat),dl≤1/\ys.length≤4/\(∀y ∈ ys,J0 dl y)/\∀(b i:Nat)(S:Y),Bd B b i S->∃K,Ph (n+4) "targets_of" [.ref i,.p (.int (hd:Int)),.p (.str c),.p (.str z),.p (.tup A)] S=some (.p (.lst ys),K)/\Fr b S K:=by
 rcases hc with ⟨rfl,W⟩|⟨N,r,X,hra,rfl⟩
 .obtain⟨k,hk,ek⟩:=Bx s.hwh W;have hg:A[k]? = some (A[k]'(by lia)):=bo (by lia);generalize hv:A[k]'(by lia)=v at hg;have Z:isI v:=by rw[<- hv];exact I _ (ik _)
  refine⟨[.tup [.tup [],.lst [v]]],0,by simp,by simp,λy R=>⟨[],[v],by simpa using R,by simp,λ_ h=>(by cases h),λt T=>by rw[cz.mp T];exact Z⟩,λb i S m=>⟨S,?_,Fr.refl _ _⟩⟩;have ef:=vJ (n:=n+1) m a;obtain⟨jh,jp,jl,jm,mk,mv,h⟩:=m;have G:dC (mT Tb (Ph (n+3))) fZ "family_of" (Kz kC) [qr i,qi (hd:Int),qs "who",qs z,qt A,none] S=some (.p (dM E C l u j H),S):=
   (h.meth rfl (OJ _) O4 (l:=[.p (.int (hd:Int))]) (by simp)).trans ef
  rw[iN];simp[l8,gn,-dC,G,R1,ek,bF hg]
 .have hs:rB r ∈ B.N:=by
   obtain⟨_,⟨f',h1,h2⟩⟩:=q.ra r X;rw[<- h2];exact Km q h1
  have M:(cL (oth B.N (rB r) hd)).length≤4:=by
   have h4:B.N.length≤4:=oF q;have:=iz B.N (rB r)
   have:=gQ (λo=>!decide (hd=o)) (eW B.N (rB r));simp[cL,oth];lia
  have g:∀t ∈ cL (oth B.N (rB r) hd),isI t:=λt T=>by unfold cL at T;obtain⟨o,_,rfl⟩:=aZ.mp T;exact⟨_,rfl⟩
  have G:∀(b i:Nat)(S:Y),Bd B b i S->∃K,dC (mT Tb (Ph (n+3))) fZ "hands_beside" (MW kC Ct) [qr i,qi (hd:Int),qs c,qs (rB r),qt A,none] S=some (.p (.lst (cL (oth B.N (rB r) hd))),K)/\Fr b S K:=λb i S m=>by obtain⟨F,D,e⟩:=GJ (n:=n+1) q m hd hs;obtain⟨jh,jp,jl,jm,mk,mv,h⟩:=m;exact⟨F,(h.meth rfl (Sl _) Ss (l:=[.p (.int (hd:Int)),.p (.str (rB r))]) (by simp)).trans D,e⟩
  generalize cL (oth B.N (rB r) hd)=os at M g G;rcases N with rfl|rfl
  .refine⟨[.tup [.tup [],.lst os]],0,by simp,by simp,λy R=>⟨[],os,by simpa using R,by simp,λ_ h=>(by cases h),g⟩,λb i S m=>?_⟩;obtain⟨F,D,e⟩:=G b i S m;refine⟨F,?_,e⟩;rw[iN];simp[l8,gn,-dC,D]
  .refine⟨os.map λo=>.tup [.tup [o],.lst [o]],1,by simp,by simpa using M,λy R=>?_,λb i S m=>?_⟩
   .obtain⟨o,ho,rfl⟩:=aZ.mp R;exact⟨[o],[o],rfl,by simp,λx V=>by rw[cz.mp V];exact g o ho,λx V=>by rw[cz.mp V];exact g o ho⟩
   .obtain⟨F,D,e⟩:=G b i S m;refine⟨F,?_,e⟩;have e2:bZ (am 6) fQ (aJ (v2 (aJ (v1 lE)) (a9 (v1 lE)))) os [qr i,qi (hd:Int),qs "any",qs (rB r),qt A,ql os,none] F=some (os.map λo=>.tup [.tup [o],.lst [o]],F):=by
     rw[cj (p:=λ_=>true) (f:=λo=>.tup [.tup [o],.lst [o]]) (Inv:=λL=>∃d,L=[qr i,qi (hd:Int),qs "any",qs (rB r),qt A,ql os,d]) (λv hv L Q=>?_) ⟨none,rfl⟩,i'];obtain⟨d,rfl⟩:=Q;exact⟨[qr i,qi (hd:Int),qs "any",qs (rB r),qt A,ql os,qp v],rfl,⟨_,rfl⟩,rfl,λ_=>by simp⟩
    have hq:os.length≤1000000:=by lia
    rw[iN];simp[l8,gn,-dC,D,bK,hq,lG,e2]
def OM(y:P):Prop:=∃s p:Nat,y=.tup [.int (s:Int),.int (p:Int)]
theorem NF{n:Nat}{r:List P}{E:Str}{C:Nat}{l u j H:List P}(s:Fam r E C l u j H){A:List P}(hw:A.length=j.length){Q:P->Prop}(I:∀w ∈ A,Q w){t y:P}(g:j8 E r j t)(S:(t=.non/\y=.non)\/(t≠.non/\∃x p:Nat,y=.tup [.int (x:Int),.int (p:Int)]/\Q (.int (x:Int)))) :
  ∃e,e.length=j.length/\(∀w ∈ e,Q w)/\bD (Ph (n+3) "whos_behind") [dM E C l u j H,.tup A,t,y]=some (.tup e):=by
 rcases g with rfl|⟨m,a,i,b,_,_,_,_,_,o,rfl⟩
 .refine⟨A,hw,I,?_⟩;rw[hX,aK];simp[fy,sv,dj]
 .obtain⟨x,p,rfl,d⟩:∃x p:Nat,y=.tup [.int (x:Int),.int (p:Int)]/\Q (.int (x:Int)):=by
   rcases S with ⟨q,_⟩|⟨_,q⟩
   .cases q
   .exact q
  by_cases f:b=""
  .refine⟨A,hw,I,?_⟩;rw[hX,aK];simp[fy,sv,dj,f]
  .obtain⟨k,hk,c⟩:=Bx s.hwh (o.resolve_left f);have z:=s.wl;have v:=rc (n:=n) (xs:=A) (k:=k) (by lia) (by lia) (.int (x:Int));refine⟨A.set k (.int (x:Int)),by rw[dw];exact hw,λw h=>?_,?_⟩
   .rcases List.mem_or_eq_of_mem_set h with h|rfl
    .exact I w h
    .exact d
   .rw [hX,aK];simp[fy,sv,dj,f,R1,c,v]
theorem vX(x:cg)(y:P):∀(n:List cg)(c:List P),n.Nodup->n.length=c.length->∃s a,rY x (.p y) n (c.map .p)=(s,a.map .p)/\s.Nodup/\s.length=a.length/\s.length≤n.length+1/\(∀k ∈ s,k=x\/k ∈ n)/\∀k,b8 k s a=if x=k then some y else b8 k n c
 | [],[],_,_=>⟨[x],[y],rfl,by simp,rfl,by simp,λk h=>.inl (by simpa using h),λk=>by by_cases q:x=k<;>simp[b8,q]⟩
 | [],_::_,_,h=>by simp at h
 |_::_,[],_,h=>by simp at h
 |f::n,v::c,m,l=>by
  obtain⟨hk,m⟩:=bW.mp m;by_cases q:f=x
  .refine⟨f::n,y::c,by simp[rY,q],bW.mpr ⟨hk,m⟩,by simpa using l,by simp,λk h=>.inr h,λk=>?_⟩;subst q;by_cases b:f=k
   .simp [b8,b]
   .simp [b8,b]
  .obtain⟨s,a,e,p,d,u,r,w⟩:=vX x y n c m (by simpa using l);refine⟨f::s,v::a,by simp[rY,q,e],bW.mpr ⟨λz=>?_,p⟩,by simp[d],by simp;lia,λk h=>?_,λk=>?_⟩
   .rcases r f z with z|z
    .exact q z
    .exact hk z
   .rcases aL.mp h with rfl|h
    .exact .inr aI
    .rcases r k h with h|h
     .exact .inl h
     .exact .inr (aH _ h)
   .show (if f=k then some v else b8 k s a)=_;by_cases b:f=k
    .subst b;have:¬x=f:=λz=>q z.symm
     simp[b8,this]
    .rw [ah b,w];by_cases t:x=k
     .simp [t]
     .simp [t,b8,b]
structure Giv(gk:List cg)(gv:List P):Prop where
 nd:gk.Nodup
 ln:gk.length=gv.length
 le:gk.length≤100
 iv:∀k v,b8 k gk gv=some v->isI v
theorem Giv.put(h:Giv b c)(l:b.length≤99)(y:cg)(i:Int):∃g x,rY y (.p (.int i)) b (c.map .p)=(g,x.map .p)/\Giv g x/\g.length≤b.length+1:=by
 obtain⟨s,n,e,f,m,r,p,t⟩:=vX y (.int i) b c h.nd h.ln;refine⟨s,n,e,⟨f,m,by lia,λk v a=>?_⟩,r⟩;rw[t]at a;split at a
 .cases a;exact⟨_,rfl⟩
 .exact h.iv k v a
theorem BE{o:EE}{k v:EV}{L:Lc}{S s:Y}{j:Nat}{n:List cg}{f:List P}{x:Str}{i:Int}(h:Giv n f)(l:n.length≤99)(p:v L S=some (.int i,s))(t:o L s=some (.ref j,s))(hk:k L s=some (.str x,s))(r:s[j]? = some (.dct n (f.map .p))):∃g a,Giv g a/\g.length≤n.length+1/\jw o k v L S=some (.nx,L,s.set j (.dct g (a.map .p))):=by
 obtain⟨g,a,e,c,m⟩:=h.put l (.inr x) i;refine⟨g,a,c,m,?_⟩;have b:yq o k v L S=some (.nx,L,s.set j (.dct g (a.map .p))):=by unfold yq;rw[p,az,t,az,hk,az];simp only[ng,r,c_];rw[af ⟨h.nd,by rw[rT];lia⟩,e]
 unfold jw;rw[b]
theorem tj{k:cg}:∀{s:List cg}{x:List P},C8 k s=false->b8 k s x=none
 | [],_,_=>by cases ‹List P›<;>rfl
 |_::_,[],_=>rfl
 |a::s,v::x,h=>by unfold C8 at h;rw[cT,AM]at h;show(if a=k then some v else b8 k s x)=none;rw[ah (of_decide_eq_false h.1)];exact tj h.2
noncomputable abbrev fK(x:Str)(m w t:P)(c s:List P)(r:P):P:=.tup [.str x,m,w,t,.lst c,.lst s,r]
theorem sS(a b c d e f g:P):L2.atI [a,b,c,d,e,f,g] 3=some d:=bu (by decide) rfl
theorem GX(a b c d e f g:P):L2.atI [a,b,c,d,e,f,g] 4=some e:=bu (by decide) rfl
theorem N1(a b c d e f g:P):L2.atI [a,b,c,d,e,f,g] 5=some f:=bu (by decide) rfl
theorem Es(a b c d e f g:P):L2.atI [a,b,c,d,e,f,g] 6=some g:=bu (by decide) rfl
theorem O7(a b c d e f:P):L2.atI [a,b,c,d,e,f] 2=some c:=bu (by decide) rfl
theorem RT(a b c d e f:P):L2.atI [a,b,c,d,e,f] 5=some f:=bu (by decide) rfl
theorem BC{lo h a i:Int}(e:lo≤i)(s:i≤h):P.int i ∈ pi (.tup [x,.int lo,.int h,.int a]):=by
 unfold pi;refine aZ.mpr ⟨(i-lo).toNat,iZ.mpr ?_,?_⟩
 .simp;lia
 .simp;lia
theorem MF{B W:Str->GF}{f st u:P}{b a:List P}{s:List cg}{g:List P}(G:Giv s g){o:SO}(C:o=.dct s (g.map .p)\/o=.fz (.dct s g)){k:Nat}{c:P}(I:isCel c){z:P}(t:b[k]? = some z)(F:OO z)(K:z ∈ pi c)(V:a.length≤1000)(p d q:Option D) :
  (∃L,bq B [qp f,qt b,qp st,qp u,qr 0,p,d,qr 1,qi (k:Int),qp c,q] [o,.lst (a.map .p)]=some (.rt (.p .non),L,[.fz (.dct s g),.lst (a.map .p)])) \/
  ∃i:Int,i.natAbs≤999/\P.int i ∈ pi c/\bq B [qp f,qt b,qp st,qp u,qr 0,p,d,qr 1,qi (k:Int),qp c,q] [o,.lst (a.map .p)]=some (.nx,[qp f,qt b,qp st,qp u,qr 0,p,d,qr 1,qi (k:Int),qp c,qi i],[.fz (.dct s g),.lst ((a++[P.int i]).map .p)]):=by
 obtain⟨x,lo,H,j,_,N,Q,R,T,rfl⟩:=I;obtain⟨A,S,rfl⟩:=F;have w:toP 9 (.ref 0) [o,.lst (a.map .p)]=some (.dct s g,[.fz (.dct s g),.lst (a.map .p)]):=by
  rcases C with rfl|rfl
  .have:vo (toP 8) (g.map .p) [SO.dct s (g.map .p),.lst (a.map .p)]=some (g,[SO.dct s (g.map .p),.lst (a.map .p)]):=ni ..;simp[toP,this]
  .rfl
 have M:isI ((b8 (.inr x) s g).getD (.int A)):=by
  cases e:b8 (.inr x) s g with
  |none=>exact⟨A,rfl⟩
  |some v=>exact G.iv _ v e
 obtain⟨n,h⟩:=M;have l:a.length≤1000000:=by lia
 cases hk:C8 (.inr x) s with
 |false=>
  have m:n=A:=by rw[tj hk]at h;exact(P.int.inj h).symm
  right;refine⟨n,by rw[m];exact S,by rw[m];exact K,?_⟩;rw[<- d6];simp[bq,w,c_,bF t,h,kS,Mo,M5,kx,hk,fO,l]
 |true=>
  by_cases r:lo≤n/\n≤H
  .right;refine⟨n,by lia,BC r.1 r.2,?_⟩;rw[<- d6];simp[bq,w,c_,bF t,h,kS,Mo,M5,kx,hk,fO,l,r.1,r.2]
  .left;refine⟨[qp f,qt b,qp st,qp u,qr 0,p,d,qr 1,qi (k:Int),qt [.str x,.int lo,.int H,.int j],qi n],?_⟩;by_cases y:lo≤n
   .have E:¬n≤H:=λz=>r ⟨y,z⟩;simp[bq,w,c_,bF t,h,kS,Mo,M5,kx,hk,y,E]
   .simp [bq,w,c_,bF t,h,kS,Mo,M5,kx,hk,y]
theorem Ci{B V:Str->GF}{f st F:P}{n:List P}(w:∀c ∈ n,OO c){K:List cg}{A:List P}(R:Giv K A)(u g:Option D):∀{l:List P}{k:Nat},(∀c ∈ l,isCel c)->(∀(i:Nat) c v,l[i]? = some c->n[k+i]? = some v->v ∈ pi c)->k+l.length=n.length->∀{b:SO},(b=.dct K (A.map .p)\/b=.fz (.dct K A))->∀{a:List P},a.length=k->n.length≤1000->∀(H S q:Option D),
  (∃L C,bR (bG [am 8,am 9]) (bq B) (cy (k:Int) l) [qp f,qt n,qp st,qp F,qr 0,u,g,qr 1,H,S,q] [b,.lst (a.map .p)]=some (.rt (.p .non),L,C)) \/
  ∃y m r s o,y.length=l.length/\((∀c ∈ y,OO c)/\SH l y)/\bR (bG [am 8,am 9]) (bq B) (cy (k:Int) l) [qp f,qt n,qp st,qp F,qr 0,u,g,qr 1,H,S,q] [b,.lst (a.map .p)]=some (.nx,[qp f,qt n,qp st,qp F,qr 0,u,g,qr 1,m,r,s],[o,.lst ((a++y).map .p)])
 | [],k,_,_,_,b,_,a,_,_,H,S,q=>.inr ⟨[],H,S,q,b,rfl,⟨λ_ h=>(by cases h),λ_ _ _ h=>(by cases h)⟩,by simp[cy,bR]⟩
 |c::l,k,T,d,hk,b,X,a,ha,hl,H,S,q=>by
  simp only[aR]at hk;have t:n[k]? = some (n[k]'(by lia)):=bo (by lia);unfold cy;rcases MF (B:=B) (W:=V) (f:=f) (st:=st) (u:=F) (a:=a) R X (T c aI) t (w _ (ik _)) (d 0 c _ rfl (by rw[Nat.add_zero];exact t)) (by lia) u g q with ⟨L,e⟩|⟨i,Z,M,e⟩
  .exact .inl ⟨_,_,xj rfl e⟩
  .rcases Ci (B:=B) (V:=V) (f:=f) (st:=st) (F:=F) w R u g (l:=l) (k:=k+1) (λx hx=>T x (aH _ hx)) (λj c v E G=>d (j+1) c v (by simpa using E) (by rw[<- G];congr 1;lia)) (by lia) (b:=.fz (.dct K A)) (.inr rfl) (a:=a++[.int i]) (by simp;lia) hl (qi (k:Int)) (qp c) (qi i) with ⟨L,C,p⟩|⟨y,m,r,s,o,E,⟨G,I⟩,p⟩
   .rw [iA]at p;exact .inl ⟨L,C,(bP rfl e).trans p⟩
   .rw [iA]at p;refine .inr ⟨.int i::y,m,r,s,o,by simp[E],⟨λz t=>?_,λj W v N Q=>?_⟩,?_⟩
    .rcases aL.mp t with rfl|t
     .exact⟨i,Z,rfl⟩
     .exact G z t
    .cases j with
     |zero=>cases N;cases Q;exact M
     |succ j=>exact I j W v (by simpa using N) (by simpa using Q)
    .rw [show a++.int i::y=a++[.int i]++y by simp];exact(bP rfl e).trans p
theorem Px{X j:List P}{E:Str}{A:P}(W:j8 E X j A){K:List cg}{V:List P}(f:k7 (more A) K V){g:List cg}{s:List P}(I:Giv g s)(T:g.length≤99)(h p H B r:P)(x:Str)(c F:List P)(d u l y z q:Option D) :
  ∃b t,Giv b t/\cV (iU (bV (ce cW (U (ag gB io)) (U (vC (.non))))) (kq (U (ag (ag gB io) gy)) (U (vt "")))) (jw Bm (ag (ag gB io) gy) (ag gA (vt "it"))) dU [qp h,qp p,qp (fK x H B A c F r),qp (.dct K V),qr 0,d,u,l,y,z,q] [.dct g (s.map .p)]=some (.nx,[qp h,qp p,qp (fK x H B A c F r),qp (.dct K V),qr 0,d,u,l,y,z,q],[.dct b (t.map .p)]):=by
 rcases W with rfl|⟨m,a,n,w,_,_,_,_,_,_,rfl⟩
 .exact⟨g,s,I,by simp[sS,cW,dj]⟩
 .by_cases M:n=""
  .exact⟨g,s,I,by simp[sS,cW,dj,M]⟩
  .obtain⟨i,_,N⟩:=f "it" (by simp[more]);obtain⟨C,G,Q,Z,e⟩:=BE (o:=O 4) (k:=ag (ag gB io) gy) (v:=ag gA (vt "it")) (L:=[qp h,qp p,qp (fK x H B (.tup [.str m,.str a,.str n,.str w]) c F r),qp (.dct K V),qr 0,d,u,l,y,z,q]) (S:=[.dct g (s.map .p)]) I T (i:=i) (s:=[.dct g (s.map .p)]) (x:=n) (by simp[N]) rfl (by simp[sS]) rfl;refine⟨C,G,Q,?_⟩;rw[cV];have R:(iU (bV (ce cW (U (ag gB io)) (U (vC (.non))))) (kq (U (ag (ag gB io) gy)) (U (vt "")))) [qp h,qp p,qp (fK x H B (.tup [.str m,.str a,.str n,.str w]) c F r),qp (.dct K V),qr 0,d,u,l,y,z,q] [.dct g (s.map .p)]=some (true,[.dct g (s.map .p)]):=by simp[sS,cW,dj,M]
   rw[R];exact e
theorem Pw{n:Nat}{rs:List P}{E:Str}{C:Nat}{l u j H:List P}(s:Fam rs E C l u j H){X:List P}(hc:CellsOk u X){x:Str}{Q T w:P}{a R:List P}{m:P}(hS:Stp E l u j rs Q T w a R m){K:List cg}{V:List P}(f:k7 (oy u++more w) K V) :
  ∃q:P,(q=.non\/∃F,CellsOk u F/\q=.tup F)/\bD (Ph (n+6) "cells_behind") [dM E C l u j H,.tup X,fK x Q T w a R m,.dct K V]=some q:=by
 have p:∀x ∈ oy u++more w,j9 x:=λx hx=>(bN.mp hx).elim (ou s.hce.1 x) (vm w x);have hcl:=hS.cl;have hc3:=s.cl;have hcn:=hc.1;let A:List (Option D):=[qp (dM E C l u j H),qt X,qp (fK x Q T w a R m),qp (.dct K V),qr 0]
 let Inv:Nat->Lc->Y->Prop:=λi L S=>∃(d:List cg)(z:List P)(M N:Option D),Giv d z/\d.length≤i/\L=A++[M,N,none,none,none,none]/\S=[.dct d (z.map .p)]
 obtain⟨L',S',e1,d,z,M,N,hG,hgl,rfl,rfl⟩:=cM (g:=bG [am 5,am 6]) (b:=ig (Ph (n+5))) (Inv:=Inv) (s:=a) (k:=0) (L:=A++[none,none,none,none,none,none]) (S:=[.dct [] []]) (λi v L S hv hI=>by obtain⟨d,z,M,N,hG,hgl,rfl,rfl⟩:=hI;have hi:=bH hv;obtain⟨y,t,_,ht,rfl⟩:=hS.ch v (aY hv);obtain⟨r,er⟩:=qN p f ht (n:=n+1);obtain⟨gk',gv',I,Z,e⟩:=BE (o:=O 4) (k:=vv 5) (v:=cD (Ph (n+5) "value_of") (v2 lE gA)) (L:=A++[qs y,qp t,none,none,none,none]) (S:=[.dct d (z.map .p)]) hG (by lia) (i:=r) (s:=[.dct d (z.map .p)]) (by simp[A,er]) rfl rfl rfl;exact⟨_,_,_,rfl,e,gk',gv',_,_,I,by lia,rfl,rfl⟩) ⟨[],[],none,none,⟨by simp,rfl,by simp,λk v h=>by cases h⟩,by simp,rfl,rfl⟩
 simp only[A,pX,eD]at e1;obtain⟨gk2,gv2,hG2,e2⟩:=Px hS.htk (λx hx=>f x (fh _ hx)) hG (by lia) (dM E C l u j H) (.tup X) Q T m x a R M N none none none none;have G:=Ci (B:=Ph (n+5)) (V:=Ph (n+4)) (f:=dM E C l u j H) (st:=fK x Q T w a R m) (F:=.dct K V) hc.2.1 hG2 M N (l:=u) (k:=0) s.hce.1 (λi c v I Z=>hc.2.2 i c v I (by rwa [fU]at Z)) (by lia) (.inl rfl) (a:=[]) rfl (by lia) none none none;rw[show((0:Nat):Int)=0 from rfl]at G;rcases G with ⟨L',S',B⟩|⟨W,q8',q9',q10',o,I,Z,B⟩
 .refine⟨.non,.inl rfl,?_⟩;rw[jF,aK];simp only[eC]at B;simp[-cV,gL,o6,GX,e1,e2,MN,B]
 .refine⟨.tup W,.inr ⟨W,⟨I,Z⟩,rfl⟩,?_⟩;rw[jF,aK];simp only[eC,eD]at B;have t1:toP 9 (.ref 1) [o,.lst (W.map .p)]=some (.lst W,[o,.fz (.lst W)]):=f6 rfl;simp[-cV,gL,o6,GX,e1,e2,MN,B,t1,fx]
def oY(B:BD)(t:Nat)(y:P):Prop:=∃s r,y=.tup [.tup s,.tup r]/\s.length=t/\(∀a ∈ s,isI a)/\b0 B r
structure GS(B:BD)(K:List cg)(V:List P) extends GC B where
 kv:Nat
 hkv:b≤kv
 hk:S0[kv]? = some (.fz (.dct K V))
abbrev FL(i k r:Nat)(hd t m A:P)(d f b c q h:Option D)(x a e s n:Option D):Lc:=[qr i,qp hd,qp t,qr k,qp m,qp A,d,f,b,c,q,h,qr r,x,a,e,s,n]
theorem Ta{B:BD}(q:BP B)(Q:Places B){n:Nat}{K:List cg}{V:List P}(hd:Nat)(v:Int){m:Str}(hm:aG m=true)(hA:LH B hd (.tup [.str m,.int v])){t:Nat}(ht:t≤10){k:List P}(has:k.length=t)(X:∀a ∈ k,isI a){r:List P}(hr:b0 B r)(C F A:P)(l o H x:Option D){dl:Nat}(hdl:dl≤1){y:P}(hy:J0 dl y) :
  ∃ys:List P,ys.length≤1/\(∀z ∈ ys,oY B (t+dl) z)/\∀(G:GS B K V)(L:Lc)(S:Y)(c:List P),(∃d i j s,L=FL G.i G.kv G.r (.int (hd:Int)) C F A d l o H x (qt [.str m,.int v]) (qt k) (qt r) i j s)->Fr G.b G.S0 S->S[G.r]? = some (.lst (c.map .p))->c.length+1≤1000 ->
   ∃L1 L2 w,bG [am 15,am 16] y L=some L1/\hZ (Ph (n+3)) L1 S=some (.nx,L2,w)/\(∃d i j s,L2=FL G.i G.kv G.r (.int (hd:Int)) C F A d l o H x (qt [.str m,.int v]) (qt k) (qt r) i j s)/\Fr G.b G.S0 w/\w[G.r]? = some (.lst ((c++ys).map .p)):=by
 obtain⟨f,E,rfl,hbl,Z,hti⟩:=hy;obtain⟨ans,T,ep⟩:=Iu q Q (n:=n) hd v hm hA hti hr;have N:=jG (xs:=k) (c:=f) (by lia);rcases T with rfl|⟨p,hr',rfl⟩
 .refine⟨[],by simp,λ_ h=>(by cases h),λG L S c I R W hM=>?_⟩;obtain⟨d,i,j,s,rfl⟩:=I;obtain⟨w,e,u⟩:=GB (b:=G.b) (g:=Ph (n+3) "posted") (q:=Ky fZ (O 14) kC (O 16) (O 11)) (L:=FL G.i G.kv G.r (.int (hd:Int)) C F A d l o H x (qt [.str m,.int v]) (qt k) (qt r) (qt f) (ql E) s) (S:=S) (l:=[.ref G.i,.p (.tup r),.p (.int (hd:Int)),.p (.lst E),.p (.tup [.str m,.int v])]) rfl (ep G.b G.i S (G.bd.fr R)) (Fr.refl _ _);refine⟨FL G.i G.kv G.r (.int (hd:Int)) C F A d l o H x (qt [.str m,.int v]) (qt k) (qt r) (qt f) (ql E) s,FL G.i G.kv G.r (.int (hd:Int)) C F A d l o H x (qt [.str m,.int v]) (qt k) (qt r) (qt f) (ql E) (qp .non),w,rfl,?_,⟨_,_,_,_,rfl⟩,R.trans u,?_⟩
  .refine (al (e:=FL G.i G.kv G.r (.int (hd:Int)) C F A d l o H x (qt [.str m,.int v]) (qt k) (qt r) (qt f) (ql E) (qp .non)) (c:=w) ?_).trans ?_
   .rw [aB,U,e];rfl
   .simp [cW,dj]
  .rw [dJ];exact u.hi _ _ (aA G.le G.hr) W
 .refine⟨[.tup [.tup (k++f),.tup p]],by simp,λz hz=>⟨k++f,p,by simpa using hz,by rw[a_];lia,λa ha=>(bN.mp ha).elim (X a) (Z a),hr'⟩,λG L S c I R W hM=>?_⟩;obtain⟨d,i,j,s,rfl⟩:=I;obtain⟨w,e,u⟩:=GB (b:=G.b) (g:=Ph (n+3) "posted") (q:=Ky fZ (O 14) kC (O 16) (O 11)) (L:=FL G.i G.kv G.r (.int (hd:Int)) C F A d l o H x (qt [.str m,.int v]) (qt k) (qt r) (qt f) (ql E) s) (S:=S) (l:=[.ref G.i,.p (.tup r),.p (.int (hd:Int)),.p (.lst E),.p (.tup [.str m,.int v])]) rfl (ep G.b G.i S (G.bd.fr R)) (Fr.refl _ _);have M:=u.hi _ _ (aA G.le G.hr) W;refine⟨FL G.i G.kv G.r (.int (hd:Int)) C F A d l o H x (qt [.str m,.int v]) (qt k) (qt r) (qt f) (ql E) s,FL G.i G.kv G.r (.int (hd:Int)) C F A d l o H x (qt [.str m,.int v]) (qt k) (qt r) (qt f) (ql E) (qt p),w.set G.r (.lst ((c++[P.tup [.tup (k++f),.tup p]]).map .p)),rfl,?_,⟨_,_,_,_,rfl⟩,(R.trans u).set G.le G.hr _,kK M⟩;refine(al (e:=FL G.i G.kv G.r (.int (hd:Int)) C F A d l o H x (qt [.str m,.int v]) (qt k) (qt r) (qt f) (ql E) (qt p)) (c:=w) ?_).trans ?_
  .rw [aB,U,e];rfl
  .rw [cV];have hc:(bV (ce cW (O 17) (U (vC .non)))) (FL G.i G.kv G.r (.int (hd:Int)) C F A d l o H x (qt [.str m,.int v]) (qt k) (qt r) (qt f) (ql E) (qt p)) w=some (true,w):=by simp[cW,dj]
   rw[hc,az,af rfl];exact qw rfl M (by simp[N]) M (by lia)
theorem S_{B:BD}(q:BP B)(Q:Places B){n:Nat}{K:List cg}{V:List P}{hd:Nat}{E:Str}{C:Nat}{l u j H:List P}(s:Fam B.roads E C l u j H)(a:(be B.fams)[hd]? = some (dM E C l u j H)){A:List P}(hw:A.length=j.length)(I:∀w ∈ A,isI w){h e:Str}
  (hc:(h="who"/\P.str e ∈ j)\/((h="all"\/h="any")/\∃r ∈ B.roads,rA r=E/\e=rB r)) (v:Int) {m:Str} (hm:aG m=true) (hA:LH B hd (.tup [.str m,.int v])) {t:Nat} (ht:t≤10) (sn Z:P) (T X:Option D) {W:List P} (hW:∀y ∈ W,oY B t y) :
  ∃(ys:List P)(dl:Nat),dl≤1/\ys.length≤4 * W.length/\(∀z ∈ ys,oY B (t+dl) z)/\∀(G:GS B K V)(L:Lc)(S:Y)(F:List P),(∃N i o k p d,L=FL G.i G.kv G.r (.int (hd:Int)) sn Z (.tup A) N T X (qs h) (qs e) (qt [.str m,.int v]) i o k p d)->Fr G.b G.S0 S->S[G.r]? = some (.lst (F.map .p))->F.length+4 * W.length≤1000 ->
   ∃L' S',bR (bG [am 13,am 14]) (fB (Ph (n+4))) W L S=some (.nx,L',S')/\(∃N i o k p d,L'=FL G.i G.kv G.r (.int (hd:Int)) sn Z (.tup A) N T X (qs h) (qs e) (qt [.str m,.int v]) i o k p d)/\Fr G.b G.S0 S'/\S'[G.r]? = some (.lst ((F++ys).map .p)):=by
 obtain⟨tg,dl,hdl,h1,h2,h3⟩:=tg_ok q (n:=n) s a hw I hc;obtain⟨f,f1,f2,f3⟩:=d7 (t:=GS B K V) (c:=4) (M:=1000) (g:=bG [am 13,am 14]) (b:=fB (Ph (n+4))) (s:=W) (Sp:=fun G S=>Fr G.b G.S0 S) (r:=fun G=>G.r) (R:=fun _ ys=>∀z ∈ ys,oY B (t+dl) z) (p:=fun G L=>∃N i o k p d,L=FL G.i G.kv G.r (.int (hd:Int)) sn Z (.tup A) N T X (qs h) (qs e) (qt [.str m,.int v]) i o k p d) (fun x hx=>by
  obtain⟨as,rs,rfl,ha1,ha2,hr⟩:=hW x hx;obtain⟨g,k1,k2,k3⟩:=d7 (t:=GS B K V) (c:=1) (M:=1000) (g:=bG [am 15,am 16]) (b:=hZ (Ph (n+4))) (s:=tg) (Sp:=λG S=>Fr G.b G.S0 S) (r:=λG=>G.r) (R:=λ_ ys=>∀z ∈ ys,oY B (t+dl) z) (p:=λG L=>∃N k p d,L=FL G.i G.kv G.r (.int (hd:Int)) sn Z (.tup A) N T X (qs h) (qs e) (qt [.str m,.int v]) (qt as) (qt rs) k p d)
   (λy hy=>by exact Ta q Q (n:=n+1) (K:=K) (V:=V) hd v hm hA ht ha1 ha2 hr sn Z (.tup A) T X (qs h) (qs e) hdl (h2 y hy))
  refine⟨tg.flatMap g,by lia,λz hz=>?_,λG L S F hLp fr hS hM=>?_⟩
  .obtain⟨y,hy,hz⟩:=bX.mp hz;exact k2 y hy z hz
  obtain⟨N,i,o,k,p,d,rfl⟩:=hLp;obtain⟨S1,e1,fr1⟩:=h3 G.b G.i S (G.bd.fr fr);obtain⟨S2,e2,fr2⟩:=GB (b:=G.b) (g:=Ph (n+4) "targets_of") (q:=Ky fZ kC (O 9) ph (O 5)) (L:=FL G.i G.kv G.r (.int (hd:Int)) sn Z (.tup A) N T X (qs h) (qs e) (qt [.str m,.int v]) (qt as) (qt rs) k p d) (S:=S) (l:=[.ref G.i,.p (.int (hd:Int)),.p (.str h),.p (.str e),.p (.tup A)]) rfl e1 fr1;obtain⟨L',S',e3,hL',fr3,h4⟩:=k3 G _ S2 F ⟨N,k,p,d,rfl⟩ (fr.trans fr2) (fr2.hi _ _ (aA G.le G.hr) hS) (by lia);obtain⟨d6',q15',q16',q17',rfl⟩:=hL';refine⟨FL G.i G.kv G.r (.int (hd:Int)) sn Z (.tup A) N T X (qs h) (qs e) (qt [.str m,.int v]) (qt as) (qt rs) k p d,FL G.i G.kv G.r (.int (hd:Int)) sn Z (.tup A) d6' T X (qs h) (qs e) (qt [.str m,.int v]) (qt as) (qt rs) q15' q16' q17',S',rfl,?_,⟨_,_,_,_,_,_,rfl⟩,fr3,h4⟩;unfold fB;rw[bS,gU,e2];exact e3)
 refine⟨W.flatMap f,dl,hdl,f1,λz hz=>?_,f3⟩;obtain⟨x,hx,hz⟩:=bX.mp hz;exact f2 x hx z hz
theorem Ej(r:Fr b x S)(e:b≤x.length)(h:sj x S d W):∃a,toP 9 d (S++[.lst []])=some (.lst W,a)/\Fr b x a/\a[S.length]? = some (.lst []):=by
 have f:=r.trans (Fr.app b S [.lst []]);rcases h with rfl|⟨k,hk,rfl,h⟩
 .exact⟨_,by simp,f,iw _ _⟩
 .have l:=h.lt;refine⟨_,(h.fr (Fr.app b S [.lst []])).frz,f.set e hk _,?_⟩;rw[aV (by lia)];exact iw _ _
section
variable{B:BD}(q:BP B)(Q:Places B){n:Nat}{K:List cg}{V:List P}{hd:Nat}{E:Str}{C:Nat}{l u j H:List P}(s:Fam B.roads E C l u j H)(a:(be B.fams)[hd]? = some (dM E C l u j H)){A:List P}(hw:A.length=j.length)(I:∀w ∈ A,isI w){N:List P}(p:∀x ∈ N,j9 x)(f:k7 N K V)
include q Q s a hw I p f
theorem Si(h rd:P):∀{sn:List P},(∀c ∈ sn,isSend E B.roads j N c/\∀v k,bD (Ph (k+4) "value_of") [gc c 1,.dct K V]=some (.int v)->LH B hd (.tup [gc c 0,.int v]))->∀{t:Nat},t+sn.length≤10->∀{W:List P},(∀y ∈ W,oY B t y)->4 ^ sn.length * W.length≤900 ->
  ∃(ys:List P)(T:Nat),T≤t+sn.length/\ys.length≤4 ^ sn.length * W.length/\(∀y ∈ ys,oY B T y)/\∀(b i:Nat)(z S:Y)(e:Nat)(G:D)(q7 q8 q9 q10 H F d w u g l:Option D),Bd B b i z->b≤e->z[e]? = some (.fz (.dct K V))->Fr b z S->sj z S G W ->
   ∃L' S' d',bR (bG [am 7,am 8,am 9,am 10]) (hY (Ph (n+5))) sn [qr i,qi (hd:Int),qp h,qr e,qp rd,qt A,some G,q7,q8,q9,q10,H,F,d,w,u,g,l] S=some (.nx,L',S')/\L'[6]? = some (some d')/\Fr b z S'/\sj z S' d' ys
 | [],_,t,_,W,hW,_=>⟨W,t,by simp,by simp,hW,λb i z S e G q7 q8 q9 q10 H F d w u g l _ _ _ fr ha=>⟨_,S,G,rfl,rfl,fr,ha⟩⟩
 |c::sn,hs,t,ht,W,hW,hWl=>by
  simp only[aR]at ht;rw[aR,lc,pR]at hWl;have h4:4 * W.length≤900:=aA (Nat.le_mul_of_pos_left _ (Nat.pow_pos (by decide))) hWl;obtain⟨⟨m,tr,C,o,hm,_,hsum,hcw,rfl⟩,hA⟩:=hs c aI;obtain⟨v,ev⟩:=qN p f hsum (n:=n+1);obtain⟨ys,dl,hdl,h1,h2,h3⟩:=S_ q Q (n:=n+1) (K:=K) (V:=V) s a hw I hcw v hm (hA v _ ev) (t:=t) (by lia) h rd (qs m) (qp tr) hW;obtain⟨zs,T,hT,k1,k2,k3⟩:=Si h rd (sn:=sn) (λx hx=>hs x (aH _ hx)) (t:=t+dl) (by lia) (W:=ys) h2 (aA (pS _ h1) hWl);refine⟨zs,T,by simp only[aR];lia,?_,k2,λb i z S e G q7 q8 q9 q10 H F d w u g l hB hkv hk fr ha=>?_⟩
  .rw [aR,lc,pR];exact aA k1 (pS _ h1)
  .obtain⟨S1,e1,fr1,hS1⟩:=Ej fr hB.le ha;obtain⟨L2,S2,e2,⟨d6',L,M,R,X,Z,rfl⟩,fr2,hS2⟩:=h3 { b:=b,i:=i,S0:=z,r:=S.length,bd:=hB,hr:=fr.len,kv:=e,hkv:=hkv,hk:=hk } (FL i e S.length (.int (hd:Int)) h rd (.tup A) (some G) (qs m) (qp tr) (qs C) (qs o) (qt [.str m,.int v]) d w u g l) S1 [] ⟨_,_,_,_,_,_,rfl⟩ fr1 hS1 (by simp;lia);obtain⟨L',S',d',e3,h5,fr3,ha3⟩:=k3 b i z S2 e (.ref S.length) (qs m) (qp tr) (qs C) (qs o) (qt [.str m,.int v]) (qr S.length) L M R X Z hB hkv hk fr2 (.inr ⟨S.length,fr.len,rfl,.inl hS2⟩);refine⟨L',S',d',?_,h5,fr3,ha3⟩;refine(bP (h:=[qr i,qi (hd:Int),qp h,qr e,qp rd,qt A,some G,qs m,qp tr,qs C,qs o,H,F,d,w,u,g,l]) rfl ?_).trans e3;have tv:toP 9 (.ref e) S=some (.dct K V,S):=by
    have:=fr.hi _ _ hkv hk;simp[toP,this]
   unfold hY;rw[al (by simp[tv,ev];exact⟨rfl,rfl⟩)];rw[al (by simp;exact⟨rfl,rfl⟩)];refine(al (e:=FL i e S.length (.int (hd:Int)) h rd (.tup A) d6' (qs m) (qp tr) (qs C) (qs o) (qt [.str m,.int v]) L M R X Z) (c:=S2) ?_).trans ?_
   .rw [bS,gU];show bQ (bQ (toP 9 G (S++[.lst []])) _) _=_;rw[e1];exact e2
   .rfl
theorem N5(R:∀c ∈ g,isSend E B.roads j N c/\∀v k,bD (Ph (k+4) "value_of") [gc c 1,.dct K V]=some (.int v)->LH B hd (.tup [gc c 0,.int v]))(l:g.length≤3)(M:b0 B r) :
  ∃(w:List P)(T:Nat),w.length≤64/\(∀y ∈ w,oY B T y)/\∀(b i:Nat)(S:Y)(m:Nat),Bd B b i S->b≤m->S[m]? = some (.fz (.dct K V)) ->
   ∃d x,Ph (n+6) "sendings" [.ref i,.p (.int (hd:Int)),.p (.lst g),.ref m,.p (.tup r),.p (.tup A)] S=some (d,x)/\Fr b S x/\sj S x d w:=by
 have hp:4 ^ g.length≤64:=by have:=jS (show 0 < 4 by decide) l;simpa using this
 obtain⟨w,T,_,H,F,C⟩:=Si q Q (n:=n) s a hw I p f (.lst g) (.tup r) R (t:=0) (by lia) (W:=[.tup [.tup [],.tup r]]) (λy X=>⟨[],r,by simpa using X,by simp,λ_ h=>(by cases h),M⟩) (by simp;lia);simp only[p6,Nat.mul_one]at H;refine⟨w,T,by lia,F,λb i S m G u hk=>?_⟩
 .obtain⟨Z,x,z,e,D,o,L⟩:=C b i S S m (.p (.lst [.tup [.tup [],.tup r]])) none none none none none none none none none none none G u hk (Fr.refl _ _) (.inl rfl);refine⟨z,x,?_,o,L⟩;rw[vM];simp[l8,nH,e,D]
end
end My
namespace My
open PySem L2 Ev
def WH(B:BD)(hd:Nat)(w:P):Prop:=w=.int (-1)\/∃(s:Nat)(d:D),w=.int (s:Int)/\cF [.inl (s:Int),.inl (hd:Int)] B.ks B.vs=some d
theorem WH.isI{B:BD}{hd:Nat}{w:P}(h:WH B hd w):isI w:=by rcases h with rfl|⟨s,_,rfl,_⟩<;>exact⟨_,rfl⟩
inductive HandOk(B:BD)(hd:Nat)(f x:P):Prop
 |mk (nm:Str) (crew:Nat) (rooms cells whos steps:List P) (h0:f=dM nm crew rooms cells whos steps) (r:Nat) (cs ws:List P):x=.tup [.int (r:Int),.tup cs,.tup ws]->r < rooms.length->CellsOk cells cs->ws.length=whos.length->(∀w ∈ ws,WH B hd w)->HandOk B hd f x
structure StL(B:BD)(hs rds:List P):Prop where
 hl:hs.length=(be B.fams).length
 hh:∀(k:Nat) f x,(be B.fams)[k]? = some f->hs[k]? = some x->HandOk B k f x
 hr:b0 B rds
def kE(B:BD)(st:P):Prop:=∃h r,st=.tup [.tup h,.tup r]/\StL B h r
theorem StL.put(h:StL B m d)(s:(be B.fams)[k]? = some f)(c:HandOk B k f b)(r:b0 B t):StL B (m.set k b) t:=by
 refine⟨by rw[dw];exact h.hl,λi n x e a=>?_,r⟩;by_cases q:k=i
 .subst q;rw[s]at e;cases e;rw[bA (by rw[h.hl];exact bH s)]at a;cases a;exact c
 .rw [aV q]at a;exact h.hh i n x e a
def Jb(B:BD)(hd:Nat)(x:Str)(y z:P):Prop:=∃s e,z=.tup [.tup [.str "step",.int (hd:Int),.str x,y,.tup s],e]/\(∀a ∈ s,isI a)/\kE B e
def Jo(h:List P)(hd:Nat)(x:Str)(y w:P):P:=.tup [.tup [.str "step",.int (hd:Int),.str x,y,gc w 0],.tup [.tup h,gc w 1]]
abbrev SL(i:Nat)(st hd step y f r:P)(n k b q h x a e s:Option D):Lc:=[qr i,qp st,qp hd,qp step,qp y,qp f,qp r,n,k,b,q,h,x,a,e,s]
theorem Mq{c:List P}{K:List cg}{V:List P}(f:k7 (oy c) K V){s:List cg}{n:List P}{z:Int}(m:z.natAbs≤999)(h:∀k,b8 k s n=if (.inr "it":cg)=k then some (.int z) else b8 k K V):k7 (oy c++[.str "it"]) s n:=λx a=>by
 by_cases q:("it":Str)=x
 .exact⟨z,m,by rw[h,af (by rw[q])]⟩
 .rcases bN.mp a with a|a
  .obtain⟨i,b,e⟩:=f x a;exact⟨i,b,by rw[h,ah λw=>q (ij w)];exact e⟩
  .exact absurd (P.str.inj (cz.mp a)).symm q
theorem jA:∀{x:List (List f)}{s:List f},s.length=x.length->(∀(i:Nat) a y,x[i]? = some a->s[i]? = some y->y ∈ a)->s ∈ eT x
 | [],s,l,_=>by cases fY l;simp[eT]
 |a::x,[],l,_=>by cases l
 |a::x,y::s,l,h=>by unfold eT;refine bX.mpr ⟨y,h 0 a y rfl rfl,aZ.mpr ⟨s,jA (Nat.succ.inj l) λi k z e n=>h (i+1) k z (by simpa using e) (by simpa using n),rfl⟩⟩
theorem Gs(h:CellsOk e s):s ∈ g9 e:=by
 refine jA (by rw[aU];exact h.1) λi k y x n=>?_;rw[b9]at x;cases a:e[i]? with
 |none=>rw[a]at x;cases x
 |some c=>rw[a]at x;cases x;exact h.2.2 i c y a n
theorem N4{B:BD}(hP:BP B){n:Nat}{hd:Nat}{nm:Str}{N:Nat}{G a E I:List P}(Z:Fam B.roads nm N G a E I){u:List P}(hc:CellsOk a u){d:List P}(hr:b0 B d){M y:P}(ht:j8 nm B.roads E M)(hy:(M=.non/\y=.non)\/(M≠.non/\LetOk B d hd y)) :
  ∃(K:List cg)(V C:List P),k7 (oy a++more M) K V/\(∀x:Str,P.str x ∈ oy a->b8 (.inr x) K V=b8 (.inr x) (cO a) u)/\b0 B C/\∀(b i:Nat)(S:Y)(st step f r:P)(H F g t p v w:Option D),Bd B b i S->∃X,
   cV (bV (ce cW Bm (U (vC (.non))))) (ai (aB 11 (xp (d9 (aT Att) fZ "places") (v2 (ag kG eQ) gB)))
    (ai (jw ph (vt "it") (ag (ag (ag mW lF) (ag kG dD)) dD))
    (aB 9 (U (cD (Ph (n+2) "replaced") (v3 mW lF (cD (Ph (n+2) "without") (v2 (ag mW lF) (ag kG dD))))))))) dU
    (SL i st (.int (hd:Int)) step y f r H F (qt d) (qr S.length) g t p v w) (S++[.dct (cO a) (u.map .p)])=some (.nx,SL i st (.int (hd:Int)) step y f r H F (qt C) (qr S.length) X t p v w,S++[.dct K (V.map .p)]):=by
 have A:=vp hc;rcases hy with ⟨rfl,rfl⟩|⟨W,s,j,k,L,rfl,hg,hk,T,o,hsp⟩
 .exact⟨cO a,u,d,by simpa[more] using A,λ_ _=>rfl,hr,λb i S st step f r H F g t p v w hB=>⟨g,by simp[cW,dj]⟩⟩
 .have hm:more M=[.str "it"]:=by
   cases M with
   |non=>exact absurd rfl W
   |_=>rfl
  have hls3:=o.1;have Q:L[j]? = some L[j]:=bo hsp;obtain⟨m,z,_,hz,hzl⟩:=(o.2 L[j] (ik _)).1;rw[hzl]at Q;have hkl:(cO a).length=u.length:=by rw[hc.1];simp[cO]
  obtain⟨K,V,e,h1,h2,h3,h4,h5⟩:=vX (.inr "it") (.int z) (cO a) u (kO Z.hce) hkl;have ew:=JK (n:=n) (xs:=L) (k:=j) (by lia);have hpl:=wf hP;have hrl:=hr.1;have er:=rc (n:=n) (xs:=d) (k:=k) hk (by lia) (.tup (L.eraseIdx j));have hcl:=Z.cl;have R:(cO a).length≤1000000:=by have:=hc.1;lia
  refine⟨K,V,d.set k (.tup (L.eraseIdx j)),by rw[hm];exact Mq A hz h5,λx hx=>by rw[h5,ah];intro q;obtain⟨c,hc',e'⟩:=aZ.mp hx;obtain⟨y,_,_,_,_,_,_,_,h9,rfl⟩:=Z.hce.1 c hc';have e':y=x:=P.str.inj e';have q:("it":Str)=x:=ij q;rw[e',<- q]at h9;exact h9.2.2 (by decide +kernel),hr.set k ⟨aA (AG ..) o.1,λl h=>o.2 l (AH h)⟩,λb i S st step f r H F g t p v w hB=>⟨qi (k:Int),?_⟩⟩
  obtain⟨jh,jp,jl,jm,mk,mv,h⟩:=hB.fr (Fr.app b S [.dct (cO a) (u.map .p)]);rw[cV];have hcn:(bV (ce cW Bm (U (vC (.non))))) (SL i st (.int (hd:Int)) step (.tup [.int (s:Int),.int (j:Int)]) f r H F (qt d) (qr S.length) g t p v w) (S++[.dct (cO a) (u.map .p)])=some (true,S++[.dct (cO a) (u.map .p)]):=by simp[cW,dj]
  rw[hcn,az,af rfl];refine(al (e:=SL i st (.int (hd:Int)) step (.tup [.int (s:Int),.int (j:Int)]) f r H F (qt d) (qr S.length) (qi (k:Int)) t p v w) (c:=S++[.dct (cO a) (u.map .p)]) ?_).trans ?_
  .rw [aB,xp,h.places rfl];simp[lY,h.pl,dL,c_,hg]
  refine(al (e:=SL i st (.int (hd:Int)) step (.tup [.int (s:Int),.int (j:Int)]) f r H F (qt d) (qr S.length) (qi (k:Int)) t p v w) (c:=S++[.dct K (V.map .p)]) ?_).trans ?_
  .have e2:yq ph (vt "it") (ag (ag (ag mW lF) (ag kG dD)) dD) (SL i st (.int (hd:Int)) step (.tup [.int (s:Int),.int (j:Int)]) f r H F (qt d) (qr S.length) (qi (k:Int)) t p v w) (S++[.dct (cO a) (u.map .p)])=some (.nx,SL i st (.int (hd:Int)) step (.tup [.int (s:Int),.int (j:Int)]) f r H F (qt d) (qr S.length) (qi (k:Int)) t p v w,S++[.dct K (V.map .p)]):=by
    simp[yq,bF T,bF Q,ng,c_,kO Z.hce,R,e]
   unfold jw;rw[e2]
  .simp [bF T,ew,er]
theorem N3{B:BD}(hP:BP B)(hL:Places B){n:Nat}{hd:Nat}{nm:Str}{N:Nat}{o l u p:List P}(hF:Fam B.roads nm N o l u p)(hf:(be B.fams)[hd]? = some (dM nm N o l u p)){r:Nat}{cs ws:List P}(hr1:r < o.length)(Z:CellsOk l cs)(hwl:ws.length=u.length)(hwi:∀w ∈ ws,WH B hd w){a:List P}(hrd:b0 B a){x:Str}(hx:aG x=true){rm wh tk:P}{chg sn:List P}{rm2:P}(C:Stp nm o l u B.roads rm wh tk chg sn rm2)(hsm:fK x rm wh tk chg sn rm2 ∈ p){y:P}(hy:(tk=.non/\y=.non)\/(tk≠.non/\LetOk B a hd y)){A:List P}(hS:StL B A a)(hhx:A[hd]? = some (.tup [.int (r:Int),.tup cs,.tup ws])) :
  ∃E:List P,E.length≤64/\(∀z ∈ E,Jb B hd x y z)/\∀(b i:Nat)(S:Y),Bd B b i S->∃d S',Ph (n+8) "step_ends" [.ref i,.p (.tup [.tup A,.tup a]),.p (.int (hd:Int)),.p (fK x rm wh tk chg sn rm2),.p y] S=some (d,S')/\Fr b S S'/\sj S S' d E:=by
 obtain⟨K,V,F,he,hag,hr',eit⟩:=N4 hP (n:=n+5) hF Z hrd C.htk hy;obtain⟨ans,hans,ecb⟩:=Pw (n:=n+1) hF Z (x:=x) C he;have hy2:(tk=.non/\y=.non)\/(tk≠.non/\∃s sp:Nat,y=.tup [.int (s:Int),.int (sp:Int)]/\WH B hd (.int (s:Int))):=by
  rcases hy with h|⟨h1,s,sp,_,_,e,hg,_⟩
  .exact .inl h
  .exact .inr ⟨h1,s,sp,e,.inr ⟨s,_,rfl,hg⟩⟩
 obtain⟨I,hwl',hwi',ewb⟩:=NF (n:=n+4) hF hwl hwi C.htk hy2;have hN:=ou hF.hce.1;have hsnd:∀c ∈ sn,isSend nm B.roads u (oy l) c/\∀v k,bD (Ph (k+4) "value_of") [gc c 1,.dct K V]=some (.int v)->LH B hd (.tup [gc c 0,.int v]):=fun c hc=>⟨C.hsn c hc,fun v k ev=>by
  obtain⟨m,tr,way,nm2,_,_,hsum,_,rfl⟩:=C.hsn c hc;obtain⟨r0,e1,e2⟩:=Cv hN (vp Z) hag hsum;have:v=r0:=by have:=ev.symm.trans (e2 k);simpa using this
  subst this;refine⟨_,hf,bX.mpr ⟨_,hsm,bX.mpr ⟨_,hc,aZ.mpr ⟨cs,Gs Z,?_⟩⟩⟩⟩;have e3:=e1 2;simp only[OG,QS];exact du (λz=>P.tup [.str m,z]) (by show(bD (Ph 6 "value_of") [tr,.dct (cO l) cs]).getD .non=_;rw[e3];rfl)⟩
 obtain⟨W,T,hW1,hW2,esd⟩:=N5 hP hL (n:=n+1) hF hf hwl' (λw h=>(hwi' w h).isI) hN (λx hx=>he x (i5 _ hx)) hsnd (aA C.sl (by decide)) hr';let step:P:=fK x rm wh tk chg sn rm2
 let t:P:=dM nm N o l u p
 have pre:∀(b i:Nat) (S:Y),Bd B b i S->∃q,∀g:ES,(ai (aB 5 (dC (mT Tb (Ph (n+7))) fZ "family_of" (Kz jZ)))
   (ai (yp (bG [am 6,am 7,am 8]) (ag (ag ei eQ) gB))
   (ai (aB 9 (U (ag ei dD)))
   (ai (aB 10 (kW (Ph (n+7) "values_of") (MW (O 5) (O 7))))
   (ai (cV (bV (ce cW Bm (U (vC (.non))))) (ai (aB 11 (xp (d9 (aT Att) fZ "places") (v2 (ag kG eQ) gB)))
    (ai (jw ph (vt "it") (ag (ag (ag mW lF) (ag kG dD)) dD))
    (aB 9 (U (cD (Ph (n+7) "replaced") (v3 mW lF (cD (Ph (n+7) "without") (v2 (ag mW lF) (ag kG dD))))))))) dU) g)))))
   [qr i,qt [.tup A,.tup a],qi (hd:Int),qp step,qp y,none,none,none,none,none,none,none,none,none,none,none] S=g (SL i (.tup [.tup A,.tup a]) (.int (hd:Int)) step y t (.int (r:Int)) (qt cs) (qt ws) (qt F) (qr S.length) q none none none none) (S++[.dct K (V.map .p)]):=λb i S R=>by
  have ef:=vJ (n:=n+5) R hf;obtain⟨q,e5⟩:=eit b i S (.tup [.tup A,.tup a]) step t (.int (r:Int)) (qt cs) (qt ws) none none none none none R;obtain⟨jh,jp,jl,jm,mk,mv,h⟩:=R;refine⟨q,λg=>?_⟩;refine(al (e:=[qr i,qt [.tup A,.tup a],qi (hd:Int),qp step,qp y,qp t,none,none,none,none,none,none,none,none,none,none]) (c:=S) ?_).trans ?_
  .rw [aB,h.meth rfl (OJ _) O4 (l:=[.p (.int (hd:Int))]) (by simp),ef];rfl
  rw[al (by simp[bF hhx];exact⟨rfl,rfl⟩)];rw[al (by simp;exact⟨rfl,rfl⟩)];refine(al (e:=SL i (.tup [.tup A,.tup a]) (.int (hd:Int)) step y t (.int (r:Int)) (qt cs) (qt ws) (qt a) (qr S.length) none none none none none) (c:=S++[.dct (cO l) (cs.map .p)]) ?_).trans ?_
  .rw [aB,kW];show bQ (bQ (some ([D.p t,D.p (.tup cs)],S)) _) _=_;rw[az,Bo (n:=n+5) hF Z S];rfl
  exact al e5
 have tv:∀S:Y,toP 9 (.ref S.length) (S++[.dct K (V.map .p)])=some (.dct K V,S++[.fz (.dct K V)]):=λS=>by have:vo (toP 8) (V.map .p) (S++[.dct K (V.map .p)])=some (V,S++[.dct K (V.map .p)]):=ni ..;simp[toP,this]
 rcases hans with rfl|⟨Q,hcs',rfl⟩
 .refine⟨[],by simp,λ_ h=>(by cases h),λb i S R=>⟨.p (.lst []),S++[.fz (.dct K V)],?_,Fr.app _ _ _,.inl rfl⟩⟩;obtain⟨q,ep⟩:=pre b i S R;rw[lN];show fP (eX _ [qr i,qt [.tup A,.tup a],qi (hd:Int),qp step,qp y,none,none,none,none,none,none,none,none,none,none,none] S)=_;unfold eX;rw[ep];simp only[t,step]at ecb ⊢;simp[tv,ecb,sv,dj]
 .obtain⟨j,hj,ej⟩:=rK (xs:=o) (s:=rm2) (λz hz=>(hF.hro z hz).ok 19) C.h2;have h4:=iy hP;have hW3:∀w ∈ W,∃as X,w=.tup [.tup as,.tup X]:=λw hw=>by
   obtain⟨as,X,e,_⟩:=hW2 w hw;exact⟨as,X,e⟩
  have hhd:hd < A.length:=by rw[hS.hl];exact bH hf
  have hsl:=hS.hl;have er:=rc (n:=n+5) (xs:=A) (k:=hd) hhd (by lia) (.tup [.int (j:Int),.tup Q,.tup I]);generalize hhs:A.set hd (.tup [.int (j:Int),.tup Q,.tup I])=H at er;have hp:∀X,b0 B X->kE B (.tup [.tup H,.tup X]):=λX hr=>⟨_,_,rfl,hhs ▸ hS.put hf ⟨nm,N,o,l,u,p,rfl,j,Q,I,rfl,hj,hcs',hwl',hwi'⟩ hr⟩;refine⟨W.map (Jo H hd x y),by simpa using hW1,λz hz=>?_,λb i S R=>?_⟩
  .obtain⟨w,hw,rfl⟩:=aZ.mp hz;obtain⟨as,X,rfl,_,hi,hr⟩:=hW2 w hw;exact⟨as,_,rfl,hi,hp X hr⟩
  have hfm:W.map (Jo H hd x y)=W.flatMap λw=>[Jo H hd x y w]:=by rw[Aq,List.map_eq_flatMap,Aq]
  rw[hfm];obtain⟨h1,h3⟩:=l7 (i:=GC B) (f:=λw=>[Jo H hd x y w]) (g:=bG [am 14,am 15]) (b:=jJ (Ph (n+7))) (Sp:=λG S=>Fr G.b G.S0 S) (r:=λG=>G.r) (c:=1) (M:=1000) (s:=W)
   (p:=λG L=>∃q q14 q15,L=SL G.i (.tup [.tup A,.tup a]) (.int (hd:Int)) step y t (.int (r:Int)) (qt Q) (qt I) (qt F) (qr G.S0.length) q (qt H) (qr G.r) q14 q15) (λw hw=>by obtain⟨as,X,rfl⟩:=hW3 w hw;refine⟨by simp,λG L S acc hLp fr hS' hM=>?_⟩;obtain⟨q,q14,q15,rfl⟩:=hLp;refine⟨SL G.i (.tup [.tup A,.tup a]) (.int (hd:Int)) step y t (.int (r:Int)) (qt Q) (qt I) (qt F) (qr G.S0.length) q (qt H) (qr G.r) (qt as) (qt X),_,_,rfl,qw rfl hS' (y:=.tup [.tup [.str "step",.int (hd:Int),.str x,y,.tup as],.tup [.tup H,.tup X]]) ?_ hS' (by lia),⟨_,_,_,rfl⟩,fr.set G.le G.hr _,kK hS'⟩;simp[step])
  obtain⟨q,ep⟩:=pre b i S R;have frA:=Fr.app b S [.fz (.dct K V),.lst []];have hk0:(S++[SO.fz (.dct K V),.lst []])[S.length]? = some (.fz (.dct K V)):=by simp
  have hk1:(S++[SO.fz (.dct K V),.lst []])[S.length+1]? = some (.lst []):=by simp
  obtain⟨d1,S1,e1,fr1,an1⟩:=esd b i (S++[.fz (.dct K V),.lst []]) S.length (R.fr frA) R.le hk0;have hb1:b≤(S++[SO.fz (.dct K V),.lst []]).length:=aA R.le (by simp);obtain⟨S2,e2,fr2⟩:=tH (b:=b) (g:=Ph (n+7) "sendings") (q:=Sb fZ jZ (U (ag gA uW)) ph (O 9) (O 8)) (L:=SL i (.tup [.tup A,.tup a]) (.int (hd:Int)) step y t (.int (r:Int)) (qt Q) (qt I) (qt F) (qr S.length) q (qt H) (qr (S.length+1)) none none) (S:=S++[.fz (.dct K V),.lst []]) (l:=[.ref i,.p (.int (hd:Int)),.p (.lst sn),.ref S.length,.p (.tup F),.p (.tup I)]) (by simp[step,N1]) e1 fr1 hb1 an1;obtain⟨L',S',e3,hL',fr3,h5⟩:=h3 ⟨b,i,S,S.length+1,R,by lia⟩ _ S2 [] ⟨q,none,none,rfl⟩ (frA.trans fr2) (fr2.hi _ _ (aA R.le (by lia)) hk1) (by simp;lia);obtain⟨q11',q14',q15',rfl⟩:=hL';refine⟨.ref (S.length+1),S',?_,fr3,.inr ⟨S.length+1,by lia,rfl,.inl h5⟩⟩;rw[lN];show fP (eX _ [qr i,qt [.tup A,.tup a],qi (hd:Int),qp step,qp y,none,none,none,none,none,none,none,none,none,none,none] S)=_;unfold eX;rw[ep];rw[al (by simp[tv,t,step,ecb];exact⟨rfl,rfl⟩)];rw[al (by simp[sv,dj];exact⟨rfl,rfl⟩)];rw[al (by simp[t,step,sS,ewb];exact⟨rfl,rfl⟩)];rw[al (by simp[t,step,Es,O7,ej,er];exact⟨rfl,rfl⟩)];rw[al (by simp;exact⟨rfl,rfl⟩)];rw[al (by rw[bS,gU,e2];exact e3)];rfl
def okE(B:BD)(z:P):Prop:=∃d e,z=.tup [d,e]/\cK 3 d=true/\kE B e
theorem Jb.okE(h:Jb B k x y z)(b:aG x=true)(c:y=.non\/OM y):okE B z:=by
 obtain⟨s,e,rfl,i,f⟩:=h;refine⟨_,_,rfl,?_,f⟩;have o:cK 2 y=true:=by rcases c with e|⟨_,_,e⟩<;>rw[e]<;>simp
 have m:cK 2 (.tup s)=true:=bb.mpr λa n=>(i a n).ok 1;show(List.all [P.str "step",.int (k:Int),.str x,y,.tup s] (cK 2))=true;simp only[dv,pU,o,m,vk,BQ,b,p_];decide +kernel
theorem OW{B:BD}(hP:BP B)(hL:Places B){n:Nat}(hn:n=1){hd:Nat}{nm:Str}{l:Nat}{o e v t:List P}(hF:Fam B.roads nm l o e v t)(hf:(be B.fams)[hd]? = some (dM nm l o e v t)){r:Nat}{cs ws:List P}(hr1:r < o.length)(hcs:CellsOk e cs)(hwl:ws.length=v.length)(hwi:∀w ∈ ws,WH B hd w){p:List P}(hrd:b0 B p){X:List P}(hS:StL B X p)(hhx:X[hd]? = some (.tup [.int (r:Int),.tup cs,.tup ws])) :
  ∃E:List P,E.length≤6144/\(∀z ∈ E,okE B z)/\∀(b i:Nat)(S:Y),Bd B b i S->∃d Z,Ph (n+12) "hand_ends" [.ref i,.p (.tup [.tup X,.tup p]),.p (.int (hd:Int))] S=some (d,Z)/\Fr b S Z/\sj S Z d E:=by
 have ev:=Cw (n:=n+9) hF hcs;have henv:=vp hcs;have hrg:o[r]? = some o[r]:=bo hr1;obtain⟨rn,hrn,hre⟩:=hF.hro o[r] (ik _);rw[hre]at hrg;let u:Nat->Nat->Option D->Option D->Lc:=λi r' q9 a=>[qr i,qt [.tup X,.tup p],qi (hd:Int),qp (dM nm l o e v t),qi (r:Int),qt cs,qt ws,qp (.dct (cO e) cs),qr r',q9,a]
 obtain⟨F,h1,hR,h3⟩:=d7 (t:=GC B) (g:=am 9) (b:=eO (Ph (n+11))) (Sp:=fun G S=>Fr G.b G.S0 S) (r:=fun G=>G.r) (R:=fun _ ys=>∀z ∈ ys,okE B z) (c:=768) (M:=10000) (s:=t) (p:=fun G L=>∃q9 a,L=u G.i G.r q9 a) (fun x hx=>by
  obtain⟨I,j,T,N,k,Q,m,hsx,W,rfl⟩:=hF.hst x hx;obtain⟨j,hrm,rfl⟩:=hF.hro j W.h1;obtain⟨hb,eh⟩:=F0 (ou hF.hce.1) henv W.wh (n:=n+2);have C:∀(i r':Nat)(a:Option D)(S:Y),(iU (bv (U (ag mW dD)) (U (ag (ag gA gy) kG))) (bT (U (cD (Ph (n+11) "holds") (v2 (ag mW gy) mX))))) (u i r' (qp (fK I (.str j) T N k Q m)) a) S=some (decide (j=rn) && hb,S):=λi r' a S=>by by_cases q:j=rn<;>simp[u,O7,bF hrg,q,eh]
  cases hc:(decide (j=rn) && hb) with
  |false=>refine⟨[],by simp,λ_ h=>(by cases h),λG L S acc A V H hM=>?_⟩;obtain⟨q9,a,rfl⟩:=A;refine⟨u G.i G.r (qp (fK I (.str j) T N k Q m)) a,u G.i G.r (qp (fK I (.str j) T N k Q m)) a,S,rfl,?_,⟨_,_,rfl⟩,V,by simpa using H⟩;unfold eO;rw[cV,C,hc];rfl
  |true=>
   obtain⟨ls,hl1,hl2,el⟩:=HV hP hL (n:=n+7) hf hrd W.htk;obtain⟨f,k1,kR,k3⟩:=d7 (t:=GC B) (g:=am 10) (b:=jL (Ph (n+11))) (Sp:=λG S=>Fr G.b G.S0 S) (r:=λG=>G.r) (R:=λy zs=>∀z ∈ zs,Jb B hd I y z) (c:=64) (M:=10000) (s:=ls) (p:=λG L=>∃a,L=u G.i G.r (qp (fK I (.str j) T N k Q m)) a) (λy hy=>by obtain⟨E,hE,hE2,h⟩:=N3 hP hL (n:=n+3) hF hf hr1 hcs hwl hwi hrd hsx W hx (hl2 y hy) hS hhx;refine⟨E,hE,hE2,λG L S acc A V H hM=>?_⟩;obtain⟨a,rfl⟩:=A;obtain⟨d,S1,e1,fr1,an⟩:=h G.b G.i S (G.bd.fr V);obtain⟨S2,e2,K⟩:=tH (b:=G.b) (g:=Ph (n+11) "step_ends") (q:=Ky fZ kC jZ (O 9) ph) (L:=u G.i G.r (qp (fK I (.str j) T N k Q m)) (qp y)) (S:=S) (l:=[.ref G.i,.p (.tup [.tup X,.tup p]),.p (.int (hd:Int)),.p (fK I (.str j) T N k Q m),.p y]) rfl e1 fr1 (aA G.le V.len) an;have hS2:=K.hi _ _ (aA G.le G.hr) H;exact⟨u G.i G.r (qp (fK I (.str j) T N k Q m)) (qp y),_,_,rfl,nv rfl H e2 hS2 (by lia),⟨_,rfl⟩,(V.trans K).set G.le G.hr _,kK hS2⟩)
   refine⟨ls.flatMap f,by lia,λz hz=>?_,λG L S acc A V H hM=>?_⟩
   .obtain⟨y,hy,hz⟩:=bX.mp hz;refine(kR y hy z hz).okE hsx ?_;rcases hl2 y hy with h|⟨_,s,sp,_,_,h,_⟩
    .exact .inl h.2
    .exact .inr ⟨s,sp,h⟩
   .obtain⟨q9,a,rfl⟩:=A;obtain⟨d,S1,e1,fr1,an⟩:=el G.b G.i S (G.bd.fr V);obtain⟨S2,e2,K⟩:=tH (b:=G.b) (g:=Ph (n+11) "takeable") (q:=Sc fZ (U (ag ei dD)) jZ (U (ag mW io))) (L:=u G.i G.r (qp (fK I (.str j) T N k Q m)) a) (S:=S) (l:=[.ref G.i,.p (.tup p),.p (.int (hd:Int)),.p N]) (by simp[u,sS]) e1 fr1 (aA G.le V.len) an;obtain⟨L',Z,e3,⟨q10',rfl⟩,fr3,h5⟩:=k3 G _ S2 acc ⟨a,rfl⟩ (V.trans K) (K.hi _ _ (aA G.le G.hr) H) (by lia);refine⟨u G.i G.r (qp (fK I (.str j) T N k Q m)) a,u G.i G.r (qp (fK I (.str j) T N k Q m)) q10',Z,rfl,?_,⟨_,_,rfl⟩,fr3,h5⟩;unfold eO;rw[cV,C,hc];show bS _ _ _ _ _=_;rw[bS,gU,e2];exact e3)
 have hsl:=hF.sl;refine⟨t.flatMap F,by lia,λz hz=>?_,λb i S hB=>?_⟩
 .obtain⟨s,X,hz⟩:=bX.mp hz;exact hR s X z hz
 obtain⟨L',Z,e3,⟨q9,a,rfl⟩,fr3,h5⟩:=h3 ⟨b,i,S,S.length,hB,ak _⟩ (u i S.length none none) (S++[.lst []]) [] ⟨none,none,rfl⟩ (Fr.app _ _ _) (iw _ _) (by simp;lia);refine⟨.ref S.length,Z,?_,fr3,.inr ⟨S.length,ak _,rfl,.inl h5⟩⟩;have ef:=vJ (n:=n+9) hB hf;obtain⟨jh,jp,jl,jm,mk,mv,h⟩:=hB;rw[show Ph (n+12) "hand_ends"=l8 3 11 (gZ (Ph (n+11))) by subst hn;exact sI];show fP (gZ _ [qr i,qt [.tup X,.tup p],qi (hd:Int),none,none,none,none,none,none,none,none] S)=_;unfold gZ;rw[al (e:=[qr i,qt [.tup X,.tup p],qi (hd:Int),qp (dM nm l o e v t),none,none,none,none,none,none,none]) (c:=S) (by rw[aB,h.meth rfl (OJ _) O4 (l:=[.p (.int (hd:Int))]) (by simp),ef];rfl)];rw[al (by simp[bF hhx];exact⟨rfl,rfl⟩)];rw[al (by simp[ev];exact⟨rfl,rfl⟩)];rw[al (by simp[u];exact⟨rfl,rfl⟩)];rw[al (by rw[bS,gU,show(ag gA uW) (u i S.length none none) (S++[.lst []])=some (.lst t,S++[.lst []]) by simp[u,RT]];exact e3)];rfl
theorem HL{k:Str}{x:List P}{i:Nat}(h:i ∈ Cz k x):i < x.length:=iZ.mp (ff.mp h).1
theorem HM{k:Str}{x:List P}:(Cz k x).length≤x.length:=aA (gQ ..) (by simp)
theorem Kb{B:BD}(hP:BP B){n:Nat}(hn:n=8){w:Str}(hw:w="lose"\/w="double"){W u:List P}(hS:StL B W u) :
  ∃E:List P,E.length≤6144/\(∀z ∈ E,okE B z)/\∀(b i:Nat)(S:Y),Bd B b i S->∃d N,Ph (n+5) "flaw_ends" [.ref i,.p (.tup [.tup W,.tup u]),.p (.str w)] S=some (d,N)/\Fr b S N/\sj S N d E:=by
 have how:aG w=true:=by rcases hw with rfl|rfl<;>simp
 have hpl:=wf hP;have hrl:=hS.hr.1;let m:Nat->Nat->Option D->Option D->Option D->Option D->Option D->Option D->Option D->Option D->Lc:=λi r' X Z H K A C s e=>[qr i,qt [.tup W,.tup u],qs w,qr r',X,Z,H,K,A,C,s,e]
 obtain⟨F,h1,hR,h3⟩:=d7 (t:=GC B) (R:=fun _ ys=>∀z ∈ ys,okE B z) (g:=bG [am 4,am 5]) (b:=eP (Ph (n+4))) (Sp:=fun G S=>Fr G.b G.S0 S) (r:=fun G=>G.r) (c:=3) (M:=10000) (s:=cy 0 B.PR) (p:=fun G L=>∃X Z H K A C s e,L=m G.i G.r X Z H K A C s e) (fun x hx=>by
  obtain⟨k,hk,hxe⟩:=i6.mp hx;obtain⟨p,hp,rfl⟩:=kU (s:=B.PR) (i:=k) (v:=x) (by rw[bo hk,hxe]);obtain⟨road,hro,a,c,rfl⟩:=sh (aY hp);obtain⟨hkl,l,V,hkr⟩:=hS.hr.at hp;have o:=hP.hr road hro;obtain⟨kd,hkd⟩:∃kd:Str,cR road (.int 2)=some (.str kd):=by obtain⟨ra,rb,kd,c,d1,d2,_,_,_,_,_,rfl⟩:=o;exact⟨kd,by simp⟩
  obtain⟨hfb,ef⟩:=OU (n:=n+2) hw o l;have eu:=JL (n:=n+2) kd V;have hul:=HM (k:=kd) (x:=l);generalize Jg w road l=fb at hfb ef;have hls3:=V.1;have pre:∀(i r':Nat)(H K A C s e:Option D)(S:Y)(g:ES),ai (yp (bG [am 6,am 7,am 8]) qe) (ai (aB 9 (U (ag (ag ei dD) kG))) g) (m i r' (qi (k:Int)) (qp (pr road a c)) H K A C s e) S=g (m i r' (qi (k:Int)) (qp (pr road a c)) (qp road) (qi (a:Int)) (qi (c:Int)) (qt l) s e) S:=λi r' H K A C s e S g=>by
   rw [al (by simp [m,pr];exact⟨rfl,rfl⟩),
    al (by simp[m,bF hkr];exact⟨rfl,rfl⟩)]
   rfl
  cases fb with
  |false=>refine⟨[],by simp,λ_ h=>(by cases h),λG L S Q j fr t hM=>?_⟩;obtain⟨X,Z,H,K,A,C,s,e,rfl⟩:=j;refine⟨m G.i G.r (qi (k:Int)) (qp (pr road a c)) H K A C s e,m G.i G.r (qi (k:Int)) (qp (pr road a c)) (qp road) (qi (a:Int)) (qi (c:Int)) (qt l) s e,S,rfl,?_,⟨_,_,_,_,_,_,_,_,rfl⟩,fr,by simpa using t⟩;unfold eP;rw[pre];simp[m,ef]
  |true=>
   obtain⟨f,k1,kR,k3⟩:=d7 (t:=GC B) (R:=λ_ zs=>∀z ∈ zs,okE B z) (g:=am 10) (b:=gK (Ph (n+4))) (Sp:=λG S=>Fr G.b G.S0 S) (r:=λG=>G.r) (c:=1) (M:=10000) (s:=cL (Cz kd l)) (p:=λG L=>∃s e,L=m G.i G.r (qi (k:Int)) (qp (pr road a c)) (qp road) (qi (a:Int)) (qi (c:Int)) (qt l) s e) (λy hy=>by obtain⟨sp,hsp',rfl⟩:=aZ.mp hy;have hsp:=HL hsp';obtain⟨I,ez⟩:=O6 (n:=n+1) hw V (λq=>hfb q rfl) hsp;have er:=rc (n:=n+2) (xs:=u) (k:=k) hkl (by lia) (.tup (O5 w l sp));generalize O5 w l sp=zs at I ez er;refine⟨[.tup [.tup [.str w,.int (a:Int),.int (c:Int),.int (sp:Int)],.tup [.tup W,.tup (u.set k (.tup zs))]]],by simp,λz hz'=>⟨_,_,cz.mp hz',by simp[how],W,_,rfl,hS.hl,hS.hh,hS.hr.set k I⟩,λG L S Q j fr t hM=>?_⟩;obtain⟨s,e,rfl⟩:=j;refine⟨m G.i G.r (qi (k:Int)) (qp (pr road a c)) (qp road) (qi (a:Int)) (qi (c:Int)) (qt l) (qi (sp:Int)) e,m G.i G.r (qi (k:Int)) (qp (pr road a c)) (qp road) (qi (a:Int)) (qi (c:Int)) (qt l) (qi (sp:Int)) (qt (u.set k (.tup zs))),_,rfl,?_,⟨_,_,rfl⟩,fr.set G.le G.hr _,kK t⟩;unfold gK;refine(al (by simp[m,ez,er])).trans (qw rfl t ?_ t (by lia));simp[m])
   have hnl:(cL (Cz kd l)).length=(Cz kd l).length:=by simp[cL]
   rw[hnl]at k1 k3;refine⟨_,aA k1 (by lia),λz I=>?_,λG L S Q j fr t hM=>?_⟩
   .obtain⟨y,hy,I⟩:=bX.mp I;exact kR y hy z I
   obtain⟨X,Z,H,K,A,C,s,e,rfl⟩:=j;obtain⟨L',N,e3,⟨q10',q11',rfl⟩,T,h5⟩:=k3 G _ S Q ⟨s,e,rfl⟩ fr t (by lia);refine⟨m G.i G.r (qi (k:Int)) (qp (pr road a c)) H K A C s e,m G.i G.r (qi (k:Int)) (qp (pr road a c)) (qp road) (qi (a:Int)) (qi (c:Int)) (qt l) q10' q11',N,rfl,?_,⟨_,_,_,_,_,_,_,_,rfl⟩,T,h5⟩;unfold eP;rw[pre];simp only[m]at e3;simp[m,ef,hkd,eu,e3])
 rw[eF]at h1 h3;refine⟨(cy 0 B.PR).flatMap F,by lia,λz I=>?_,λb i S hB=>?_⟩
 .obtain⟨v,hv,I⟩:=bX.mp I;exact hR v hv z I
 have frA:=Fr.app b S [.lst []];obtain⟨jh,jp,jl,jm,mk,mv,h⟩:=hB.fr frA;have frB:=frA.trans (Fr.frz h.bp h.pr);have hb:=hB.le;have hjp:=h.bp;obtain⟨L',N,e3,⟨X,Z,H,K,A,C,s,e,rfl⟩,T,h5⟩:=h3 ⟨b,i,S,S.length,hB,ak _⟩ (m i S.length none none none none none none none none) ((S++[SO.lst []]).set jp (.fz (.lst B.PR))) [] ⟨none,none,none,none,none,none,none,none,rfl⟩ frB (by rw[aV (by lia)];exact iw _ _) (by simp;lia);refine⟨.ref S.length,N,?_,T,.inr ⟨S.length,ak _,rfl,.inl h5⟩⟩;rw[show Ph (n+5) "flaw_ends"=l8 3 12 (g0 (Ph (n+4))) by subst hn;exact sJ];show fP (g0 _ [qr i,qt [.tup W,.tup u],qs w,none,none,none,none,none,none,none,none,none] S)=_;unfold g0;rw[al (by simp[m];exact⟨rfl,rfl⟩)];rw[al (by rw[bS,lZ,vE,h.pairs rfl,az,h.pr.frz];exact e3)];rfl
end My
namespace My
open PySem L2 Ev
theorem B7:∀{s:List cg}{h:List D},cF k s h=b8 k s h
 | [],_=>by cases ‹List D›<;>rfl
 |_::_,[]=>rfl
 |x::s,v::h=>by
  show(if x=k then some v else cF k s h)=if x=k then some v else b8 k s h
  rw[B7]
theorem Jm{n c:Nat}{a:List P}{S:Y}{d x e:D}(h:S[c]? = some (.ins "Board" fields [.p (.lst a),.ref (c+1),d,x,e]))(t:S[c+1]? = some (.lst ((homes a).map .p))){k:Nat}{f:P}(q:(be a)[k]? = some f):Ph (n+2) "Board.family_of" [.ref c,.p (.int (k:Int))] S=some (.p f,S):=by
 obtain⟨p,s,b⟩:=tt q;have m:o5 (d9 (aT Att) (O 0) "homes") (vE (O 1)) [some (.ref c),some (.p (.int (k:Int)))] S=some (.p (.int (p:Int)),S):=k6.ix (j:=c+1) (.inl t) (by simp[h,lI,IU]) rfl (bF s);have r:d9 (aT Att) (O 0) "families" [some (.ref c),some (.p (.int (k:Int)))] S=some (.p (.lst a),S):=by simp[h,lI,IU]
 rw[ie];show fP (aS _ [some (.ref c),some (.p (.int (k:Int)))] S)=_;rw[aS,o5,r,az,vE,m];simp[bF b]
noncomputable def jb(N:LS)(t:Nat)(s:Str):List Nat:=(List.range t).filter λi=>decide (N[i]? = some s)
theorem ka(N:LS)(t:Nat)(s:Str):jb N (t+1) s=if N[t]? = some s then jb N t s++[t] else jb N t s:=by
 unfold jb;rw[List.range_succ,List.filter_append];by_cases h:N[t]? = some s
 .rw [af h,p9 (by simpa using h)];rfl
 .rw [ah h,p7 (by simpa using h)];simp
theorem y2(a:t≤N.length)(h:s ∉ N.take t):jb N t s=[]:=by
 unfold jb;refine AC.mpr λi x q=>h ?_
 have x:i < t:=iZ.mp x;have e:=aN q;rw[<- im x]at e;exact aY e
theorem wO(T X:Y)(k:Nat):(T++X)[T.length+k]? = X[k]?:=by rw[b_ (z_ _ _),Af]
theorem wP(T X:Y)(x:SO):(T++x::X)[T.length]? = some x:=wO T (x::X) 0
theorem LW(T X:Y)(k:Nat)(o:SO):(T++X).set (T.length+k) o=T++X.set k o:=by rw[List.set_append_right _ _ (z_ _ _),Af]
theorem BR(T X:Y)(x o:SO):(T++x::X).set T.length o=T++o::X:=LW T (x::X) 0 o
structure MI(T:Y)(fams:List P)(o2 o3:SO)(t:Nat)(mk:List cg)(mv:List D)(S:Y):Prop where
 h0:S[T.length]? = some (.ins "Board" fields [.p (.lst fams),.ref (T.length+1),.ref (T.length+2),.ref (T.length+3),.ref (T.length+4)])
 h1:S[T.length+1]? = some (.lst ((homes fams).map .p))
 h2:S[T.length+2]? = some o2
 h3:S[T.length+3]? = some o3
 h4:S[T.length+4]? = some (.dct mk mv)
 nd:mk.Nodup
 ln:mk.length=mv.length
 le:mk.length≤t
 yes:∀s ∈ (a8 fams).take t,∃j,cF (.inr s) mk mv=some (.ref j)/\T.length+5≤j/\S[j]? = some (.lst ((cL (jb (a8 fams) t s)).map .p))
 no:∀s,s ∉ (a8 fams).take t->cF (.inr s) mk mv=none
 lo:∀k,k < T.length->S[k]? = T[k]?
 inj:∀s s' j,cF (.inr s) mk mv=some (.ref j)->cF (.inr s') mk mv=some (.ref j)->s=s'
noncomputable abbrev ML(T:Y)(p:P)(q h x:Option D):Lc:=[some (.ref T.length),some (.p p),q,h,x]
set_option tactic.hygienic true in
theorem IQ{T:Y}{a:List P}{o2 o3:SO}{t:Nat}{mk:List cg}{m:List D}{S:Y}(h:MI T a o2 o3 t mk m S){n:Nat}(ht:t≤100){rs:List P}(L:∀f ∈ a,isFam rs f){f:P}(I:(be a)[t]? = some f)(l:P)(v d:Option D) :
  ∃V W S',MI T a o2 o3 (t+1) V W S'/\cC (Ph (n+2)) (ML T l v d (some (.p (.int (t:Int))))) S=some (.nx,(ML T l v d (some (.p (.int (t:Int))))),S'):=by
 have N:(a8 a)[t]? = some (ba f):=by unfold a8;rw[b9,I];rfl
 have htl:t < (a8 a).length:=bH N;have ef:=Jm (n:=n) h.h0 h.h1 I;have em:dC (mT Tb (Ph (n+2))) (O 0) "family_of" (bw (O 4) dY) (ML T l v d (some (.p (.int (t:Int))))) S=some (.p f,S):=by rw[dC];show bQ (some (D.ref T.length,S)) _=_;rw[az];simp only[h.h0,OJ,O4];exact ef
 have ek:(bz cR (vE (dC (mT Tb (Ph (n+2))) (O 0) "family_of" (bw (O 4) dY))) (vC (.int 0))) (ML T l v d (some (.p (.int (t:Int))))) S=some (.str (ba f),S):=by obtain⟨nm,c,X,G,whos,steps,_,rfl⟩:=iL L (aY I);rw[bz,vE,em];simp[ba]
 have eo:d9 (aT Att) (O 0) "members" (ML T l v d (some (.p (.int (t:Int))))) S=some (.ref (T.length+4),S):=by simp[h.h0,lI,IU]
 have l5:T.length+4 < S.length:=bH h.h4;have C:(a8 a).take (t+1)=(a8 a).take t++[ba f]:=by rw[List.take_add_one,N];rfl
 have p:∀k,k < S.length->(S++[SO.lst []])[k]? = S[k]?:=λk hk=>cA hk;have u:ng (.ref (T.length+4)) S=some (T.length+4,mk,m):=by simp[ng,h.h4]
 have o:ng (.ref (T.length+4)) (S++[.lst []])=some (T.length+4,mk,m):=by simp[ng,p (T.length+4) l5,h.h4]
 have A:(mk.Nodup/\few mk=true):=⟨h.nd,by rw[rT];have:=h.le;lia⟩;by_cases R:ba f ∈ (a8 a).take t
 .obtain⟨j,F,hj,e2⟩:=h.yes _ R;have M:j < S.length:=bH e2;have K:(S++[SO.lst []])[j]? = some (.lst ((cL (jb (a8 a) t (ba f))).map .p)):=by rw[p j M];exact e2
  have B:(cL (jb (a8 a) t (ba f))).length≤1000000:=by have:=gQ (λi=>decide ((a8 a)[i]? = some (ba f))) (List.range t);simp[cL,jb];simp at this;lia
  refine⟨mk,m,(S++[SO.lst []]).set j (.lst ((cL (jb (a8 a) (t+1) (ba f))).map .p)),?_,?_⟩
  .have e:∀k,k < S.length->k≠j->((S++[SO.lst []]).set j (.lst ((cL (jb (a8 a) (t+1) (ba f))).map .p)))[k]? = S[k]?:=λk hk q=>by rw[aV (λz=>q z.symm),p k hk]
   refine⟨by rw[e T.length (by lia) (by lia)];exact h.h0,by rw[e (T.length+1) (by lia) (by lia)];exact h.h1,by rw[e (T.length+2) (by lia) (by lia)];exact h.h2,by rw[e (T.length+3) (by lia) (by lia)];exact h.h3,by rw[e (T.length+4) (by lia) (by lia)];exact h.h4,h.nd,h.ln,by have:=h.le;lia,λs x=>?_,λs x=>?_,λk hk=>by rw[e k (by lia) (by lia)];exact h.lo k hk,h.inj⟩
   .by_cases q:s=ba f
    .subst q;exact⟨j,F,hj,by rw[bA (by simp;lia)]⟩
    .have g:s ∈ (a8 a).take t:=by
      rw[C]at x;rcases bN.mp x with z|z
      .exact z
      .exact absurd (cz.mp z) q
     obtain⟨y,b,r,H⟩:=h.yes s g;have Q:y≠j:=λz=>q (h.inj s (ba f) j (z ▸ b) F);refine⟨y,b,r,?_⟩;rw[e y (bH H) Q,ka,ah λz=>q (by rw[N]at z;cases z;rfl)];exact H
   .exact h.no s λz=>x (by rw[C];exact i5 _ z)
  .unfold cC;rw[cE,bY,nB,eo,az];simp only[u,ek,az];rw[show d8 ar (ML T l v d (some (.p (.int (t:Int))))) S=some (.ref S.length,S++[.lst []]) by simp];simp only[az,o,c_,af A,F,fO,K];rw[show O 4 (ML T l v d (some (.p (.int (t:Int))))) (S++[SO.lst []])=some (.p (.int (t:Int)),S++[.lst []]) from rfl,az];simp only[K];rw[af (by rw[rT,aU];exact B),ka,af N];simp[cL]
 .have F:=h.no _ R;obtain⟨g1,g2,g3,g4,E⟩:=lz (.inr (ba f):cg) (.ref S.length) mk m h.nd h.ln;have c0:jb (a8 a) t (ba f)=[]:=y2 (by lia) R;refine⟨(dE (Sum.inr (ba f):cg) (.ref S.length) mk m).1,(dE (Sum.inr (ba f):cg) (.ref S.length) mk m).2,((S++[SO.lst []]).set (T.length+4) (SO.dct (dE (Sum.inr (ba f):cg) (.ref S.length) mk m).1 (dE (Sum.inr (ba f):cg) (.ref S.length) mk m).2)).set S.length (.lst [.p (.int (t:Int))]),?_,?_⟩
  .have e:∀k,k < S.length->k≠T.length+4->(((S++[SO.lst []]).set (T.length+4) (.dct (dE (.inr (ba f)) (.ref S.length) mk m).1 (dE (.inr (ba f)) (.ref S.length) mk m).2)).set S.length (.lst [.p (.int (t:Int))]))[k]? = S[k]?:=λk hk q=>by rw[aV (by lia),aV (λz=>q z.symm),p k hk]
   refine⟨by rw[e T.length (by lia) (by lia)];exact h.h0,by rw[e (T.length+1) (by lia) (by lia)];exact h.h1,by rw[e (T.length+2) (by lia) (by lia)];exact h.h2,by rw[e (T.length+3) (by lia) (by lia)];exact h.h3,by rw[aV (by lia),bA (by simp;lia)],g1,g2,by have:=h.le;lia,λs x=>?_,λs x=>?_,λk hk=>by rw[e k (by lia) (by lia)];exact h.lo k hk,λs s' j b r=>?_⟩
   .by_cases q:s=ba f
    .subst q;refine⟨S.length,by rw[E,af rfl],by lia,?_⟩;rw[bA (by simp),ka,af N,c0];rfl
    .have g:s ∈ (a8 a).take t:=by
      rw[C]at x;rcases bN.mp x with z|z
      .exact z
      .exact absurd (cz.mp z) q
     obtain⟨y,b,r,H⟩:=h.yes s g;refine⟨y,by rw[E,ah λz=>q (ij z).symm];exact b,r,?_⟩;rw[e y (bH H) (by lia),ka,ah λz=>q (by rw[N]at z;cases z;rfl)];exact H
   .rw [E,ah λz=>x (by rw[C,<- ij z];simp)];exact h.no s λz=>x (by rw[C];exact i5 _ z)
   .have low:∀s j,cF (.inr s) mk m=some (.ref j)->j < S.length:=λs j q=>by
     by_cases w:s ∈ (a8 a).take t
     .obtain⟨y,b,_,H⟩:=h.yes s w;rw[q]at b;cases b;exact bH H
     .rw [h.no s w]at q;cases q
    rw[E]at b r;split at b
    .rename_i z1;cases b;split at r
     .rename_i z2;exact(ij z1).symm.trans (ij z2)
     .exact absurd (low _ _ r) (by lia)
    .split at r
     .cases r;exact absurd (low _ _ b) (by lia)
     .exact h.inj s s' j b r
  .have l1:((S++[SO.lst []]).set (T.length+4) (.dct (dE (.inr (ba f)) (.ref S.length) mk m).1 (dE (.inr (ba f)) (.ref S.length) mk m).2))[S.length]? = some (.lst []):=by
    rw[aV (by lia)];exact iw _ _
   unfold cC;rw[cE,bY,nB,eo,az];simp only[u,ek,az];rw[show d8 ar (ML T l v d (some (.p (.int (t:Int))))) S=some (.ref S.length,S++[.lst []]) by simp];simp only[az,o,c_,af A,F,fO,l1];rw[show ∀Z:Y,O 4 (ML T l v d (some (.p (.int (t:Int))))) Z=some (.p (.int (t:Int)),Z) from λ_=>rfl,az];simp only[l1];rfl
theorem IR(r:∀f ∈ a,isFam A f)(H:(be a).length≤100)(p:P)(s c:Option D)(h:MI T a o u 0 [] [] S) :
  ∃mk m x q,MI T a o u (be a).length mk m x/\bR (am 4) (cC (Ph (n+2))) (intsFrom 0 (be a).length) [some (.ref T.length),some (.p p),s,c,none] S=some (.nx,[some (.ref T.length),some (.p p),s,c,q],x):=by
 obtain⟨z,x,e,mk,m,q,I,rfl⟩:=cM (g:=am 4) (b:=cC (Ph (n+2))) (Inv:=λt L S=>∃mk m q,MI T a o u t mk m S/\L=[some (.ref T.length),some (.p p),s,c,q]) (s:=intsFrom 0 (be a).length) (k:=0) (L:=[some (.ref T.length),some (.p p),s,c,none]) (S:=S) (λi v L S y I=>by obtain⟨rfl,l⟩:=ints_get y;obtain⟨mk,m,q,I,rfl⟩:=I;simp only[cS];rw[fU]at I ⊢;obtain⟨d,w,x,j,e⟩:=IQ I (n:=n) (by lia) r (bo l) p s c;exact⟨_,_,x,rfl,e,d,w,_,j,rfl⟩) ⟨[],[],none,h,rfl⟩
 rw[cP,fU]at I;exact⟨mk,m,x,q,I,e⟩
theorem xG(e:Pln f o w)(T:Y):∃S,Ph (n+4) "Board.__init__" [.ref T.length,.p (.tup [.lst f,.lst o,.lst w])] (T++[.ins "Board" [] []])=some (.p .non,S)/\Bd (pq f o w) S.length T.length S/\∀k,k < T.length->S[k]? = T[k]?:=by
 let l:P:=.tup [.lst f,.lst o,.lst w]
 let R:=bO (a8 f) o
 have C:R.length≤2048:=wf (B:=pq f o w) e;have Q:=iy e;have q:=oE (s:=f);obtain⟨u,g,m⟩:=Ki (K:=Ph (n+3)) l (.p (.lst f)) (.ref (T.length+1)) (.ref (T.length+2)) (i:=T.length) (j:=T.length+3) (by lia) R 0 ([],[]) RB (by simp;lia) (λp A=>by obtain⟨r,_,a,b,rfl⟩:=sh (B:=pq f o w) A;exact⟨r,a,b,rfl⟩) none none (T++[.ins "Board" ["families","homes","pairs","places"] [.p (.lst f),.ref (T.length+1),.ref (T.length+2),.ref (T.length+3)],.lst ((homes f).map .p),.fz (.lst R),.dtt [] []]) (wP _ _ _) (wO _ _ 3)
 rw[show((0:Nat):Int)=0 from rfl,LW]at m;generalize d:putAll 0 R ([],[])=v at m;let c:Y:=T++[.ins "Board" ["families","homes","pairs","places"] [.p (.lst f),.ref (T.length+1),.ref (T.length+2),.ref (T.length+3)],.lst ((homes f).map .p),.lst (R.map .p),.dtt [] []]
 let x:Y:=T++[.ins "Board" fields [.p (.lst f),.ref (T.length+1),.ref (T.length+2),.ref (T.length+3),.ref (T.length+4)],.lst ((homes f).map .p),.fz (.lst R),.dtt v.1 v.2,.dct [] []]
 have I:MI T f (.fz (.lst R)) (.dtt v.1 v.2) 0 [] [] x:=
  ⟨wP _ _ _,wO _ _ 1,wO _ _ 2,wO _ _ 3,wO _ _ 4,by simp,rfl,by simp,λs h=>(by simp at h),λs _=>rfl,λk hk=>cA hk,λs W j h=>(by cases h)⟩
 obtain⟨mk,z,S,V,M,H⟩:=IR (n:=n+1) e.hf (by lia) l u g I;have t:Bat (pq f o w) S.length T.length (T.length+1) (T.length+2) (T.length+3) (T.length+4) mk z S:=by
  refine⟨M.h0,.inl M.h1,.inr M.h2,?_,M.h4,λs G=>?_,bH M.h0,bH M.h1,bH M.h2,bH M.h3,bH M.h4,ak _⟩
  .have:=M.h3;rw[<- d]at this;exact this
  .have N:(a8 f).length=(be f).length:=by simp[a8]
   obtain⟨j,L,_,y⟩:=M.yes s (by rw[<- N,mP];exact G);refine⟨j,bH y,by rw[<- B7];exact L,.inl ?_⟩;have:jb (a8 f) (be f).length s=eW (pq f o w).N s:=by rw[<- N];rfl
   rw[<- this];exact y
 refine⟨S,?_,⟨_,_,_,_,mk,z,t⟩,M.lo⟩;have F:=Kc (n:=n+1) e.hf e.f0.2 (.lst o) (.lst w);have K:=JP (n:=n) e;rw[rW];show fP (iQ _ [some (.ref T.length),some (.p l),none,none,none] (T++[.ins "Board" [] []]))=_;unfold iQ;rw[al (e:=[some (.ref T.length),some (.p l),none,none,none]) (c:=T++[.ins "Board" ["families"] [.p (.lst f)]]) (by simp[l,lI,Ev.putK,Ev.sr])];rw[al (e:=[some (.ref T.length),some (.p l),none,none,none]) (c:=T++[.ins "Board" ["families","homes"] [.p (.lst f),.ref (T.length+1)],.lst ((homes f).map .p)]) (by simp[l,lI,Ev.putK,Ev.sr,F,wP,BR])];rw[al (e:=[some (.ref T.length),some (.p l),none,none,none]) (c:=T++[.ins "Board" ["families","homes","pairs"] [.p (.lst f),.ref (T.length+1),.ref (T.length+2)],.lst ((homes f).map .p),.lst (R.map .p)]) (by simp[l,lI,Ev.putK,Ev.sr,K,R,wP,BR])];rw[al (e:=[some (.ref T.length),some (.p l),none,none,none]) (c:=c) (by simp[c,lI,Ev.putK,Ev.sr,wP,BR])];rw[al (by rw[bS,lZ,vE];rw[show d9 (aT Att) (O 0) "pairs" [some (D.ref T.length),some (.p l),none,none,none] c=some (.ref (T.length+2),c) by simp[c,lI,i9,wP],az,f6 (wO _ _ 2),LW];exact m)]
 rw[al (e:=[some (.ref T.length),some (.p l),u,g,none]) (c:=x) (by simp[x,lI,Ev.putK,Ev.sr,o6,fields,wP,BR])];have E:(homes f).length < 1000000:=by lia
 rw[bS,show jq (dP (d9 (aT Att) (O 0) "homes")) [some (D.ref T.length),some (.p l),u,g,none] x=some (intsFrom 0 (homes f).length,x) by simp[x,lI,IU,dt,E,wP,wO],az,q];rw[H];rfl
variable{B:BD}
theorem StL.at(S:StL B h r)(hk:k < (be B.fams).length):∃f x,(be B.fams)[k]? = some f/\h[k]? = some x/\HandOk B k f x:=by have a:=bo hk;have e:h[k]? = some (h[k]'(by rw[S.hl];exact hk)):=bo _;exact⟨_,_,a,e,S.hh k _ _ a e⟩
theorem N0:∀n:Nat,Ph (n+14) "ends_on"=Ph 14 "ends_on"
 |0=>rfl
 |n+1=>by have h:pQ 14 (n+14)=true:=Nat.ble_eq_true_of_le (by lia);rw[<- N0 n];exact CO (n:=n+14) (by unfold stays;rw[h];generalize pQ 13 (n+14)=c;revert c;decide +kernel)
def SE(B:BD)(st:P)(E:List P):Prop:=E.length≤40000/\(∀z ∈ E,okE B z)/\∀(b i:Nat)(S:Y),Bd B b i S->∃h,Ph 14 "ends_on" [.ref i,.p st] S=some (.ref S.length,h)/\Fr b S h/\h[S.length]? = some (.lst (E.map .p))
theorem Pa(Q:BP B)(hL:Places B)(T:StL B A s):∃E,SE B (.tup [.tup A,.tup s]) E:=by
 have h4:=iy Q;have hhl:=oE (s:=B.fams);obtain⟨la,la1,la3,ela⟩:=Kb Q (n:=8) rfl (.inl rfl) T;obtain⟨da,da1,da3,eda⟩:=Kb Q (n:=8) rfl (.inr rfl) T;let p:Nat->Nat->Option D->Lc:=λi r' j=>[qr i,qt [.tup A,.tup s],qr r',j]
 obtain⟨f,h1,hR,h3⟩:=d7 (t:=GC B) (g:=am 3) (b:=kZ (Ph 13)) (Sp:=fun G S=>Fr G.b G.S0 S) (r:=fun G=>G.r) (R:=fun v ys=>∀z ∈ ys,okE B z) (c:=6144) (M:=100000) (s:=intsFrom 0 (homes B.fams).length) (p:=fun G L=>∃j,L=p G.i G.r j) (fun x hx=>by
  obtain⟨k,rfl,hk⟩:=g8 hx;simp only[cS];obtain⟨f,x,g1,g2,_,_,_,_,_,_,X,r,cs,ws,rfl,hr1,hcs,hwl,hwi⟩:=T.at (k:=k) (by lia);obtain⟨nm,C,H,y,whos,F,hF,rfl⟩:=iL Q.hf (aY g1);obtain⟨rfl,hce,rfl,rfl,rfl,rfl⟩:nm=_/\C=_/\H=_/\y=_/\whos=_/\F=_:=by simp only[P.tup.injEq,iV,P.str.injEq,P.int.injEq,P.lst.injEq,and_true]at X;obtain⟨a,b,c,d,e,f⟩:=X;exact⟨a,Int.ofNat.inj b,c,d,e,f⟩
  obtain⟨E,m1,m2,m3⟩:=OW Q hL (n:=1) rfl hF g1 hr1 hcs hwl hwi T.hr T g2;refine⟨E,m1,m2,λG L S acc hLp fr V hM=>?_⟩;obtain⟨j,rfl⟩:=hLp;obtain⟨d,S1,e1,m,an⟩:=m3 G.b G.i S (G.bd.fr fr);obtain⟨S2,e2,q⟩:=tH (b:=G.b) (g:=Ph 13 "hand_ends") (q:=MV fZ kC Ct) (L:=p G.i G.r (qi (k:Int))) (S:=S) (l:=[.ref G.i,.p (.tup [.tup A,.tup s]),.p (.int (k:Int))]) rfl e1 m (aA G.le fr.len) an;have W:=q.hi _ _ (aA G.le G.hr) V;exact⟨p G.i G.r (qi (k:Int)),_,_,rfl,nv rfl V e2 W (by lia),⟨_,rfl⟩,(fr.trans q).set G.le G.hr _,kK W⟩)
 rw[cP]at h1 h3;refine⟨(intsFrom 0 (homes B.fams).length).flatMap f++la++da,?_,λz t=>?_,λb i S N=>?_⟩
 .rw [a_,a_];lia
 .rcases bN.mp t with t|t
  .rcases bN.mp t with t|t
   .obtain⟨v,hv,t⟩:=bX.mp t;exact hR v hv z t
   .exact la3 z t
  .exact da3 z t
 .generalize (intsFrom 0 (homes B.fams).length).flatMap f=ys at h1 h3;have I:=Fr.app b S [.lst []];have K:=N.le;obtain⟨L',S1,e1,⟨j,rfl⟩,m,Z⟩:=h3 ⟨b,i,S,S.length,N,ak _⟩ (p i S.length none) (S++[.lst []]) [] ⟨none,rfl⟩ I (iw _ _) (by simp;lia);obtain⟨d2,T2,f2,q,an2⟩:=ela b i S1 (N.fr m);obtain⟨S2,e2,w⟩:=tH (b:=b) (g:=Ph 13 "flaw_ends") (q:=MV fZ kC (U (vt "lose"))) (L:=p i S.length j) (S:=S1) (l:=[.ref i,.p (.tup [.tup A,.tup s]),.p (.str "lose")]) rfl f2 q (aA K m.len) an2;have hl2:=w.hi _ _ K Z;have o:Fr b S (S2.set S.length (.lst (([]++ys++la).map .p))):=(m.trans w).set K (ak _) _;have l:=kK (x:=.lst (([]++ys++la).map .p)) hl2;obtain⟨d3,T3,f3,fr3,an3⟩:=eda b i _ (N.fr o);obtain⟨S3,e3,u⟩:=tH (b:=b) (g:=Ph 13 "flaw_ends") (q:=MV fZ kC (U (vt "double"))) (L:=p i S.length j) (l:=[.ref i,.p (.tup [.tup A,.tup s]),.p (.str "double")]) rfl f3 fr3 (aA K o.len) an3;have hl3:=u.hi _ _ K l;refine⟨S3.set S.length (.lst (([]++ys++la++da).map .p)),?_,(o.trans u).set K (ak _) _,by rw[kK hl3];simp⟩;obtain⟨jh,jp,jl,jm,mk,mv,h⟩:=N.fr I;have hq:(homes B.fams).length < 1000000:=by lia
  rw[xn];show fP (k4 _ [qr i,qt [.tup A,.tup s],none,none] S)=_;unfold k4;rw[al (by simp[p];exact⟨rfl,rfl⟩)];rw[al (e:=p i S.length j) (c:=S1) (by rw[bS,show jq (dP (d9 (aT Att) fZ "homes")) (p i S.length none) (S++[.lst []])=some (intsFrom 0 (homes B.fams).length,S++[.lst []]) by rw[Ja,HK,h.homes rfl];simp[h.ho.len,hq]];exact e1)]
  rw[al (nv rfl Z e2 hl2 (by simp;lia))];rw[al (nv rfl l e3 hl3 (by simp;lia))];rfl
theorem isStep.ok(q:pe e)(f:∀x ∈ r,j9 x)(h:isStep s r e w l v):cK 8 v=true:=by
 obtain⟨i,b,j,k,g,p,m,a,S,rfl⟩:=h;have N:=ou q.1;have M:∀x ∈ oy e++more k,j9 x:=λx n=>(bN.mp n).elim (N x) (vm k x);have o:cK 7 (.lst g)=true:=JS λc h=>by obtain⟨x,t,n,d,rfl⟩:=S.ch c h;simp[n,dQ (d.ok M) (show 4≤5 by lia)]
 have u:cK 7 (.lst p)=true:=JS λc h=>dQ ((S.hsn c h).ok N) (by lia);show(List.all [P.str i,b,j,k,.lst g,.lst p,m] (cK 7))=true;simp only[dv,pU,o,u,vk,a,(f b S.h1).ok 7,(f m S.h2).ok 7,S.wh.ok N,dQ S.htk.ok (show 2≤7 by lia),p_]
theorem CT(m:BP B):cK 19 (.tup [.lst B.fams,.lst B.roads,.lst B.wishes])=true:=by
 have A:cK 18 (.lst B.fams)=true:=JS λf p=>by
  obtain⟨K,n,o,e,w,t,F,rfl⟩:=m.hf f p;have u:cK 16 (.lst o)=true:=gf F.hro 15;have g:cK 16 (.lst e)=true:=JS λc h=>by obtain⟨x,lo,I,l,S,_,_,_,_,rfl⟩:=F.hce.1 c h;have v:aG x=true:=S;simp[v]
  have i:cK 16 (.lst w)=true:=gf F.hwh 15;have j:cK 16 (.lst t)=true:=JS λc h=>dQ ((F.hst c h).ok F.hce F.hro) (by lia);show(List.all [P.str K,.int (n:Int),.lst o,.lst e,.lst w,.lst t] (cK 16))=true;simp only[dv,pU,u,g,i,j,vk,BQ,F.hnm,p_]
 have C:cK 18 (.lst B.roads)=true:=JS λr q=>by
  obtain⟨a,b,kd,c,E,G,y,z,d,_,_,rfl⟩:=m.hr r q;have:aG kd=true:=by rcases d with rfl|rfl<;>simp
  simp[y,z,this]
 have D:cK 18 (.lst B.wishes)=true:=JS λr q=>by
  obtain⟨k,f,s,hk,p,H,rfl⟩:=m.hw r q;have:aG k=true:=by rcases hk with rfl|rfl<;>simp
  simp[p,H,this]
 show(List.all [P.lst B.fams,.lst B.roads,.lst B.wishes] (cK 18))=true;simp only[dv,pU,A,C,D,p_]
theorem kE.ok(h:kE B st):cK 5 st=true:=by
 obtain⟨f,d,rfl,S⟩:=h;have b:cK 4 (.tup f)=true:=bb.mpr λx s=>by
  obtain⟨i,a,rfl⟩:=i6.mp s;obtain⟨_,_,_,_,_,_,_,r,k,w,n,_,t,_,hw⟩:=S.hh i _ _ (bo (by rw[<- S.hl];exact a)) (bo a);have o:cK 2 (.tup k)=true:=bb.mpr λc h=>by obtain⟨i,_,rfl⟩:=t.2.1 c h;simp
  have q:cK 2 (.tup w)=true:=bb.mpr λc h=>(hw c h).isI.ok 1;rw[n];show(List.all [_,P.tup k,P.tup w] (cK 2))=true;rw[dv,dv,dv,o,q];simp
 have m:cK 4 (.tup d)=true:=bb.mpr λx s=>by obtain⟨i,a,rfl⟩:=i6.mp s;obtain⟨v,p,e⟩:=S.hr.2 i _ (bo a);rw[e];exact bb.mpr λl h=>dQ (p.2 l h).1.ok (by lia)
 show(List.all [P.tup f,P.tup d] (cK 4))=true;rw[dv,dv,b,m];rfl
theorem kds_all:∀{xs:List P},(∀x ∈ xs,Nk.kd (pd x)=true)->Nk.kds (jy xs)=true
 | [],_=>rfl
 |x::xs,h=>by rw[jy,Nk.kds,h x aI,kds_all λy hy=>h y (aH _ hy)];rfl
theorem kP(h:∀x ∈ xs,Nk.kd (pd x)=true):Nk.kd (pd (.tup xs))=true:=kds_all h
theorem kE.good(h:kE B st):eU st=true:=by
 have ho:=dQ h.ok (show 5≤8 by lia);obtain⟨hs,rds,rfl,hS⟩:=h;unfold eU;rw[ho];show(true && (true && Nk.kd (pd (.tup [.tup hs,.tup rds]))))=true;rw[uP,uP];refine kP λx hx=>?_;rcases aL.mp hx with rfl|hx
 .refine kP λx hx=>?_;obtain⟨i,hi,rfl⟩:=i6.mp hx;obtain⟨_,_,_,_,_,_,_,r,cs,ws,hxe,_,hc,_,hw⟩:=hS.hh i _ _ (bo (by rw[<- hS.hl];exact hi)) (bo hi);rw[hxe];refine kP λx hx=>?_;simp only[aL,cZ,cY]at hx;rcases hx with rfl|rfl|rfl
  .rfl
  .exact kP λc h=>by obtain⟨i,_,rfl⟩:=hc.2.1 c h;rfl
  .exact kP λc h=>by obtain⟨i,rfl⟩:=(hw c h).isI;rfl
 .rw [cz.mp hx];refine kP λx hx=>?_;obtain⟨i,hi,rfl⟩:=i6.mp hx;obtain⟨ls,hl,e⟩:=hS.hr.2 i _ (bo hi);rw[e];refine kP λl h=>?_;obtain⟨m,j,hm,_,rfl⟩:=(hl.2 l h).1;refine kP λy hy=>?_;simp only[aL,cZ,cY]at hy;rcases hy with rfl|rfl
  .exact hm
  .rfl
theorem GK{B:BD}(P:BP B):StL B ((be B.fams).map iM) (List.replicate B.PR.length (.tup [])):=by
 refine⟨by simp,λk f x t q=>?_,by simp,λk r z=>⟨[],⟨by simp,λ_ h=>(by cases h)⟩,(mQ.mp (aY z)).2⟩⟩;rw[b9,t]at q;cases q;obtain⟨H,n,m,e,o,s,F,rfl⟩:=iL P.hf (aY t);refine⟨H,n,m,e,o,s,rfl,0,e.map rR,List.replicate o.length (.int (-1)),rfl,len_pos F.r0,⟨by simp,λc b=>?_,λi c v b p=>?_⟩,by simp,λw hw=>.inl (mQ.mp hw).2⟩
 .obtain⟨d,hd,rfl⟩:=aZ.mp b;obtain⟨x,lo,y,a,_,u,g,j,l,rfl⟩:=F.hce.1 d hd;exact⟨a,by lia,rfl⟩
 .rw [b9,b]at p;cases p;obtain⟨x,lo,y,a,_,u,g,j,l,rfl⟩:=F.hce.1 c (aY b);exact BC (by lia) (by lia)
end My
namespace My
open PySem L2 Ev
variable{a:Type}
theorem yy:∀{s l:List a},s.Nodup->(∀x ∈ s,x ∈ l)->s.length≤l.length
 | [],_,_,_=>by simp
 |k::s,l,h,e=>by
  obtain⟨b,c⟩:=bW.mp h;obtain⟨m,r,rfl⟩:=List.append_of_mem (e k aI);have:=yy (l:=m++r) c λx f=>by have:=e x (aH _ f);have n:x≠k:=λz=>b (z ▸ f);simp only[bN,aL,n,false_or]at this ⊢;exact this
  simp only[a_,aR]at this ⊢;lia
theorem jC{a n:Type}{f:a->List n}{c:Nat}:∀{s:List a},(∀x ∈ s,(f x).length≤c)->(s.flatMap f).length≤s.length * c
 | [],_=>by simp
 |x::s,h=>by
  have:=jC (s:=s) λy e=>h y (aH _ e);have:=h x aI
  rw[fX,a_,aR,mG];lia
theorem wI(l:List a):∀n:Nat,(eT (List.replicate n l)).length=l.length ^ n
 |0=>rfl
 |n+1=>by have i:=wI l n;rw[jx]at i ⊢;rw[cJ,aC,Ap,i,lc,jP]
variable{B:BD}
theorem o0(P:BP B):∃b h,be B.fams=b++h/\b.length≤2/\(h=[]\/∃z,h=[z]/\wD z)/\∀r ∈ B.roads,∀z ∈ h,ba z≠rA r/\ba z≠rB r:=by
 obtain⟨base,t,e,b,h,s⟩:=P.st;rcases b with ⟨f,rfl,a⟩|⟨f,g,rfl,a,n⟩
 .refine⟨List.replicate (cX f) f,t,?_,by simpa using a,h,s⟩;rcases h with rfl|⟨z,rfl,x⟩<;>rw[e]<;>simp[be,hw];simp[x.1]
 .refine⟨List.replicate (cX f) f++List.replicate (cX g) g,t,?_,by simp;lia,h,s⟩;rcases h with rfl|⟨z,rfl,x⟩<;>rw[e]<;>simp[be,hw];simp[x.1]
variable{b:Nat}
theorem xJ(i:BP B)(h:pr r x b ∈ B.PR):((x=0/\b=1)\/(x=1/\b=0))/\r ∈ B.roads/\B.N[x]? = some (rA r)/\B.N[b]? = some (rB r):=by
 obtain⟨g,o,e,F,_,l⟩:=o0 i;unfold BD.PR bO at h;obtain⟨p,n,h⟩:=bX.mp h;unfold yu at h;obtain⟨v,j,h⟩:=bX.mp h;obtain⟨d,c,h⟩:=aZ.mp h;obtain⟨m,a⟩:=ff.mp c;simp only[pr,P.tup.injEq,iV,P.int.injEq,and_true]at h;obtain⟨rfl,H,S⟩:=h;obtain rfl:v=x:=by lia
 obtain rfl:d=b:=by lia
 have w:=jH.mp j;have u:=jH.mp m;have a:v≠d:=by simpa using a
 have y:∀{k:Nat}{s:Str},B.N[k]? = some s->(s=rA p\/s=rB p)->k < 2:=λ{k s} hk f=>by
  unfold BD.N a8 at hk;rw[e,b9]at hk;by_cases q:k < g.length
  .lia
  .rw [b_ (by lia)]at hk;cases t:o[k-g.length]? with
   |none=>rw[t]at hk;cases hk
   |some z=>
    rw[t]at hk;cases hk;have:=l p n z (aY t)
    rcases f with f|f
    .exact absurd f this.1
    .exact absurd f this.2
 have:=y w (.inl rfl);have:=y u (.inr rfl)
 exact⟨by lia,n,w,u⟩
def pk(x:P):P:=.tup [gc x 1,gc x 2]
theorem MT(s:BP B):B.PR.length≤2:=by
 have p:B.PR.Pairwise λx y=>pk x≠pk y:=by
  refine AB.mpr ⟨λr _=>?_,s.rd.imp_of_mem λ{r z} i c hd x h y e q=>?_⟩
  .unfold yu;refine AB.mpr ⟨λa _=>?_,(Cf B.N (rA r)).imp λ{a m} n x h y e q=>?_⟩
   .refine Au.mpr (((Cf B.N (rB r)).filter _).imp λ{b k} n q=>n ?_);simp only[pk,pr,gc,P.tup.injEq,iV]at q;have:=q.2.1;simp at this;lia
   .obtain⟨b,_,rfl⟩:=aZ.mp h;obtain⟨k,_,rfl⟩:=aZ.mp e;refine n ?_;simp only[pk,pr,gc,P.tup.injEq,iV]at q;have:=q.1;simp at this;lia
  .have d:x ∈ B.PR:=bX.mpr ⟨r,i,h⟩;have w:y ∈ B.PR:=bX.mpr ⟨z,c,e⟩;have f:∀{r x},x ∈ yu B.N r->∃a b,x=pr r a b:=λ{r x} h=>by
    unfold yu at h;obtain⟨a,_,h⟩:=bX.mp h;obtain⟨b,_,rfl⟩:=aZ.mp h;exact⟨a,b,rfl⟩
   obtain⟨a,b,rfl⟩:=f h;obtain⟨m,k,rfl⟩:=f e;obtain⟨_,_,u,g⟩:=xJ s d;obtain⟨_,_,t,v⟩:=xJ s w;have j:a=m/\b=k:=by simp only[pk,pr,gc,P.tup.injEq,iV]at q;simp at q;lia
   obtain⟨rfl,rfl⟩:=j;rw[u]at t;rw[g]at v;exact hd ⟨cm t,cm v⟩
 have:=yy (s:=B.PR.map pk) (l:=[.tup [.int 0,.int 1],.tup [.int 1,.int 0]]) (Au.mpr p) λy e=>by obtain⟨x,h,rfl⟩:=aZ.mp e;obtain⟨r,_,a,b,rfl⟩:=sh h;rcases(xJ s h).1 with ⟨rfl,rfl⟩|⟨rfl,rfl⟩<;>simp[pk,pr,gc]
 simpa using this
noncomputable def WS(k:Nat):List P:=if k=0 then [.int (-1),.int 1] else if k=1 then [.int (-1),.int 0] else [.int (-1)]
theorem MP(k:Nat):(WS k).length≤2:=by
 unfold WS;split
 .simp
 .split<;>simp
variable{k:Nat}
theorem WH.ws(P:BP B)(L:Places B)(h:WH B k w):w ∈ WS k:=by
 rcases h with rfl|⟨s,d,rfl,g⟩
 .unfold WS;split
  .simp
  .split<;>simp
 .obtain⟨j,r,a,b,_,_,p,x,e⟩:=L.ok _ _ _ g;have:=(xJ P (aY p)).1
  have x:s=a:=by lia
  have e:k=b:=by lia
  subst x e;rcases this with ⟨rfl,rfl⟩|⟨rfl,rfl⟩<;>simp[WS]
def hst(k:Nat)(f:P):List P:=(List.range (mY (gc f 2)).length).flatMap λ(r:Nat)=>(g9 (mY (gc f 3))).flatMap λc=>(eT (List.replicate (mY (gc f 4)).length (WS k))).map λw=>.tup [.int (r:Int),.tup c,.tup w]
theorem B5(k:Nat)(f:P):(hst k f).length≤(mY (gc f 2)).length * ((g9 (mY (gc f 3))).length * (WS k).length ^ (mY (gc f 4)).length):=by
 unfold hst;have:=jC (s:=List.range (mY (gc f 2)).length) (f:=λ(r:Nat)=>(g9 (mY (gc f 3))).flatMap λs=>(eT (List.replicate (mY (gc f 4)).length (WS k))).map λw=>P.tup [.int (r:Int),.tup s,.tup w]) (c:=(g9 (mY (gc f 3))).length * (WS k).length ^ (mY (gc f 4)).length) λr _=>jC λs _=>by rw[aU,wI];exact ak _
 rwa [As]at this
variable{f:P}
theorem RJ(h:isFam t f)(k:Nat):(hst k f).length≤4:=by obtain⟨m,e,r,c,w,s,F,rfl⟩:=h;have x:=B5 k (.tup [.str m,.int (e:Int),.lst r,.lst c,.lst w,.lst s]);have a:=F.b2;have n:(WS k).length ^ w.length≤2 ^ w.length:=Nat.pow_le_pow_left (MP k) _;refine aA x (aA ?_ a);show r.length * ((g9 c).length * (WS k).length ^ w.length)≤_;rw[pR];exact pS _ (pS _ n)
theorem RK(h:wD f):(hst 2 f).length≤1:=by refine aA (B5 2 f) ?_;rw[h.2.1,h.2.2];simp[WS]
theorem HandOk.mem(P:BP B)(L:Places B)(h:HandOk B k f x):x ∈ hst k f:=by obtain⟨v,e,o,c,a,s,rfl,r,n,q,rfl,p,t,w,hw⟩:=h;refine bX.mpr ⟨r,iZ.mpr p,bX.mpr ⟨n,Gs t,aZ.mpr ⟨q,jA (by rw[uL];exact w) λi d y b m=>?_,rfl⟩⟩⟩;rw[(mQ.mp (aY b)).2];exact(hw y (aY m)).ws P L
def Ra(B:BD)(x:P):List P:=.tup []::(L5 ((be B.fams)[(iv (gc x 1)).toNat]?.getD .non)).map λl=>.tup [l]
theorem OK{b:List P}{f:P}(h:isFam b f):(L5 f).length≤4:=by
 obtain⟨p,w,r,e,o,t,F,rfl⟩:=h;have:=F.b1
 have x:=F.b3;refine aA (jC (c:=2) λs hst=>?_) (by show t.length * 2≤4;lia);obtain⟨v,q,u,d,g,n,m,k,S,rfl⟩:=F.hst s hst;have:=S.sl
 refine aA (jC (c:=2) λn a=>?_) (by show n.length * 2≤2;lia);rw[aU];exact x
def Kj(B:BD):List P:=(eT ((be B.fams).mapIdx hst)).flatMap λh=>(eT (B.PR.map (Ra B))).map λr=>.tup [.tup h,.tup r]
theorem BJ:∀{s:List (List a)}{c:Nat},(∀e ∈ s,e.length≤c)->(eT s).length≤c ^ s.length
 | [],c,_=>by simp[eT]
 |e::r,c,h=>by have i:=BJ (s:=r) λx k=>h x (aH _ k);have n:=h e aI;rw[jx]at i ⊢;rw[aC,Ap,aR,lc,jP];exact mH i n
theorem Ds{B:BD}(P:BP B):(Kj B).length≤400:=by
 have q:(eT ((be B.fams).mapIdx hst)).length≤16:=by
  obtain⟨w,i,e,l,t,_⟩:=o0 P;have h:∀f ∈ be B.fams,∀k,(hst k f).length≤4:=λf m k=>RJ (iL P.hf m) k;rw[e]at h ⊢;rw[jx];match w,l with
  | [],_=>
   rcases t with rfl|⟨z,rfl,_⟩
   .simp
   .have:=h z (by simp) 0;simp;lia
  | [f],_=>
   have q:=h f (by simp) 0;rcases t with rfl|⟨z,rfl,_⟩
   .simp;lia
   .have n:=h z (by simp) 1;have:=mH q n
    simpa using this
  | [f,g],_=>
   have q:=h f (by simp) 0;have n:=h g (by simp) 1;have s:=mH q n;rcases t with rfl|⟨z,rfl,t⟩
   .simpa using s
   .have:=mH s (RK t);simpa[pR] using this
 have n:(eT (B.PR.map (Ra B))).length≤25:=by
  refine aA (BJ (c:=5) λj v=>?_) ?_
  .obtain⟨x,d,rfl⟩:=aZ.mp v;obtain⟨r,_,a,b,rfl⟩:=sh d;have p:=(xJ P d).2.2.1;unfold BD.N a8 at p;rw[b9]at p;cases m:(be B.fams)[a]? with
   |none=>rw[m]at p;cases p
   |some f=>have:=OK (iL P.hf (aY m));unfold Ra;rw[show(iv (gc (pr r a b) 1)).toNat=a from rfl,m,aR,aU];simp;lia
  .rw [aU];exact aA (jS (by decide) (MT P)) (by decide)
 refine aA (jC (c:=25) λu _=>by rw[aU];exact n) ?_;lia
variable{s:P}
theorem kE.mem(P:BP B)(L:Places B)(h:kE B s):s ∈ Kj B:=by
 obtain⟨q,d,rfl,S⟩:=h;refine bX.mpr ⟨q,jA (by rw[List.length_mapIdx];exact S.hl) λi w y n k=>?_,aZ.mpr ⟨d,jA (by rw[aU];exact S.hr.1) λi w y n k=>?_,rfl⟩⟩
 .rw [List.getElem?_mapIdx]at n;obtain⟨f,c,rfl⟩:=eA.mp n;exact(S.hh i f y c k).mem P L
 .rw [b9]at n;obtain⟨x,m,rfl⟩:=eA.mp n;obtain⟨v,e,rfl⟩:=S.hr.2 i y k;match v,e with
  | [],_=>exact aI
  | [l],e=>obtain⟨r,a,b,p,f,c,t⟩:=(e.2 l (by simp)).2;rw[p]at m;cases m;refine aH _ (aZ.mpr ⟨l,?_,rfl⟩);rw[show(iv (gc (pr r a b) 1)).toNat=a from rfl,c];exact t
  |_::_::_,e=>have:=e.1;simp at this
theorem u7{B:BD}(x:BP B)(L:Places B){s:List P}(h:∀k ∈ s,kE B k)(n:s.Nodup):s.length≤400:=aA (yy n λk hk=>(h k hk).mem x L) (Ds x)
noncomputable def EN(B:BD)(s:P):List P:=open Classical in if h:∃E,SE B s E then h.choose else []
theorem Kq(P:BP B)(L:Places B)(h:kE B s):SE B s (EN B s):=by obtain⟨x,r,rfl,S⟩:=h;have h:=Pa P L S;unfold EN;rw[dif_pos h];exact h.choose_spec
def we(k:List P)(z:P):List P:=if nq (gc z 1) k=true then k else k++[gc z 1]
def stepK(k E:List P):List P:=E.foldl we k
def KI(B:BD)(s:List P):Prop:=(∀k ∈ s,kE B k)/\s.Nodup
theorem KI.good(h:KI B x):x.all eU=true:=bb.mpr λk hk=>(h.1 k hk).good
theorem BM{k:P}:∀{s:List P},k ∈ s->pd k ∈ jy s
 |q::s,h=>by
  rw[jy];rcases aL.mp h with rfl|h
  .exact aI
  .exact aH _ (BM h)
set_option tactic.hygienic true in
theorem KI.add(h:KI B c)(k:okE B z):KI B (we c z):=by
 obtain⟨d,e,rfl,_,x⟩:=k;unfold we;split
 .exact h
 .rename_i q;refine⟨eY h.1 x,lh.mpr ⟨h.2,by simp,λa s b n w=>?_⟩⟩;rw[cz.mp n]at w;have w:a=e:=w;subst w;exact q ((rM x.good h.good).mpr (BM s))
theorem KI.step:∀{E k:List P},KI B k->(∀z ∈ E,okE B z)->KI B (stepK k E)
 | [],_,h,_=>h
 |z::E,k,h,x=>KI.step (E:=E) (h.add (x z aI)) λy a=>x y (aH _ a)
theorem JB(k:List P)(z:P):∃t,we k z=k++t:=by
 unfold we;split
 .exact⟨[],by simp⟩
 .exact⟨_,rfl⟩
theorem wE:∀(E k:List P),∃t,stepK k E=k++t
 | [],k=>⟨[],by simp[stepK]⟩
 |z::E,k=>by obtain⟨t,e⟩:=JB k z;obtain⟨x,h⟩:=wE E (we k z);exact⟨t++x,by show stepK (we k z) E=_;rw[h,e,fg]⟩
def BF(B:BD):Nat->Nat->List P->List P
 |0,_,k=>k
 |n+1,i,k=>match k[i]? with
  |some s=>BF B n (i+1) (stepK k (EN B s))
  |none=>k
theorem GW{B:BD}(x:BP B)(L:Places B):∀(n i:Nat){k:List P},KI B k->KI B (BF B n i k)
 |0,_,_,h=>h
 |n+1,i,k,h=>by
  unfold BF;cases e:k[i]? with
  |none=>exact h
  |some s=>exact GW x L n (i+1) (h.step (Kq x L (h.1 s (aY e))).2.1)
noncomputable def yes(k:List P):List D:=k.map λ_=>.p (.bl true)
theorem D6(s:List P)(k:P):yes (s++[k])=yes s++[.p (.bl true)]:=by simp[yes]
noncomputable abbrev eE(f r w:List P):P:=.tup [.lst f,.lst r,.lst w]
noncomputable def kL(t:P×P×P):P:=.tup [t.1,t.2.1,t.2.2]
noncomputable abbrev wn(f:P)(j r:Nat)(a:P)(q h x:Option D):Lc:=[some (.p f),some (.ref j),some (.ref r),some (.ref (r+1)),some (.p a),q,h,x]
structure RI(b:Nat)(S0:Y)(ks:List P)(rs:List (P×P×P))(S:Y):Prop where
 fr:Fr b S0 S
 ro:S[S0.length]? = some (.lst ((rs.map kL).map .p))
 li:S[S0.length+1]? = some (.dtn ks (yes ks))
 ek:rs.map (·.1)=ks
theorem BB(T:Str->GF)(hP:BP B)(Z:Places B)(G:b≤x.length)(f:P)(j:Nat)(t:P)(c:Option D):∀{E s:List P}{n:List (P×P×P)}{S:Y},KI B s->RI b x s n S->(∀z ∈ E,okE B z)->∀H F,∃m p v i,bR (bG [am 6,am 7]) (eJ T) E (wn f j x.length t c H F) S=some (.nx,wn f j x.length t c m p,i)/\RI b x (stepK s E) v i
 | [],s,n,S,_,R,_,H,F=>⟨H,F,n,S,rfl,R⟩
 |z::E,s,n,S,h,R,hz,H,F=>by
  have u:=hz z aI;have h1:=h.add u;obtain⟨d,e,rfl,_,he⟩:=u;have W:=he.good;have X:=h.good;have hf:=u7 hP Z h.1 h.2;have I:s.length≤1000000:=by lia
  have hl:n.length=s.length:=by rw[<- R.ek,aU]
  have M:n.length≤1000000:=by lia
  have Q:¬((n.length:Int)=2000):=by lia
  have on:wM (.ref (x.length+1)) S=some (x.length+1,s,yes s):=by simp[wM,R.li]
  suffices hs:∃g K,eJ T (wn f j x.length t c (some (.p d)) (some (.p e))) S=some (.nx,wn f j x.length t c (some (.p d)) (some (.p e)),K)/\RI b x (we s (.tup [d,e])) g K by obtain⟨g,K,e1,A⟩:=hs;obtain⟨m,p,v,i,e2,C⟩:=BB T hP Z G f j t c (E:=E) h1 A (λy hy=>hz y (aH _ hy)) (some (.p d)) (some (.p e));exact⟨m,p,v,i,(bP (h:=wn f j x.length t c (some (.p d)) (some (.p e))) rfl e1).trans e2,C⟩
  unfold eJ jK we;rw[show gc (.tup [d,e]) 1=e from rfl];have V:∀w:Bool,nq e s=w->(bV (ce lA (O 7) (O 3))) (wn f j x.length t c (some (.p d)) (some (.p e))) S=some (!w,S):=λw hw=>by simp[lA,P',on,W,X,hw]
  by_cases q:nq e s=true
  .rw [af q];exact⟨n,S,by rw[cV,V true q];rfl,R⟩
  .rw [ah q];have q':nq e s=false:=by simpa using q
   have N:x.length < S.length:=bH R.ro;have l:x.length+1 < S.length:=bH R.li;have o:(S.set (x.length+1) (.dtn (s++[e]) (yes s++[.p (.bl true)])))[x.length]? = some (.lst ((n.map kL).map .p)):=by rw[aV (by lia)];exact R.ro
   refine⟨n++[(e,t,d)],(S.set (x.length+1) (.dtn (s++[e]) (yes s++[.p (.bl true)]))).set x.length (.lst (((n++[(e,t,d)]).map kL).map .p)),?_,?_⟩
   .rw [cV,V false q',az];show ai _ _ _ _=_;rw [al (e:=wn f j x.length t c (some (.p d)) (some (.p e))) (c:=S) (by simp [dt,R.ro,Q])];rw [al (e:=wn f j x.length t c (some (.p d)) (some (.p e))) (c:=S.set (x.length+1) (.dtn (s++[e]) (yes s++[.p (.bl true)]))) (by
     simp[Bz,on,W,X,q',I])]
    have:=qw (r:=O 2) (a:=U (aJ (ab (vE (O 7)) (ab (vE (O 4)) (ab (vE (O 6)) ar))))) (L:=wn f j x.length t c (some (.p d)) (some (.p e))) (k:=x.length) (c:=n.map kL) (y:=kL (e,t,d)) rfl o (x:=S.set (x.length+1) (.dtn (s++[e]) (yes s++[.p (.bl true)]))) (by simp[kL]) o (by rw[aU];exact M);rw[this,show(n++[(e,t,d)]).map kL=n.map kL++[kL (e,t,d)] by simp]
   .refine⟨(R.fr.set G (by lia) _).set G (by lia) _,?_,?_,by simp[R.ek]⟩
    .rw [bA (by simpa using N)]
    .rw [aV (by lia),bA l,D6]
theorem Py(t:SE B s E)(a:Bd B b i S)(p:S[h]? = some (.fn (some (.ref i))))(hk:L[k]? = some (some (.ref h)))(q:L[j]? = some (some (.p s))):∃x,qQ (Ph 14 "ends_on") k (vE (O j)) L S=some (.lst E,x)/\Fr b S x:=by
 obtain⟨v,c,r,m⟩:=t.2.2 b i S a;refine⟨_,?_,(r.set a.le (ak _) (.fz (.lst E))).trunc⟩;have e:O k L S=some (.ref h,S):=by simp[hk]
 have n:vE (O j) L S=some (s,S):=by simp[q]
 have f:fnOf (.ref h) S=some (.ref i):=by simp[fnOf,p]
 unfold qQ;rw[e,az,f];show bQ (vE (O j) L S) _=_;rw[n,az,c,az,f6 m,az]
theorem q_{n:Nat}{B:BD}(C:BP B)(A:Places B){b i q:Nat}{f:Y}(K:Bd B b i f)(hj:b≤q)(hf:f[q]? = some (.fn (some (.ref i))))(w:P):∀(m p:Nat){r:List P}{o:List (P×P×P)}{S:Y}(G l z:Option D),KI B r->RI b f r o S->m+p=1000->p≤r.length->∃Z q5' v d F I,j0 (bV (bz Kh (vE (O 4)) (dP (O 2)))) (eI (Ph (n+15)) (Ph (n+14))) m (wn w q f.length (.int (p:Int)) G l z) S=some (.nx,wn w q f.length Z q5' v d,I)/\RI b f (BF B m p r) F I
 |0,p,r,o,S,_,_,_,h,R,hm,hi=>by have:=u7 C A h.1 h.2;lia
 |m+1,p,r,o,S,G,l,z,h,R,hm,hi=>by
  have hft:=u7 C A h.1 h.2;have hl:o.length=r.length:=by rw[<- R.ek,aU]
  have c1:(bV (bz Kh (vE (O 4)) (dP (O 2)))) (wn w q f.length (.int (p:Int)) G l z) S=some (decide (p < r.length),S):=by simp[dt,R.ro,hl]
  unfold j0 BF;rw[c1,az];cases e:r[p]? with
  |none=>
   have:¬p < r.length:=by simpa using e
   rw[ah (by simpa using this)];exact⟨_,G,l,z,o,S,rfl,R⟩
  |some s=>
   have X:=bH e;rw[af (by simpa using X)];have hst:=h.1 s (aY e);have M:=Kq C A hst;obtain⟨t,et⟩:=wE (EN B s) r;obtain⟨⟨g,x,y⟩,hr⟩:∃u,o[p]? = some u:=⟨_,bo (by lia)⟩;have W:g=s:=by have:=e;rw[<- R.ek,b9,hr]at this;exact cm this
   subst W;have V:L2.atI ((o.map kL).map D.p) (p:Int)=some (.p (.tup [g,x,y])):=by rw[qv,qv,bF hr];rfl
   obtain⟨S1,e1,H⟩:=Py (k:=1) (j:=5) (L:=wn w q f.length (.int (p:Int)) (some (.p g)) l z) M (K.fr R.fr) (R.fr.hi _ _ hj hf) rfl rfl;have N:RI b f r o S1:=⟨R.fr.trans H,H.hi _ _ K.le R.ro,H.hi _ _ (aA K.le (iX _)) R.li,R.ek⟩;obtain⟨v,d,rs2,S2,e2,Q⟩:=BB (Ph (n+15)) C A K.le w q (.int (p:Int)) (some (.p g)) (E:=EN B g) h N M.2.1 l z;obtain⟨Z,a,b',c,F,I,e3,T⟩:=q_ (n:=n) C A K hj hf w m (p+1) (some (.p g)) v d (h.step M.2.1) Q (by lia) (by rw[et,a_];lia);refine⟨Z,a,b',c,F,I,?_,T⟩;have e4:eI (Ph (n+15)) (Ph (n+14)) (wn w q f.length (.int (p:Int)) G l z) S=some (.nx,wn w q f.length (.int ((p+1:Nat):Int)) (some (.p g)) v d,S2):=by
    unfold eI;rw[al (e:=wn w q f.length (.int (p:Int)) (some (.p g)) l z) (c:=S) (by simp[-jV,R.ro,V])];rw[N0,al (e:=wn w q f.length (.int (p:Int)) (some (.p g)) v d) (c:=S2) (by rw[bS,gU,e1];exact e2)]
    simp[EA]
   rw[e4];exact e3
end My
namespace My
open PySem L2 Ev
noncomputable def CM(B:BD)(x:P):List P:=BF B 1000 0 [x]
variable{x:P}
theorem KI.one(h:kE B x):KI B [x]:=⟨λk hk=>by rw[cz.mp hk];exact h,by simp⟩
variable{n:Nat}
theorem Ih(k:BP B)(L:Places B)(s:Bd B b i h)(t:b≤j)(m:h[j]? = some (.fn (some (.ref i))))(hst:kE B x):∃(r:List (P×P×P))(S:Y),Ph (n+16) "rows_from" [.p (.lst [x]),.ref j] h=some (.ref h.length,S)/\S[h.length]? = some (.lst ((r.map kL).map .p))/\r.map (·.1)=CM B x:=by have g:=hst.good;have hk:=KI.one hst;have f:RI b h [x] [(x,.non,.non)] (h++[.lst [.p (.tup [x,.non,.non])],.dtn [x] [.p (.bl true)]]):=⟨Fr.app ..,by simp[kL],by simp[yes],rfl⟩;obtain⟨q,a,p,c,r,S,e,R⟩:=q_ (n:=n) k L s t m (.lst [x]) 1000 0 none none none hk f (by lia) (by simp);refine⟨r,S,?_,R.ro,R.ek⟩;rw[sD];show fP (js _ _ [some (.p (.lst [x])),some (.ref j),none,none,none,none,none,none] h)=_;unfold js;rw[al (e:=[some (.p (.lst [x])),some (.ref j),some (.ref h.length),none,none,none,none,none]) (c:=h++[.lst [.p (.tup [x,.non,.non])]]) (by simp[bK,bZ,lG])];rw[al (e:=[some (.p (.lst [x])),some (.ref j),some (.ref h.length),some (.ref (h.length+1)),none,none,none,none]) (c:=h++[.lst [.p (.tup [x,.non,.non])],.dtn [x] [.p (.bl true)]]) (by simp[bK,bZ,lG,vV,wK,JV,nq,g])];rw[al (e:=wn (.lst [x]) j h.length (.int 0) none none none) (c:=h++[.lst [.p (.tup [x,.non,.non])],.dtn [x] [.p (.bl true)]]) (by simp)];rw[al (by unfold va;exact e)];simp
variable{q:List P}{m:List P}{s:List P}
theorem Pq(k:Pln q m s)(hst:kE (pq q m s) x)(p:bD (Ph (n+16) "begin") [eE q m s]=some x):∃r:List (P×P×P),bD (Ph (n+17) "coming_rows") [eE q m s]=some (.lst (r.map kL))/\r.map (·.1)=CM (pq q m s) x:=by
 obtain⟨S,e,w,_⟩:=xG k (n:=n+11) [];have a:Bd (pq q m s) S.length 0 (S++[.fn (some (.ref 0))]):=w.fr (Fr.app ..);obtain⟨r,h,c,v,u⟩:=Ih (n:=n) (B:=pq q m s) k (lv ..) a (j:=S.length) (ak _) (by simp) hst;refine⟨r,?_,u⟩;have e:Ph (n+15) "Board.__init__" [.ref 0,.p (eE q m s)] [.ins "Board" [] []]=some (.p .non,S):=e;have t:Ph (n+17) "coming_rows" [.p (eE q m s)] []=some (.ref (S++[SO.fn (some (.ref 0))]).length,h.map Dp):=by
  rw[pC];show fP (h_ (Ph (n+16)) (Ph (n+15)) [some (.p (eE q m s)),none] [])=_;unfold h_;rw[al (e:=[some (.p (eE q m s)),some (.ref 0)]) (c:=S) (by simp only[aB,bw,lO,O,dY,az,AF,AE,mN,eD,e];rfl)]
  have f:a9 (ab (bj (bD (Ph (n+16) "begin")) (ab (vE (O 0)) ar)) ar) [some (.p (eE q m s)),some (.ref 0)] S=some (.lst [x],S):=by simp[p]
  have b:O 1 [some (.p (eE q m s)),some (.ref 0)] S=some (.ref 0,S):=rfl;rw[aS,vW,f,az,b,az,c,az,az];rfl
 have d:(h.map Dp)[(S++[SO.fn (some (.ref 0))]).length]? = some (.lst ((r.map kL).map .p)):=by rw[b9,v];rfl
 unfold bD;rw[aC,eC,t];show(toP 9 (.ref _) (h.map Dp)).map (·.1)=_;rw[f6 d];rfl
theorem Pu(h:Pln q m s)(hst:kE (pq q m s) x)(i:bD (Ph (n+16) "begin") [eE q m s]=some x)(S:Y):Ph (n+18) "comings" [.p (eE q m s)] S=some (.ref S.length,S++[.lst ((CM (pq q m s) x).map .p)]):=by
 obtain⟨w,u,b⟩:=Pq (n:=n) h hst i;have hk:KI (pq q m s) (CM (pq q m s) x):=GW h (lv ..) _ _ (KI.one hst);have l:=u7 (B:=pq q m s) h (lv ..) hk.1 hk.2;have a:w.length≤1000000:=by rw[<- b,aU]at l;lia
 have r:=cj (g:=am 1) (c:=fQ) (e:=bz cR (vE (O 1)) (vC (.int 0))) (S:=S) (p:=λ_=>true) (f:=λc=>gc c 0) (s:=w.map kL) (L:=[some (.p (eE q m s)),none]) (Inv:=λk=>∃d,k=[some (.p (eE q m s)),d]) (λv y k j=>by obtain⟨d,rfl⟩:=j;obtain⟨t,_,rfl⟩:=aZ.mp y;exact⟨_,rfl,⟨_,rfl⟩,rfl,λ_=>by simp[kL,gc,mY]⟩) ⟨none,rfl⟩
 rw[jW.mpr λ_ _=>rfl,jV,show(λc=>gc c 0) ∘ kL=(·.1) from rfl,b]at r;rw[xo];show fP (k5 _ [some (.p (eE q m s))] S)=_;unfold k5;simp[bK,lG,u,r,a]
theorem rh{a n:Nat}{b:ES}{s:List P}(h:s.length=a):bD (l8 a n b) s=(fP (b (s.map (λp=>some (.p p))++List.replicate (n-s.length) none) [])).bind λz=>(toP 9 z.1 z.2).map (·.1):=by
 unfold bD l8;rw [aU,af h,jV];show (match fP (b (s.map (fun p=>some (D.p p))++List.replicate (n-s.length) none) []) with
  |some (d,S)=>(toP 9 d S).map (λ(x:P×Y)=>x.1)
  |none=>none)=_
 cases fP (b (s.map (λp=>some (D.p p))++List.replicate (n-s.length) none) [])<;>rfl
theorem vH{c:EB}{a:EE}{r:ES}{L:Lc}{S:Y}(h:c L S=some (true,S)):fP (ai (cV c (aS a) dU) r L S)=fP (aS a L S):=by
 have:cV c (aS a) dU L S=aS a L S:=by rw[cV,h];rfl
 rw[ai,this,aS];cases a L S<;>rfl
theorem fL{c:EB}{x r:ES}{L:Lc}{S:Y}(h:c L S=some (false,S)):ai (cV c x dU) r L S=r L S:=by
 have:cV c x dU L S=some (.nx,L,S):=by rw[cV,h];rfl
 exact al this
def xb(v:P):Prop:=∃(s:Str)(t:List P),v=.tup (.str s::t)/\(s="all"\/s="many"\/s="letters"\/s="dry"\/s="true"\/s="some")
def Ko:Nat->P->Prop
 |0,v=>xb v
 |d+1,v=>xb v\/(∃a:P,Ko d a/\v=.tup [.str "not",a])\/(∃(w:Str)(a b:P),(w="and"\/w="or")/\Ko d a/\Ko d b/\v=.tup [.str w,a,b])\/∃(w:Str)(f a:P),(w="some knows"\/w="each knows")/\Ko d a/\v=.tup [.str w,f,a]
theorem Ko.lf(h:xb v):Ko d v:=by
 cases d with
 |zero=>exact h
 |succ d=>exact .inl h
theorem m3(a:Int):∃w:Str,L2.atI [P.str "",.str "ma",.str "mb"] (a % 3)=some (.str w):=by obtain⟨w,hw,e⟩:=mu (s:=[P.str "",.str "ma",.str "mb"]) (k:=a % 3) (by lia) (by simp;lia);simp only[aL,cZ,cY]at hw;rcases hw with rfl|rfl|rfl<;>exact⟨_,e⟩
theorem BN(u:Pln q m s)(d:Int)(p:Bool):∃v,xb v/\bD (Ph (n+4) "_law_part") [.int d,eE q m s,.bl p]=some v:=by
 have k:q≠[]:=λz=>by have:=u.f0.1;rw[z]at this;simp at this
 have l:0 < q.length:=u.f0.1;obtain⟨f,Z,G⟩:=ee k d;obtain⟨nm,a,r,c,o,t,F,rfl⟩:=u.hf f Z;obtain⟨g,hg,I⟩:=ee k (d / 4);obtain⟨nm',H,j,b,A,y,W,rfl⟩:=u.hf g hg;obtain⟨C,S,B⟩:=ee (s:=.str ""::r) (by simp) (d / 2);have K:j9 C:=by
  rcases aL.mp S with rfl|h
  .exact⟨_,by decide +kernel,rfl⟩
  .exact F.hro C h
 obtain⟨E,hro,rfl⟩:=K;obtain⟨cond,hc,L⟩:=cond_ok (n:=n) (d / 12 % 27000) (ou F.hce.1);obtain⟨w,hw,M⟩:=w6 (d / 360);obtain⟨mk,N⟩:=m3 (d / 24);have X:=F.cl;have hrl:=F.rl;have R:c.length≤1000000:=by lia
 have T:r.length+1≤1000000:=by lia
 have V:(0:Int) < (r.length:Int)+1:=by lia
 rw[aR,iA]at B;have Q:=oM F.hce.1 [some (.p (.int d)),some (.p (eE q m s)),some (.p (.bl p)),some (.p (dM nm a r c o t)),none,none,none,none,none,none,none,none] 11 (by simp) [];have hd:d / 8640 % 6=0\/d / 8640 % 6=1\/d / 8640 % 6=2\/d / 8640 % 6=3\/d / 8640 % 6=4\/d / 8640 % 6=5:=by lia
 have i:∀{v:P}{x:Option (D×Y)},xb v->x=some (.p v,[])->∃v,xb v/\(x.bind λz=>(toP 9 z.1 z.2).map (·.1))=some v:=λ{v x} h e=>⟨v,h,by rw[e];rfl⟩;rw[vR,rh (a:=3) rfl];show ∃v,xb v/\(fP (kh _ [some (.p (.int d)),some (.p (eE q m s)),some (.p (.bl p)),none,none,none,none,none,none,none,none] [])).bind _=_;unfold kh;rw[al (by simp[dt,dW,l,G];exact⟨rfl,rfl⟩),al (by simp[bK,lG,MN,R,Q];exact⟨rfl,rfl⟩),al (by simp[O7,dt,dW,T,V,B,um 1];exact⟨rfl,rfl⟩),al (by simp[L];exact⟨rfl,rfl⟩),al (by simp[M];exact⟨rfl,rfl⟩),al (by simp;exact⟨rfl,rfl⟩),al (by simp;exact⟨rfl,rfl⟩)];rcases hd with hd|hd|hd|hd|hd|hd<;>rw[hd]
 .exact i ⟨"all",_,rfl,by simp⟩ (by rw[vH (by simp)];simp[fP];rfl)
 .exact i ⟨"many",_,rfl,by simp⟩ (by rw[fL (by simp),vH (by simp)];simp[fP];rfl)
 .exact i ⟨"letters",_,rfl,by simp⟩ (by rw[fL (by simp),fL (by simp)];simp[fP,dt,dW,l,I,N];rfl)
 .exact i ⟨"dry",_,rfl,by simp⟩ (by rw[fL (by simp),fL (by simp),fL (by simp),vH (by simp)];simp[fP];rfl)
 .cases p with
  |true=>exact i ⟨"true",_,rfl,by simp⟩ (by rw[fL (by simp),fL (by simp),fL (by simp),fL (by simp),vH (by simp)];simp[fP];rfl)
  |false=>exact i ⟨"some",_,rfl,by simp⟩ (by rw[fL (by simp),fL (by simp),fL (by simp),fL (by simp),fL (by simp)];simp[fP];rfl)
 .exact i ⟨"some",_,rfl,by simp⟩ (by rw[fL (by simp),fL (by simp),fL (by simp),fL (by simp),fL (by simp)];simp[fP];rfl)
theorem Jn{q m s:List P}(H:Pln q m s)(F:List Int){l:Int}(S:0≤l)(b:Bool):∀(d:Nat)(k:Nat),2 ^ (3-d)≤k+1->k≤14->∀n,∃v,bD (Ph (n+(d+6)) "_law_fact") [fj F,eE q m s,.int l,.int (k:Int),.bl b]=some v/\Ko d v:=by
 have L:q≠[]:=λz=>by have:=H.f0.1;rw[z]at this;simp at this
 have M:0 < q.length:=H.f0.1;intro d;induction d with
 |zero=>
  intro k hk N n;obtain⟨c,r,hr,e,t⟩:=gX (n:=n+3) F (k:=l) (p:=3+(k:Int)) S (by lia) (by lia);obtain⟨v,R,K⟩:=BN H (n:=n+1) (r / 8) b;have Q:(6:Int) < (k:Int):=by have:2 ^ (3-0)=8:=rfl;lia
  refine⟨v,?_,R⟩;rw[show n+(0+6)=n+4+2 from rfl,gi,aK];simp[df,e,t,K,Q]
 |succ d Z=>
  intro k hk N n;obtain⟨c,r,hr,e,t⟩:=gX (n:=n+d+4) F (k:=l) (p:=3+(k:Int)) S (by lia) (by lia);by_cases h:(6:Int) < (k:Int)\/r % 8 < 2
  .obtain⟨v,R,K⟩:=BN H (n:=n+d+2) (r / 8) b;refine⟨v,?_,.lf R⟩;rw[show n+(d+1+6)=n+d+5+2 from rfl,gi,aK];by_cases u:(6:Int) < (k:Int)
   .simp [df,e,t,K,u]
   .have o:=h.resolve_left u;simp[df,e,t,K,u,o]
  have u:¬(6:Int) < (k:Int):=λz=>h (.inl z);have o:¬r % 8 < 2:=λz=>h (.inr z);have X:2 ^ (3-d)≤2 * (k+1):=by
   by_cases h3:d < 3
   .have:3-d=(3-(d+1))+1:=by lia
    rw[this,lc];lia
   .rw [show 3-d=0 by lia];lia
  obtain⟨v1,f1,E⟩:=Z (2 * k+1) (by lia) (by lia) n;obtain⟨v2,f2,g2⟩:=Z (2 * k+2) (by lia) (by lia) n;have C:=bL (i:=2) (j:=(k:Int)) (by decide) (by lia);have x:bD (Ph (n+d+6) "_law_fact") [fj F,eE q m s,.int l,.int (2 * (k:Int)+1),.bl b]=some v1:=f1;have g:bD (Ph (n+d+6) "_law_fact") [fj F,eE q m s,.int l,.int (2 * (k:Int)+2),.bl b]=some v2:=f2;by_cases B:r % 8=2
  .refine⟨_,?_,.inr (.inl ⟨v1,E,rfl⟩)⟩;rw[show n+(d+1+6)=n+d+5+2 from rfl,gi,aK];simp[df,e,t,u,B,C,x]
  .by_cases I:r % 8 < 5\/b=false
   .obtain⟨w,hw,A⟩:=ri (a:="and") (b:="or") (r / 8);refine⟨_,?_,.inr (.inr (.inl ⟨w,v1,v2,hw,E,g2,rfl⟩))⟩;rw[show n+(d+1+6)=n+d+5+2 from rfl,gi,aK];by_cases y:r % 8 < 5
    .simp [df,e,t,u,o,B,y,C,A,x,g]
    .have G:=I.resolve_left y;subst G;simp[df,e,t,u,o,B,y,C,A,x,g]
   .have y:¬r % 8 < 5:=λz=>I (.inl z);have G:b=true:=by cases b with|true=>rfl|false=>exact absurd (.inr rfl) I
    subst G;obtain⟨w,hw,A⟩:=ri (a:="some knows") (b:="each knows") (r / 16);obtain⟨f,hf,ef⟩:=ee L (r / 8);obtain⟨nm,W,T,D,whos,V,hF,rfl⟩:=H.hf f hf;refine⟨_,?_,.inr (.inr (.inr ⟨w,.str nm,v1,hw,E,rfl⟩))⟩;rw[show n+(d+1+6)=n+d+5+2 from rfl,gi,aK];simp[df,e,t,u,o,B,y,C,A,x,dt,dW,M,ef]
end My
namespace My
open PySem L2 Ev
noncomputable def Jf:P->Str
 | .tup (.str s::_)=>s
 |_=>""
noncomputable def Dx(s:Str):Bool:=decide (s="dry") ||(decide (s="some knows") ||decide (s="each knows"))
def RG(v:P):Prop:=∃(s:Str)(t:List P),v=.tup (.str s::t)/\aG s=true
theorem wc(f:P->Bool):∀s:List P,r_ (s.map λx=>.bl (f x))=some (s.map f)
 | []=>rfl
 |x::s=>by rw[aC,r_,wc f s];rfl
theorem vK(a b:Str):dO (pd (.str a)) (pd (.str b))=decide (a=b):=by simp only[pd,dO];exact jX.mpr ⟨λh=>gO (by simpa using h),λh=>by simpa using aN h⟩
variable{S:Y}{s:Str}{a:Str}{b:Str}
theorem oC(e:aG s=true)(h:aG a=true)(x:aG b=true):kS (.p (.str s)) (.p (.tup [.str a,.str b])) S=some (.bl (decide (a=s) ||decide (b=s))):=by simp[kS,kx,J8,M4,e,h,x,vK]
theorem yN(e:aG s=true)(h:aG a=true)(x:aG b=true):kS (.p (.str s)) (.p (.lst [.str a,.str b])) S=some (.bl (decide (a=s) ||decide (b=s))):=by simp[kS,kx,J8,M4,e,h,x,vK]
theorem IN(n:aG s=true)(h:aG a=true)(x:aG b=true)(e:aG c=true):oG (.p (.str s)) (.p (.lst [.str a,.str b,.str c])) S=some (.bl (!(decide (a=s) ||(decide (b=s) ||decide (c=s))))):=by simp[oG,J8,M4,n,h,x,e,vK]
theorem P9:aG "and"=true/\aG "or"=true/\aG "not"=true/\aG "dry"=true/\aG "some knows"=true/\aG "each knows"=true/\aG "all"=true/\aG "many"=true/\aG "letters"=true/\aG "true"=true/\aG "some"=true:=by decide +kernel
variable{n:Nat}
theorem BU(h:aG s=true)(x:s≠"and")(a:s≠"or")(e:s≠"not"):bD (Ph (n+2) "_law_is_plain") [.tup (.str s::p)]=some (.bl (!Dx s)):=by obtain⟨k,f,r,b,c,m,_⟩:=P9;rw[gF,aK];simp[eN,yN h k f,IN h b c m,x.symm,a.symm,e,Dx,eq_comm]
theorem Iz(h:aG s=true)(x:s≠"and")(a:s≠"or")(e:s≠"not")(k:s≠"some knows")(f:s≠"each knows"):bD (Ph (n+2) "parts_of") [.tup (.str s::p)]=some (.lst [.tup (.str s::p)]):=by obtain⟨b,c,t,q,m,r,_⟩:=P9;rw[ir,aK];simp[gp,oC h b c,oC h m r,x.symm,a.symm,e,k.symm,f.symm]
structure Pl(n:Nat)(v:P)(b:Bool)(ps:List P):Prop where
 lw:∀k,bD (Ph (k+n) "_law_is_plain") [v]=some (.bl b)
 po:∀k,bD (Ph (k+n) "parts_of") [v]=some (.lst ps)
 hd:∀p ∈ ps,RG p
 ln:ps.length+1≤2 ^ n
 eq:b=!(ps.any λp=>Dx (Jf p))
theorem Of:∀(d:Nat){v:P},d≤6->Ko d v->∃b r,Pl (d+2) v b r:=by
 obtain⟨i,j,M,X,N,Q,Z,k8,k9,B,C⟩:=P9;have R:∀{d:Nat}{v:P},xb v->∃b r,Pl (d+2) v b r:=λ{d v} h=>by
  obtain⟨s,tl,rfl,h⟩:=h;have I:2≤2 ^ (d+2):=jS (show 0 < 2 by decide) (show 1≤d+2 by lia);have x:aG s=true/\s≠"and"/\s≠"or"/\s≠"not"/\s≠"some knows"/\s≠"each knows":=by rcases h with rfl|rfl|rfl|rfl|rfl|rfl<;>simp[X,Z,k8,k9,B,C]
  exact⟨!Dx s,[.tup (.str s::tl)],λk=>BU (n:=k+d) x.1 x.2.1 x.2.2.1 x.2.2.2.1,λk=>Iz (n:=k+d) x.1 x.2.1 x.2.2.1 x.2.2.2.1 x.2.2.2.2.1 x.2.2.2.2.2,λp m=>⟨_,_,cz.mp m,x.1⟩,I,by simp[Jf]⟩
 intro d;induction d with
 |zero=>exact λ_ h=>R h
 |succ d l=>
  intro v V h;have G:2 ^ (d+2)≤256:=jS (show 0 < 2 by decide) (show d+2≤8 by lia);have m:2 ^ (d+1+2)=2 * 2 ^ (d+2):=by rw[show d+1+2=(d+2)+1 from rfl,lc,jP]
  have I:4≤2 ^ (d+2):=jS (show 0 < 2 by decide) (show 2≤d+2 by lia);rcases h with h|⟨a,g,rfl⟩|⟨w,a,c,hw,g,A,rfl⟩|⟨w,f,a,hw,g,rfl⟩
  .exact R h
  .obtain⟨b,r,H⟩:=l (by lia) g;have L:=H.ln;have A:1+r.length≤1000000:=by lia
   refine⟨b,.tup [.str "not",a]::r,λk=>?_,λk=>?_,λp m=>?_,by simp only[aR];lia,?_⟩
   .have e:bD (Ph (k+d+1+1) "_law_is_plain") [a]=some (.bl b):=H.lw k;rw[show k+(d+1+2)=k+d+1+2 from rfl,gF,aK];simp[eN,yN M i j,e]
   .have e:bD (Ph (k+d+1+1) "parts_of") [a]=some (.lst r):=H.po k;rw[show k+(d+1+2)=k+d+1+2 from rfl,ir,aK];simp[gp,e,A]
   .rcases aL.mp m with rfl|m
    .exact⟨_,_,rfl,M⟩
    .exact H.hd p m
   .rw [cT,H.eq];simp[Dx,Jf]
  .obtain⟨b,r,H⟩:=l (by lia) g;obtain⟨E,q,u⟩:=l (by lia) A;have L:=H.ln;have W:=u.ln;have x:aG w=true/\w≠"not"/\w≠"dry"/\w≠"some knows"/\w≠"each knows"/\("and"=w\/"or"=w):=by
    rcases hw with rfl|rfl<;>simp[i,j]
   obtain⟨x,y,z,o,S,D⟩:=x;have t:(decide (("and":Str)=w) ||decide (("or":Str)=w))=true:=by simpa using D
   refine⟨b && E,.tup [.str w,a,c]::(r++q),λk=>?_,λk=>?_,λp m=>?_,by simp only[aR,a_];lia,?_⟩
   .have e:bD (Ph (k+d+1+1) "_law_is_plain") [a]=some (.bl b):=H.lw k;have K:bD (Ph (k+d+1+1) "_law_is_plain") [c]=some (.bl E):=u.lw k;rw[show k+(d+1+2)=k+d+1+2 from rfl,gF,aK];cases b<;>simp[eN,yN x i j,t,e,K]
   .have e:bD (Ph (k+d+1+1) "parts_of") [a]=some (.lst r):=H.po k;have K:bD (Ph (k+d+1+1) "parts_of") [c]=some (.lst q):=u.po k;have F:1+r.length≤1000000:=by lia
    have T:r.length+1+q.length≤1000000:=by lia
    rw[show k+(d+1+2)=k+d+1+2 from rfl,ir,aK];simp[gp,oC x i j,y,t,e,K,F,T]
   .rcases aL.mp m with rfl|m
    .exact⟨_,_,rfl,x⟩
    .rcases bN.mp m with m|m
     .exact H.hd p m
     .exact u.hd p m
   .rw [cT,List.any_append,H.eq,u.eq];simp[Dx,Jf,z,o,S]
  .obtain⟨b,r,H⟩:=l (by lia) g;have L:=H.ln;have x:aG w=true/\w≠"not"/\w≠"and"/\w≠"or"/\Dx w=true/\("some knows"=w\/"each knows"=w):=by
    rcases hw with rfl|rfl<;>simp[N,Q,Dx]
   obtain⟨x,y,z,o,S,D⟩:=x;have t:(decide (("some knows":Str)=w) ||decide (("each knows":Str)=w))=true:=by simpa using D
   refine⟨false,.tup [.str w,f,a]::r,λk=>?_,λk=>?_,λp m=>?_,by simp only[aR];lia,?_⟩
   .have:=BU (n:=k+d+1) (p:=[f,a]) x z o y;rw[S]at this;exact this
   .have e:bD (Ph (k+d+1+1) "parts_of") [a]=some (.lst r):=H.po k;have F:1+r.length≤1000000:=by lia
    rw[show k+(d+1+2)=k+d+1+2 from rfl,ir,aK];simp[gp,oC x i j,oC x N Q,y,z.symm,o.symm,t,e,F]
   .rcases aL.mp m with rfl|m
    .exact⟨_,_,rfl,x⟩
    .exact H.hd p m
   .rw [cT];simp[Jf,S]
theorem OQ{d:Nat}{v:P}{b:Bool}{x:List P}(H:Pl (d+2) v b x)(hd:d≤6)(k:Nat):bD (Ph (k+d+3) "is_plain") [v]=some (.bl b):=by
 obtain⟨o,F,K,A,j,l,_⟩:=P9;have e:bD (Ph (k+d+2) "parts_of") [v]=some (.lst x):=H.po k;have m:2 ^ (d+2)≤256:=jS (show 0 < 2 by decide) (show d+2≤8 by lia);have z:=H.ln;have w:x.length≤1000000:=by lia
 have n:=cj (g:=am 1) (c:=fQ) (e:=vB (y9 (bV (ce oH (U (bz cR (vE (O 1)) (vC (.int 0)))) (U (vC (.str "dry"))))) (bV (ce kS (U (bz cR (vE (O 1)) (vC (.int 0)))) (U (vC (.tup [.str "some knows",.str "each knows"]))))))) (S:=[]) (p:=fun _=>true) (f:=fun p=>.bl (Dx (Jf p))) (s:=x) (L:=[some (.p v),none]) (Inv:=fun a=>∃q,a=[some (.p v),q]) (fun p u a t=>by
  obtain⟨q,rfl⟩:=t;obtain⟨s,y,rfl,i⟩:=H.hd p u;refine⟨[some (.p v),some (.p (.tup (.str s::y)))],rfl,⟨_,rfl⟩,rfl,λ_=>?_⟩;by_cases h:s="dry"
  .subst h;simp[Dx,Jf]
  .simp [h,Dx,Jf,oC i j l,eq_comm];congr) ⟨none,rfl⟩
 rw[jW.mpr λ_ _=>rfl]at n;have r:=wc (λp=>Dx (Jf p)) x;rw[show k+d+3=k+d+1+2 from rfl,vT,aK];simp[nM,bK,lG,e,w,n,tK,r,H.eq,List.any_map]
def NZ(s:P):Bool:=dj (.p (gc s 3)) && decide ((mY (gc s 5)).length=0)
noncomputable def HY:P->Str
 | .str s=>s
 |_=>""
def su(j:Str)(s:P):Bool:=decide (HY (gc s 1)=j)
theorem Te(a b c d e f g:P):L2.atI [a,b,c,d,e,f,g] 1=some b:=bu (by decide) rfl
theorem Td(a b c d e f g:P):L2.atI [a,b,c,d,e,f,g] 3=some d:=bu (by decide) rfl
theorem Tc(a b c d e f g:P):L2.atI [a,b,c,d,e,f,g] 5=some f:=bu (by decide) rfl
def og(m:List P)(j:Str):Bool:=(m.filter (su j)).all NZ
section
variable{q:List P}{l:Str}{u:Nat}{t d w m:List P}(z:Fam q l u t d w m){r:Nat}{j:Str}(y:t[r]? = some (.str j))
include z y
theorem N7:bD (Ph (n+2) "steps_at") [dM l u t d w m,.int (r:Int)]=some (.lst (m.filter (su j))):=by
 have K:=z.sl;have v:m.length≤1000000:=by lia
 have a:=cj (g:=am 2) (c:=bV (ce oH (U (bz cR (vE (O 2)) (vC (.int 1)))) (U (bz cR (bz cR (vE (O 0)) (vC (.int 2))) (vE (O 1)))))) (e:=vE (O 2)) (S:=[]) (p:=su j) (f:=λp=>p) (s:=m) (L:=[some (.p (dM l u t d w m)),some (.p (.int (r:Int))),none]) (Inv:=λx=>∃q,x=[some (.p (dM l u t d w m)),some (.p (.int (r:Int))),q]) (λp i x k=>by obtain⟨q,rfl⟩:=k;obtain⟨B,h,D,C,s,A,F,H,b,rfl⟩:=z.hst p i;obtain⟨P,o,rfl⟩:=z.hro h b.h1;refine⟨_,rfl,⟨_,rfl⟩,?_,λ_=>by simp⟩;simp[O7,Te,bF y,su,gc,mY,HY]) ⟨none,rfl⟩
 rw[List.map_id']at a;rw[vL,aK];simp[nG,bK,lG,RT,v,a]
theorem Ob:bD (Ph (n+3) "is_quiet_room") [dM l u t d w m,.int (r:Int)]=some (.bl (og m j)):=by
 have e:=N7 (n:=n) z y;have E:=z.sl;have F:=gQ (su j) m;have H:(m.filter (su j)).length≤1000000:=by lia
 have b:=cj (g:=am 2) (c:=fQ) (e:=vB (iU (bV (ce sv (U (bz cR (vE (O 2)) (vC (.int 3)))) (U (vC (.non))))) (bV (ce oH (U (dP (U (bz cR (vE (O 2)) (vC (.int 5)))))) (U (vC (.int 0))))))) (S:=[]) (p:=λ_=>true) (f:=λp=>.bl (NZ p)) (s:=m.filter (su j)) (L:=[some (.p (dM l u t d w m)),some (.p (.int (r:Int))),none]) (Inv:=λk=>∃q,k=[some (.p (dM l u t d w m)),some (.p (.int (r:Int))),q]) (λp K k o=>by obtain⟨q,rfl⟩:=o;obtain⟨B,a,C,v,x,A,s,P,D,rfl⟩:=z.hst p (ff.mp K).1;refine⟨[some (.p (dM l u t d w m)),some (.p (.int (r:Int))),some (.p (.tup [.str B,a,C,v,.lst x,.lst A,s]))],rfl,⟨_,rfl⟩,rfl,λ_=>?_⟩;cases h:dj (.p v)<;>simp[sv,h,NZ,gc,mY,dt,dW,Td,Tc]) ⟨none,rfl⟩
 rw[jW.mpr λ_ _=>rfl]at b;have i:=wc NZ (m.filter (su j));rw[ny,aK];simp[jd,bK,lG,e,H,b,tL,i,og,Am]
theorem JX(E:Str->GF)(H st hd o:P):∀{g:List P},(∀x ∈ g,isStep l t d w q x)->∀S F K A a s n,∃D,bR (bG [am 6,am 7,am 8,am 9,am 10,am 11,am 12]) (bI E) g [some (.p H),some (.p st),some (.p hd),some (.p o),some (.p (dM l u t d w m)),some (.p (.str j)),S,F,K,A,a,s,n] []=some (if og g j=true then .nx else .rt (.p (.bl false)),D,[])
 | [],_,S,F,K,A,a,s,n=>⟨_,rfl⟩
 |x::g,h,S,F,K,A,a,s,n=>by
  obtain⟨B,i,C,v,c,p,r,R,M,rfl⟩:=h x aI;obtain⟨D,e⟩:=JX E H st hd o (g:=g) (λy T=>h y (aH _ T)) (some (.p (.str B))) (some (.p i)) (some (.p C)) (some (.p v)) (some (.p (.lst c))) (some (.p (.lst p))) (some (.p r));obtain⟨b,Q,rfl⟩:=z.hro i M.h1;let L:Lc:=[some (.p H),some (.p st),some (.p hd),some (.p o),some (.p (dM l u t d w m)),some (.p (.str j)),some (.p (.str B)),some (.p (.str b)),some (.p C),some (.p v),some (.p (.lst c)),some (.p (.lst p)),some (.p r)]
  have k:bI E L []=some (if (decide (b=j) && !(dj (.p v) && decide (p.length=0)))=true then .rt (.p (.bl false)) else .nx,L,[]):=by
   by_cases f:b=j
   .cases G:dj (.p v)<;>cases p with
    |nil=>simp[bI,L,f,cW,G,dt,dW]
    |cons y V=>simp[bI,L,f,cW,G,dt,dW]
   .simp [bI,L,f]
  have N:og (.tup [.str B,.str b,C,v,.lst c,.lst p,r]::g) j=(!(decide (b=j) && !(dj (.p v) && decide (p.length=0))) && og g j):=by
   unfold og;by_cases f:b=j
   .rw [p9 (by simp[su,gc,mY,HY,f]),dv];simp[f,NZ,gc,mY]
   .rw [p7 (by simp[su,gc,mY,HY,f])];simp[f]
  rw[N];cases I:(decide (b=j) && !(dj (.p v) && decide (p.length=0))) with
  |true=>rw[I]at k;refine⟨L,?_⟩;rw[bR,show bG [am 6,am 7,am 8,am 9,am 10,am 11,am 12] (.tup [.str B,.str b,C,v,.lst c,.lst p,r]) [some (.p H),some (.p st),some (.p hd),some (.p o),some (.p (dM l u t d w m)),some (.p (.str j)),S,F,K,A,a,s,n]=some L from rfl];simp only[k];rfl
  |false=>rw[I]at k;refine⟨D,(bP (h:=L) (L2:=L) (x:=[]) rfl k).trans ?_⟩;rw[e];simp
end
theorem Oc{n:Nat}{f o i:List P}(F:Pln f o i){x s:List P}{k r:Nat}{l:Str}{u:Nat}{t d w m:List P}(z:Fam o l u t d w m)(K:(be f)[k]? = some (dM l u t d w m)){c C:P}{j:Str}(A:x[k]? = some (.tup [.int (r:Int),c,C]))(y:t[r]? = some (.str j)) :
  bD (Ph (n+6) "is_quiet_hand") [eE f o i,.tup [.tup x,.tup s],.int (k:Int)]=some (.bl (og m j)):=by
 have b:=Ob (n:=n+2) z y;obtain⟨S,e,a,_⟩:=xG F (n:=n) [];have e:Ph (n+4) "Board.__init__" [.ref 0,.p (eE f o i)] [.ins "Board" [] []]=some (.p .non,S):=e;have g:=vJ (n:=n+3) (B:=pq f o i) a K;obtain⟨D,I,E,G,mk,M,h⟩:=a;let L:Lc:=[some (.p (eE f o i)),some (.p (.tup [.tup x,.tup s])),some (.p (.int (k:Int)))]
 have H:lO (Ph (n+4) "Board.__init__") "Board" (bw (O 0) dY) L []=some (.ref 0,S):=by simp only[L,lO,bw,O,dY,az,AF,mN,eD,e]
 have v:bw (O 2) dY L S=some ([.p (.int (k:Int))],S):=rfl;have p:dC (mT Tb (Ph (n+5))) (lO (Ph (n+4) "Board.__init__") "Board" (bw (O 0) dY)) "family_of" (bw (O 2) dY) L []=some (.p (dM l u t d w m),S):=by rw[dC,H,az];simp only[mN]at h;simp only[h.ins,OJ,O4,v,az];exact g
 rw[nz,rh (a:=3) rfl];show(fP (gq (Ph (n+5)) (Ph (n+4)) L [])).bind _=_;unfold gq;have q:ab (vE (dC (mT Tb (Ph (n+5))) (lO (Ph (n+4) "Board.__init__") "Board" (bw (O 0) dY)) "family_of" (bw (O 2) dY))) (ab (bz cR (bz cR (bz cR (vE (O 1)) (vC (.int 0))) (vE (O 2))) (vC (.int 0))) ar) L []=some ([dM l u t d w m,.int (r:Int)],S):=by rw[ab,vE,p];simp[L,bF A]
 rw[aS,U,bj,q,az,b];rfl
theorem JY(b:Str->GF)(p st hd:P)(T:List (Option D)):∀(s:List P)(a:List P),(∀f ∈ s,isFam q f)->a.length+4 * s.length≤1000->∀k,∃n,bR (am 4) (dB b) s ([some (.p p),some (.p st),some (.p hd),some (.p (.lst a)),k]++T) []=some (.nx,[some (.p p),some (.p st),some (.p hd),some (.p (.lst (a++s.flatMap λf=>List.replicate (cX f) f))),n]++T,[])
 | [],a,_,_,k=>⟨k,by simp[bR]⟩
 |f::r,a,h,i,k=>by
  obtain⟨l,c,t,d,w,m,z,rfl⟩:=h f aI;have y:=z.hcr.2;simp only[aR]at i;obtain⟨n,e⟩:=JY b p st hd T r (a++List.replicate c (dM l c t d w m)) (λx j=>h x (aH _ j)) (by simp;lia) (some (.p (dM l c t d w m)));refine⟨n,?_⟩;rw[fX,show cX (.tup [.str l,.int (c:Int),.lst t,.lst d,.lst w,.lst m])=c by simp[cX],<- fg];refine(bP (h:=[some (.p p),some (.p st),some (.p hd),some (.p (.lst a)),some (.p (dM l c t d w m))]++T) (L2:=[some (.p p),some (.p st),some (.p hd),some (.p (.lst (a++List.replicate c (dM l c t d w m)))),some (.p (dM l c t d w m))]++T) (x:=[]) rfl ?_).trans e;have v:c≤1000000:=by lia
  have u:c < 1000000:=by lia
  have g:a.length+c≤1000000:=by lia
  simp[dB,v,u,g]
theorem rN:∀(a:List P)(k:Nat),(hw k a).map (·.2)=a.flatMap λf=>List.replicate (cX f) f
 | [],_=>rfl
 |f::r,k=>by rw[hw,i4,List.map_replicate,fX,rN r]
theorem OL{n:Nat}{f o i:List P}(a:Pln f o i){h s:List P}{k r:Nat}{l:Str}{u:Nat}{t d w m:List P}(z:Fam o l u t d w m)(p:(be f)[k]? = some (dM l u t d w m)){c H:P}{j:Str}(v:h[k]? = some (.tup [.int (r:Int),c,H]))(y:t[r]? = some (.str j)) :
  bD (Ph (n+2) "_law_is_quiet") [eE f o i,.tup [.tup h,.tup s],.int (k:Int)]=some (.bl (og m j)):=by
 have S:=a.f0.2;obtain⟨g,e⟩:=JY (Ph (n+1)) (eE f o i) (.tup [.tup h,.tup s]) (.int (k:Int)) [none,none,none,none,none,none,none,none] f [] a.hf (by simp;lia) none;rw[eD,<- rN f 0]at e;have e:bR (am 4) (dB (Ph (n+1))) f [some (.p (eE f o i)),some (.p (.tup [.tup h,.tup s])),some (.p (.int (k:Int))),some (.p (.lst [])),none,none,none,none,none,none,none,none,none] []=some (.nx,[some (.p (eE f o i)),some (.p (.tup [.tup h,.tup s])),some (.p (.int (k:Int))),some (.p (.lst (be f))),g,none,none,none,none,none,none,none,none],[]):=e;obtain⟨L,b⟩:=JX z y (Ph (n+1)) (eE f o i) (.tup [.tup h,.tup s]) (.int (k:Int)) (.lst (be f)) (g:=m) z.hst none none none none none none none;rw[oI,rh (a:=3) rfl];show(fP (gI _ [some (.p (eE f o i)),some (.p (.tup [.tup h,.tup s])),some (.p (.int (k:Int))),none,none,none,none,none,none,none,none,none,none] [])).bind _=_;unfold gI;rw[al (e:=[some (.p (eE f o i)),some (.p (.tup [.tup h,.tup s])),some (.p (.int (k:Int))),some (.p (.lst [])),none,none,none,none,none,none,none,none,none]) (c:=[]) (by simp)];rw[al (by rw[bS,show gU (bz cR (vE (O 0)) (vC (.int 0))) [some (.p (eE f o i)),some (.p (.tup [.tup h,.tup s])),some (.p (.int (k:Int))),some (.p (.lst [])),none,none,none,none,none,none,none,none,none] []=some (f,[]) by simp[eE]];exact e)];rw[al (e:=[some (.p (eE f o i)),some (.p (.tup [.tup h,.tup s])),some (.p (.int (k:Int))),some (.p (.lst (be f))),some (.p (dM l u t d w m)),none,none,none,none,none,none,none,none]) (c:=[]) (by simp[bF p])];rw[al (e:=[some (.p (eE f o i)),some (.p (.tup [.tup h,.tup s])),some (.p (.int (k:Int))),some (.p (.lst (be f))),some (.p (dM l u t d w m)),some (.p (.str j)),none,none,none,none,none,none,none]) (c:=[]) (by simp[O7,bF v,bF y])];have x:bS (gU (bz cR (vE (O 4)) (vC (.int 5)))) (bG [am 6,am 7,am 8,am 9,am 10,am 11,am 12]) (bI (Ph (n+1))) [some (.p (eE f o i)),some (.p (.tup [.tup h,.tup s])),some (.p (.int (k:Int))),some (.p (.lst (be f))),some (.p (dM l u t d w m)),some (.p (.str j)),none,none,none,none,none,none,none] []=some (if og m j=true then .nx else .rt (.p (.bl false)),L,[]):=by rw[bS,show gU (bz cR (vE (O 4)) (vC (.int 5))) [some (.p (eE f o i)),some (.p (.tup [.tup h,.tup s])),some (.p (.int (k:Int))),some (.p (.lst (be f))),some (.p (dM l u t d w m)),some (.p (.str j)),none,none,none,none,none,none,none] []=some (m,[]) by simp[RT]];exact b
 cases q:og m j with
 |true=>rw[q]at x;rw[al x];rfl
 |false=>rw[q]at x;rw[u_ x];rfl
noncomputable abbrev hU(sc p:P)(q h x a e s:Option D):Lc:=[some (.p sc),some (.p p),some (.p p),q,h,x,a,e,s]
theorem JU(b:Bool):Dw (.bl b) (.bl b)=some false:=Fo (by simp)
theorem Fz(I:Pln c o h)(hst:kE (pq c o h) st)(sc:P)(A B C:Option D):∀q p,∃F K,ki (Ph (n+6)) (hU sc (eE c o h) (some (.p st)) q p A B C) []=some (.nx,hU sc (eE c o h) (some (.p st)) F K A B C,[]):=by
 intro q p;obtain⟨a,s,rfl,R⟩:=hst;have h4:=iy I;have hsl:a.length≤4:=by have:=R.hl;rw[this];exact h4
 obtain⟨L',S',e,⟨F,K,rfl,rfl⟩⟩:=cM (g:=am 4) (b:=mq (Ph (n+6))) (Inv:=fun _ L S=>∃q p,L=hU sc (eE c o h) (some (.p (.tup [.tup a,.tup s]))) q p A B C/\S=[]) (s:=intsFrom 0 a.length) (k:=0) (L:=hU sc (eE c o h) (some (.p (.tup [.tup a,.tup s]))) q p A B C) (S:=[]) (fun i v L S hv hI=>by
  obtain⟨rfl,hi⟩:=ints_get hv;obtain⟨q,p,rfl,rfl⟩:=hI;simp only[cS];obtain⟨f,x,Q,X,l,u,t,d,w,m,rfl,r,cs,ws,rfl,T,_⟩:=R.at (k:=i) (by rw[<- R.hl];exact hi);obtain⟨nm',H,M,G,W,N,z,E⟩:=iL I.hf (aY Q);simp only[P.tup.injEq,iV,P.str.injEq,P.int.injEq,P.lst.injEq,and_true]at E;obtain⟨rfl,hce,rfl,rfl,rfl,rfl⟩:=E;obtain rfl:u=H:=by lia
  obtain⟨V,y⟩:∃j,t[r]? = some j:=⟨_,bo T⟩;obtain⟨j,_,rfl⟩:=z.hro V (aY y);have Z:=Oc (n:=n) (s:=s) I z Q X y;have e2:=OL (n:=n+4) (s:=s) I z Q X y;have e3:=JU (og m j);refine⟨_,hU sc (eE c o h) (some (.p (.tup [.tup a,.tup s]))) (some (.p (.int (i:Int)))) (some (.p (.bl (og m j)))) A B C,[],rfl,?_,_,_,rfl,rfl⟩;unfold mq;rw[al (e:=hU sc (eE c o h) (some (.p (.tup [.tup a,.tup s]))) (some (.p (.int (i:Int)))) (some (.p (.bl (og m j)))) A B C) (c:=[]) (by simp[Z])];simp[w9,e2,GZ,e3]) ⟨q,p,rfl,rfl⟩
 refine⟨F,K,?_⟩;unfold ki;have hq:a.length < 1000000:=by lia
 rw[bS,show jq (dP (U (bz cR (vE (O 3)) (vC (.int 0))))) (hU sc (eE c o h) (some (.p (.tup [.tup a,.tup s]))) q p A B C) []=some (intsFrom 0 a.length,[]) by simp[dt,dW,hq]];exact e
theorem rF(P:Pln f o i)(s:List Int){p:Int}(l:0≤p)(q h:Option D):∀x r a,∃e t k,ml (Ph (n+15)) (hU (fj s) (eE f o i) q h x (some (.p (.int p))) r a) []=some (.nx,hU (fj s) (eE f o i) q h e (some (.p (.int p))) t k,[]):=by
 intro x r a;have c:∀(b:Bool) x a,∃e k,mn (Ph (n+15)) (hU (fj s) (eE f o i) q h x (some (.p (.int p))) (some (.p (.bl b))) a) []=some (.nx,hU (fj s) (eE f o i) q h e (some (.p (.int p))) (some (.p (.bl b))) k,[]):=λb x a=>by obtain⟨v,m,K⟩:=Jn P s l b 3 0 (by decide) (by decide) (n+6);have m:bD (Ph (n+15) "_law_fact") [fj s,eE f o i,.int p,.int 0,.bl b]=some v:=m;obtain⟨w,A,H⟩:=Of 3 (by decide) K;have y:bD (Ph (n+15) "is_plain") [v]=some (.bl w):=OQ H (by decide) (n+9);have z:bD (Ph (n+15) "_law_is_plain") [v]=some (.bl w):=H.lw (n+10);refine⟨some (.p (.bl w)),some (.p v),?_⟩;unfold mn;rw[al (e:=hU (fj s) (eE f o i) q h x (some (.p (.int p))) (some (.p (.bl b))) (some (.p v))) (c:=[]) (by simp[m])];rw[al (e:=hU (fj s) (eE f o i) q h (some (.p (.bl w))) (some (.p (.int p))) (some (.p (.bl b))) (some (.p v))) (c:=[]) (by simp[y])];simp[w9,z,GZ,JU w]
 obtain⟨d,u,S⟩:=c false x a;obtain⟨g,j,F⟩:=c true d u;refine⟨g,some (.p (.bl true)),j,?_⟩;unfold ml;rw[bS,show gU (a9 (ab (vC (.bl false)) (ab (vC (.bl true)) ar))) (hU (fj s) (eE f o i) q h x (some (.p (.int p))) r a) []=some ([.bl false,.bl true],[]) by simp,az];rw[bP (h:=hU (fj s) (eE f o i) q h x (some (.p (.int p))) (some (.p (.bl false))) a) rfl S];rw[bP (h:=hU (fj s) (eE f o i) q h d (some (.p (.int p))) (some (.p (.bl true))) u) rfl F];rfl
theorem L7{n:Nat}(s:List Int):bD (Ph (n+20) "law") [fj s]=some (.bl true):=by
 obtain⟨f,r,w,x,p⟩:=IA (n:=n+13) s;have p:bD (Ph (n+19) "_law_plan") [fj s,.int 2]=some (eE f r w):=p;have G:=GK (B:=pq f r w) x;have H:∀k,bD (Ph (k+4) "begin") [eE f r w]=some (.tup [.tup ((be f).map iM),.tup (List.replicate (bO (a8 f) r).length (.tup []))]):=λk=>GL x;have hst:kE (pq f r w) (.tup [.tup ((be f).map iM),.tup (List.replicate (bO (a8 f) r).length (.tup []))]):=⟨_,_,rfl,G⟩;generalize P.tup [.tup ((be f).map iM),.tup (List.replicate (bO (a8 f) r).length (.tup []))]=st at H hst;have F:bD (Ph (n+19) "comings") [eE f r w]=some (.lst (CM (pq f r w) st)):=by unfold bD;rw[aC,eC,Pu (n:=n+1) x hst (H (n+13)) []];show(toP 9 (.ref 0) _).map (·.1)=_;rw[f6 (by rfl)];rfl
 have hk:KI (pq f r w) (CM (pq f r w) st):=GW x (lv ..) _ _ (KI.one hst);generalize CM (pq f r w) st=K at F hk;obtain⟨V,W,A,⟨h,q,a,rfl,rfl⟩⟩:=cM (g:=am 3) (b:=ki (Ph (n+19))) (Inv:=λ_ L S=>∃h q a,L=hU (fj s) (eE f r w) h q a none none none/\S=[]) (s:=K) (k:=0) (L:=hU (fj s) (eE f r w) none none none none none none) (S:=[]) (λi v L S M I=>by obtain⟨h,q,a,rfl,rfl⟩:=I;obtain⟨R,T,e⟩:=Fz (n:=n+13) x (hk.1 v (aY M)) (fj s) none none none q a;exact⟨_,_,[],rfl,e,_,_,_,rfl,rfl⟩) ⟨none,none,none,rfl,rfl⟩
 obtain⟨c,m,t,C⟩:=rF (n:=n+4) x s (p:=56) (by decide) h q a none none;obtain⟨u,j,l,D⟩:=rF (n:=n+4) x s (p:=57) (by decide) h q c m t;obtain⟨y,z,o,E⟩:=rF (n:=n+4) x s (p:=58) (by decide) h q u j l;have Q:=dQ (CT (B:=pq f r w) x) (show 19≤20 by lia);have N:Dz (eE f r w) (eE f r w)=some true:=Ge Q;have e:qu (Ph (n+19)) [some (.p (fj s)),none,none,none,none,none,none,none,none] []=some (.rt (.p (.bl true)),hU (fj s) (eE f r w) h q y (some (.p (.int 58))) z o,[]):=by
  unfold qu;rw[al (e:=[some (.p (fj s)),some (.p (eE f r w)),none,none,none,none,none,none,none]) (c:=[]) (by simp[p])];rw[al (e:=hU (fj s) (eE f r w) none none none none none none) (c:=[]) (by simp[eE,jr])];rw[al (by rw[bS,show gU (bj (bD (Ph (n+19) "comings")) (ab (vE (O 1)) ar)) (hU (fj s) (eE f r w) none none none none none none) []=some (K,[]) by simp[F]];exact A)];rw[al (e:=hU (fj s) (eE f r w) h q y (some (.p (.int 58))) z o) (c:=[]) (by rw[bS,show gU (a9 (ab (vC (.int 56)) (ab (vC (.int 57)) (ab (vC (.int 58)) ar)))) (hU (fj s) (eE f r w) h q a none none none) []=some ([.int 56,.int 57,.int 58],[]) by simp,az];rw[bP (h:=hU (fj s) (eE f r w) h q a (some (.p (.int 56))) none none) rfl C];rw[bP (h:=hU (fj s) (eE f r w) h q c (some (.p (.int 57))) m t) rfl D];rw[bP (h:=hU (fj s) (eE f r w) h q u (some (.p (.int 58))) j l) rfl E];rfl)]
  simp[oH,N]
 rw [Jp,aK];show (match qu (Ph (n+19)) [some (.p (fj s)),none,none,none,none,none,none,none,none] [] with
  |some (.rt d,_,S)=>(toP 9 d S).map Prod.fst
  |some (.nx,_,_)=>some P.non
  |_=>none)=_
 rw[e];rfl
theorem Fy{K:FG}{H:Hp}{a:Addr}{s:List Int}(l:s.length≤63)(h:Dv H)(S:iT K H a (s.map V.int)):oe K (JF Gv Att Tb 200 "law") [.ref a] H (λv _=>v=.bl true) (λ_ _ _=>False):=by have e:bD (JF Gv Att Tb 200 "law") [.ro (s.map .int)]=some (.bl true):=L7 (n:=180) s;exact L8 h S e
end My
set_option tactic.hygienic true
namespace PySem.W.Fast
def tw4961161597993568318:=Nat
def tw14309417535331648023:=Nat
def tw502381198883713731:=Nat
def tw420140753068757593:=Nat
def tw14688063235724717464:=Nat
def tw4993553471006439843:=Nat
def tw2120094928889170094:=Nat
def tw9481859020026506763:=Nat
def tw10224586563399995014:=Nat
def tw13664856472132699934:=Nat
def tw16240741538125157434:=Nat
def tw4979721779281472129:=Nat
def tw11905396437005250017:=Nat
def tw9897666526706522724:=Nat
def tw15505629862554780710:=Nat
def tw11757179254971502327:=Nat
def tw17002272377888879470:=Nat
def tw11507291632581079873:=Nat
def tw14327692598416424194:=Nat
def tw3455858981495364205:=Nat
def tw2830513437859941645:=Nat
def tw2462621056343287908:=Nat
def tw2495849926353945751:=Nat
def tw15284568478078930037:=Nat
def tw16689431834358533951:=Nat
def tw14409795310630841198:=Nat
def tw17495342405289230691:=Nat
def tw14327734593984039254:=Nat
def tw17409686952817023129:=Nat
def tw2729221925534272320:=Nat
def tw14077913903325039768:=Nat
def tw17277972828319193828:=Nat
def tw100751055485102043:=Nat
def tw14843036040783349678:=Nat
def tw10500324684916000989:=Nat
def tw11878443337687260549:=Nat
def tw491779117214230304:=Nat
def tw13494183130569659254:=Nat
def tw9192051340171758266:=Nat
def tw15498738931538914894:=Nat
def tw13739817347132441179:=Nat
def tw830858890369573766:=Nat
def tw9652758640748604661:=Nat
def tw4913115871684993213:=Nat
def tw16228502381605735795:=Nat
def tw9534257289220029793:=Nat
def tw10004516524797992545:=Nat
def tw1813964353312251905:=Nat
def tw12595852826767385566:=Nat
def tw14875759154308332974:=Nat
def tw13710244500254864818:=Nat
def tw9891707770480709901:=Nat
def tw9257675233805607684:=Nat
def tw9383670006372529130:=Nat
def tw16336772060104878370:=Nat
def tw2738922739346698535:=Nat
def tw8778295844246642746:=Nat
def tw10399176005284486193:=Nat
def tw3852712934611840707:=Nat
def tw18342121787012341277:=Nat
def tw8999869325860452748:=Nat
def tw3947030231031407296:=Nat
def tw190170608689805686:=Nat
def tw17482991713120840656:=Nat
def tw1743279859852929777:=Nat
def tw15221819133968462496:=Nat
def tw16296941197745590146:=Nat
def tw11271798602250007391:=Nat
def tw8812826812376397574:=Nat
def tw396684351812775442:=Nat
def tw7489418411696955024:=Nat
def tw15528451112369059535:=Nat
def tw3164055802036662651:=Nat
def tw3141526380806430668:=Nat
def tw1917176418542961893:=Nat
def tw9170379133114268656:=Nat
def tw9873897313522696172:=Nat
def tw17724615727790794777:=Nat
def tw8057241146727832165:=Nat
def tw4529381764132135406:=Nat
def tw14377160451638119674:=Nat
def tw2626035613395134997:=Nat
def tw9521414309128102233:=Nat
def tw5789122726951778443:=Nat
def tw10307268280596454712:=Nat
def tw2548401848004584201:=Nat
def tw6568550417556838174:=Nat
def tw7475544089531635903:=Nat
def tw845331276551545000:=Nat
def tw15407722260333952778:=Nat
def tw1478889642430503258:=Nat
def tw15272420415833154369:=Nat
def tw14313646117293043771:=Nat
def tw12859494956514071252:=Nat
def tw2067362463808055935:=Nat
def tw417452178667725771:=Nat
def tw11904574025816416872:=Nat
def tw18359249278057481900:=Nat
def tw9022212926488124665:=Nat
def tw1081995924390598786:=Nat
def tw12574032288878678381:=Nat
def tw4656694479302394198:=Nat
def tw14396191539488811018:=Nat
def tw2708122509364698018:=Nat
def tw10960603205881970604:=Nat
def tw8762351614261072723:=Nat
def tw11410233768168878651:=Nat
def tw5370288016544939962:=Nat
def tw16493238593299910428:=Nat
def tw12848476448774918451:=Nat
def tw3092356521068225738:=Nat
def tw4771121072116487094:=Nat
def tw9029157120985050065:=Nat
def tw6309500111394499776:=Nat
def tw13038384370258902867:=Nat
def tw4756450858742929152:=Nat
def tw15453077591841508727:=Nat
def tw2040797616167728028:=Nat
def tw4216921993021923641:=Nat
def tw11009859586851582379:=Nat
def tw9823956861379928748:=Nat
def tw13960446519760908340:=Nat
def tw10509747213233987920:=Nat
def tw5357419932284158208:=Nat
def tw4365543815788382871:=Nat
def tw5993389268220899049:=Nat
def tw5174624992430727307:=Nat
def tw7722245748750138355:=Nat
def tw8022626887207940818:=Nat
def tw7998386594299415736:=Nat
def tw10195787561611046687:=Nat
def tw695084212870574541:=Nat
def tw678941549691266307:=Nat
def tw16754505386099600315:=Nat
def tw2707627640179916369:=Nat
def tw12037677439913821290:=Nat
def tw14114447105789050488:=Nat
def tw15113948219234843493:=Nat
def tw11017120172570991192:=Nat
def tw1779364320646568739:=Nat
def tw5563762486336809423:=Nat
def tw9896603753111119893:=Nat
def tw756899675628861541:=Nat
def tw6364049806600862323:=Nat
def tw4082700898833248895:=Nat
def tw12727036679692217884:=Nat
def tw8015081180516339674:=Nat
def tw14839827609672453431:=Nat
def tw16575066915606652128:=Nat
def tw5729144005518911583:=Nat
def tw17832682877964382714:=Nat
def tw6774990533766687513:=Nat
def tw5657540482030924384:=Nat
def tw11472679882138302558:=Nat
def tw11669337528317469562:=Nat
def tw9435276723269965609:=Nat
def tw9172798771236947535:=Nat
def tw11819984966755417419:=Nat
def tw7689450480217554779:=Nat
def tw2143559618221742245:=Nat
def tw4840168411531169860:=Nat
def tw10730276097181913906:=Nat
def tw8346435578948772270:=Nat
def tw13330770888526173882:=Nat
def tw15791276798903352627:=Nat
def tw13038018655710838709:=Nat
def tw9235689221762390054:=Nat
def tw13470676574422401343:=Nat
def tw3378495869451993765:=Nat
def tw13380258312297290024:=Nat
def tw4307794674415464875:=Nat
def tw1832955303285564931:=Nat
def tw1828118116935664747:=Nat
def tw8051374127253052501:=Nat
def tw617538471418197937:=Nat
def tw6244671506371843557:=Nat
def tw4088369898979764693:=Nat
def tw10305375991651532495:=Nat
def tw7665531311590884993:=Nat
def tw15462636839554429521:=Nat
def tw15727035804768800618:=Nat
def tw16329207242916629380:=Nat
def tw2252895187137347398:=Nat
def tw12363708987827131466:=Nat
def tw6497110178820897794:=Nat
def tw3209617701435653330:=Nat
def tw4976882970587336110:=Nat
def tw255218124371744128:=Nat
def tw5188700315036345282:=Nat
def tw10634806379444236243:=Nat
def tw17531707262302294538:=Nat
def tw2596504959950697252:=Nat
def tw5353328044015373087:=Nat
def tw2402361259419112043:=Nat
def tw6884570781588539535:=Nat
def tw9205288125783481858:=Nat
def tw12873456747235444202:=Nat
def tw6587121402351049011:=Nat
def tw9298168832218936681:=Nat
def tw1587710673876541504:=Nat
def tw239685263382244545:=Nat
def tw15004352913623148737:=Nat
def tw3140567949938067505:=Nat
def tw5537795110891705858:=Nat
def tw14298683701177946558:=Nat
def tw5960658362131932105:=Nat
def tw11722498347710140595:=Nat
def tw13112993111632059795:=Nat
def tw5022702221892885107:=Nat
end PySem.W.Fast
open PySem PySem.W PyProof.Rows
set_option maxRecDepth 100000 in
set_option maxHeartbeats 0 in
theorem PySem.Challenge.cw_roadsall_k53_quiet_hands_and_plain_facts_holds : PySem.Challenge.rw_roadsall_k53_quiet_hands_and_plain_facts.Holds := by
 w_on;o_law;k_head;(case hw=>w_witness2)
 k_fill
 refine L2.Eb (l:=PySem.Challenge.rw_roadsall_k53_quiet_hands_and_plain_facts) (n:=63) (k:=200) (x:="_law_script") (CX:=L2.pf) (sp:=fun K=>Ev.oe K (Ev.JF My.Gv My.Att My.Tb 200 "law")) rfl (by decide) rfl ⟨rfl,by decide,by decide⟩ (fun w h Y=>PySem.W.km_in_of Y) (fun w=>by kernel_rfl) (fun w h Y=>My.HW Y (by kernel_rfl) (by kernel_rfl)) ?F ?S ?C
 case F=>
  intro w mg fa h KX G hmg
  have T:Ev.TOk w My.Gv My.Att My.Tb (L2.SD KX) mg:=by
   dsimp only [L2.SD]
   refine' My.MO KX G ?cb ?hh ?lmk ?gv2 ?gv3 ?gv0 ?gv1 ?z
   case cb=>exact⟨⟨by k_is,by k_is,by k_is,by k_is,by k_is,by k_is,by k_is⟩,by k_is,by k_is,by k_is,by k_is,by k_is,⟨_,_,_,_,_,_,_,_,_,_,by k_is,by k_is,by k_is,by k_is,by k_is⟩,⟨_,_,_,_,_,_,_,_,_,_,by k_is,by k_is,by k_is,by k_is,by k_is⟩,⟨_,_,_,_,_,_,_,_,_,_,by k_is,by k_is,by k_is,by k_is,by k_is⟩⟩
   case hh=>
    intro d hd
    simp only [My.Nf,List.mem_cons,List.not_mem_nil,or_false] at hd
    rcases hd with rfl|rfl|rfl|rfl|rfl|rfl|rfl|rfl|rfl|rfl|rfl|rfl|rfl|rfl|rfl|rfl|rfl|rfl|rfl|rfl|rfl|rfl|rfl|rfl|rfl|rfl|rfl|rfl|rfl|rfl|rfl|rfl|rfl|rfl|rfl|rfl|rfl|rfl|rfl|rfl|rfl|rfl|rfl|rfl|rfl|rfl <;> (dsimp only [My.qm,My.iR,My.Rx];exact⟨_,_,_,_,_,_,_,_,_,_,by k_is,by k_is,by k_is,by k_is⟩)
   case lmk=>kernel_rfl
   case gv3=>exact⟨_,_,_,_,_,by k_is,by k_is⟩
   case gv0|gv1|gv2=>exact⟨_,by k_is⟩
   case z=>
    intro x hx
    simp only [Ev.Jy,List.mem_cons,List.not_mem_nil,or_false] at hx
    rcases hx with rfl|rfl|rfl|rfl|rfl|rfl|rfl|rfl|rfl|rfl|rfl|rfl|rfl|rfl|rfl|rfl|rfl|rfl|rfl <;> k_is
  obtain⟨f,fd,h1⟩:=T.fn My.qm (by simp [My.Tb,My.Nf])
  have e0:=hmg.symm.trans (h1.gl (by decide +kernel))
  cases e0
  refine⟨fd,?_,fun base kb nb=>(Ev.Cb T 200).1 My.qm (by simp [My.Tb,My.Nf]) _ fd h1.fn⟩
  obtain⟨kV,doc,pm,an,cdv,ct,rfl⟩:=h1.pl (by decide +kernel)
  exact fun s v=>.of_eq rfl
 case S=>exact fun w H a ns hl hO hS=>My.Fy hl hO hS
 case C=>exact fun _ _ _ _ z=>z
