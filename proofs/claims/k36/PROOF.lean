import PyProof.Rows.All
import Wide.All
import OpenK.AllK
import Wide.FinOn
import Lean
import PyProof.EqAt
import PyProof.EqKinds
import PyProof.TupleCall
import PySem.Challenge.RW_roadsall_k36_whole_renamed_goes_renamed
set_option Elab.async false
set_option linter.all false
set_option maxRecDepth 100000
set_option maxHeartbeats 4000000
noncomputable section
open Option renaming some->Y,none->Vk
open Bool renaming true->Vl,false->Vm
abbrev VP:=PySem.Value->PySem.Shared->Prop
abbrev PN:=List (PySem.Addr×PySem.Obj)
abbrev SV:=PySem.Str->Option PySem.Value
abbrev Aa:=PySem.Addr->Prop
abbrev LS:=List PySem.Str
abbrev LV:=List PySem.Value
abbrev Ab:=List PySem.Expr
abbrev OV:=Option PySem.Value
abbrev FG:=PySem.W.Frag
open PySem.PyData renaming strOk->ba,eqv->de,depthAll->r9,canLayAll0->xJ,depth->ul,eqvAll->xI,canLay0->E9
open PySem.Builtin.Tuple renaming tupleExact->AZ,tupleItemsOf->E8,tupleHashOf->La
open PySem.W renaming findIn->dt,keepIn->iN,emptyDict->k7,codeIn->j3,instObj->lS,fnOf->kZ,plainGet->sf,codeHdIn->se,nsIn->ph,tabObj->r_,CodeHd->rZ,hasDictIn->wg,kas_sort->wd,lookIn->v0,plainGet_of->zG,callWith_K->zF,plainOver->zE,methodObj->zD,isFn->vK,takerIn->zC,makesIn->zB,noTabs->zA,mg_of->zz,mem_of_lookupK->Fi,cellsFrom_some->Fh,methodCall_KW->Fg,pyHash_slot->Ff,codeHd_of_K->Fe,specialIn->Fd,handedIn->Fc,OpenLaw->Fb,KasFin->Fa,WalkO->E_
open PySem renaming wpAny_bind->af,wpAny_pure->aq,wpAny_mono->dg,wpAny_field->eC,wpAny_holding->gR,wpAny_truthy_bool->lR,wpAny_callSpecial?_slot->pf,wpAny_seqItems->kP,wpAny_Call_Name_kw->nw,wpAny_newObj_type->pe,mem_of_lookup->rY,sizeLine_eq->kO,wpAny_call_entry->pc,wpAny_setField_rec->rX,tupleKind_room_in1->rW,wpAny_passesOwn->rV,call_meetsIn->pb,wpAny_pyIter_tuple->vd,call_meets->nv,wpAny_typeOf->rS,wpAny_nextOf_list_item->zy,codeAny_builtin->vc,wpAny_nextOf_list_end->zx,wpAny_Name->rR,wpAny_Call_method->zw,slot_dict_getitem->zv,codeAny_mono->vb,wpAny_Dict_empty->zu,noFill_tuple_add->zt,seqIndex_of->va,wpAny_execs_nil->zr,Within->zq,wpAny_rule->u_,wpAny_newTuple->zp,wpAny_standAt->zo,wpAny_onRaise->zn,wpAny_newList->zm,seq_tuple_add->zl,plainId_quiet->zj,wpAny_Call_method_late->E7,wpAny_Assign_Subscript->E6,seqIndex_neg->zi,concat_meets->zh,builtinLookup_eq_fast->E5,wpAny_updateSeq_pair->E4,wpAny_newFunctionEnv->E3,wpAny_mkInt->zg,wpAny_loadName_local->E2,wpAny_letGo->zf,boot_len->EZ,wpAny_loadName_free->EY,call_enumerate_list->EX,wpAny_setItem_heap->EW,wpAny_getItem_heap->EU,wpAny_call->ze,typeIs_int->zd,wpAny_sequenceKey->ET,wpAny_pyIter_list->CB,wpAny_pyIter_enum->CA,wpAny_assign_Name->Cz,slot_list_getitem->Cy,wpAny_pyHash_str->Cw,wpAny_pyHash_int->Cv,wpAny_isInstance->Cu,wpAny_forIn_list->Ct,wpAny_execs_cons->Cs,wpAny_eqBool_str->Cr,wpAny_eqBool_int->Cq,small_one->wn,beq_builtin_none->Cp,typeLookup_type->Co,wpAny_setField->Cm,rangeSize_one->Cj,evalPart_none->Ci,call_list_seq->Ch
open Array renaming length_toList->k8,getElem?_eq_some_iff->wm,forIn_toList->re,getElem?_append_left->Cg,getElem?_eq_getElem->Cf,all_append->Ce,toList->Cd
open PySem.Around renaming under_plainId->rc,in1_units->q_,under->wk
open Bool renaming and_eq_true->ar,false_ne_true->bU,false_eq_true->je,not_eq_true'->k6,eq_iff_iff->k5,false_or->mS,not_true->ov,and_self->ou,and_true->wj,or_eq_false_iff->Cc,false_and->Cb,true_and->Ca
open List renaming getElem?_eq_some_iff->aX,getD_eq_getElem?_getD->a8,mem_cons_of_mem->aL,getElem?_eq_getElem->aY,mem_cons_self->aK,length_map->aH,getElem?_set_ne->a6,mem_of_getElem?->bg,map_cons->aC,length_cons->aS,all_eq_true->bi,getElem?_append_left->ce,mem_map->aO,getElem?_map->bq,size_toArray->bv,mem_cons->bc,length_append->bK,getElem?_append_right->c_,getElem?_set_self->cF,mem_flatMap->b_,mem_range->bM,mem_singleton->cZ,nodup_cons->cA,nil_append->cS,mem_append->cR,flatMap_cons->dG,getElem_mem->dn,pairwise_map->eJ,mem_append_right->gu,map_map->cQ,replicate_succ->gq,not_mem_nil->fg,map_flatMap->ff,map_congr_left->gX,mem_filter->e_,append_nil->eZ,eq_nil_of_length_eq_zero->kY,set_set->dF,length_set->fI,length_take->gp,pairwise_flatMap->jd,append_assoc->gW,any_cons->eY,pairwise_iff_getElem->kX,set_getElem_self->jQ,length_filter_le->jP,getElem?_take_of_lt->kW,findIdx?_eq_some_iff_getElem->oq,filter_eq_self->jO,find?_cons->iC,nodup_range->jc,flatMap_map->jb,map_nil->gn,pairwise_singleton->mR,map_append->ja,length_nil->i',foldl_cons->i_,filter_sublist->kU,ext_getElem->jN,forIn_cons->jM,mem_of_mem_take->mQ,lookup->gU,getElem_map->kT,getElem?_cons_zero->oo,getElem?_cons_succ->on,mem_filterMap->mP,flatten_cons->mO,mem_append_left->om,take_length->mN,cons_append->mM,getElem_of_mem->ol,filterMap_cons->oj,getElem?_eq_none->qZ,isEmpty_iff->oh,any_eq_true->og,all_cons->mL,mem_iff_getElem->qY,perm_ext_iff_of_nodup->wf,getElem_range->qX,mem_of_find?_eq_some->we,map_id->mK,lookup_cons->qW,getElem?_replicate->wc,flatMap_nil->qV,filter_cons_of_pos->wb,filter_cons_of_neg->wa,drop_length->qU,take_of_length_le->v_,find?_cons_of_neg->v9,mem_iff_getElem?->v7,pairwise_append->vZ,mem_of_mem_drop->vY,length->oe,drop_zero->qT,length_pos_iff->vX,getElem?_range->vW,map_take->qS,take_sublist->vV,length_range->vU,range'_succ->vT,length_drop->vS,getElem_set->vR,getElem_inj->vQ,of_mem_zip->vP,find?_some->vO,filter_map->vN,nodup_nil->vM,getElem?_eq_none_iff->B',drop_eq_getElem_cons->B_,mem_of_mem_eraseIdx->B9,length_eraseIdx_le->B8,find?_cons_of_pos->B7,filter_eq_nil_iff->B6,length_replicate->B5,zip_cons_cons->B4,pairwise_cons->B3,mem_replicate->B2,foldl->vL,find?_eq_none->B1,take_add_one->B0,nodup_append->BZ,filter_congr->BY,any_eq_false->BX,mem_reverse->BW,range_succ->BV,forIn_nil->BU,drop_drop->BS,toArray->BR,any_map->BQ,all_nil->BO,range'->BN
abbrev aR:=@of_decide_eq_true
abbrev ac:=@if_pos
abbrev ae:=@if_neg
abbrev bA:=@decide_eq_false
abbrev eF:=@decide_eq_true
abbrev cE:=@congrArg
abbrev jL:=@beq_eq_false_iff_ne
abbrev jK:=@decide_eq_true_eq
abbrev eX:=@or_false
abbrev fH:=@if_false
abbrev oa:=@decide_eq_decide
abbrev iB:=@if_true
abbrev vJ:=@decide_eq_false_iff_not
abbrev vI:=@decide_eq_true_iff
abbrev n_:=@beq_iff_eq
abbrev mJ:=@not_or
open PySem.SeqAt renaming eqv_refl->vH,readOf->nZ,shaped->BM,eqAt_reads->Jf
open Sum.inr renaming inj->jJ
open PySem.Heap renaming get?_push_of_some->aW,lt_size->aN,get?_push_size->bJ,SameBut->gm,size_push->nY,get?_update_self->vG,ExtBut->qR,get?_update_other->BL,IsTuple->BK
open Option.some renaming inj->b0,injEq->Je
open Nat renaming le_refl->az,le_trans->bf,lt_of_lt_of_le->bZ,ne_of_lt->bG,ne_of_gt->cD,zero_add->cP,zero_le->cO,lt_of_le_of_lt->kS,lt_irrefl->i9,le_of_lt->i8,lt_succ_self->nX,mul_comm->mI,lt_trans->mG,le_of_succ_le->vA,le_succ->qQ,mul_assoc->vx,mul_succ->vw,le_of_eq->vu,lt_or_gt_of_ne->BJ,le_succ_of_le->BI,min_eq_right->BG,min_eq_left->BF,succ_mul->BE,sub_zero->BC,pow_succ->BB,log2_lt->BA,not_lt->Bz
open Option renaming map_eq_some_iff->eE,bind_some->eD,getD_some->gS,map_some->iA,map->iz,isSome_iff_exists->qP,bind_eq_some_iff->qO,bind_none->qN,isSome_map->By,getD_none->Bx
open Ne renaming symm->aZ
open PySem.Calls renaming spliced_cons->iy,spliced_nil->kR,callWith_builtin->nW,evalArgs_plain->nV,Name_function_global->Bw,call_function_entry->Bv
open PySem.Builtin.Range renaming rangeSize->qM,small->Bu
open PyProof.Rows renaming slot_tuple_getitem->jI,callWith_type1->nU,boot_list->vr,boot_sorted->Bt,tail_any->nT,reads_list_at->vq,subscriptTail_builtinR->Bs,lt_int->Br,entry_tuple_getitem->Bq,boot_range->vp,args_tuple_getitem->Bp,get?_update_seq->Bo,entry_list_sort->Bn,callWith_builtin1->Jd,boot_zip->Jc,boot_tuple->Jb,boot_int->Ja,boot_dict->I_,boot_abs->I0,slot_list_sort->Bm,slicePart_none->Bl,tupleItemsOf_->Bk,listUpdate_at->Bj,getItem_tuple->Bi
open PySem.EqNone renaming ne_str_none->IZ,ne_none_str->IY,ne_none_none->IX,ne_none_int->IW,ne_none_bool->IV,ne_int_none->IU,ne_bool_none->IT,eq_str_none->IS,eq_none_str->IR,eq_none_none->IQ,eq_none_int->IP,eq_none_bool->IN,eq_int_none->IM,eq_bool_none->IL
open PySem.EqMixed renaming ne_str_int->IK,ne_str_bool->IJ,ne_int_str->II,ne_bool_str->IH,eq_str_int->IG,eq_str_bool->IF,eq_int_str->IE,eq_bool_str->ID
open PySem.F renaming slot_dict_get->mE,slot_tuple_iterator_next->qL,entry_dict_get->qK,args_tuple_add_2->vo,plainAttrs_list->vn,plainAttrs_dict->vm,entry_tuple_add->vl,slot_tuple_add->vk,slot_zip_getattribute->vj,slot_dict_setdefault->Bh,slot_tuple_index->Bg,slot_list_index->Bf,args_dict_get_3->Be,args_dict_get_2->Bd,args_tuple_iterator_next_1->Bc,type_dict_get->Bb,slot_dict_len->Ba,entry_tuple_iterator_next->A',slot_list_extend->A_,slot_list_append->A9,plain_list_iadd->A8,slot_zip_next->A7,slot_int_rmul->A6
open Int renaming emod_lt_of_pos->dE,emod_nonneg->cY,toNat_natCast->fG,zero_add->dD,natCast_inj->vh,ofNat_inj->vg,lt_irrefl->A5,le_of_lt->A4
open PySem.Builtin.Slice renaming slicePlaces->qJ,sliceAdjust->vf,sliceApplied->A3,slicePartIndex->IC,sliceFields->IB
open PySem.Str renaming length->nS,ofString_eq_toList->A2
open PySem.Obj renaming mapSeq->kQ,mapFields->A1
open PySem.Builtin.List renaming listTooLong->qI
open List.cons renaming injEq->nR
open PySem.Heap.SameBut renaming update->nQ
open PySem.Builtin.SmallTypes renaming nextOf->gj,ownedTupleIsFree->qH,ownedTupleHandOut->IA
open PySem.Builtin.Dict renaming updateFrom->A0,selfAndRest->Iz,pendingCount->Iy,pairItems->Ix,addKeywords->Iw
open PySem.AutoSeq1 renaming wpAny_loadPart'->ve
open List.Nodup renaming sublist->jH
open Function renaming comp->qG
set_option tactic.hygienic false
namespace Nk
open PySem
mutual
noncomputable def kd:PyData->Bool
 | .none=>Vl
 | .int _=>Vl
 | .str x=>E9 (.str x)
 | .tuple xs=>kds xs
 | .bool _=>Vm
 | .list _=>Vm
 | .dict _=>Vm
noncomputable def kds:List PyData->Bool
 | []=>Vl
 |x::xs=>kd x && kds xs
end
mutual
noncomputable def hk(w:World):PyData->Int
 | .none=>PySem.W.hashW w.params .none
 | .int i=>hashInt i
 | .str x=>hashStr w x
 | .tuple xs=>reduceHash (La (Qy w xs))
 | .bool _=>0
 | .list _=>0
 | .dict _=>0
noncomputable def Qy(w:World):List PyData->List Int
 | []=>[]
 |x::xs=>hk w x::Qy w xs
end
mutual
noncomputable def dr:PyData->Nat
 | .tuple xs=>RH xs+1
 | .none=>1
 | .int _=>1
 | .str _=>1
 | .bool _=>0
 | .list _=>0
 | .dict _=>0
noncomputable def RH:List PyData->Nat
 | []=>0
 |x::xs=>dr x+RH xs
end
noncomputable instance decPD:DecidableEq PyData:=λa b=>Classical.propDecidable (a=b)
section
variable{f:Program}{w:World}{E:VP}
mutual
theorem Dx:∀(d:PyData)(v:Value)(as:List Addr)(A:Around)(s:Shared)(Q:Int->Shared->Prop),kd d=Vl->Reads s.heap v d as->A.units+d.depth < cLine->Q (hk w d) { s with toks:=s.toks+dr d }->wpAny (model f w) A (pyHash v) Q E s
 | .none,_,_,A,s,Q,_,r,hu,h=>by cases r;exact Ff (T:="NoneType") rfl F.slot_NoneType_hash F.entry_NoneType_hash (F.args_NoneType_hash_1 _) (Cp _) (.inr (by lia)) (af (aq (af (zg (aq ⟨_,_,rfl,h⟩)))))
 | .int _,_,_,_,_,_,_,r,_,h=>by cases r;exact Cv h
 | .str _,_,_,_,_,_,_,r,_,h=>by cases r;exact Cw h
 | .tuple xs,_,_,A,s,Q,k,r,hu,h=>by
  cases r with
  | @tuple a o vs n _ _ g1 g2 g3 g4=>simp only[ul]at hu;refine Ff ⟨o,g1,g2⟩ F.slot_tuple_hash F.entry_tuple_hash (F.args_tuple_hash_1 _) (Cp _) (.inr (by lia)) ?_;show wpAny _ _ (E8 (.ref a) >>= _) _ _ s;refine af (wpAny_tupleItemsOf g1 g3 (af ?_));rw[<- re];refine yx xs vs.toList _ A.in1 s #[] _ k g4 (by rw[q_];lia) λb e=>?_;show wpAny _ _ (retInt (La b.toList)) _ _ _;rw[e];exact af (zg (aq ⟨_,_,rfl,h⟩))
 | .bool _,_,_,_,_,_,k,_,_,_ | .list _,_,_,_,_,_,k,_,_,_ | .dict _,_,_,_,_,_,k,_,_,_=>nomatch k
theorem yx:∀(xs:List PyData)(vs:LV)(as:List Addr)(A:Around)(s:Shared)(b:Array Int)(Q:Array Int->Shared->Prop),kds xs=Vl->ReadsAll s.heap vs xs as->A.units+r9 xs < cLine ->
  (∀b',b'.toList=b.toList++Qy w xs->Q b' { s with toks:=s.toks+RH xs })->wpAny (model f w) A (forIn vs b λx r=>do let h <- pyHash x;pure PUnit.unit;pure (ForInStep.yield (r.push h))) Q E s
 | [],_,_,_,s,b,_,_,r,_,h=>by cases r;exact aq (h b (by simp[Qy]))
 |d::xs,_,_,A,s,b,Q,k,r,hu,h=>by
  cases r with
  |cons r1 r2=>
   simp only[kds,ar]at k;simp only[r9]at hu;rw[jM];refine af (af (Dx d _ _ A s _ k.1 r1 (by lia) ?_));refine aq (yx xs _ _ A { s with toks:=s.toks+dr d } _ Q k.2 r2 (by lia) λb' e=>?_);have:=h b' (by rw[e];simp[Qy])
   simpa[RH,Nat.add_assoc] using this
end
end
mutual
theorem Ks:∀d:PyData,kd d=Vl->d.canLay0=Vl
 | .none,_ | .int _,_=>rfl
 | .str _,k=>k
 | .tuple xs,k=>by have:=yn xs k;simpa[E9] using this
 | .bool _,k | .list _,k | .dict _,k=>nomatch k
theorem yn:∀xs:List PyData,kds xs=Vl->xJ xs=Vl
 | [],_=>rfl
 |d::xs,k=>by simp only[kds,ar]at k;simp[xJ,Ks d k.1,yn xs k.2]
end
mutual
theorem eqv_kd:∀a b:PyData,kd a=Vl->kd b=Vl->(de a b=Vl↔a=b)
 | .none,.none,_,_=>by simp[de]
 | .none,.int _,_,_ | .none,.str _,_,_ | .none,.tuple _,_,_=>by simp[de]
 | .int _,.none,_,_ | .int _,.str _,_,_ | .int _,.tuple _,_,_ | .int _,.int _,_,_=>by simp[de]
 | .str _,.none,_,_ | .str _,.str _,_,_ | .str _,.tuple _,_,_ | .str _,.int _,_,_=>by simp[de]
 | .tuple _,.none,_,_ | .tuple _,.str _,_,_ | .tuple _,.int _,_,_=>by simp[de]
 | .tuple xs,.tuple ys,h,k=>by have:=DA xs ys h k;simp[de,this]
 | .bool _,_,k,_ | .list _,_,k,_ | .dict _,_,k,_=>nomatch k
 | .none,.bool _,_,k | .none,.list _,_,k | .none,.dict _,_,k | .int _,.bool _,_,k | .int _,.list _,_,k | .int _,.dict _,_,k=>nomatch k
 | .str _,.bool _,_,k | .str _,.list _,_,k | .str _,.dict _,_,k | .tuple _,.bool _,_,k | .tuple _,.list _,_,k | .tuple _,.dict _,_,k=>nomatch k
theorem DA:∀xs ys:List PyData,kds xs=Vl->kds ys=Vl->(xI xs ys=Vl↔xs=ys)
 | [],[],_,_=>by simp[xI]
 | [],_::_,_,_|_::_,[],_,_=>by simp[xI]
 |x::xs,y::ys,h,k=>by simp only[kds,ar]at h k;simp[xI,eqv_kd x y h.1 k.1,DA xs ys h.2 k.2]
end
mutual
theorem stay:∀(x:PyData){h h':Heap}{v:Value}{as:List Addr},kd x=Vl->Reads h v x as->(∀b o,h.get? b=Y o->o.cls=.type "tuple"->(∃vs n,o.data=.seq vs n)->h'.get? b=Y o)->Reads h' v x as
 | .none,_,_,_,_,_,r,_ | .int _,_,_,_,_,_,r,_ | .str _,_,_,_,_,_,r,_=>by cases r;constructor
 | .tuple xs,_,_,_,_,k,r,q=>by
  cases r with
  |tuple g1 g2 g3 g4=>exact .tuple (q _ _ g1 g2 ⟨_,_,g3⟩) g2 g3 (Lj xs k g4 q)
 | .bool _,_,_,_,_,k,_,_ | .list _,_,_,_,_,k,_,_ | .dict _,_,_,_,_,k,_,_=>nomatch k
theorem Lj:∀(xs:List PyData){h h':Heap}{vs:LV}{as:List Addr},kds xs=Vl->ReadsAll h vs xs as->(∀b o,h.get? b=Y o->o.cls=.type "tuple"->(∃vs n,o.data=.seq vs n)->h'.get? b=Y o)->ReadsAll h' vs xs as
 | [],_,_,_,_,_,r,_=>by cases r;constructor
 |x::xs,_,_,_,_,k,r,q=>by
  simp only[kds,ar]at k;cases r with
  |cons r1 r2=>exact .cons (stay x k.1 r1 q) (Lj xs k.2 r2 q)
end
section
variable{f:Program}{w:World}{E:VP}
mutual
theorem x9:∀(d:PyData)(n:Nat)(v:Value)(as:List Addr)(A:Around)(s:Shared)(Q:Bool->Shared->Prop),kd d=Vl->d.depth≤n->Reads s.heap v d as->Q Vl s->wpAny (model f w) A (eqIsQuiet n v) Q E s
 | .none,n,_,_,_,_,_,_,_,r,q | .int _,n,_,_,_,_,_,_,_,r,q | .str _,n,_,_,_,_,_,_,_,r,q=>by cases r;rw[eqIsQuiet_byValue n rfl];exact aq q
 | .tuple xs,n,_,_,A,s,Q,k,l,r,q=>by
  simp only[ul]at l;obtain⟨n,rfl⟩:∃m,n=m+1:=⟨n-1,by lia⟩;cases r with
  | @tuple a o vs m _ _ g1 g2 g3 g4=>
   have T:s.TypeIs (.ref a) "tuple":=⟨o,g1,g2⟩;unfold eqIsQuiet;refine af (wpAny_specialOf T F.slot_tuple_eq.lookup ?_);show wpAny _ _ (isInstance (.ref a) (.type "tuple") >>= _) _ _ s;refine af (Cu T isSubtype_tuple_tuple ?_);simp only[ov,je,fH];refine af (kP g1 g3 (af ?_));show wpAny _ _ (forIn vs _ _) _ _ s;rw[<- re];have all:=uG xs n vs.toList _ A s k (by lia) g4;refine Ct _ (λrest r s'=>r.1=Vk/\s'=s/\∀v ∈ rest,∀Q:Bool->Shared->Prop,Q Vl s->wpAny (model f w) A (eqIsQuiet n v) Q E s) _ ?_ ?_ _ _ ⟨rfl,rfl,λv hv Q=>all v hv Q⟩
   .rintro v rest ⟨r1,r2⟩ s' ⟨e1,e2,hall⟩;subst e2;refine af (hall v aK _ ?_);simp only[ov,je,fH];exact aq ⟨rfl,rfl,λu hu=>hall u (aL _ hu)⟩
   .rintro ⟨r1,r2⟩ s' ⟨e1,e2,_⟩;cases e1;cases e2;exact aq q
 | .bool _,_,_,_,_,_,_,k,_,_,_ | .list _,_,_,_,_,_,_,k,_,_,_ | .dict _,_,_,_,_,_,_,k,_,_,_=>nomatch k
theorem uG:∀(xs:List PyData)(n:Nat)(vs:LV)(as:List Addr)(A:Around)(s:Shared),kds xs=Vl->r9 xs≤n->ReadsAll s.heap vs xs as->∀v ∈ vs,∀Q:Bool->Shared->Prop,Q Vl s->wpAny (model f w) A (eqIsQuiet n v) Q E s
 | [],_,_,_,_,_,_,_,r,v,hv,_,_=>by cases r;cases hv
 |x::xs,n,_,_,A,s,k,l,r,v,hv,Q,q=>by
  simp only[kds,ar]at k;simp only[r9]at l;cases r with
  |cons r1 r2=>
   rcases bc.mp hv with rfl|hv
   .exact x9 x n _ _ A s Q k.1 (by lia) r1 q
   .exact uG xs n _ _ A s k.2 (by lia) r2 v hv Q q
end
end
def nest(f:Program)(w:World):HeapKind f w PyData where
 is:=λh d a=>kd d=Vl/\d.depth≤8/\∃n,Reads h (.ref a) d n
 hash:=hk w
 draws:=dr
 room:=λA=>A.units+8 < cLine
 inj:=λx y=>by obtain⟨k,_,_,r⟩:=x;obtain⟨_,_,_,t⟩:=y;exact PySem.SeqAt.Reads.unique _ _ _ _ _ (Ks _ k) r t
 keeps:=λx hd u z=>by obtain⟨k,l,n,r⟩:=x;refine⟨k,l,n,stay _ k r λb o m _ c=>?_⟩;refine(z.2 b λe=>?_).trans m;subst e;obtain⟨_,_,c⟩:=c;rw[hd]at m;cases m;rw[u]at c;cases c
 pyHash:=λg x q=>by obtain⟨k,l,n,r⟩:=x;exact Dx _ _ _ _ _ _ k r (by lia) q
 eqBool:=λ{A E s x y a b Q} g i j q=>by
  obtain⟨k,l,n,r⟩:=i;obtain⟨p,H,v,t⟩:=j;have e:=Jf x y A s _ _ n v r t (Ks _ k) (Ks _ p) (by lia);refine e f w E Q ?_;have:de x y=decide (x=y):=by rw[k5,eqv_kd x y k p,vI]
  rw[this];exact q
 quiet:=λx q=>by obtain⟨k,l,n,r⟩:=x;exact x9 _ 8 _ _ _ _ _ k l r q
end Nk
set_option Elab.async false
set_option linter.all false
set_option maxRecDepth 100000
namespace L2
open PySem PySem.Spec PyProof.Rows
noncomputable abbrev ci:=Sum Int Str
noncomputable def uP:ci->Value->Bool
 | .inl k,v=>Value.isInt k v
 | .inr x,v=>Value.isStrOf x v
noncomputable def Tz(w:World):ci->Int
 | .inl k=>hashInt k
 | .inr x=>hashStr w x
theorem dI:∀{k:ci}{v:Value},uP k v=Vl->(∃i t,k=Sum.inl i/\v=Value.int i t)\/(∃x t,k=Sum.inr x/\v=Value.str x t)
 | .inl i,v,h=>by obtain⟨t,e⟩:=Value.isInt_shape (k:=i) (v:=v) h;exact .inl ⟨i,t,rfl,e⟩
 | .inr x,v,h=>by obtain⟨t,e⟩:=Value.isStrOf_shape (x:=x) (v:=v) h;exact .inr ⟨x,t,rfl,e⟩
theorem Eg(i:Int)(t:Tok):uP (.inl i) (.int i t)=Vl:=by simp[uP,Value.isInt]
theorem Ef(x:Str)(t:Tok):uP (.inr x) (.str x t)=Vl:=by simp[uP,Value.isStrOf]
theorem NB(a b:Int):decide ((Sum.inl a:ci)=Sum.inl b)=(a == b):=by
 by_cases e:a=b
 .subst e;simp
 .have h:¬(Sum.inl a:ci)=Sum.inl b:=λq=>e (Sum.inl.inj q);rw[bA h];exact(jL.mpr e).symm
theorem Ny(a b:Str):decide ((Sum.inr a:ci)=Sum.inr b)=decide (a=b):=by
 by_cases e:a=b
 .subst e;simp
 .have h:¬(Sum.inr a:ci)=Sum.inr b:=λq=>e (jJ q);rw[bA h,bA e]
theorem NA(a:Int)(b:Str):decide ((Sum.inl a:ci)=Sum.inr b)=Vm:=bA (λq=>nomatch q)
theorem Nz(a:Str)(b:Int):decide ((Sum.inr a:ci)=Sum.inl b)=Vm:=bA (λq=>nomatch q)
def cH(prog:Program)(w:World):PySem.KeyKind prog w ci where
 is:=uP
 hash:=Tz w
 inj:=λv a b c f=>by
  rcases dI c with ⟨i,t,rfl,rfl⟩|⟨x,t,rfl,rfl⟩
  .rcases dI f with ⟨j,u,rfl,e⟩|⟨y,u,rfl,e⟩
   .injection e with s _;rw[s]
   .exact nomatch e
  .rcases dI f with ⟨j,u,rfl,e⟩|⟨y,u,rfl,e⟩
   .exact nomatch e
   .injection e with s _;rw[s]
 byValue:=λk v h=>by rcases dI h with ⟨i,t,rfl,rfl⟩|⟨x,t,rfl,rfl⟩<;>rfl
 pyHash:=λn h=>by
  rcases dI n with ⟨i,t,rfl,rfl⟩|⟨x,t,rfl,rfl⟩
  .exact Cv h
  .exact Cw h
 eqBool:=λm n h=>by
  rcases dI m with ⟨i,t,rfl,rfl⟩|⟨x,t,rfl,rfl⟩
  .rcases dI n with ⟨j,u,rfl,rfl⟩|⟨y,u,rfl,rfl⟩
   .rw [NB]at h;exact Cq h
   .rw [NA]at h;exact SeqAt.EqAt.int_str i t y u _ _ _ _ h
  .rcases dI n with ⟨j,u,rfl,rfl⟩|⟨y,u,rfl,rfl⟩
   .rw [Nz]at h;exact SeqAt.EqAt.str_int x t j u _ _ _ _ h
   .rw [Ny]at h;exact Cr h
 «strs»:=λk x t v h=>by
  rcases dI h with ⟨i,u,rfl,e⟩|⟨y,u,rfl,e⟩
  .exact nomatch e
  .injection e with s _;subst s;cases v<;>rfl
theorem yk(prog:Program)(w:World)(i:Int)(t:Tok):(cH prog w).is (.inl i) (.int i t)=Vl:=Eg i t
theorem yj(prog:Program)(w:World)(x:Str)(t:Tok):(cH prog w).is (.inr x) (.str x t)=Vl:=Ef x t
inductive V where
 |non|bl (b:Bool)|int (i:Int)|str (x:Str)|byt (b:Array UInt8)|flt (b:UInt64)|ref (a:Addr)|ty (n:String)
 deriving DecidableEq
def RelV:V->Value->Prop
 | .non,u=>u=Value.none
 | .bl b,u=>u=Value.bool b
 | .int i,u=>∃t,u=Value.int i t
 | .str x,u=>∃t,u=Value.str x t
 | .byt b,u=>∃t,u=Value.bytes b t
 | .flt b,u=>∃t,u=Value.float b t
 | .ref a,u=>u=Value.ref a
 | .ty n,u=>u=Value.type n
abbrev bo:List V->LV->Prop:=Paired RelV
variable{j:LV}
theorem bo.length(r:bo xs j):xs.length=j.length:=Paired.length r
theorem bo.get:∀{xs:List V}{j:LV}{i:Nat}{x:V},bo xs j->xs[i]? = Y x->∃u,j[i]? = Y u/\RelV x u
 |_,_,_,_,.nil,e=>by simp at e
 |_,_,0,_,.cons r _,e=>by simp at e;subst e;exact⟨_,rfl,r⟩
 |_,_,i+1,x,.cons _ t,e=>by obtain⟨u,h1,h2⟩:=bo.get (i:=i) (x:=x) t (by simpa using e);exact⟨u,by simpa using h1,h2⟩
variable{u:Value}
theorem bo.set(r:RelV x u):∀{xs:List V}{j:LV}(i:Nat),bo xs j->bo (xs.set i x) (j.set i u)
 |_,_,_,.nil=>.nil
 |_,_,0,.cons _ t=>.cons r t
 |_,_,i+1,.cons q t=>.cons q (bo.set r i t)
theorem bo.append:∀{xs ys:List V}{j w:LV},bo xs j->bo ys w->bo (xs++ys) (j++w)
 |_,_,_,_,.nil,s=>s
 |_,_,_,_,.cons r t,s=>.cons r (bo.append t s)
theorem bo.take:∀{xs:List V}{j:LV}(n:Nat),bo xs j->bo (xs.take n) (j.take n)
 |_,_,0,_=>.nil
 |_,_,_+1,.nil=>.nil
 |_,_,n+1,.cons r t=>.cons r (bo.take n t)
theorem bo.drop:∀{xs:List V}{j:LV}(n:Nat),bo xs j->bo (xs.drop n) (j.drop n)
 |_,_,0,r=>r
 |_,_,_+1,.nil=>.nil
 |_,_,n+1,.cons _ t=>bo.drop n t
def lN:Option V->OV->Prop
 |some v,Y u=>RelV v u
 |none,Vk=>True
 |_,_=>False
def KV:List (κ×V)->List (κ×Value)->Prop:=Paired λ(p:κ×V)(q:κ×Value)=>p.1=q.1/\RelV p.2 q.2
noncomputable def kV:ci->V
 | .inl i=>.int i
 | .inr x=>.str x
def qE(h:Heap)(a:Addr)(i:Array Value):Prop:=∃o,h.get? a=Y o/\(o.cls=.type "tuple"/\∃n,o.data=.seq i n)/\o.dict=Vk
variable{h:Heap}{a:Addr}
theorem qE.tup(x:qE h a q):IsTup h a q:=by obtain⟨o,e,c,_⟩:=x;exact⟨o,e,c⟩
theorem qE.lt(x:qE h a q):a < h.objs.size:=x.tup.lt
theorem qE.new(h:Heap)(i:Array Value):qE (h.push { cls:=.type "tuple",data:=.seq i }) h.objs.size i:=⟨_,bJ _ rfl,⟨rfl,_,rfl⟩,rfl⟩
inductive HO where
 |lst (xs:List V)
 |tup (xs:List V)
 |dK (kvs:List (ci×V))|dT (kvs:List (List ci×V))|dN (kvs:List (PyData×V×V))
 |set (S:Int->Bool) (n:Nat)
 |ins (C dx:Addr) (fs:List (Str×V))
 |own (x:Addr)
 |xd (fs:List (Str×V))
 |met (f x:Addr)
 |rng (lo hi:Int)
 |frz (o:Obj) (u:HO)
 |tbl
 |ext (φ:Heap->Prop)
noncomputable abbrev Hp:=Addr->Option HO
noncomputable def cG(H:Hp)(a:Addr)(o:HO):Hp:=λb=>if b=a then Y o else H b
variable{H:Hp}
theorem aV:cG H a o a=Y o:=by unfold cG;rw[ac rfl]
variable{b:Addr}
theorem aJ(h:b≠a):cG H a o b=H b:=by unfold cG;rw[ae h]
theorem Qq{H:Hp}{a b:Addr}{o u:HO}(h:H a=Y o)(h':H b=Y u)(d:o≠u):a≠b:=by intro e;subst e;rw[h]at h';exact d (b0 h')
theorem cC(h:H a=Y o)(h':H b=Vk):a≠b:=by intro e;subst e;rw[h]at h';cases h'
noncomputable def Ha:Str:="Renamer.__init__"
noncomputable def sP:Str:="Renamer.__init__.<locals>.<lambda>"
noncomputable def Ar:Pos:=⟨205,56,205,83⟩
def FN(p:Addr×Obj):Option Addr:=match p.2.data with
 | .fields v=>match (v[1]?:OV),(v[11]?:OV) with
  |some (.str q _),Y (.ref P)=>if q=Ha then Y P else Vk
  |_,_=>Vk
 |_=>Vk
def cy(K:FG):List Addr:=K.filterMap FN
def tJ(H:Hp)(h:Heap)(a:Addr):Prop:=∃ps,h.get? a=Y (r_ ps)/\(ps=#[]\/∃c,ps=#[rawInt Ar.line,rawInt Ar.col,.ref c]/\H c=Y (.own a)/\h.CodeRec (.ref c) sP)
section
variable(P:Program)(w:World)
def dj(H:Hp)(h:Heap)(a:Addr):HO->Prop
 | .lst xs=>xs.length≤sizeLine/\∃(its:LV)(n:Nat),bo xs its/\h.get? a=Y { cls:=.type "list",data:=.seq its.toArray n }
 | .tup xs=>xs.length≤sizeLine/\∃its:LV,bo xs its/\qE h a its.toArray
 | .dK kvs=>kvs.length≤sizeLine/\(a == sysModules)=Vm/\∃vs,KV kvs vs/\h.DictOf (cH P w) a vs
 | .dT kvs=>kvs.length≤sizeLine/\(a == sysModules)=Vm/\∃xs:List (List ci×Addr×Value),
   Paired (λ(p:List ci×V)(q:List ci×Addr×Value)=>p.1=q.1/\H q.2.1=Y (.tup (p.1.map kV))/\RelV p.2 q.2.2) kvs xs /\
   ∃o es ep,h.get? a=Y o/\o.ExactDict/\o.data=.dict es ep/\es.toList=xs.map (entryOfKey (tupleKind (cH P w)))/\(xs.map (·.1)).Nodup
 | .dN kvs=>kvs.length≤sizeLine/\(a == sysModules)=Vm/\∃xs:List (PyData×Addr×Value),Paired (λ(p:PyData×V×V)(q:PyData×Addr×Value)=>p.1=q.1/\p.2.1=V.ref q.2.1/\RelV p.2.2 q.2.2) kvs xs /\
   ∃o es ep,h.get? a=Y o/\o.ExactDict/\o.data=.dict es ep/\es.toList=xs.map (entryOfKey (Nk.nest P w))/\(xs.map (·.1)).Nodup
 | .set S n=>h.SetOf (intKind P w) a S n
 | .ins C dx fs=>H dx=Y (.own a)/\fs.length≤1000/\dx≠a/\h.get? a=Y (lS C dx) /\
   ∃mA,h.Ns1 dx mA/\(∀f,lN (fs.lookup f) (mA f))/\zq mA (fs.map (·.1))
 | .own _=>∃o,h.get? a=Y o
 | .xd fs=>∃mA,h.Ns1 a mA/\∀f,lN (fs.lookup f) (mA f)
 | .rng lo hi=>∃t u v,h.get? a=Y { cls:=.type "range",data:=.fields #[.int lo t,.int hi u,.int 1 v] }
 | .frz o u=>h.get? a=Y o/\dj H h a u
 | .tbl=>tJ H h a
 | .met f x=>h.get? a=Y (zD (.ref f) (.ref x))
 | .ext φ=>φ h/\(∃o,h.get? a=Y o)/\∀h1 h2:Heap,φ h1->(∀o,h1.get? a=Y o->h2.get? a=Y o)->φ h2
def mY(H:Hp)(h:Heap):Prop:=∀a o,H a=Y o->dj P w H h a o
end
section
variable{P:Program}{w:World}{H H':Hp}{h h':Heap}{a:Addr}{o:HO}
theorem dj.lt(x:dj P w H h a o):a < h.objs.size:=by
 cases o with
 |lst xs=>obtain⟨_,_,_,_,e⟩:=x;exact aN e
 |tup xs=>obtain⟨_,_,_,p⟩:=x;exact p.lt
 |dK kvs=>obtain⟨_,_,_,_,o,_,_,e,_⟩:=x;exact aN e
 |dT kvs=>obtain⟨_,_,_,_,o,_,_,e,_⟩:=x;exact aN e
 |dN kvs=>obtain⟨_,_,_,_,o,_,_,e,_⟩:=x;exact aN e
 |set S n=>obtain⟨o,_,_,_,e,_⟩:=x;exact aN e
 |ins C dx fs=>obtain⟨_,_,_,e,_⟩:=x;exact aN e
 |own y=>obtain⟨_,e⟩:=x;exact aN e
 |xd fs=>obtain⟨_,⟨_,_,_,e,_⟩,_⟩:=x;exact aN e
 |rng lo hi=>obtain⟨_,_,_,e⟩:=x;exact aN e
 |frz ob u=>obtain⟨e,_⟩:=x;exact aN e
 |tbl=>obtain⟨_,e,_⟩:=(show tJ H h a from x);exact aN e
 |met f y=>exact aN (show h.get? a=Y _ from x)
 |ext φ=>obtain⟨_,⟨_,e⟩,_⟩:=x;exact aN e
theorem Paired.mapP:∀{l:List α}{h:List z},Paired F l h->(∀a b,F a b->q a b)->Paired q l h
 |_,_,.nil,_=>.nil
 |_,_,.cons r t,f=>.cons (f _ _ r) (Paired.mapP t f)
theorem dj.stay(x:dj P w H h a o)(k:∀b u,(b=a\/H b=Y (.own a))->h.get? b=Y u->h'.get? b=Y u)
  (ho:∀b,H b=Y (.own a)->H' b=Y (.own a)) (ht:∀b xs,H b=Y (.tup xs)->H' b=Y (.tup xs)):dj P w H' h' a o:=by
 induction o with
 |lst xs=>obtain⟨z,its,n,r,e⟩:=x;exact⟨z,its,n,r,k _ _ (.inl rfl) e⟩
 |tup xs=>obtain⟨z,its,r,ob,e,c⟩:=x;exact⟨z,its,r,ob,k _ _ (.inl rfl) e,c⟩
 |dK kvs=>obtain⟨z,y,vs,r,ob,es,ep,e,c⟩:=x;exact⟨z,y,vs,r,ob,es,ep,k _ _ (.inl rfl) e,c⟩
 |dT kvs=>obtain⟨z,y,xs,r,ob,es,ep,e,c⟩:=x;exact⟨z,y,xs,Paired.mapP r λp q z=>⟨z.1,ht _ _ z.2.1,z.2.2⟩,ob,es,ep,k _ _ (.inl rfl) e,c⟩
 |dN kvs=>obtain⟨z,y,xs,r,ob,es,ep,e,c⟩:=x;exact⟨z,y,xs,r,ob,es,ep,k _ _ (.inl rfl) e,c⟩
 |set S n=>obtain⟨ob,es,ep,t,e,c⟩:=x;exact⟨ob,es,ep,t,k _ _ (.inl rfl) e,c⟩
 |ins C dx fs=>obtain⟨d,z,ne,e,mA,⟨od,es,ep,e2,c⟩,r⟩:=x;exact⟨ho _ d,z,ne,k _ _ (.inl rfl) e,mA,⟨od,es,ep,k _ _ (.inr d) e2,c⟩,r⟩
 |own y=>obtain⟨ob,e⟩:=x;exact⟨ob,k _ _ (.inl rfl) e⟩
 |xd fs=>obtain⟨mA,⟨od,es,ep,e,c⟩,r⟩:=x;exact⟨mA,⟨od,es,ep,k _ _ (.inl rfl) e,c⟩,r⟩
 |rng lo hi=>obtain⟨t,u,v,e⟩:=x;exact⟨t,u,v,k _ _ (.inl rfl) e⟩
 |frz ob u ih=>obtain⟨e,q⟩:=x;exact⟨k _ _ (.inl rfl) e,ih q⟩
 |tbl=>obtain⟨ps,e,z⟩:=(show tJ H h a from x);refine⟨ps,k a _ (.inl rfl) e,z.imp id ?_⟩;rintro ⟨c,e1,e2,c',oc,vs,t,e3,e4,e5⟩;cases e3;exact⟨c,e1,ho _ e2,c,oc,vs,t,rfl,k _ _ (.inr e2) e4,e5⟩
 |met f y=>have e:h.get? a=Y (zD (.ref f) (.ref y)):=x;show h'.get? a=Y (zD (.ref f) (.ref y));exact k a _ (.inl rfl) e
 |ext φ=>obtain⟨p,⟨o,e⟩,st⟩:=x;exact⟨st _ _ p λo q=>k _ _ (.inl rfl) q,⟨o,k _ _ (.inl rfl) e⟩,st⟩
theorem mY.lt(x:mY P w H h)(e:H a=Y o):a < h.objs.size:=(x a o e).lt
theorem mY.fresh(x:mY P w H h)(e:h.objs.size≤a):H a=Vk:=by
 cases q:H a with
 |none=>rfl
 |some u=>exact absurd (bZ (x.lt q) e) (i9 _)
theorem mY.kept(x:mY P w H h)(k:∀b u,h.get? b=Y u->h'.get? b=Y u):mY P w H h':=λa o e=>
 (x a o e).stay (λb u _ q=>k b u q) (λ_ q=>q) λ_ _ q=>q
theorem mY.laid(x:mY P w H h)(k:∀b u,h.get? b=Y u->h'.get? b=Y u)(p:h.objs.size≤a)(n:dj P w (cG H a o) h' a o):mY P w (cG H a o) h':=λb u e=>by
 have f:=x.fresh p;by_cases s:b=a
 .subst s;rw[aV]at e;cases e;exact n
 .rw [aJ s]at e;exact(x b u e).stay (λc v _ q=>k c v q) (λc q=>by rw[aJ (cC q f)];exact q) λc xs q=>by rw[aJ (cC q f)];exact q
end
def Rd(H:Hp)(a:Addr)(u:HO):Prop:=H a=Y u\/∃o,H a=Y (.frz o u)
theorem Rd.ok{P:Program}{w:World}{H:Hp}{h:Heap}{a:Addr}{u:HO}(r:Rd H a u)(x:mY P w H h):dj P w H h a u:=by
 rcases r with r|⟨o,r⟩
 .exact x a u r
 .obtain⟨_,q⟩:=x a _ r;exact q
def Rh:Option HO->Prop
 |some (.lst _)=>True
 |some (.dK _)=>True
 |some (.dT _)=>True
 |some (.dN _)=>True
 |some (.set _ _)=>True
 |some (.ins _ _ _)=>True
 |some (.ext _)=>True
 |_=>False
section
variable{P:Program}{w:World}{H:Hp}{h h':Heap}{x e:Addr}{o':HO}
theorem mY.write(ok:mY P w H h)(m:Rh (H x))(d:e=x\/H e=Y (.own x))(k:∀b u,b≠e->h.get? b=Y u->h'.get? b=Y u)(o:∃u,h'.get? e=Y u)
  (p:dj P w (cG H x o') h' x o'):mY P w (cG H x o') h':=λb u q=>by
 have n:∀c y,H c=Y (.own y)->c≠x:=λc y r z=>by subst z;rw[r]at m;exact m
 have t:∀c xs,H c=Y (.tup xs)->c≠x:=λc xs r z=>by subst z;rw[r]at m;exact m
 by_cases s:b=x
 .subst s;rw[aV]at q;cases q;exact p
 .rw [aJ s]at q;by_cases a:b=e
  .have g:H b=Y (.own x):=by
    rcases d with z|z
    .exact absurd (a.trans z) s
    .rw [a];exact z
   rw[q]at g;cases g;obtain⟨v,i⟩:=o;exact⟨v,by rw[a];exact i⟩
  .refine (ok b u q).stay (λc v f r=>k c v ?_ r) (λc r=>by rw[aJ (n c b r)];exact r) λc xs r=>by rw[aJ (t c xs r)];exact r
   rcases f with rfl|f
   .exact a
   .rintro rfl;rcases d with z|z
    .exact n c b f z
    .rw [f]at z;cases z;exact s rfl
end
structure Un(fs ex:List Addr)(H H':Hp)(h h':Heap):Prop where
 keep:∀b o,h.get? b=Y o->H b=Vk->b ∉ fs->b ∉ ex->h'.get? b=Y o
 slot:∀b o,h.get? b=Y o->H b=Vk->b ∈ fs->b ∉ ex->∃sl,h'.get? b=Y { o with slots:=sl }
 free:∀b o,h.get? b=Y o->H b=Vk->b ∉ ex->H' b=Vk
 there:∀b o,h.get? b=Y o->b ∉ ex->∃o',h'.get? b=Y o'
 tups:∀b xs,H b=Y (.tup xs)->H' b=Y (.tup xs)
 frzs:∀b o u,H b=Y (.frz o u)->H' b=Y (.frz o u)
 tbls:∀b,H b=Y .tbl->H' b=Y .tbl
section
variable{fs fs' ex ex':List Addr}{H G H2:Hp}{h h1 h2 h':Heap}{a x e:Addr}{o:HO}
theorem Un.any(u:Un fs ex H G h h1)(q:h.get? b=Y z)(n:H b=Vk)(a:b ∉ ex):∃s,h1.get? b=Y { z with slots:=s }:=by
 by_cases x:b ∈ fs
 .exact u.slot b z q n x a
 .exact⟨z.slots,u.keep b z q n x a⟩
theorem Un.kept(k:∀b u,h.get? b=Y u->h'.get? b=Y u):Un fs ex H H h h':=
 ⟨λb o q _ _ _=>k b o q,λb o q _ _ _=>⟨o.slots,k b o q⟩,λ_ _ _ n _=>n,λb o q _=>⟨o,k b o q⟩,λ_ _ q=>q,λ_ _ _ q=>q,λ_ q=>q⟩
theorem Un.refl:Un fs ex H H h h:=Un.kept λ_ _ q=>q
theorem Un.laid(k:∀b u,h.get? b=Y u->h'.get? b=Y u)(p:h.objs.size≤a)(x:H a=Vk):Un fs ex H (cG H a o) h h' where
 keep:=λb u q _ _ _=>k b u q
 slot:=λb u q _ _ _=>⟨u.slots,k b u q⟩
 free:=λb u q n _=>by rw[aJ (bG (bZ (aN q) p))];exact n
 there:=λb u q _=>⟨u,k b u q⟩
 tups:=λb xs q=>by rw[aJ (cC q x)];exact q
 frzs:=λb u xs q=>by rw[aJ (cC q x)];exact q
 tbls:=λb q=>by rw[aJ (cC q x)];exact q
theorem Un.write(m:Rh (H x))(p:e=x\/H e=Y (.own x))(k:∀b u,b≠e->h.get? b=Y u->h'.get? b=Y u)(s:∃u,h'.get? e=Y u):Un fs ex H (cG H x o) h h':=by
 have t:∀b,H b=Vk->b≠x:=λb n z=>by subst z;rw[n]at m;exact m
 have c:∀b,H b=Vk->b≠e:=λb n z=>by
  subst z;rcases p with r|r
  .exact t b n r
  .rw [n]at r;cases r
 have f:∀b u,H b=Y u->¬Rh (Y u)->b≠x:=λb u q nm z=>by subst z;rw[q]at m;exact nm m
 refine⟨fun b u q n _ _=>k b u (c b n) q,fun b u q n _ _=>⟨u.slots,k b u (c b n) q⟩,fun b u q n _=>by rw [aJ (t b n)];exact n,fun b u q _=>?_,
  λb xs q=>by rw[aJ (f b _ q λz=>z)];exact q,λb u xs q=>by rw[aJ (f b _ q λz=>z)];exact q,λb q=>by rw[aJ (f b _ q λz=>z)];exact q⟩
 by_cases a:b=e
 .subst a;exact s
 .exact⟨u,k b u a q⟩
end
noncomputable def trk(h:Heap)(H:Hp):List Addr:=(List.range h.objs.size).filter λa=>(H a).isSome
def w1(h:Heap)(H:Hp):Heap:=PySem.W.hideAll h (trk h H)
theorem Ek(h:Heap)(H:Hp):(w1 h H).objs.size=h.objs.size:=PySem.W.hideAll_size _ _
variable{o:Obj}
theorem Hs(e:h.get? b=Y o)(n:H b=Vk):(w1 h H).get? b=Y o:=
 PySem.W.hideAll_get _ e λm=>by have q:(H b).isSome=Vl:=(e_.mp m).2;rw[n]at q;simp at q
theorem Kj(e:(w1 h H).get? b=Y o):h.get? b=Y o/\H b=Vk:=by
 have a:h.get? b=Y o:=PySem.W.of_hideAll (trk h H) e;refine⟨a,?_⟩;cases q:H b with
 |none=>rfl
 |some x=>have m:b ∈ trk h H:=e_.mpr ⟨bM.mpr (aN a),by simp[q]⟩;have z:(w1 h H).get? b=Vk:=PySem.W.hideAll_none (trk h H) m;rw[z]at e;cases e
noncomputable def o8(g h:Heap)(L:Addr):PN:=(List.range h.objs.size).filterMap λa=>if a=L\/(g.get? a).isSome=Vl then Vk else (h.get? a).map λo=>(a,o)
variable{g:Heap}{L:Addr}
theorem ym(h1:a≠L)(h2:g.get? a=Vk)(x:h.get? a=Y o):(a,o) ∈ o8 g h L:=
 mP.mpr ⟨a,bM.mpr (aN x),by simp[h1,h2,x]⟩
set_option tactic.hygienic true in
theorem sJ(x:p ∈ o8 g h L):p.1≠L/\g.get? p.1=Vk/\h.get? p.1=Y p.2:=by
 obtain⟨b,_,e⟩:=mP.mp x;split at e
 .cases e
 .rename_i n;cases q:h.get? b with
  |none=>rw[q]at e;simp at e
  |some u=>
   rw[q]at e;simp only[iA,Je]at e;subst e;refine⟨λz=>n (.inl z),?_,q⟩;show g.get? b=Vk;cases r:g.get? b with
   |none=>rfl
   |some v=>exact(n (.inr (by simp[r]))).elim
theorem yh:News g L h (o8 g h L):=λp x=>let ⟨a,b,c⟩:=sJ x;⟨c,a,b⟩
structure Mod(K:FG)(mg:SV)(base:Heap):Prop where
 kin:K.In base
 glob:base.Ns mainGlobals mg
 blt:∃mb,base.Ns builtinsNs mb/\∀x:Str,x≠"__name__"->mb x=bootBuiltins x
 nolimit:base.NoLimit
 bmain:∃bm ob,mg "__builtins__"=Y (.ref bm)/\bm≠builtinsNs/\base.get? bm=Y ob/\ob.cls=.type "module"/\ob.dict=Y builtinsNs/\ob.data=.plain
structure Cx where
 p:Program
 w:World
 K:FG
 g:SV
 b:Heap
 A:Around
 N:LS
 z:Shared
 y:Hp
 e:Env
 o:List Env
 k:List Env
 ex:List Addr
 fn:Str->Bool
 c:Bool
 pn:PN
 xe:VP
noncomputable def HA(l:List Env):List Addr:=l.filterMap (·.frame)
abbrev Cx.fs(X:Cx):List Addr:=HA X.o
def OF(sc:Scope)(x:Str):Prop:=sc.names.lookup x=Y .local\/sc.names.lookup x=Y .cell\/sc.names.lookup x=Y .free
def Loc(sc:Scope)(x:Str):Prop:=sc.names.lookup x=Y .local\/sc.names.lookup x=Y .cell
def Look(e:Env)(h:Heap)(m:SV)(x:Str)(u:Value):Prop:=
 (e.kindOf x=Y .local/\m x=Y u)\/((e.kindOf x=Y .cell\/e.kindOf x=Y .free)/\∃c,e.cells.lookup x=Y c/\h.IsCell c (Y u))
structure Cx.Ok(X:Cx):Prop where
 mod:Mod X.K X.g X.b
 kind:X.e.scope.kind=.function
 glob:X.e.globals=mainGlobals
 blt:X.e.builtins=builtinsNs
 above:X.z.heap.objs.size≤X.e.locals
 inj:∀x y c,X.e.cells.lookup x=Y c->X.e.cells.lookup y=Y c->x=y
 has:∀x,(X.e.kindOf x=Y .cell\/X.e.kindOf x=Y .free)->∃c,X.e.cells.lookup x=Y c
 cab:∀x c,X.fn x=Vl->X.e.cells.lookup x=Y c->X.z.heap.objs.size≤c
 hd:X.c=Vl->X.A.handled=Vk
 frames:X.A.frames=Y X.k
 stk:X.k=X.o\/(X.k=X.e::X.o/\X.e.frame=Y X.e.locals)
 exf:∀b ∈ X.ex,b≠X.e.locals/\∀x c,X.e.cells.lookup x=Y c->c≠b
 bs:∀b o,X.b.get? b=Y o->X.z.heap.get? b=Y o/\X.y b=Vk
 bsz:X.b.objs.size≤X.z.heap.objs.size
 noex:∀b o,X.b.get? b=Y o->b ∉ X.ex
 exfs:∀b ∈ X.ex,b ∉ X.fs
 funs:X.z.heap.FunFrames X.b X.o
 frf:∀b ∈ X.fs,X.y b=Vk
 tab:∀P ∈ cy X.K,X.y P=Y .tbl
structure Inv(X:Cx)(pins:PN)(J:List (Option V))(H:Hp)(s:Shared):Prop where
 o:X.Ok
 os:s.os=X.z.os
 bare:AllBare s.gens
 base:Un X.fs X.ex X.y H X.z.heap s.heap
 loc:∃m,s.heap.Ns X.e.locals m/\∀(i:Nat)(x:Str)(v:V),X.N[i]? = Y x->J[i]? = Y (Y v)->OF X.e.scope x->∃u,RelV v u/\Look X.e s.heap m x u
 cell:∀x c,X.e.cells.lookup x=Y c->∃v,s.heap.IsCell c v
 free:H X.e.locals=Vk
 freeC:∀x c,X.e.cells.lookup x=Y c->H c=Vk
 pin:∀p ∈ X.pn++pins,s.heap.get? p.1=Y p.2/\H p.1=Vk/\p.1≠X.e.locals/\p.1 ∉ X.fs/\∀v,p.2.data≠.cell v
 h:mY X.p X.w H s.heap
 len:J.length=X.N.length
section
variable{X:Cx}{pins:PN}{J:List (Option V)}{H H':Hp}{s:Shared}{h':Heap}
theorem Cx.Ok.nofr(ok:X.Ok)(e:X.b.get? b=Y o):b ∉ X.fs:=λh=>by have:=(ok.funs.mem h).1;rw[e]at this;cases this
theorem Inv.bs(I:Inv X pins J H s):∀b o,X.b.get? b=Y o->s.heap.get? b=Y o/\H b=Vk:=λb o e=>
 ⟨I.base.keep b o (I.o.bs b o e).1 (I.o.bs b o e).2 (I.o.nofr e) (I.o.noex b o e),I.base.free b o (I.o.bs b o e).1 (I.o.bs b o e).2 (I.o.noex b o e)⟩
theorem Inv.bk(I:Inv X pins J H s):∀b o,X.b.get? b=Y o->s.heap.get? b=Y o:=λb o e=>(I.bs b o e).1
theorem Inv.mod(I:Inv X pins J H s):Mod X.K X.g X.b:=I.o.mod
theorem Inv.kIn(I:Inv X pins J H s):X.K.In s.heap:=I.o.mod.kin.keeps I.bk
theorem Inv.fr(I:Inv X pins J H s):∃m,Fr X.b X.e.locals s.heap m:=
 let ⟨m,h,_⟩:=I.loc
 ⟨m,h,I.bk,bf I.o.bsz I.o.above⟩
theorem Inv.lt(I:Inv X pins J H s):X.e.locals < s.heap.objs.size:=let ⟨_,h,_⟩:=I.loc;h.lt
theorem Inv.sz(I:Inv X pins J H s):X.z.heap.objs.size≤s.heap.objs.size:=bf I.o.above (i8 I.lt)
theorem Inv.nofs(I:Inv X pins J H s)(h:s.heap.objs.size≤a):a ∉ X.fs:=λb=>by obtain⟨_,o,x,_⟩:=I.o.funs.mem b;exact absurd (bZ (aN x) (bf I.sz h)) (i9 _)
theorem Inv.cne(I:Inv X pins J H s):∀x c,X.e.cells.lookup x=Y c->c≠X.e.locals:=λx c e z=>by obtain⟨v,o,n,hd⟩:=I.cell x c e;obtain⟨m,⟨o',es,p,a,h,_⟩,_⟩:=I.loc;rw[z,a]at n;cases n;rw[h]at hd;cases hd
theorem Inv.funs(I:Inv X pins J H s):s.heap.FunFrames X.b X.o:=by
 have all:∀(l:List Env),(∀b ∈ HA l,b ∈ X.fs)->X.z.heap.FunFrames X.b l->s.heap.FunFrames X.b l:=by
  intro l;induction l with
  |nil=>intro _ _;trivial
  |cons n r i=>
   intro a k;obtain⟨hk,⟨L,o,f,c,m,hd⟩,t⟩:=k;have h:L ∈ X.fs:=a L (by unfold HA;rw[oj,f];exact aK);obtain⟨p,e⟩:=I.base.slot L o m (I.o.frf L h) h λz=>I.o.exfs L z h
   exact⟨hk,⟨L,_,f,c,e,hd⟩,i (λb x=>a b (by unfold HA;rw[oj,f];exact aL _ x)) t⟩
 exact all X.o (λ_ x=>x) I.o.funs
theorem Inv.stack(I:Inv X pins J H s):s.heap.FunFrames X.b X.k:=by
 rcases I.o.stk with e|⟨e,h⟩
 .rw [e];exact I.funs
 .rw [e];obtain⟨m,n,_⟩:=I.loc;refine .cons (by rw[I.o.kind];decide) h n ?_ I.funs;exact Heap.get?_none_of_le (bf I.o.bsz I.o.above)
theorem Inv.stkSub(I:Inv X pins J H s):∀b ∈ HA X.k,b ∈ X.e.locals::X.fs:=λb h=>by
 rcases I.o.stk with e|⟨e,f⟩
 .rw [e]at h;exact aL _ h
 .rw [e]at h;unfold HA at h;rw[oj,f]at h;exact h
theorem Inv.stkFree(I:Inv X pins J H s):∀b ∈ HA X.k,H b=Vk:=λb h=>by
 rcases bc.mp (I.stkSub b h) with e|h
 .rw [e];exact I.free
 .obtain⟨_,o,x,_⟩:=I.o.funs.mem h;exact I.base.free b o x (I.o.frf b h) λz=>I.o.exfs b z h
theorem Inv.step{g':Array GenState}{t':Nat}{d':Drawn}{ch:List Addr}(I:Inv X pins J H s)
  (a:∀b ∈ ch,(b ∈ X.ex\/X.z.heap.objs.size≤b)/\b≠X.e.locals/\(∀x c,X.e.cells.lookup x=Y c->c≠b)/\∀p ∈ X.pn++pins,p.1≠b)
  (t:∀b o,b≠X.e.locals->b ∉ X.fs->b ∉ ch->s.heap.get? b=Y o->H b=Vk->h'.get? b=Y o)
  (slot:∀b o,b≠X.e.locals->b ∈ X.fs->b ∉ ch->s.heap.get? b=Y o->H b=Vk->∃D,h'.get? b=Y { o with slots:=D }) (f:∀b o,b ∉ ch->s.heap.get? b=Y o->H b=Vk->H' b=Vk)
  (y:∀b o,b ∉ ch->s.heap.get? b=Y o->∃o',h'.get? b=Y o')
  (tups:∀b xs,H b=Y (.tup xs)->H' b=Y (.tup xs)) (F:∀b o u,H b=Y (.frz o u)->H' b=Y (.frz o u)) (P:∀b,H b=Y .tbl->H' b=Y .tbl)
  (ns:∀m,s.heap.Ns X.e.locals m->h'.Ns X.e.locals m) (B:mY X.p X.w H' h') (T:AllBare g') :
  Inv X pins J H' { s with heap:=h',gens:=g',drawn:=d',toks:=t' }:=by
 have L:∀b o,X.z.heap.get? b=Y o->b≠X.e.locals:=λb o e=>bG (bZ (aN e) I.o.above);have C:∀b o,X.z.heap.get? b=Y o->b ∉ X.ex->b ∉ ch:=λb o e h j=>by
  rcases(a b j).1 with z|z
  .exact h z
  .exact absurd (bZ (aN e) z) (i9 _)
 have K:∀x c,X.e.cells.lookup x=Y c->∀v,s.heap.IsCell c v->h'.IsCell c v:=λx c e v Z=>by
  obtain⟨o,S,hd⟩:=Z;have w:c ∉ ch:=λz=>(a c z).2.2.1 x c e rfl;by_cases G:c ∈ X.fs
  .obtain⟨D,q⟩:=slot c o (I.cne x c e) G w S (I.freeC x c e);exact⟨_,q,hd⟩
  .exact⟨o,t c o (I.cne x c e) G w S (I.freeC x c e),hd⟩
 refine⟨I.o,I.os,T,⟨λb o e n j h=>?_,λb o e n j h=>?_,λb o e n h=>?_,λb o e h=>?_,λb xs e=>tups b xs (I.base.tups b xs e),λb o xs e=>F b o xs (I.base.frzs b o xs e),λb e=>P b (I.base.tbls b e)⟩,?_,λx c e=>?_,?_,λx c e=>?_,λp M=>?_,B,I.len⟩
 .exact t b o (L b o e) j (C b o e h) (I.base.keep b o e n j h) (I.base.free b o e n h)
 .obtain⟨D,g⟩:=I.base.slot b o e n j h;obtain⟨E,A⟩:=slot b _ (L b o e) j (C b o e h) g (I.base.free b o e n h);exact⟨E,A⟩
 .obtain⟨o',g⟩:=I.base.there b o e h;exact f b o' (C b o e h) g (I.base.free b o e n h)
 .obtain⟨o',g⟩:=I.base.there b o e h;exact y b o' (C b o e h) g
 .obtain⟨m,W,V⟩:=I.loc;refine⟨m,ns m W,λi x v g A R=>?_⟩;obtain⟨u,r,l⟩:=V i x v g A R;refine⟨u,r,?_⟩;rcases l with l|⟨k,c,e,z⟩
  .exact .inl l
  .exact .inr ⟨k,c,e,K x c e _ z⟩
 .obtain⟨v,z⟩:=I.cell x c e;exact⟨v,K x c e v z⟩
 .obtain⟨m,⟨o,_,_,S,_⟩,_⟩:=I.loc;exact f _ o (λz=>(a _ z).2.1 rfl) S I.free
 .obtain⟨v,o,S,hd⟩:=I.cell x c e;exact f c o (λz=>(a c z).2.2.1 x c e rfl) S (I.freeC x c e)
 .obtain⟨e,n,N,Q,d⟩:=I.pin p M;have w:p.1 ∉ ch:=λz=>(a p.1 z).2.2.2 p M rfl;exact⟨t p.1 p.2 N Q w e n,f p.1 p.2 w e n,N,Q,d⟩
theorem Inv.un{t':Nat}(I:Inv X pins J H s)(u:Un X.fs [] H H' s.heap h')(k:mY X.p X.w H' h'):Inv X pins J H' { s with heap:=h',toks:=t' }:=by
 obtain⟨m,⟨o,es,q,f,r⟩,_⟩:=id I.loc;obtain⟨l,L⟩:=u.any f I.free (by simp);exact I.step (g':=s.gens) (d':=s.drawn) (ch:=[]) (λ_ z=>nomatch z) (λb o _ a _ e n=>u.keep b o e n a (by simp)) (λb o _ a _ e n=>u.slot b o e n a (by simp)) (λb o _ e n=>u.free b o e n (by simp)) (λb o _ e=>u.there b o e (by simp)) u.tups u.frzs u.tbls (λv c=>by obtain⟨o',x,p,h,t⟩:=c;rw[f]at h;cases h;exact⟨_,x,p,L,t⟩) k I.bare
theorem Inv.call{g':Array GenState}{t':Nat}{d':Drawn}{ch:List Addr}(I:Inv X pins J H s)(u:Un (HA X.k) ch H H' s.heap h')(q:mY X.p X.w H' h')(g:AllBare g')
  (a:∀b ∈ ch,(b ∈ X.ex\/X.z.heap.objs.size≤b)/\b≠X.e.locals/\(∀x c,X.e.cells.lookup x=Y c->c≠b)/\∀p ∈ X.pn++pins,p.1≠b) :
  Inv X pins J H' { s with heap:=h',gens:=g',drawn:=d',toks:=t' }:=by
 obtain⟨m,⟨o,es,j,v,r⟩,_⟩:=id I.loc;obtain⟨y,L⟩:=u.any v I.free λz=>(a _ z).2.1 rfl;exact I.step (ch:=ch) a (λb o L d h e n=>u.keep b o e n (λz=>(bc.mp (I.stkSub b z)).elim L d) h) (λb o _ _ h e n=>u.any e n h) (λb o h e n=>u.free b o e n h) (λb o h e=>u.there b o e h) u.tups u.frzs u.tbls (λl w=>by obtain⟨o',t,f,k,i⟩:=w;rw[v]at k;cases k;exact⟨_,t,f,L,i⟩) q g
theorem Inv.turned{t':Nat}{i:Addr}(I:Inv X pins J H s)(k:∀b o,b≠i->s.heap.get? b=Y o->h'.get? b=Y o)(g:H i=Vk)(L:i≠X.e.locals)
  (h1:i ∈ X.ex\/X.z.heap.objs.size≤i) (h2:∀x c,X.e.cells.lookup x=Y c->c≠i) (f:∀p ∈ X.pn++pins,p.1≠i):Inv X pins J H { s with heap:=h',toks:=t' }:=by
 have t:∀b u,H b=Y u->b≠i:=λb u e z=>by rw[z,g]at e;cases e
 refine I.step (g':=s.gens) (d':=s.drawn) (ch:=[i]) (λb d=>?_) (λb o _ _ h e _=>k b o (λz=>h (by simp[z])) e) (λb o _ _ h e _=>⟨o.slots,k b o (λz=>h (by simp[z])) e⟩) (λ_ _ _ _ n=>n)
  (λb o h e=>⟨o,k b o (λz=>h (by simp[z])) e⟩) (λ_ _ e=>e) (λ_ _ _ e=>e) (λ_ e=>e) (λm w=>?_) (λb u e=>?_) I.bare
 .have e:b=i:=by simpa using d
  subst e;exact⟨h1,L,h2,f⟩
 .obtain⟨o,es,a,j,r⟩:=w;exact⟨o,es,a,k _ o (aZ L) j,r⟩
 .refine (I.h b u e).stay (λc v h q=>k c v ?_ q) (λ_ q=>q) λ_ _ q=>q;rcases h with z|z
  .rw [z];exact t b u e
  .exact t c _ z
theorem Inv.tok(I:Inv X pins J H s)(t:Nat):Inv X pins J H { s with toks:=t }:=I.un (h':=s.heap) (t':=t) Un.refl I.h
theorem Inv.kept{t':Nat}(I:Inv X pins J H s)(k:∀b u,s.heap.get? b=Y u->h'.get? b=Y u):Inv X pins J H { s with heap:=h',toks:=t' }:=I.un (Un.kept k) (I.h.kept k)
theorem Inv.laid{a:Addr}{o:HO}{t':Nat}(I:Inv X pins J H s)(k:∀b u,s.heap.get? b=Y u->h'.get? b=Y u)(h:s.heap.objs.size≤a)(n:dj X.p X.w (cG H a o) h' a o) :
  Inv X pins J (cG H a o) { s with heap:=h',toks:=t' }:=I.un (Un.laid k h (I.h.fresh h)) (I.h.laid k h n)
theorem Inv.write{x e:Addr}{o:HO}{t:Nat}(I:Inv X pins J H s)(m:Rh (H x))(a:e=x\/H e=Y (.own x))(k:∀b u,b≠e->s.heap.get? b=Y u->h'.get? b=Y u)(h:∃u,h'.get? e=Y u)
  (n:dj X.p X.w (cG H x o) h' x o):Inv X pins J (cG H x o) { s with heap:=h',toks:=t }:=I.un (Un.write m a k h) (I.h.write m a k h n)
theorem Inv.pins_of(I:Inv X pins J H s)(h:∀p ∈ q,s.heap.get? p.1=Y p.2/\H p.1=Vk/\p.1≠X.e.locals/\p.1 ∉ X.fs/\∀v,p.2.data≠.cell v):Inv X q J H s:=
 ⟨I.o,I.os,I.bare,I.base,I.loc,I.cell,I.free,I.freeC,λp x=>(cR.mp x).elim (λz=>I.pin p (om _ z)) (h p),I.h,I.len⟩
theorem yf{N:LS}(s:N.Nodup){i j:Nat}{x:Str}(a:N[i]? = Y x)(b:N[j]? = Y x):i=j:=by obtain⟨h1,e⟩:=aX.mp a;obtain⟨h2,h⟩:=aX.mp b;exact(vQ s).mp (e.trans h.symm)
theorem uA{M:Model}{A:Around}{E:VP}{i:Nat}{x:Str}{v:V}{u:Value}{Q:Unit->Shared->Prop}(I:Inv X pins J H s)(hN:X.N.Nodup)(hi:X.N[i]? = Y x)(l:Loc X.e.scope x)(r:RelV v u)
  (h:∀s',Inv X pins (J.set i (Y v)) H s'->(∃a,gm a s.heap s'.heap/\(a=X.e.locals\/X.e.cells.lookup x=Y a))->Q () s') (hf:X.fn x=Vl\/X.e.scope.names.lookup x=Y .local:=by first|exact .inl rfl|exact .inr rfl|assumption):wpAny M A (storeName X.e x u) Q E s:=by
 obtain⟨m,hn,hl⟩:=id I.loc;have L:(X.e.scope.kind == .class ||(X.e.scope.kind == .module && X.e.locals != X.e.globals))=Vm:=by rw[I.o.kind];rfl
 have N:i < J.length:=by rw[I.len];exact(aX.mp hi).1
 have K:=I.cne;have w:∀{a:Addr}{h':Heap},(∃o,s.heap.get? a=Y o/\H a=Vk)->gm a s.heap h'->mY X.p X.w H h':=λ{a h'} ha f b ob e=>by
  obtain⟨_,_,S⟩:=ha;refine(I.h b ob e).stay (λc w' g q=>(f.2 c ?_).trans q) (λ_ q=>q) λ_ _ q=>q;rintro rfl;rcases g with rfl|g
  .rw [S]at e;cases e
  .rw [S]at g;cases g
 rcases l with hk|hk
 .refine wpAny_storeName_local hk hn (λh' hn' f=>?_) L;obtain⟨oL,_,_,hoL,_⟩:=id hn;refine h _ ⟨I.o,I.os,I.bare,⟨λb o e n P l=>?_,λb o e n P l=>?_,I.base.free,λb o e l=>?_,I.base.tups,I.base.frzs,I.base.tbls⟩,⟨_,hn',λj y v' t F e3=>?_⟩,λy c e=>?_,I.free,I.freeC,λp hp=>?_,w ⟨oL,hoL,I.free⟩ f,by simpa using I.len⟩ ⟨_,f,.inl rfl⟩
  .exact (f.2 b (bG (bZ (aN e) I.o.above))).trans (I.base.keep b o e n P l)
  .obtain⟨sl,t⟩:=I.base.slot b o e n P l;exact⟨sl,(f.2 b (bG (bZ (aN e) I.o.above))).trans t⟩
  .obtain⟨o',t⟩:=I.base.there b o e l;exact⟨o',(f.2 b (bG (bZ (aN e) I.o.above))).trans t⟩
  .by_cases C:j=i
   .subst C;rw[hi]at t;cases t;rw[cF N]at F;cases F;exact⟨u,r,.inl ⟨hk,by simp⟩⟩
   .rw [a6 (aZ C)]at F;obtain⟨u',r',q⟩:=hl j y v' t F e3;refine⟨u',r',?_⟩;rcases q with ⟨k,e⟩|⟨k,c,e,z⟩
    .refine .inl ⟨k,?_⟩;have:y≠x:=λe=>C (yf hN t (e ▸ hi));simp[this,e]
    .exact .inr ⟨k,c,e,z.sameBut f (K y c e)⟩
  .obtain⟨w',z⟩:=I.cell y c e;exact⟨w',z.sameBut f (K y c e)⟩
  .obtain⟨e,n,Z,nf,d⟩:=I.pin p hp;exact⟨(f.2 p.1 Z).trans e,n,Z,nf,d⟩
 .have B:X.fn x=Vl:=by
   rcases hf with z|z
   .exact z
   .rw [z]at hk;cases hk
  obtain⟨c,g⟩:=I.o.has x (.inl hk);obtain⟨w',z⟩:=I.cell x c g;refine wpAny_storeName_cell I.o.kind hk g z (λh' D f=>?_);obtain⟨oc,R,T⟩:=id z;refine h { s with heap:=h' } ⟨I.o,I.os,I.bare,⟨λb o e n P l=>?_,λb o e n P l=>?_,I.base.free,λb o e l=>?_,I.base.tups,I.base.frzs,I.base.tbls⟩,⟨m,hn.sameBut f (aZ (K x c g)),λj y v' t F e3=>?_⟩,λy W e=>?_,I.free,I.freeC,λp hp=>?_,w ⟨oc,R,I.freeC x c g⟩ f,by simpa using I.len⟩ ⟨c,f,.inr g⟩
  .exact (f.2 b (bG (bZ (aN e) (I.o.cab x c B g)))).trans (I.base.keep b o e n P l)
  .obtain⟨sl,t⟩:=I.base.slot b o e n P l;exact⟨sl,(f.2 b (bG (bZ (aN e) (I.o.cab x c B g)))).trans t⟩
  .obtain⟨o',t⟩:=I.base.there b o e l;exact⟨o',(f.2 b (bG (bZ (aN e) (I.o.cab x c B g)))).trans t⟩
  .by_cases C:j=i
   .subst C;rw[hi]at t;cases t;rw[cF N]at F;cases F;exact⟨u,r,.inr ⟨.inl hk,c,g,D⟩⟩
   .rw [a6 (aZ C)]at F;obtain⟨u',r',q⟩:=hl j y v' t F e3;refine⟨u',r',?_⟩;rcases q with q|⟨k,W,e,z'⟩
    .exact .inl q
    .refine .inr ⟨k,W,e,z'.sameBut f ?_⟩;rintro rfl;exact C (yf hN t (I.o.inj _ _ _ e g ▸ hi))
  .by_cases G:W=c
   .subst G;exact⟨_,D⟩
   .obtain⟨w2,z2⟩:=I.cell y W e;exact⟨w2,z2.sameBut f G⟩
  .obtain⟨e,n,Z,nf,d⟩:=I.pin p hp;refine⟨(f.2 p.1 ?_).trans e,n,Z,nf,d⟩;intro q;rw[q,R]at e;have q':oc=p.2:=b0 e;exact d w' (by rw[<- q'];exact T)
theorem xX(I:Inv X pins J H s)(N:X.N.Nodup)(hi:X.N[i]? = Y x)(e:Loc X.e.scope x)(r:RelV v u)
  (h:∀s',Inv X pins (J.set i (Y v)) H s'->Q () s') (f:X.fn x=Vl\/X.e.scope.names.lookup x=Y .local:=by first|exact .inl rfl|exact .inr rfl|assumption):wpAny M A (storeName X.e x u) Q E s:=
 uA I N hi e r (λs' a _=>h s' a) f
theorem Inv.call'(I:Inv X pins J H s)(n:s'.os=s.os)(u:Un (HA X.k) q H H' s.heap s'.heap)(o:mY X.p X.w H' s'.heap)(a:AllBare s'.gens)
  (h:∀b ∈ q,(b ∈ X.ex\/X.z.heap.objs.size≤b)/\b≠X.e.locals/\(∀x c,X.e.cells.lookup x=Y c->c≠b)/\∀p ∈ X.pn++pins,p.1≠b):Inv X pins J H' s':=by
 obtain⟨h',g,d,t,o'⟩:=s';have e:o'=s.os:=n;subst e;exact I.call (g':=g) (t':=t) (d':=d) u o a h
end
noncomputable abbrev XK:=Value->Option Addr->Hp->Prop
noncomputable abbrev St:=List (Option V)
noncomputable abbrev VK:=V->Hp->Prop
noncomputable abbrev TE:=St->Hp->VK->Prop
noncomputable abbrev TT:=St->Hp->(Bool->Hp->Prop)->Prop
noncomputable abbrev TA:=St->Hp->(List V->Hp->Prop)->Prop
structure Ends where
 nx:St->Hp->Prop
 rt:VK
 bk:St->Hp->Prop:=λ_ _=>False
 ct:St->Hp->Prop:=λ_ _=>False
noncomputable abbrev TS:=Ends->St->Hp->Prop
def EP(X:Cx)(pins:PN)(J:St)(Q:VK)(u:Value)(s':Shared):Prop:=∃v H',Inv X pins J H' s'/\RelV v u/\Q v H'
def TP(X:Cx)(pins:PN)(J:St)(Q:Bool->Hp->Prop)(b:Bool)(s':Shared):Prop:=∃H',Inv X pins J H' s'/\Q b H'
def AP(X:Cx)(pins:PN)(J:St)(Q:List V->Hp->Prop)(j:LV)(s':Shared):Prop:=∃v H',Inv X pins J H' s'/\bo v j/\Q v H'
def SP(X:Cx)(pins:PN)(D:Ends)(f:Flow)(s':Shared):Prop:=
 match f with
 | .next=>∃h H',Inv X pins h H' s'/\D.nx h H'
 | .brk=>∃h H',Inv X pins h H' s'/\D.bk h H'
 | .cont=>∃h H',Inv X pins h H' s'/\D.ct h H'
 | .ret u=>∃v h H',Inv X pins h H' s'/\RelV v u/\D.rt v H'
variable{α:Type}
noncomputable abbrev wx(X:Cx)(m:Sem α):=wpAny (model X.p X.w) X.A m
def PE(X:Cx)(e:Expr)(t:TE):Prop:=
 ∀(pins:PN)(s:Shared)(J:St)(H:Hp)(Q:VK),Inv X pins J H s->t J H Q->wx X (eval e X.e) (EP X pins J Q) X.xe s
def PT(X:Cx)(e:Expr)(t:TT):Prop:=
 ∀(pins:PN)(s:Shared)(J:St)(H:Hp)(Q:Bool->Hp->Prop),Inv X pins J H s->t J H Q->wx X (isTrue e X.e (eval e X.e)) (TP X pins J Q) X.xe s
def PW(X:Cx)(e:Expr)(t:TT):Prop:=
 ∀(w:Sem Value)(pins:PN)(s:Shared)(J:St)(H:Hp)(Q:Bool->Hp->Prop),Inv X pins J H s->t J H Q->wx X (isTrue e X.e w) (TP X pins J Q) X.xe s
variable{X:Cx}{e:Expr}
theorem PW.pt(h:PW X e t):PT X e t:=h _
def PA(X:Cx)(es:Ab)(t:TA):Prop:=
 ∀(B:Pos)(pins:PN)(s:Shared)(J:St)(H:Hp)(Q:List V->Hp->Prop),Inv X pins J H s->t J H Q->wx X (spliced (backTo B (starEach es X.e))) (AP X pins J Q) X.xe s
def PS(X:Cx)(st:Stmt)(t:TS):Prop:=
 ∀(pins:PN)(s:Shared)(J:St)(H:Hp)(D:Ends),Inv X pins J H s->t D J H->wx X (exec st X.e) (SP X pins D) X.xe s
def qF(X:Cx)(st:List Stmt)(t:TS):Prop:=
 ∀(pins:PN)(s:Shared)(J:St)(H:Hp)(D:Ends),Inv X pins J H s->t D J H->wx X (execs st X.e) (SP X pins D) X.xe s
variable{M:Model}{A:Around}{E:VP}{s:Shared}
theorem dO(h:wpAny M A t Q E s)(e:∀a s,Q a s->q a s):wpAny M A t q E s:=dg h e λ_ _ x=>x
section
variable{X:Cx}
noncomputable def Su(i:Nat):TE:=λJ H Q=>∃v,J[i]? = Y (Y v)/\Q v H
noncomputable def tC(v:V):TE:=λ_ H Q=>Q v H
theorem M6(N:X.N[i]? = Y x)(p:OF X.e.scope x)(hd:(x == ("__debug__":Str))=Vm:=by decide)(d:(x == ("__classdict__":Str))=Vm:=by decide):PE X (.Name x B) (Su i):=by
 intro pins s J H Q I h;obtain⟨v,e,h⟩:=h;obtain⟨m,t,k⟩:=I.loc;obtain⟨u,r,l⟩:=k i x v N e p;have f:EP X pins J Q u s:=⟨v,H,I,r,h⟩;rcases l with ⟨hk,b⟩|⟨hk,c,n,a⟩
 .exact rR (E2 I.o.kind hk t b f) hd
 .rcases hk with hk|hk
  .exact rR (wpAny_loadName_cell I.o.kind hk n a f) hd
  .exact rR (EY I.o.kind hk n a f d) hd
theorem M' {i q B}:PE X (.Constant (.int i) q B) (tC (.int i)):=λ_ _ _ H _ I h=>wpAny_Constant_int ⟨.int i,H,I.tok _,⟨_,rfl⟩,h⟩
theorem P7 {b q B}:PE X (.Constant (.bool b) q B) (tC (.bl b)):=λ_ _ _ H _ I h=>Constant_bool ⟨.bl b,H,I,rfl,h⟩
theorem M_ {q B}:PE X (.Constant .none q B) (tC .non):=λ_ _ _ H _ I h=>Constant_none ⟨.non,H,I,rfl,h⟩
theorem M7 {x q B}:PE X (.Constant (.str x) q B) (tC (.str x)):=λ_ _ _ H _ I h=>Calls.Constant_str ⟨.str x,H,I.tok _,⟨_,rfl⟩,h⟩
def Gl(X:Cx)(x:Str):Prop:=X.e.kindOf x=Y .globalImplicit
theorem wU(I:Inv X pins J H s)(g:Gl X x)(m:X.g x=Y u)(h:Q u s)
  (hd:(x == ("__debug__":Str))=Vm:=by decide):wx X (eval (.Name x B) X.e) Q E s:=
 Bw I.o.kind g (Calls.loadGlobal_global (by rw[I.o.glob];exact I.mod.glob.keeps I.bk) m h) hd
theorem nD(I:Inv X pins J H s)(g:Gl X x)(m:X.g x=Vk)(v:bootBuiltins x=Y u)(h:Q u s)
  (n:x≠"__name__":=by decide) (hd:(x == ("__debug__":Str))=Vm:=by decide):wx X (eval (.Name x B) X.e) Q E s:=by
 obtain⟨b,h1,h2⟩:=I.mod.blt;exact Bw I.o.kind g (Calls.loadGlobal_builtin (by rw[I.o.glob];exact I.mod.glob.keeps I.bk) m (by rw[I.o.blt];exact h1.keeps I.bk) ((h2 x n).trans v) h) hd
theorem Ka(g:Gl X x)(m:X.g x=Y u)(r:RelV v u)(hd:(x == ("__debug__":Str))=Vm:=by decide):PE X (.Name x B) (tC v):=
 λ_ _ _ H _ I h=>wU I g m ⟨v,H,I,r,h⟩ hd
variable{a b:Expr}{ta tb:TE}{B:Pos}
variable{tA tB':TT}{rest:Ab}
noncomputable def SH(t u:TT):TT:=λJ H Q=>t J H λc G=>if c=Vl then u J G Q else Q Vm G
noncomputable def UN(t u:TT):TT:=λJ H Q=>t J H λc G=>if c=Vl then Q Vl G else u J G Q
noncomputable def Sz(t:TT):TT:=λJ H Q=>t J H λc G=>Q (!c) G
theorem JS(x:PT X a tA):PW X (.BoolOp .And [a] B) tA:=by
 intro w pins s J H Q I h;refine isTrue_and (dO (x pins s J H Q I h) λc n e=>?_);cases c with
 |true=>exact isTrue_and_nil e
 |false=>exact e
theorem MT(x:PT X a tA):PW X (.BoolOp .Or [a] B) tA:=by
 intro w pins s J H Q I h;refine isTrue_or (dO (x pins s J H Q I h) λc n e=>?_);cases c with
 |false=>exact isTrue_or_nil e
 |true=>exact e
theorem MU(e:PT X a tA)(n:PW X (.BoolOp .And (b::rest) B) tB'):PW X (.BoolOp .And (a::b::rest) B) (SH tA tB'):=by
 intro w pins s J H Q I h;refine isTrue_and (dO (e pins s J H _ I h) λc k z=>?_);obtain⟨G,x,q⟩:=z;cases c with
 |true=>exact n w pins k J G Q x q
 |false=>exact⟨G,x,q⟩
theorem P0(e:PT X a tA)(n:PW X (.BoolOp .Or (b::rest) B) tB'):PW X (.BoolOp .Or (a::b::rest) B) (UN tA tB'):=by
 intro w pins s J H Q I h;refine isTrue_or (dO (e pins s J H _ I h) λc k z=>?_);obtain⟨G,x,q⟩:=z;cases c with
 |true=>exact⟨G,x,q⟩
 |false=>exact n w pins k J G Q x q
theorem MV(x:PT X a tA):PT X (.UnaryOp .Not a B) (Sz tA):=by intro pins s J H Q I h;exact isTrue_not (x pins s J H (λc G=>Q (!c) G) I h)
noncomputable def Ps(ta tb:TE):TE:=λJ H Q=>ta J H λx G=>∃c,x=.bl c/\if c=Vl then tb J G Q else Q (.bl Vm) G
noncomputable def Sy(ta tb:TE):TE:=λJ H Q=>ta J H λx G=>∃c,x=.bl c/\if c=Vl then Q (.bl Vl) G else tb J G Q
noncomputable def Pk(ta:TE):TE:=λJ H Q=>ta J H λx G=>∃c,x=.bl c/\Q (.bl (!c)) G
theorem M8 {q} (h:PE X a t):PE X (.BoolOp q [a] B) t:=λpins s J H Q I hw=>BoolOp_one (h pins s J H Q I hw)
theorem Nb(n:PE X a ta)(k:PE X (.BoolOp .And (b::rest) B) tb):PE X (.BoolOp .And (a::b::rest) B) (Ps ta tb):=by
 intro pins s J H Q I h;refine BoolOp_and (dO (n pins s J H _ I h) λv f z=>?_);obtain⟨x,G,e,r,q⟩:=z;obtain⟨c,rfl,q⟩:=q;cases r;refine lR ?_;cases c with
 |true=>exact k pins f J G Q e q
 |false=>exact⟨.bl Vm,G,e,rfl,q⟩
theorem P5(n:PE X a ta)(k:PE X (.BoolOp .Or (b::rest) B) tb):PE X (.BoolOp .Or (a::b::rest) B) (Sy ta tb):=by
 intro pins s J H Q I h;refine BoolOp_or (dO (n pins s J H _ I h) λv f z=>?_);obtain⟨x,G,e,r,q⟩:=z;obtain⟨c,rfl,q⟩:=q;cases r;refine lR ?_;cases c with
 |false=>exact k pins f J G Q e q
 |true=>exact⟨.bl Vl,G,e,rfl,q⟩
theorem M9(n:PE X a ta):PE X (.UnaryOp .Not a B) (Pk ta):=by intro pins s J H Q I h;refine UnaryOp_ (dO (n pins s J H _ I h) λv k z=>?_);obtain⟨x,G,e,r,q⟩:=z;obtain⟨c,rfl,q⟩:=q;cases r;exact not_of (lR ⟨.bl (!c),G,e,rfl,q⟩)
noncomputable def UO(t:TT)(ta tb:TE):TE:=λJ H Q=>t J H λc G=>if c=Vl then ta J G Q else tb J G Q
theorem Gy(f:PT X c tA)(n:PE X a ta)(k:PE X b tb):PE X (.IfExp c a b B) (UO tA ta tb):=by
 intro pins s J H Q I h;refine wpAny_IfExp (dO (f pins s J H _ I h) λd e z=>?_);obtain⟨G,x,q⟩:=z;cases d with
 |true=>exact n pins e J G Q x q
 |false=>exact k pins e J G Q x q
end
def lB(K:FG)(H:Hp)(a:Addr)(xs:List V):Prop:=
 Rd H a (.lst xs) \/
  ∃(o:Obj)(i:Array Value)(n:Nat),K.lookup a=Y o/\o.cls=.type "list"/\o.dict=Vk/\o.data=.seq i n/\i.size≤sizeLine/\bo xs i.toList
def nu(K:FG)(H:Hp)(a:Addr)(xs:List V):Prop:=
 Rd H a (.tup xs) \/
  ∃(o:Obj)(i:Array Value)(n:Nat),K.lookup a=Y o/\o.cls=.type "tuple"/\o.dict=Vk/\o.data=.seq i n/\i.size≤sizeLine/\bo xs i.toList
noncomputable def TZ:Value->Option V
 | .none=>Y .non
 | .bool b=>Y (.bl b)
 | .int i _=>Y (.int i)
 | .str x _=>Y (.str x)
 | .bytes b _=>Y (.byt b)
 | .float b _=>Y (.flt b)
 | .ref a=>Y (.ref a)
 | .type n=>Y (.ty n)
 |_=>Vk
theorem RelV.abs(r:RelV x u):TZ u=Y x:=by
 cases x with
 |non=>cases r;rfl
 |bl _=>cases r;rfl
 |int _=>obtain⟨t,rfl⟩:=r;rfl
 |str _=>obtain⟨t,rfl⟩:=r;rfl
 |byt _=>obtain⟨t,rfl⟩:=r;rfl
 |flt _=>obtain⟨t,rfl⟩:=r;rfl
 |ref _=>cases r;rfl
 |ty _=>cases r;rfl
variable{y:V}
theorem RelV.inj(r:RelV x u)(q:RelV y u):x=y:=b0 (r.abs.symm.trans q.abs)
theorem bo.inj:∀{xs ys:List V}{j:LV},bo xs j->bo ys j->xs=ys
 |_,_,_,.nil,.nil=>rfl
 |_,_,_,.cons r t,.cons h x=>by rw[r.inj h,bo.inj t x]
section
variable{X:Cx}{pins:PN}{J:St}{H:Hp}{s:Shared}{a:Addr}{xs ys:List V}
theorem lB.of{K:FG}(h:H a=Y (.lst xs)):lB K H a xs:=.inl (.inl h)
theorem Inv.list(I:Inv X pins J H s)(h:lB X.K H a xs):∃i:LV,bo xs i/\PlainL s.heap a i.toArray/\xs.length≤sizeLine:=by
 rcases h with h|⟨o,i,n,hk,c,hd,x,k,r⟩
 .obtain⟨z,i,n,r,e⟩:=h.ok I.h;exact⟨i,r,⟨_,n,e,rfl,rfl,rfl⟩,z⟩
 .refine⟨i.toList,r,⟨o,n,I.kIn a o hk,c,hd,by simpa using x⟩,?_⟩;have e:=r.length;simp only[k8]at e;lia
theorem Inv.tuple(I:Inv X pins J H s)(h:nu X.K H a xs):∃i:LV,bo xs i/\IsTup s.heap a i.toArray/\xs.length≤sizeLine:=by
 rcases h with h|⟨o,i,n,hk,c,_,x,k,r⟩
 .obtain⟨z,i,r,p⟩:=h.ok I.h;exact⟨i,r,p.tup,z⟩
 .refine⟨i.toList,r,⟨o,I.kIn a o hk,c,n,by simpa using x⟩,?_⟩;have e:=r.length;simp only[k8]at e;lia
theorem Inv.tupleN(I:Inv X pins J H s)(h:nu X.K H a xs):∃its:LV,bo xs its/\qE s.heap a its.toArray:=by
 rcases h with q|⟨ob,vs,m,e1,e2,e3,e4,_,rv⟩
 .exact⟨_,(q.ok I.h).2.choose_spec⟩
 .exact⟨vs.toList,rv,ob,I.kIn a ob e1,⟨e2,m,by simpa using e4⟩,e3⟩
theorem Inv.list_inj(I:Inv X pins J H s)(h:lB X.K H a xs)(h':lB X.K H a ys):xs=ys:=by
 obtain⟨t,r,⟨o,n,e,_,_,d⟩,_⟩:=I.list h;obtain⟨i,b,⟨o',c,k,_,_,x⟩,_⟩:=I.list h';rw[e]at k;cases k;rw[d]at x;injection x with f _;have:t=i:=by simpa using cE Cd f
 subst this;exact r.inj b
theorem Inv.tuple_inj(I:Inv X pins J H s)(h:nu X.K H a xs)(h':nu X.K H a ys):xs=ys:=by
 obtain⟨t,r,⟨o,e,_,n,d⟩,_⟩:=I.tuple h;obtain⟨i,b,⟨o',k,_,c,x⟩,_⟩:=I.tuple h';rw[e]at k;cases k;rw[d]at x;injection x with f _;have:t=i:=by simpa using cE Cd f
 subst this;exact r.inj b
end
noncomputable abbrev Cx.wish(X:Cx)(E:VP):Cx:={ X with xe:=E }
abbrev Cx.nox(X:Cx):Cx:=X.wish λ_ _=>False
theorem Cx.Ok.wish(ok:X.Ok)(E:VP):(X.wish E).Ok:=
 ⟨ok.mod,ok.kind,ok.glob,ok.blt,ok.above,ok.inj,ok.has,ok.cab,ok.hd,ok.frames,ok.stk,ok.exf,ok.bs,ok.bsz,ok.noex,ok.exfs,ok.funs,ok.frf,ok.tab⟩
theorem Cx.Ok.unwish(ok:(X.wish E).Ok):X.Ok:=
 ⟨ok.mod,ok.kind,ok.glob,ok.blt,ok.above,ok.inj,ok.has,ok.cab,ok.hd,ok.frames,ok.stk,ok.exf,ok.bs,ok.bsz,ok.noex,ok.exfs,ok.funs,ok.frf,ok.tab⟩
section
variable{X:Cx}{pins:PN}{J:St}{H:Hp}{s:Shared}{E:VP}
theorem Inv.wish(I:Inv X pins J H s)(E:VP):Inv (X.wish E) pins J H s:=⟨I.o.wish E,I.os,I.bare,I.base,I.loc,I.cell,I.free,I.freeC,I.pin,I.h,I.len⟩
theorem Inv.unwish(I:Inv (X.wish E) pins J H s):Inv X pins J H s:=⟨I.o.unwish,I.os,I.bare,I.base,I.loc,I.cell,I.free,I.freeC,I.pin,I.h,I.len⟩
set_option tactic.hygienic true in
theorem SP.unwish(h:SP (X.wish E) pins D f s'):SP X pins D f s':=by
 cases f with
 |next=>obtain⟨x,H',I,q⟩:=h;exact⟨x,H',I.unwish,q⟩
 |brk=>obtain⟨x,H',I,q⟩:=h;exact⟨x,H',I.unwish,q⟩
 |cont=>obtain⟨x,H',I,q⟩:=h;exact⟨x,H',I.unwish,q⟩
 |ret u=>obtain⟨v,x,H',I,r,q⟩:=h;exact⟨v,x,H',I.unwish,r,q⟩
theorem qF.nox{st:List Stmt}{t:TS}(h:qF X.nox st t):qF X st t:=λpins s J H D I hw=>
 dg (h pins s J H D (I.wish _) hw) (λ_ _ q=>q.unwish) λ_ _ z=>False.elim z
end
section
variable{X:Cx}{st:Stmt}{rest:List Stmt}{t u:TS}{e:Expr}{te:TE}{B:Pos}
noncomputable def Pm:TS:=λD J H=>D.nx J H
noncomputable def Sw(t u:TS):TS:=λD J H=>t { D with nx:=u D } J H
theorem JU:qF X [] Pm:=λ_ _ J H _ I h=>zr ⟨J,H,I,h⟩
set_option tactic.hygienic true in
theorem Gn(h1:PS X st t)(h2:qF X rest u):qF X (st::rest) (Sw t u):=by
 intro pins s J H D I h;refine Cs (dO (h1 pins s J H { D with nx:=u D } I h) λf e q=>?_);cases f with
 |next=>obtain⟨a,H',x,q⟩:=q;exact h2 pins e a H' D x q
 |ret v=>exact q
 |brk=>exact q
 |cont=>exact q
set_option tactic.hygienic true in
theorem JT(h1:PS X st t):qF X [st] t:=by
 intro pins s J H D I h;refine Cs (dO (h1 pins s J H D I h) λf x q=>?_);cases f with
 |next=>exact zr q
 |ret v=>exact q
 |brk=>exact q
 |cont=>exact q
theorem Inv.quiet(I:Inv X pins J H s):interactive X.e=Vm:=by simp[interactive,I.o.kind]
noncomputable def Po(te:TE):TS:=λD J H=>te J H λ_ G=>D.nx J G
theorem JW(n:PE X e te)(k:swapsWith e Vk B.line X.e=pure Vm:=by rfl):PS X (.Expr e B) (Po te):=by intro pins s J H D I h;exact wpAny_Expr_any (dO (n pins s J H _ I h) λv f z=>by obtain⟨x,G,a,r,q⟩:=z;exact⟨J,G,a,q⟩) I.quiet k
noncomputable def Sx(te:TE):TS:=λD J H=>te J H D.rt
theorem MX(n:PE X e te):PS X (.Return (Y e) B) (Sx te):=by intro pins s J H D I h;exact wpAny_Return_some (dO (n pins s J H _ I h) λv k z=>by obtain⟨x,G,a,r,q⟩:=z;exact⟨x,J,G,a,r,q⟩)
noncomputable def SD(c:TT)(t u:TS):TS:=λD J H=>c J H λb G=>if b=Vl then t D J G else u D J G
theorem P1{c:Expr}{a b:List Stmt}{tc:TT}(f:PT X c tc)(n:qF X a t)(k:qF X b u):PS X (.If c a b B) (SD tc t u):=by
 intro pins s J H D I h;refine wpAny_If (dO (f pins s J H _ I h) λd e z=>?_);obtain⟨G,x,q⟩:=z;cases d with
 |true=>exact n pins e J G D x q
 |false=>exact k pins e J G D x q
noncomputable def Mq:TS:=λ_ _ _=>False
theorem D6:qF X q Mq:=λ_ _ _ _ _ _ h=>h.elim
end
noncomputable abbrev TG:=V->St->Hp->(St->Hp->Prop)->Prop
noncomputable abbrev Oj:=List V->St->Hp->(St->Hp->Prop)->Prop
def PG(X:Cx)(a:Expr)(t:TG):Prop:=
 ∀(pins:PN)(s:Shared)(J:St)(H:Hp)(v:V)(u:Value)(Q:St->Hp->Prop),Inv X pins J H s->RelV v u->t v J H Q ->
  wx X (assign a X.e u) (λ_ s'=>∃h H',Inv X pins h H' s'/\Q h H') X.xe s
def Rg(X:Cx)(x:Ab)(t:Oj):Prop:=
 ∀(pins:PN)(s:Shared)(J:St)(H:Hp)(v:List V)(j:LV)(Q:St->Hp->Prop),Inv X pins J H s->bo v j->t v J H Q ->
  wx X (assignInOrder ((assignEach x X.e).map (·.2)) j) (λ_ s'=>∃h H',Inv X pins h H' s'/\Q h H') X.xe s
noncomputable abbrev Oi:=V->V->V->Hp->(Hp->Prop)->Prop
def Rc(X:Cx)(t:Oi):Prop:=
 ∀(pins:PN)(s:Shared)(J:St)(H:Hp)(o i v:V)(h iv u:Value)(Q:Hp->Prop),Inv X pins J H s->RelV o h->RelV i iv->RelV v u->t o i v H Q ->
  wx X (setItem h iv u) (λ_ s'=>∃H',Inv X pins J H' s'/\Q H') X.xe s
section
variable{X:Cx}{B:Pos}
noncomputable def LB(i:Nat):TG:=λv J H Q=>Q (J.set i (Y v)) H
theorem J2(N:X.N.Nodup)(hi:X.N[i]? = Y x)(e:Loc X.e.scope x)(f:X.fn x=Vl\/X.e.scope.names.lookup x=Y .local:=by first|exact .inl rfl|exact .inr rfl|assumption):PG X (.Name x B) (LB i):=by intro pins s J H v u Q I r h;exact Cz (xX I N hi e r (λs' a=>⟨_,H,a,h⟩) f)
noncomputable def TK:Oj:=λv J H Q=>v=[]/\Q J H
noncomputable def QK(t:TG)(u:Oj):Oj:=λs J H Q=>∃v r,s=v::r/\t v J H λh H'=>u r h H' Q
theorem J1:Rg X [] TK:=by intro pins s J H v j Q I r h;obtain⟨e,h⟩:=h;subst e;cases r;exact assignInOrder_nil ⟨J,H,I,h⟩
theorem Gs{e:Expr}{es:Ab}{t:TG}{u:Oj}(h1:PG X e t)(h2:Rg X es u)
  (k:(assignEach (e::es) X.e).map (·.2)=assign e X.e::(assignEach es X.e).map (·.2):=by rfl):Rg X (e::es) (QK t u):=by
 intro pins s J H m j Q I r h;obtain⟨v,c,n,h⟩:=h;subst n;cases r with
 |cons r f=>rw[k];refine assignInOrder_cons (dO (h1 pins s J H _ _ _ I r h) λ_ b z=>?_);obtain⟨a,G,x,q⟩:=z;exact h2 pins b a G _ _ Q x f q
noncomputable def TH(K:FG)(n:Nat)(t:Oj):TG:=λv J H Q=>∃a xs,v=.ref a/\nu K H a xs/\xs.length=n/\t xs J H Q
theorem M4(p:X.c=Vl)(h:Rg X es t)
  (q:(assignEach es X.e).length=n:=by rfl) (x:(assignEach es X.e).findIdx? (·.1)=Vk:=by rfl):PG X (.Tuple es k B) (TH X.K n t):=by
 intro pins s J H v u Q I r hw;obtain⟨a,xs,m,d,l,hw⟩:=hw;subst m;cases r;obtain⟨i,f,w,z⟩:=I.tuple d;refine assign_Tuple_tuple (I.o.hd p) w (by simp[q,<- l,f.length]) x λh' g=>?_
 have c:Inv X pins J H { s with heap:=h' }:=I.kept (t':=s.toks) λb o e=>g b o (bG (aN e)) e;exact h pins _ J H xs _ Q c (by simpa using f) hw
noncomputable def TJ(to x:TE)(t:Oi):TG:=λv J H Q=>to J H λo G=>x J G λi H2=>t o i v H2 λh=>Q J h
theorem M5{o i:Expr}{to a:TE}{t:Oi}(c:PE X o to)(hi:PE X i a)(m:Rc X t)
  (b:∀v,assign (.Subscript o i B) X.e v=(do
   let q <- holding [v] (eval o X.e)
   let iv <- holding [v,q] (eval i X.e)
   standAt B
   holding [v,q,iv] (setItem q iv v)
   release [v,q,iv] []):=by intro _;rfl):PG X (.Subscript o i B) (TJ to a t):=by
 intro pins s J H v u Q I r h;rw[b];refine af (gR (dO (c pins s J H _ I h) λq l z=>?_));obtain⟨x,G,n,g,p⟩:=z;refine af (gR (dO (hi pins l J G _ n p) λiv S z=>?_));obtain⟨y,H2,k,j,d⟩:=z;refine af (zo (af (gR (dO (m pins S J H2 x y v q iv u _ k g j r d) λ_ F z=>?_))));obtain⟨e,f,w⟩:=z;exact wpAny_release ⟨J,e,f,w⟩
noncomputable def Pr(te:TE)(g:TG):TS:=λD J H=>te J H λx G=>g x J G D.nx
theorem Go{tg e:Expr}{te:TE}{g:TG}(n:PE X e te)(k:PG X tg g)(f:swapsWithSole [tg] e B.line X.e=pure Vm:=by rfl)(hw:swappedStores [tg] e X.e=pure Vk:=by rfl)
  (h1:(assignEach [tg] X.e).map (·.2)=[assign tg X.e]:=by rfl):PS X (.Assign [tg] e B) (Pr te g):=by
 intro pins s J H D I h;refine wpAny_Assign_stores (dO (n pins s J H _ I h) λv c z=>?_) f hw;obtain⟨x,G,a,r,b⟩:=z;rw[h1];exact dO (k pins c J G x v _ a r b) λ_ m q=>q
theorem MW(N:X.N.Nodup)(hi:X.N[i]? = Y x)(c:Loc X.e.scope x)(k:PE X e te)(b:swapsWith e (Y (.Name x pos')) B.line X.e=pure Vm:=by rfl)(f:X.fn x=Vl\/X.e.scope.names.lookup x=Y .local:=by first|exact .inl rfl|exact .inr rfl|assumption) :
  PS X (.Assign [.Name x pos'] e B) (Pr te (LB i)):=by
 intro pins s J H D I h;refine wpAny_Assign_Name (dO (k pins s J H _ I h) λv m z=>?_) b;obtain⟨y,G,a,r,q⟩:=z;exact xX a N hi c r (λt n=>⟨_,G,n,q⟩) f
end
structure It where
 go:Nat->Hp->Prop
 yld:Nat->Hp->V->Hp->Prop
 stop:Nat->Hp->Prop
def xD(X:Cx)(pins:PN)(H:Hp)(b:Addr):Prop:=
 H b=Vk/\b≠X.e.locals/\b ∉ X.fs/\(b ∈ X.ex\/X.z.heap.objs.size≤b)/\(∀x c,X.e.cells.lookup x=Y c->c≠b)/\∀p ∈ X.pn++pins,p.1≠b
variable{pins:PN}{J:St}
theorem Inv.fpOk(I:Inv X pins J H s)(h:s.heap.objs.size≤b)(n:H' b=Vk):xD X pins H' b:=by
 refine⟨n,cD (bZ I.lt h),I.nofs h,.inr (bf I.sz h),λx c e z=>?_,λp a z=>?_⟩
 .obtain⟨v,q⟩:=I.cell x c e;exact absurd (bZ q.lt (by rw[z];exact h)) (i9 _)
 .exact absurd (bZ (aN (I.pin p a).1) (by rw[z];exact h)) (i9 _)
structure Turn(P:Program)(w:World)(K:FG)(tg:Expr)(J9:It)(fp:List Addr)(it:Addr)(tn:Nat->Heap->Prop):Prop where
 mem:it ∈ fp
 obj:∀i h,tn i h->∀b ∈ fp,∃o,h.get? b=Y o/\∀v,o.data≠.cell v
 keep:∀i h h',tn i h->(∀b ∈ fp,∀o,h.get? b=Y o->h'.get? b=Y o)->tn i h'
 item:∀(X:Cx),X.p=P->X.w=w->X.K=K->X.c=Vl->∀(i:Nat)(pins:PN)(s:Shared)(J:St)(H:Hp)(E:VP),Inv X pins J H s->(∀b ∈ fp,xD X pins H b)->tn i s.heap->J9.go i H ->
  wpAny (model P w) X.A (pyNext (.ref it)) (fun r s1=>∃u,r=Y u /\
   wpAny (model P w) X.A (letOwnedTupleGo tg (.ref it) u) (λ_ s2=>∃x H',Inv X pins J H' s2/\RelV x u/\J9.yld i H x H'/\tn (i+1) s2.heap/\∀b ∈ fp,H' b=Vk) E s1) E s
 done:∀(X:Cx),X.p=P->X.w=w->X.K=K->X.c=Vl->∀(i:Nat)(pins:PN)(s:Shared)(J:St)(H:Hp)(E:VP),Inv X pins J H s->(∀b ∈ fp,xD X pins H b)->tn i s.heap->J9.stop i H ->
  wpAny (model P w) X.A (pyNext (.ref it)) (λr s1=>r=Vk/\Inv X pins J H s1) E s
 self:∀(A:Around)(i:Nat)(s:Shared)(Q:VP)(E:VP),tn i s.heap->Q (.ref it) s->wpAny (model P w) A (pyIter (.ref it)) Q E s
noncomputable abbrev TI:=St->Hp->(It->Hp->Prop)->Prop
def RU(X:Cx)(pins:PN)(J:St)(tg:Expr)(R:It->Hp->Prop)(i:Value)(s:Shared):Prop:=
 ∃(t:Addr)(f:List Addr)(n:Nat->Heap->Prop)(h:It)(H':Hp),i=.ref t/\Inv X pins J H' s/\Turn X.p X.w X.K tg h f t n/\n 0 s.heap/\(∀b ∈ f,xD X pins H' b)/\R h H'
def PI(X:Cx)(tg iter:Expr)(w:TI):Prop:=
 ∀(pins:PN)(s:Shared)(J:St)(H:Hp)(R:It->Hp->Prop),Inv X pins J H s->w J H R ->
  wx X (eval iter X.e) (λv h=>wx X (pyIter v) (RU X pins J tg R) X.xe h) X.xe s
variable{tg:Expr}
theorem Hw(e:s.heap.get? q=Y o)(c:o.cls=.type n)(hd:o.data=.fields z)
    (a:["enumerate","zip","dict_itemiterator","dict_reverseitemiterator","odict_iterator","itertools.zip_longest","itertools.pairwise"].contains n=Vm) (x:Q () s):wpAny M A (letOwnedTupleGo tg (.ref q) u) Q E s:=by
  unfold letOwnedTupleGo;cases tg<;>first
    |exact aq x
    | (cases u <;> first
        |exact aq x
        | (refine af (wpAny_load e ?_)
           rw[c,hd];show wpAny M A (if (["enumerate","zip","dict_itemiterator","dict_reverseitemiterator","odict_iterator","itertools.zip_longest","itertools.pairwise"].contains n && z[0]? == Y (rawInt _))=Vl then _ else _) Q E s;rw[ae (by intro h;rw[a,Cb]at h;cases h)];exact aq x))
noncomputable def T5(K:FG)(a:Addr):It:=
 ⟨λi H=>∃xs x,lB K H a xs/\xs[i]? = Y x,λi H x H'=>H'=H/\∀xs,lB K H a xs->xs[i]? = Y x,λi H=>∃xs,lB K H a xs/\xs.length≤i⟩
noncomputable def Uz(K:FG)(a:Addr):It:=
 ⟨λi H=>∃xs x,nu K H a xs/\xs[i]? = Y x,λi H x H'=>H'=H/\∀xs,nu K H a xs->xs[i]? = Y x,λi H=>∃xs,nu K H a xs/\xs.length≤i⟩
noncomputable def RX(lo:Int)(n:Nat):It:=⟨λi _=>i < n,λi H x H'=>H'=H/\x=.int (lo+i),λi _=>n≤i⟩
variable{w:World}{K:FG}
theorem DY(a t:Addr):Turn P w K tg (T5 K a) [t] t (λi h=>h.IsListIter t a i) where
 mem:=by simp
 obj:=λi h st b n=>by
  have e:b=t:=by simpa using n
  subst e;obtain⟨o,e,c,d⟩:=st;exact⟨o,e,λv z=>by rw[d]at z;cases z⟩
 keep:=λi h h' st k=>st.at λo e=>k t (by simp) o e
 item:=by
  intro X F hw S G i pins s J H E I m st A;subst F hw S;obtain⟨xs,x,q,B⟩:=A;obtain⟨C,D,p,T⟩:=I.list q;obtain⟨u,Q,V⟩:=D.get B;obtain⟨r,g,N,j,l,y⟩:=m t (by simp);refine wpAny_pyNext_list_item st p.isList (x:=u) (by simpa using Q) λh' f W=>?_
  have L:Inv X pins J H { s with heap:=h' }:=I.turned (t':=s.toks) (λb o n e=>(W.2 b n).trans e) r g j l y;obtain⟨o,e,c,d⟩:=id f;exact⟨u,rfl,Hw (s:={ s with heap:=h' }) e c d (by decide) ⟨x,H,L,V,⟨rfl,λys R=>by rw[I.list_inj R q];exact B⟩,f,λb n=>(m b n).1⟩⟩
 done:=by intro X F hw S G i pins s J H E I m st A;subst F hw S;obtain⟨xs,q,B⟩:=A;obtain⟨C,D,p,T⟩:=I.list q;obtain⟨r,g,N,j,l,y⟩:=m t (by simp);have Z:=D.length;exact wpAny_pyNext_list_end (I.o.hd G) st p.isList (by simp;lia) λh' M=>⟨rfl,I.turned (t':=s.toks) (λb o n e=>M b o n e) r g j l y⟩
 self:=λ_ _ _ _ _ st h=>wpAny_pyIter_listiter st h
theorem zK(a t:Addr):Turn P w K tg (Uz K a) [t] t (λi h=>h.IsTupleIter t a i) where
 mem:=by simp
 obj:=λi h st b n=>by
  have e:b=t:=by simpa using n
  subst e;obtain⟨o,e,c,d⟩:=st;exact⟨o,e,λv z=>by rw[d]at z;cases z⟩
 keep:=λi h h' st k=>st.at λo e=>k t (by simp) o e
 item:=by
  intro X A hw F G i pins s J H E I r st B;subst A hw F;obtain⟨xs,x,q,C⟩:=B;obtain⟨f,D,p,T⟩:=I.tuple q;obtain⟨u,Q,V⟩:=D.get C;obtain⟨g,j,N,l,y,S⟩:=r t (by simp);refine wpAny_pyNext_tuple_item st (show s.heap.IsTuple a f.toArray from p) (x:=u) (by simpa using Q) λh' m W=>?_
  have L:Inv X pins J H { s with heap:=h' }:=I.turned (t':=s.toks) (λb o n e=>(W.2 b n).trans e) g j l y S;obtain⟨o,e,c,d⟩:=id m;exact⟨u,rfl,Hw (s:={ s with heap:=h' }) e c d (by decide) ⟨x,H,L,V,⟨rfl,λys R=>by rw[I.tuple_inj R q];exact C⟩,m,λb n=>(r b n).1⟩⟩
 done:=by intro X A hw F G i pins s J H E I r st B;subst A hw F;obtain⟨xs,q,C⟩:=B;obtain⟨f,D,p,T⟩:=I.tuple q;obtain⟨g,j,N,l,y,S⟩:=r t (by simp);have Z:=D.length;exact wpAny_pyNext_tuple_end (I.o.hd G) st (show s.heap.IsTuple a f.toArray from p) (by simp;lia) λh' M=>⟨rfl,I.turned (t':=s.toks) (λb o n e=>M b o n e) g j l y S⟩
 self:=λ_ _ _ _ _ st h=>wpAny_pyIter_tupleiter st h
theorem zL(x:Addr)(lo:Int)(n:Nat):Turn P w K tg (RX lo n) [x] x (λi h=>IsRangeIter h x (lo+(i:Nat) * 1) ((n:Int)-(i:Nat)) 1) where
 mem:=by simp
 obj:=λi h st b a=>by
  have e:b=x:=by simpa using a
  subst e;exact⟨_,st,λv z=>by have C:Data.fields _=Data.cell v:=z;cases C⟩
 keep:=λi h h' st k=>k x (by simp) _ st
 item:=by
  intro X g hw u j i pins s J H E I c st l;subst g hw u;obtain⟨m,r,F,p,q,d⟩:=c x (by simp);have W:=Walks.range (prog:=X.p) (w:=X.w) (I.o.hd j) x lo 1 n;refine W.item i s _ _ l st λv h' tk A f B=>?_
  obtain⟨t,rfl⟩:=A;have y:Inv X pins J H { s with heap:=h',toks:=tk }:=I.turned (λb o a e=>B b o (by simpa using a) e) m r p q d;refine⟨_,rfl,Hw (s:={ s with heap:=h',toks:=tk }) (n:="range_iterator") f rfl rfl (by decide) ⟨.int (lo+i),H,y,⟨t,?_⟩,⟨rfl,rfl⟩,f,λb a=>(c b a).1⟩⟩;rw[Int.mul_one]
 done:=by intro X g hw u j i pins s J H E I c st l;subst g hw u;obtain⟨m,r,F,p,q,d⟩:=c x (by simp);exact wpAny_pyNext_range_end (I.o.hd j) st (by have:n≤i:=l;lia) λh' S=>⟨rfl,I.turned (t':=s.toks) (λb o a e=>S b o a e) m r p q d⟩
 self:=λ_ _ _ _ _ st h=>wpAny_pyIter_rangeiter st h
section
variable{X:Cx}{tg:Expr}
theorem Gh{lo hi:Int}{t u v:Tok}{tk:Nat}(I:Inv X pins J H s)(h1:-(2 ^ 62)≤lo)(h2:lo < 2 ^ 62)(n:-(2 ^ 62)≤hi)(k:hi < 2 ^ 62)
  (q:R (RX lo (hi-lo).toNat) H):wx X (pyIter (.ref s.heap.objs.size)) (RU X pins J tg R) E { s with heap:=s.heap.push { cls:=.type "range",data:=.fields #[.int lo t,.int hi u,.int 1 v] },toks:=tk }:=by
 refine wpAny_pyIter_range (IsRange.new ..) (wn h1 h2 n k) ?_;have h:Inv X pins J H { s with heap:=s.heap.push { cls:=.type "range",data:=.fields #[.int lo t,.int hi u,.int 1 v] },toks:=tk }:=I.kept fun b o e=>aW _ e;refine⟨(s.heap.push { cls:=.type "range",data:=.fields #[.int lo t,.int hi u,.int 1 v] }).objs.size,[(s.heap.push { cls:=.type "range",data:=.fields #[.int lo t,.int hi u,.int 1 v] }).objs.size],_,_,H,rfl,
  h.kept (t':=tk) λb o e=>aW _ e,zL _ lo (hi-lo).toNat,?_,λb f=>?_,q⟩
 .have x:lo+((0:Nat):Int) * 1=lo:=by simp
  have a:(((hi-lo).toNat:Nat):Int)-((0:Nat):Int)=qM lo hi 1:=by rw[Cj];split<;>lia
  show IsRangeIter _ _ (lo+((0:Nat):Int) * 1) ((((hi-lo).toNat:Nat):Int)-((0:Nat):Int)) 1;rw[x,a];exact bJ _ rfl
 .have e:b=(s.heap.push { cls:=.type "range",data:=.fields #[.int lo t,.int hi u,.int 1 v] }).objs.size:=by simpa using f
  subst e;exact h.fpOk (az _) (h.h.fresh (az _))
noncomputable def Qw(ta:TA):TI:=λJ H R=>ta J H λv G=>∃j:Int,v=[.int j]/\-(2 ^ 62)≤j/\j < 2 ^ 62/\R (RX 0 j.toNat) G
theorem D9{a:Expr}{ta:TA}{p B:Pos}(g:Gl X "range")(m:X.g "range"=Vk)(f:PA X [a] ta)(b:starEach [a] X.e=[(Vm,eval a X.e)]:=by rfl):PI X tg (.Call (.Name "range" p) [a] [] B) (Qw ta):=by
 intro pins s J H R I h;refine Call_ (nD I g m vp (nU (dO (f B pins s J H _ I h) λj w z=>?_) b rfl));obtain⟨u,G,k,v,n⟩:=z;obtain⟨x,e,n,c,q⟩:=n;subst e;cases v with
 |cons r d=>cases d;obtain⟨t,rfl⟩:=r;exact call_range_1 (Gh k (by lia) (by lia) n c (by simpa using q))
noncomputable def SE(w:TI)(g:TG)(tb:TS):TS:=λD J H=>w J H λh G=>∃W:Nat->Nat->St->Hp->Prop,(∃m,W 0 m J G)/\∀i m J H,W i m J H ->
 (h.stop i H/\D.nx J H)\/(h.go i H/\∃N:St->Hp->Prop,(∀a H',N a H'->∃e,e < m/\W (i+1) e a H')/\∀x H',h.yld i H x H'->g x J H' λs H2=>tb { D with nx:=N,ct:=N,bk:=D.nx } s H2)
noncomputable def pE(f:List Addr)(h:Heap):PN:=f.filterMap λb=>(h.get? b).map λo=>(b,o)
theorem lg(x:b ∈ q)(e:h.get? b=Y o):(b,o) ∈ pE q h:=mP.mpr ⟨b,x,by rw[e];rfl⟩
theorem Ea(s:p ∈ pE z h):p.1 ∈ z/\h.get? p.1=Y p.2:=by
 obtain⟨b,a,e⟩:=mP.mp s;cases q:h.get? b with
 |none=>rw[q]at e;cases e
 |some o=>rw[q]at e;have x:(b,o)=p:=b0 e;subst x;exact⟨a,q⟩
theorem Inv.pinned(I:Inv X pins J H s)(k:∀b ∈ q,xD X pins H b)(c:∀b ∈ q,∃o,s.heap.get? b=Y o/\∀v,o.data≠.cell v):Inv X (pins++pE q s.heap) J H s:=
 I.pins_of λp m=>(cR.mp m).elim (λz=>I.pin p (gu _ z)) λz=>by obtain⟨x,e⟩:=Ea z;obtain⟨f,a,n,_⟩:=k p.1 x;obtain⟨o,h,d⟩:=c p.1 x;rw[e]at h;cases h;exact⟨e,f,a,n,d⟩
theorem Inv.unpinned(I:Inv X (pins++q) J H s):Inv X pins J H s:=I.pins_of λp h=>I.pin p (gu _ (om _ h))
set_option tactic.hygienic true in
theorem MY{iter:Expr}{y:List Stmt}{wi:TI}{g:TG}{tb:TS}{B:Pos}(F:PassesOwn (model X.p X.w) X.A X.e X.xe)(hc:X.c=Vl)(hi:PI X tg iter wi)(hg:PG X tg g)(t:qF X y tb)
  (hs:∀x,foldedSetIterable iter X.e x=pure x:=by intro _;rfl):PS X (.For tg iter y [] B) (SE wi g tb):=by
 intro pins s J H D I h;refine wpAny_For (dO (hi pins s J H _ I h) λv s1 h1=>dO h1 λitv s2 h2=>?_) hs;obtain⟨it,l,tn,J9,H2,e,I2,T,Q,Z,W,⟨m0,w0⟩,A⟩:=h2;subst e;have p:∀{H':Hp},(∀b ∈ l,H' b=Vk)->∀b ∈ l,xD X pins H' b:=λhn b t=>⟨hn b t,(Z b t).2⟩
 refine codeAny_forLoop_any (λn s'=>∃i w H',Inv X pins w H' s'/\tn i s'.heap/\(∀b ∈ l,H' b=Vk)/\W i n w H') ?_ m0 ⟨0,J,H2,I2,Q,λb t=>(Z b t).1,w0⟩;rintro n s3 ⟨i,j,C,V,zX,S,w3⟩;rcases A i n j C w3 with ⟨P,qn⟩|⟨go,N,hN,step⟩
 .refine rV F (dO (T.done X rfl rfl rfl hc i pins s3 j C X.xe V (p S) zX P) λr s4 z=>?_);obtain⟨L,I4⟩:=z;subst L;exact zr ⟨j,C,I4,qn⟩
 .refine rV F (dO (T.item X rfl rfl rfl hc i pins s3 j C X.xe V (p S) zX go) λr s4 z=>?_);obtain⟨u,L,h4⟩:=z;subst L;refine rV F (dO h4 λ_ s5 z=>?_);obtain⟨x,R,I5,r5,y5,Ro,G⟩:=z;have E:=I5.pinned (p G) (T.obj _ _ Ro);refine rV F (dO (hg _ s5 j R x u _ E r5 (step x R y5)) λ_ s6 z=>?_);obtain⟨J6,H6,I6,q6⟩:=z;refine rV F (dO (t _ s6 J6 H6 _ I6 q6) λf M q=>?_);have again:∀{c:St}{a:Hp},Inv X (pins++pE l s5.heap) c a M->N c a->∃m,m < n/\∃i w H',Inv X pins w H' M/\tn i M.heap/\(∀b ∈ l,H' b=Vk)/\W i m w H':=λ{c a} k K=>by
   obtain⟨m',hm,w7⟩:=hN c a K;refine⟨m',hm,i+1,c,a,k.unpinned,T.keep _ _ _ Ro λb t o e=>(k.pin (b,o) (gu _ (gu _ (lg t e)))).1,λb t=>?_,w7⟩;obtain⟨o,e,d⟩:=T.obj _ _ Ro b t;exact(k.pin (b,o) (gu _ (gu _ (lg t e)))).2.1
  cases f with
  |next=>obtain⟨c,a,k,K⟩:=q;exact again k K
  |cont=>obtain⟨c,a,k,K⟩:=q;exact again k K
  |brk=>obtain⟨c,a,k,q⟩:=q;exact⟨c,a,k.unpinned,q⟩
  |ret v=>obtain⟨x7,c,a,k,r7,q⟩:=q;exact⟨x7,c,a,k.unpinned,r7,q⟩
end
noncomputable abbrev R2:=V->V->Hp->VK->Prop
def jZ(X:Cx)(f:Value->Value->Sem Value)(r:R2):Prop:=
 ∀(pins:PN)(s:Shared)(J:St)(H:Hp)(x y:V)(v u:Value)(Q:VK),Inv X pins J H s->RelV x v->RelV y u->r x y H Q ->
  wx X (f v u) (EP X pins J Q) X.xe s
def T1(X:Cx)(f:Value->Sem Value)(r:V->Hp->VK->Prop):Prop:=
 ∀(pins:PN)(s:Shared)(J:St)(H:Hp)(x:V)(v:Value)(Q:VK),Inv X pins J H s->RelV x v->r x H Q ->
  wx X (f v) (EP X pins J Q) X.xe s
def fZ(X:Cx)(f:Value)(r:List V->Hp->VK->Prop):Prop:=
 ∀(pins:PN)(s:Shared)(J:St)(H:Hp)(xs:List V)(j:LV)(Q:VK),Inv X pins J H s->bo xs j->r xs H Q ->
  wx X (call f j) (EP X pins J Q) X.xe s
def T2(X:Cx)(r:V->Hp->(Bool->Hp->Prop)->Prop):Prop:=
 ∀(pins:PN)(s:Shared)(J:St)(H:Hp)(x:V)(v:Value)(Q:Bool->Hp->Prop),Inv X pins J H s->RelV x v->r x H Q ->
  wx X (truthy v) (TP X pins J Q) X.xe s
noncomputable def Mp(r:R2)(ta tb:TE):TE:=λJ H Q=>ta J H λx G=>tb J G λy H2=>r x y H2 Q
noncomputable def UL(r:V->Hp->VK->Prop)(ta:TE):TE:=λJ H Q=>ta J H λx G=>r x G Q
noncomputable def rI(C:Int->Int->Prop)(g:Int->Int->V):R2:=λx y H Q=>∃i j,x=.int i/\y=.int j/\C i j/\Q (g i j) H
noncomputable def JP(g:Int->Int->V):R2:=λx y H Q=>∃i j,x=.int i/\y=.int j/\Q (g i j) H
def rU(g:Int->V):V->Hp->VK->Prop:=λx H Q=>∃i,x=.int i/\Q (g i) H
section
variable{X:Cx}{a b c:Expr}{ta tb tc:TE}{B:Pos}
theorem Oa(r:PE X a ta)(t:PE X b tb){pins:PN}{s:Shared}{J:St}{H:Hp}{R:V->V->Hp->Prop}(I:Inv X pins J H s)
  (h:ta J H λx G=>tb J G λy H2=>R x y H2) {Q:VP}{f:Value->Value->Sem Value}
  (p:∀v u k x y H2,Inv X pins J H2 k->RelV x v->RelV y u->R x y H2->wx X (f v u) Q X.xe k) :
  wx X (eval a X.e) (λv e=>wx X (eval b X.e) (λu n=>wx X (f v u) Q X.xe n) X.xe e) X.xe s:=by
 refine dO (r pins s J H _ I h) λv i z=>?_;obtain⟨x,G,c,w,q⟩:=z;refine dO (t pins i J G _ c q) λu k z=>?_;obtain⟨y,H2,m,g,d⟩:=z;exact p v u k x y H2 m w g d
theorem P6{o:Operator}{r:R2}(f:jZ X (binaryOp o) r)(n:PE X a ta)(k:PE X b tb):PE X (.BinOp a o b B) (Mp r ta tb):=by intro pins s J H Q I h;exact wpAny_BinOp (Oa n k I h λv u t x y H2 e c m q=>f pins t J H2 x y v u Q e c m q)
theorem P4(o:T1 X (unaryOp q) r)(n:PE X a ta):PE X (.UnaryOp q a B) (UL r ta):=by intro pins s J H Q I h;exact UnaryOp_ (dO (n pins s J H _ I h) λv b z=>by obtain⟨x,G,e,f,k⟩:=z;exact o pins b J G x v Q e f k)
theorem Rs{f:Value->Value->Sem Value}{C:Int->Int->Prop}{g:Int->Int->Int}
  (rule:∀(i j:Int)(t u:Tok)(s:Shared)(Q:VP)(E:VP),C i j->Q (.int (g i j) s.toks) { s with toks:=s.toks+1 }->wx X (f (.int i t) (.int j u)) Q E s) :
  jZ X f (rI C λi j=>.int (g i j)):=by
 intro pins s J H x y v u Q I r a h;obtain⟨i,j,rfl,rfl,c,q⟩:=h;obtain⟨t,rfl⟩:=r;obtain⟨e,rfl⟩:=a;exact rule i j t e s _ _ c ⟨.int (g i j),H,I.tok _,⟨_,rfl⟩,q⟩
theorem Qj{f:Value->Value->Sem Value}{g:Int->Int->Int}
  (rule:∀(i j:Int)(t u:Tok)(s:Shared)(Q:VP)(E:VP),Q (.int (g i j) s.toks) { s with toks:=s.toks+1 }->wx X (f (.int i t) (.int j u)) Q E s) :
  jZ X f (JP λi j=>.int (g i j)):=by
 intro pins s J H x y v u Q I r a h;obtain⟨i,j,rfl,rfl,q⟩:=h;obtain⟨t,rfl⟩:=r;obtain⟨e,rfl⟩:=a;exact rule i j t e s _ _ ⟨.int (g i j),H,I.tok _,⟨_,rfl⟩,q⟩
theorem Kh{f:Value->Value->Sem Value}{g:Int->Int->Bool}
  (rule:∀(i j:Int)(t u:Tok)(s:Shared)(Q:VP)(E:VP),Q (.bool (g i j)) s->wx X (f (.int i t) (.int j u)) Q E s) :
  jZ X f (JP λi j=>.bl (g i j)):=by
 intro pins s J H x y v u Q I r a h;obtain⟨i,j,rfl,rfl,q⟩:=h;obtain⟨t,rfl⟩:=r;obtain⟨e,rfl⟩:=a;exact rule i j t e s _ _ ⟨.bl (g i j),H,I,rfl,q⟩
def T7(i j:Int):Prop:=0≤j/\j≤1000000/\i.natAbs < 2 ^ 64
theorem Nj:jZ X (binaryOp .Add) (JP λi j=>.int (i+j)):=Qj λ_ _ _ _ _ _ _ q=>add_int q
theorem Nc:jZ X (binaryOp .Sub) (JP λi j=>.int (i-j)):=Qj λ_ _ _ _ _ _ _ q=>sub_int q
theorem Ng:jZ X (binaryOp .Mod) (rI (λ_ j=>0 < j) λi j=>.int (i % j)):=Rs λi j _ _ _ _ _ h q=>by have h1:(0:Int) < j:=h;exact mod_int' (by lia) (by rw[Int.fmod_eq_emod_of_nonneg i (by lia)];exact q)
theorem Nf:jZ X (binaryOp .Pow) (rI T7 λi j=>.int (i ^ j.toNat)):=Rs λ_ _ _ _ _ _ _ h q=>pow_int_small h.1 h.2.1 h.2.2 q
theorem UJ{f:Value->Sem Value}{g:Int->Int}
  (rule:∀(i:Int)(t:Tok)(s:Shared)(Q:VP)(E:VP),Q (.int (g i) s.toks) { s with toks:=s.toks+1 }->wx X (f (.int i t)) Q E s) :
  T1 X f (rU λi=>.int (g i)):=by
 intro pins s J H x v Q I r h;obtain⟨i,rfl,q⟩:=h;obtain⟨t,rfl⟩:=r;exact rule i t s _ _ ⟨.int (g i),H,I.tok _,⟨_,rfl⟩,q⟩
theorem Md:T1 X (unaryOp .USub) (rU λi=>.int (-i)):=UJ λ_ _ _ _ _ q=>neg_int q
end
noncomputable def PJ:V->V->Bool
 | .non,.non=>Vl | .non,.int _=>Vl | .int _,.non=>Vl | .non,.bl _=>Vl | .bl _,.non=>Vl | .non,.str _=>Vl | .str _,.non=>Vl
 | .int _,.int _=>Vl | .bl _,.bl _=>Vl | .str _,.str _=>Vl | .byt _,.byt _=>Vl
 | .int _,.str _=>Vl | .str _,.int _=>Vl | .bl _,.str _=>Vl | .str _,.bl _=>Vl
 |_,_=>Vm
def UT:R2:=λx y H Q=>PJ x y=Vl/\Q (.bl (decide (x=y))) H
def US:R2:=λx y H Q=>PJ x y=Vl/\Q (.bl (!decide (x=y))) H
theorem DH{i j:Int}:decide (V.int i=V.int j)=(i == j):=by rw[k5];simp
theorem HL:decide (V.bl i=V.bl q)=(i == q):=by rw[k5];simp
theorem DG:decide (V.str i=V.str q)=(i == q):=by rw[k5];simp
theorem DI:decide (V.byt i=V.byt q)=(i.toList == q.toList):=by rw[k5];cases i;cases q;simp
section
variable{X:Cx}{a b c:Expr}{ta tb tc:TE}{B:Pos}
theorem bS(I:Inv X pins J H s)(q:Q (.bl k) H)(e:k=z):EP X pins J Q (.bool z) s:=by subst e;exact⟨.bl k,H,I,rfl,q⟩
theorem GL:jZ X (compareOp .Eq) UT:=by
 intro pins s J H x y v u Q I n r h;obtain⟨e,q⟩:=h;cases x with
 |non=>
  cases n;cases y with
  |non=>cases r;exact IQ (bS I q (by simp))
  |bl j=>cases r;exact IN (bS I q (by simp))
  |int j=>obtain⟨a,rfl⟩:=r;exact IP (bS I q (by simp))
  |str j=>obtain⟨a,rfl⟩:=r;exact IR (bS I q (by simp))
  |_=>exact absurd (show Vm=Vl from e) bU
 |bl i=>
  cases n;cases y with
  |non=>cases r;exact IL (bS I q (by simp))
  |bl j=>cases r;exact eq_bool (bS I q HL)
  |str j=>obtain⟨a,rfl⟩:=r;exact ID (bS I q (by simp))
  |_=>exact absurd (show Vm=Vl from e) bU
 |int i=>
  obtain⟨t,rfl⟩:=n;cases y with
  |non=>cases r;exact IM (bS I q (by simp))
  |int j=>obtain⟨a,rfl⟩:=r;exact eq_int (bS I q DH)
  |str j=>obtain⟨a,rfl⟩:=r;exact IE (bS I q (by simp))
  |_=>exact absurd (show Vm=Vl from e) bU
 |str i=>
  obtain⟨t,rfl⟩:=n;cases y with
  |non=>cases r;exact IS (bS I q (by simp))
  |bl j=>cases r;exact IF (bS I q (by simp))
  |int j=>obtain⟨a,rfl⟩:=r;exact IG (bS I q (by simp))
  |str j=>obtain⟨a,rfl⟩:=r;exact eq_str (bS I q DG)
  |_=>exact absurd (show Vm=Vl from e) bU
 |byt i=>
  obtain⟨t,rfl⟩:=n;cases y with
  |byt j=>obtain⟨a,rfl⟩:=r;exact PySem.W.eq_bytes (bS I q DI)
  |_=>exact absurd (show Vm=Vl from e) bU
 |_=>cases y<;>exact absurd (show Vm=Vl from e) bU
theorem GJ:jZ X (compareOp .NotEq) US:=by
 intro pins s J H x y v u Q I n r h;obtain⟨e,q⟩:=h;cases x with
 |non=>
  cases n;cases y with
  |non=>cases r;exact IX (bS I q (by simp))
  |bl j=>cases r;exact IV (bS I q (by simp))
  |int j=>obtain⟨a,rfl⟩:=r;exact IW (bS I q (by simp))
  |str j=>obtain⟨a,rfl⟩:=r;exact IY (bS I q (by simp))
  |_=>exact absurd (show Vm=Vl from e) bU
 |bl i=>
  cases n;cases y with
  |non=>cases r;exact IT (bS I q (by simp))
  |bl j=>cases r;exact ne_bool (bS I q (cE not HL))
  |str j=>obtain⟨a,rfl⟩:=r;exact IH (bS I q (by simp))
  |_=>exact absurd (show Vm=Vl from e) bU
 |int i=>
  obtain⟨t,rfl⟩:=n;cases y with
  |non=>cases r;exact IU (bS I q (by simp))
  |int j=>obtain⟨a,rfl⟩:=r;exact ne_int (bS I q (cE not DH))
  |str j=>obtain⟨a,rfl⟩:=r;exact II (bS I q (by simp))
  |_=>exact absurd (show Vm=Vl from e) bU
 |str i=>
  obtain⟨t,rfl⟩:=n;cases y with
  |non=>cases r;exact IZ (bS I q (by simp))
  |bl j=>cases r;exact IJ (bS I q (by simp))
  |int j=>obtain⟨a,rfl⟩:=r;exact IK (bS I q (by simp))
  |str j=>obtain⟨a,rfl⟩:=r;exact ne_str (bS I q (cE not DG))
  |_=>exact absurd (show Vm=Vl from e) bU
 |byt i=>
  obtain⟨t,rfl⟩:=n;cases y with
  |byt j=>obtain⟨a,rfl⟩:=r;exact PySem.W.ne_bytes (bS I q (cE not DI))
  |_=>exact absurd (show Vm=Vl from e) bU
 |_=>cases y<;>exact absurd (show Vm=Vl from e) bU
theorem P9:jZ X (compareOp .Lt) (JP λi j=>.bl (decide (i < j))):=Kh λ_ _ _ _ _ _ _ q=>Br q
theorem P_:jZ X (compareOp .LtE) (JP λi j=>.bl (decide (i≤j))):=Kh λ_ _ _ _ _ _ _ q=>le_int q
theorem P':jZ X (compareOp .Gt) (JP λi j=>.bl (decide (j < i))):=Kh λ_ _ _ _ _ _ _ q=>gt_int q
theorem Qa:jZ X (compareOp .GtE) (JP λi j=>.bl (decide (j≤i))):=Kh λ_ _ _ _ _ _ _ q=>ge_int q
theorem Nh:jZ X (compareOp .Is) (λx y H Q=>y=.non/\Q (.bl (decide (x=.non))) H):=by
 intro pins s J H x y v u Q I r a h;obtain⟨rfl,q⟩:=h;cases a;refine is_none_gen (bS I q ?_);cases x<;>first
  |(cases r;rfl)
  |(obtain⟨t,rfl⟩:=r;rfl)
theorem Kc:jZ X (compareOp .IsNot) (λx y H Q=>y=.non/\Q (.bl (!decide (x=.non))) H):=by
 intro pins s J H x y v u Q I r a h;obtain⟨rfl,q⟩:=h;cases a;refine isnot_none_gen (bS I q ?_);cases x<;>first
  |(cases r;rfl)
  |(obtain⟨t,rfl⟩:=r;rfl)
theorem C7{o:CmpOp}{r:R2}(f:jZ X (compareOp o) r)(n:PE X a ta)(k:PE X b tb)(m:behindInMarks o b=Vm):PE X (.Compare a [o] [b] B) (Mp r ta tb):=by intro pins s J H Q I h;exact wpAny_Compare1 (Oa n k I h λv u p x y H2 e c t q=>f pins p J H2 x y v u Q e c t q) m
noncomputable def FP(t:TE):TT:=λJ H Q=>t J H λx H'=>∃k,x=.bl k/\Q k H'
theorem C3(o:jZ X (compareOp q) r)(p:PE X a ta)(d:PE X b tb)(w:behindInMarks q b=Vm):PT X (.Compare a [q] [b] B) (FP (Mp r ta tb)):=by
 intro pins s J H Q I h;refine wpAny_isTrue_Compare1 (dO (p pins s J H _ I h) fun v K ⟨x,G,f,l,g⟩=>dO (d pins K J G _ f g) fun u P ⟨y,H2,m,S,i⟩=>
  dO (o pins P J H2 x y v u _ m l S i) λc A ⟨z,n,t,F,k,e,j⟩=>?_) w
 subst e;cases F;exact lR ⟨n,t,j⟩
noncomputable def zS(r e:R2)(ta tb tc:TE):TE:=λJ H Q=>ta J H λx G=>tb J G λy H2=>r x y H2 λz h=>∃k,z=.bl k /\
 (if k=Vl then tc J h λw a=>e y w a Q else Q (.bl Vm) h)
theorem GG(K:jZ X (compareOp N) r)(o:jZ X (compareOp q) r')(j:PE X a ta)(l:PE X b tb)(S:PE X c tc)
  (F:lastMarks [N,q] [b,c]=Vm:=by with_unfolding_all rfl):PE X (.Compare a [N,q] [b,c] B) (zS r r' ta tb tc):=by
 intro pins s J H Q I h;refine Compare_chain (dO (j pins s J H _ I h) fun v M ⟨x,G,w,D,P⟩=>chain_link (dO (l pins M J G _ w P) fun u R ⟨y,H2,g,t,A⟩=>
  dO (K pins R J H2 x y v u _ g D t A) λd T ⟨z,n,f,E,k,e,m⟩=>?_)) F
 subst e;cases E;refine lR ?_;cases k with
 |false=>exact ite_ff ⟨.bl Vm,n,f,rfl,m⟩
 |true=>exact ite_tt (chain_last (dO (S pins T J n _ f m) λW V ⟨Z,p,i,L,C⟩=>o pins V J p y Z u W Q i t L C))
theorem Gm(D:jZ X (compareOp N) r)(o:jZ X (compareOp q) r')(K:PE X a ta)(P:PE X b tb)(A:PE X c tc)
  (C:lastMarks [N,q] [b,c]=Vm:=by with_unfolding_all rfl):PT X (.Compare a [N,q] [b,c] B) (FP (zS r r' ta tb tc)):=by
 intro pins s J H Q I h;refine isTrue_chain (dO (K pins s J H _ I h) fun v s1 ⟨x,G,g,W,M⟩=>test_link (dO (P pins s1 J G _ g M) fun u s2 ⟨y,H2,i,t,R⟩=>
  dO (D pins s2 J H2 x y v u _ i W t R) λd s3 ⟨z,n,f,Z,k,e,m⟩=>?_)) C
 subst e;cases Z;refine lR ?_;cases k with
 |false=>obtain⟨k',S,L⟩:=m;cases S;exact ite_ff ⟨n,f,L⟩
 |true=>refine ite_tt (test_last (dO (A pins s3 J n _ f m) λw' s4 ⟨z',p,j,r4,T⟩=>dO (o pins s4 J p y z' u w' _ j t r4 T) λd' s5 E=>?_));obtain⟨z2,w,l,r5,k2,F,V⟩:=E;subst F;cases r5;exact lR ⟨w,l,V⟩
def Oh(K:FG)(x:V)(H:Hp)(k:Bool):Prop:=
 match x with
 | .non=>k=Vm
 | .bl b=>k=b
 | .int i=>k=(i != 0)
 | .str y=>y.length≤sizeLine/\k=((y.length:Int) != 0)
 | .byt y=>y.size≤sizeLine/\k=((y.size:Int) != 0)
 | .ref p=>(∃xs,lB K H p xs/\k=!xs.isEmpty)\/(∃xs,nu K H p xs/\k=!xs.isEmpty)\/∃kvs,H p=Y (.dK kvs)/\k=!kvs.isEmpty
 |_=>False
theorem AA(r:KV kvs q):(!q.isEmpty)=!kvs.isEmpty:=by cases r<;>rfl
theorem sT(r:bo xs q):(!q.toArray.isEmpty)=!xs.isEmpty:=by cases r<;>simp
theorem l8:(sizeLine:Nat) < 2 ^ 63:=by rw[kO];decide
theorem Mf:T2 X (λx H Q=>∃k,Oh X.K x H k/\Q k H):=by
 intro pins s J H x v Q I rx h;obtain⟨k,e,q⟩:=h;have hl:=l8;have hs:sizeLine=16777216:=kO;cases x with
 |non=>cases rx;have e':k=Vm:=e;subst e';exact truthy_none ⟨H,I,q⟩
 |bl b=>cases rx;have e':k=b:=e;subst e';exact lR ⟨H,I,q⟩
 |int i=>obtain⟨t,rfl⟩:=rx;have e':k=(i != 0):=e;subst e';exact PySem.P.truthy_int ⟨H,I,q⟩
 |str y=>obtain⟨t,rfl⟩:=rx;obtain⟨hy,e'⟩:y.length≤sizeLine/\k=((y.length:Int) != 0):=e;subst e';exact PySem.P.truthy_str (by lia) ⟨H,I.tok _,q⟩
 |byt y=>obtain⟨t,rfl⟩:=rx;obtain⟨hy,e'⟩:y.size≤sizeLine/\k=((y.size:Int) != 0):=e;subst e';exact PySem.W.truthy_bytes (by lia) ⟨H,I.tok _,q⟩
 |ref p=>
  cases rx;have e':(∃xs,lB X.K H p xs/\k=!xs.isEmpty)\/(∃xs,nu X.K H p xs/\k=!xs.isEmpty)\/∃kvs,H p=Y (.dK kvs)/\k=!kvs.isEmpty:=e;rcases e' with ⟨xs,hx,e'⟩|⟨xs,hx,e'⟩|⟨kvs,hx,e'⟩
  .subst e';obtain⟨its,r,pl,hz⟩:=I.list hx;have hlen:=r.length;exact wpAny_truthy_list pl.isList (by simp only[bv];lia) ⟨H,I.tok _,by rw[sT r];exact q⟩
  .subst e';obtain⟨its,r,pl,hz⟩:=I.tuple hx;have hlen:=r.length;exact truthy_tuple pl (by simp only[bv];lia) ⟨H,I.tok _,by rw[sT r];exact q⟩
  .subst e';obtain⟨hz,hS,vs,r,m⟩:kvs.length≤sizeLine/\(p == sysModules)=Vm/\∃vs,KV kvs vs/\s.heap.DictOf (cH X.p X.w) p vs:=I.h p _ hx;have hlen:kvs.length=vs.length:=Paired.length r;exact wpAny_truthy_dict hS m (by lia) ⟨H,I.tok _,by rw[AA r];exact q⟩
 |_=>exact(show False from e).elim
theorem Gk(n:PE X a ta)(f:∀w,isTrue a X.e w=(do let v <- w;standAt a.pos;holding [v] (truthy v))) :
  PT X a (λJ H Q=>ta J H λx H'=>∃k,Oh X.K x H' k/\Q k H'):=by
 intro pins s J H Q I h;exact isTrue_plain (dO (n pins s J H _ I h) λv b z=>by obtain⟨x,G,e,r,q⟩:=z;exact Mf pins b J G x v Q e r q) (f _)
theorem Am:jZ X (binaryOp .Add) (λx y H Q=>∃i j,x=.str i/\y=.str j/\i.length+j.length≤sizeLine/\Q (.str (i++j)) H):=by intro pins s J H x y v u Q I r a h;obtain⟨i,j,rfl,rfl,z,q⟩:=h;obtain⟨t,rfl⟩:=r;obtain⟨e,rfl⟩:=a;exact add_str (λe tk=>⟨.str (i++j),H,I.tok _,⟨_,rfl⟩,q⟩) z
theorem vals1(r:bo [x] j):∃u,j=[u]/\RelV x u:=by
 cases r with
 |cons h a=>cases a;exact⟨_,rfl,h⟩
theorem vals2(r:bo [x,y] j):∃u w,j=[u,w]/\RelV x u/\RelV y w:=by
 cases r with
 |cons h a=>
  cases a with
  |cons e s=>cases s;exact⟨_,_,rfl,h,e⟩
theorem HV:fZ X (.builtin "abs") (λxs H Q=>∃i,xs=[.int i]/\Q (.int (if i < 0 then -i else i)) H):=by intro pins s J H xs j Q I r h;obtain⟨i,rfl,q⟩:=h;obtain⟨u,rfl,t,rfl⟩:=vals1 r;exact call_abs_int λu tk=>⟨.int (if i < 0 then -i else i),H,I.tok _,⟨_,rfl⟩,q⟩
theorem u3:fZ X (.type "int") (λxs H Q=>(∃i,xs=[.int i]/\Q (.int i) H)\/∃k,xs=[.bl k]/\Q (.int (if k then 1 else 0)) H):=by
 intro pins s J H xs j Q I r h;rcases h with ⟨i,rfl,q⟩|⟨k,rfl,q⟩
 .obtain⟨u,rfl,t,rfl⟩:=vals1 r;exact call_int_int ⟨.int i,H,I,⟨_,rfl⟩,q⟩
 .obtain⟨u,rfl,x⟩:=vals1 r;cases x;exact call_int_bool ⟨.int (if k then 1 else 0),H,I.tok _,⟨_,rfl⟩,q⟩
end
structure ObjM(h:Heap)(x dx C:Addr)(mA:SV):Prop where
 obj:h.get? x=Y (lS C dx)
 ns:h.Ns1 dx mA
 ne:dx≠x
set_option tactic.hygienic true in
theorem Ed(n:h.Ns1 dx mA):∃d,h.get? dx=Y d/\∀name,v0 name d=Y (mA name):=by
 obtain⟨o,es,p,s,hd,hk,_,m⟩:=n;refine⟨o,s,λname=>?_⟩;have e:=m name;unfold nsFind findBy at e;rw[<- Array.find?_toList]at e;unfold v0;rw[hd];dsimp only;split
 .rename_i y q;rw[q]at e;exact cE Y e
 .rename_i q;rw[q]at e;have a:es.toList.any (·.refKey)=Vm:=by
   rw[BX];intro y f;obtain⟨z,t,k⟩:=hk y (Array.mem_toList_iff.mp f);simp[DictEntry.refKey,k]
  have x:¬es.toList.any (·.refKey)=Vl:=by rw[a];exact bU
  rw[ae x];exact cE Y e
variable{C:Addr}
theorem ObjM.look(I:ObjM h x dx C mA):∃o,PySem.W.InstAt h x (lS C dx) C (Y o)/\∀name,v0 name o=Y (mA name):=
 let ⟨o,a,l⟩:=Ed I.ns
 ⟨o,⟨I.obj,rfl,rfl,a⟩,l⟩
section
variable{prog:Program}{w:World}{A:Around}{E:VP}{s:Shared}{K:FG}{x dx C f:Addr}{mA:SV}{name:Str}{v:Value}
theorem KE(X:K.In s.heap)(I:ObjM s.heap x dx C mA)(g:sf K C name=Vl)(k:wg K C=Vl)
  (n:dt K (.ref C) name=Y Vk) (f:mA name=Y v) (a:Fc v=Vl) (h:Q v { s with toks:=s.toks+1 }) :
  wpAny (model prog w) A (getAttr (.ref x) name q) Q E s:=by
 obtain⟨o,e,l⟩:=I.look;exact PySem.W.get_value X e (zG g).1 (PySem.W.findObj_own k n rfl (by rw[l,f])) a h
theorem Hx(X:K.In s.heap)(I:ObjM s.heap x dx C mA)(g:sf K C name=Vl)
  (e:dt K (.ref C) name=Y (Y (.ref f))) (t:vK K (.ref f)=Vl) (v:mA name=Vk) (h:Q (.ref f,[.ref x]) s) :
  wpAny (model prog w) A (getMethod (.ref x) name q) Q E s:=by
 obtain⟨o,a,l⟩:=I.look;exact PySem.W.method_fn X a (zG g).1 (zG g).2 e (n_.mp t) (by show(v0 name o).map (·.isSome)=Y Vm;rw[l,v];rfl) h
theorem JF(X:K.In s.heap)(I:ObjM s.heap x dx C mA)
  (u:dt K (.ref C) "__setattr__"=Y (Y (.builtin "object.__setattr__"))) (q:zE K C=Vl) (g:zC K C name=Y Vk) (t:wg K C=Vl)
  (hw:zq mA N) (z:N.length≤sizeLine)
  (h:∀h',ObjM h' x dx C (λy=>if y=name then Y v else mA y)->gm dx s.heap h'->Q () { s with heap:=h',toks:=s.toks+2 }) :
  wpAny (model prog w) A (setAttr (.ref x) name v) Q E s:=by
 obtain⟨S,k,l⟩:=I.look;refine PySem.W.set_plain X k u (PySem.W.osa_open (s:={ s with toks:=s.toks+1 }) (r:=Vk) X k q g λb=>?_);obtain⟨j,m,d⟩:=PySem.W.any_some t;have i:s.heap.get? x=Y ⟨.ref C,Y dx,.plain,#[]⟩:=I.obj;refine af (aq (af (af (wpAny_loadPart i (af (PySem.W.Looks.here (s:={ s with toks:=s.toks+1 }) (PySem.W.looks_clsIn X m) ?_))))));rw[d];refine aq (a:=Y dx) (af (aq (af ?_)));refine wpAny_nsSet1 (s:={ s with toks:=s.toks+1 }) I.ns λh' n e=>?_;obtain⟨H,f,p,o,D,c⟩:=n.count (PySem.Within.cons name v hw);refine af (wpAny_lookBehind o (by rw[D];exact pastItsLine_dict (bf c (by rw[aS];lia))) ?_);exact aq (h _ ⟨(e.2 _ (aZ I.ne)).trans I.obj,n,I.ne⟩ e)
theorem GZ(X:K.In s.heap)(m:zB K C=Vl)
  (hi:dt K (.ref C) "__init__"=Y (Y (.ref f))) (x:PySem.W.typeIn K (.ref f)=Y (.type "function"))
  (h:codeAny (model prog w) (A.under (.builtin "type.__call__" ⟨.ref C::q,kw⟩)) (.call (.ref f) ⟨.ref (s.heap.objs.size+1)::q,kw⟩) (PySem.W.InitBack (s.heap.objs.size+1) R)
   { s with heap:=(s.heap.push k7).push (lS C s.heap.objs.size) }) :
  codeAny (model prog w) A (.call (.ref C) ⟨q,kw⟩) R s:=by
 obtain⟨a,g,d,t,os⟩:=s;exact PySem.W.make_core (PySem.W.makes_of X m) (PySem.W.looks_findIn X hi) (λe=>PySem.W.bind_fn X e x) (.inl rfl) h
end
noncomputable def j5(f:Str)(v:V):List (Str×V)->List (Str×V)
 | []=>[(f,v)]
 |(g,x)::r=>if g=f then (g,v)::r else (g,x)::j5 f v r
theorem p6(f g:Str)(v:V):∀fs:List (Str×V),(j5 f v fs).lookup g=if g=f then Y v else fs.lookup g
 | []=>by
  show gU g [(f,v)]=_;by_cases h:g=f
  .have b:(g == f)=Vl:=n_.mpr h;simp only[gU,b,ac h]
  .have b:(g == f)=Vm:=jL.mpr h;simp only[gU,b,ae h]
 |(k,x)::r=>by
  have i:=p6 f g v r;rw[show j5 f v ((k,x)::r)=(if k=f then (k,v)::r else (k,x)::j5 f v r) from rfl];by_cases hk:k=f
  .rw [ac hk];by_cases h:g=k
   .have b:(g == k)=Vl:=n_.mpr h;simp only[gU,b,ac (h.trans hk)]
   .have b:(g == k)=Vm:=jL.mpr h;simp only[gU,b,ae (λe:g=f=>h (e.trans hk.symm))]
  .rw [ae hk];by_cases h:g=k
   .have b:(g == k)=Vl:=n_.mpr h;simp only[gU,b,ae (λe:g=f=>hk (h.symm.trans e))]
   .have b:(g == k)=Vm:=jL.mpr h;simp only[gU,b];exact i
theorem pI(f:Str)(v:V):∀fs:List (Str×V),f ∈ (j5 f v fs).map (·.1)/\∀g,g ∈ fs.map (·.1)->g ∈ (j5 f v fs).map (·.1)
 | []=>⟨by simp[j5],λg h=>by simp at h⟩
 |(k,x)::r=>by
  obtain⟨i,a⟩:=pI f v r;rw[show j5 f v ((k,x)::r)=(if k=f then (k,v)::r else (k,x)::j5 f v r) from rfl];by_cases hk:k=f
  .rw [ac hk];subst hk;exact⟨by simp,λg h=>by simpa using h⟩
  .rw [ae hk];refine⟨?_,λg h=>?_⟩
   .rw [aC];exact aL _ i
   .rw [aC]at h ⊢;rcases bc.mp h with e|e
    .exact bc.mpr (.inl e)
    .exact aL _ (a g e)
theorem p7(f:Str)(v:V):∀fs:List (Str×V),(j5 f v fs).length≤fs.length+1
 | []=>by simp[j5]
 |(k,x)::r=>by
  have i:=p7 f v r;rw[show j5 f v ((k,x)::r)=(if k=f then (k,v)::r else (k,x)::j5 f v r) from rfl];by_cases hk:k=f
  .rw [ac hk,aS,aS];lia
  .rw [ae hk,aS,aS];lia
theorem lN.some_of{v:V}{o:OV}(r:lN (Y v) o):∃u,o=Y u/\RelV v u:=by
 cases o with
 |none=>exact(show False from r).elim
 |some u=>exact⟨u,rfl,r⟩
theorem lN.none_of{o:OV}(r:lN Vk o):o=Vk:=by
 cases o with
 |none=>rfl
 |some u=>exact(show False from r).elim
variable{v:V}
theorem En(r:RelV v u):Fc u=Vl:=by
 cases v with
 |non=>cases (show u=Value.none from r);rfl
 |bl b=>cases (show u=Value.bool b from r);rfl
 |int i=>obtain⟨t,e⟩:=(show ∃t,u=Value.int i t from r);cases e;rfl
 |str x=>obtain⟨t,e⟩:=(show ∃t,u=Value.str x t from r);cases e;rfl
 |byt b=>obtain⟨t,e⟩:=(show ∃t,u=Value.bytes b t from r);cases e;rfl
 |flt b=>obtain⟨t,e⟩:=(show ∃t,u=Value.float b t from r);cases e;rfl
 |ref a=>cases (show u=Value.ref a from r);rfl
 |ty n=>cases (show u=Value.type n from r);rfl
section
variable{P:Program}{w:World}{H H':Hp}{h h':Heap}{a C dx:Addr}{fs fs':List (Str×V)}
theorem wZ(o:mY P w H h)(e:H a=Y (.ins C dx fs)):∃mA,ObjM h a dx C mA/\(∀f,lN (fs.lookup f) (mA f))/\zq mA (fs.map (·.1))/\fs.length≤1000/\H dx=Y (.own a):=by obtain⟨d,z,x,b,mA,n,r,q⟩:=(show dj P w H h a (.ins C dx fs) from o a _ e);exact⟨mA,⟨b,n,x⟩,r,q,z,d⟩
end
structure Cls(K:FG)(C:Addr):Prop where
 pg:sf K C Str.empty=Vl
 hd:wg K C=Vl
 po:zE K C=Vl
 sa:dt K (.ref C) "__setattr__"=Y (Y (.builtin "object.__setattr__"))
theorem Cls.get(c:Cls K C)(f:Str):sf K C f=Vl:=c.pg
def nO(K:FG)(C:Addr)(f:Str):Prop:=dt K (.ref C) f=Y Vk
theorem nO.taker(n:nO K C f):zC K C f=Y Vk:=by unfold zC;rw[show dt K (.ref C) f=Y Vk from n];rfl
structure Con(K:FG)(C:Addr)(f:Str)(v:V)(u:Value):Prop where
 at_:dt K (.ref C) f=Y (Y u)
 rel:RelV v u
 get:Fd K u "__get__"=Y Vk
 cp:PySem.W.copiedNames.contains f=Vm
structure Meth(K:FG)(C:Addr)(m:Str)(f:Addr):Prop where
 at_:dt K (.ref C) m=Y (Y (.ref f))
 fn:vK K (.ref f)=Vl
 kp:iN K (.ref f)=Vl
section
variable{X:Cx}{pins:PN}{J:St}{H:Hp}{s:Shared}{a C dx:Addr}{fs:List (Str×V)}{f:Str}{v:V}{A:Around}{E:VP}
theorem AI{b:Bool}{Q:VP}(I:Inv X pins J H s)(e:H a=Y (.ins C dx fs))(c:Cls X.K C)(n:nO X.K C f)(l:fs.lookup f=Y v)
  (h:∀u s',Inv X pins J H s'->RelV v u->Q u s'):wpAny (model X.p X.w) A (getAttr (.ref a) f b) Q E s:=by
 obtain⟨mA,k,r,_,_,_⟩:=wZ I.h e;obtain⟨u,m,x⟩:=lN.some_of (v:=v) (o:=mA f) (by rw[<- l];exact r f);exact KE I.kIn k (c.get f) c.hd n m (En x) (h u _ (I.tok _) x)
theorem sY{m:Str}{g:Addr}{p:Sem Bool}{Q:Value×LV->Shared->Prop}(I:Inv X pins J H s)(e:H a=Y (.ins C dx fs))(c:Cls X.K C)(k:Meth X.K C m g)(l:fs.lookup m=Vk)
  (h:Q (.ref g,[.ref a]) s):wpAny (model X.p X.w) A (getMethod (.ref a) m p) Q E s:=by
 obtain⟨mA,x,r,_,_,_⟩:=wZ I.h e;have n:mA m=Vk:=lN.none_of (by rw[<- l];exact r m);exact Hx I.kIn x (c.get m) k.at_ k.fn n h
theorem z0(I:Inv X pins J H s)(e:H a=Y (.ins C dx fs))(c:Cls X.K C)(n:nO X.K C f)(hl:fs.length < 1000)(ry:RelV y u)
  (h:∀s',Inv X pins J (cG H a (.ins C dx (j5 f y fs))) s'->Q () s'):wpAny (model X.p X.w) A (setAttr (.ref a) f u) Q E s:=by
 obtain⟨mA,O9,r,wi,_,ho⟩:=wZ I.h e;have hz:(fs.map (·.1)).length≤sizeLine:=by rw[aH,kO];lia
 refine JF I.kIn O9 c.sa c.po n.taker c.hd wi hz λh' O' sb=>h _ ?_;have hd:∃o,h'.get? dx=Y o:=let ⟨o,_,_,e',_⟩:=O'.ns;⟨o,e'⟩
 refine I.write (x:=a) (e:=dx) (by rw[e];exact True.intro) (.inr ho) (λb q hb z=>(sb.2 b hb).trans z) hd ?_;refine⟨by rw[aJ O9.ne];exact ho,?_,O9.ne,O'.obj,_,O'.ns,λg=>?_,λg hg=>?_⟩
 .have:=p7 f y fs;lia
 .show lN ((j5 f y fs).lookup g) (if g=f then Y u else mA g);rw[p6];by_cases q:g=f
  .rw [ac q,ac q];exact ry
  .rw [ae q,ae q];exact r g
 .by_cases q:g=f
  .rw [q];exact(pI f y fs).1
  .refine (pI f y fs).2 g (wi g λz=>hg ?_);show(if g=f then Y u else mA g)=Vk;rw[ae q];exact z
theorem Inv.made(I:Inv X pins J H s):Inv X pins J (cG (cG H s.heap.objs.size (.own (s.heap.objs.size+1))) (s.heap.objs.size+1) (.ins C s.heap.objs.size []))
  { s with heap:=(s.heap.push k7).push (lS C s.heap.objs.size) }:=by
 have h:(s.heap.push k7).get? s.heap.objs.size=Y k7:=bJ s.heap rfl;have k:((s.heap.push k7).push (lS C s.heap.objs.size)).get? (s.heap.objs.size+1)=Y (lS C s.heap.objs.size):=by have:=bJ (s.heap.push k7) (o:=lS C s.heap.objs.size) rfl;rwa [nY]at this
 have f:(s.heap.push k7).Ns s.heap.objs.size (λ_=>Vk):=⟨k7,#[],_,h,rfl,(λe c=>absurd c (by simp)),λ_=>rfl⟩;have x:=I.laid (a:=s.heap.objs.size) (o:=.own (s.heap.objs.size+1)) (h':=s.heap.push k7) (t':=s.toks) (λb u q=>aW _ q) (az _) ⟨_,h⟩;refine x.laid (a:=s.heap.objs.size+1) (o:=.ins C s.heap.objs.size []) (t':=s.toks) (λb u q=>aW _ q) (vu (nY _ _)) ?_;have n:s.heap.objs.size≠s.heap.objs.size+1:=bG (nX _);refine⟨by rw[aJ n,aV],cO _,n,k,λ_=>Vk,(Heap.Ns1.of_empty f).at λo q=>aW _ q,λ_=>True.intro,λy m=>absurd rfl m⟩
theorem K5(b:attributeBase e f q (eval e q)=eval e q)
  (h:wpAny (model prog w) A (eval e q) (λo x=>wpAny (model prog w) A (getAttr o f Vl) Q E x) E s):wpAny (model prog w) A (eval (.Attribute e f B) q) Q E s:=
 Attribute_any_ h (by rw[arm_eval_Attribute,b])
end
def SF(K:FG)(ta:TE)(f:Str):TE:=λJ H Q=>ta J H λx G=>∃a C dx fs v,x=.ref a/\G a=Y (.ins C dx fs)/\Cls K C/\nO K C f/\fs.lookup f=Y v/\Q v G
def SX(K:FG)(ta tv:TE)(f:Str):TS:=λD J H=>tv J H λy G=>ta J G λx H2=>∃a C dx fs,x=.ref a/\H2 a=Y (.ins C dx fs)/\Cls K C/\nO K C f/\fs.length < 1000 /\
 D.nx J (cG H2 a (.ins C dx (j5 f y fs)))
section
variable{X:Cx}{o e value:Expr}{f:Str}{B pos' tpos:Pos}{ta tv:TE}
theorem Na(t:PE X e ta)(r:attributeBase e f X.e (eval e X.e)=eval e X.e):PE X (.Attribute e f B) (SF X.K ta f):=by intro pins s J H Q I h;refine K5 r (dO (t pins s J H _ I h) λu w z=>?_);obtain⟨x,G,k,d,a,C,dx,fs,v,ex,m,c,n,l,q⟩:=z;subst ex;obtain rfl:u=Value.ref a:=d;exact AI k m c n l λi g b p=>⟨v,G,b,p,q⟩
theorem MZ(r:PE X o ta)(v:PE X value tv)(t:swapsWith value (Y (.Attribute o f pos')) B.line X.e=pure Vm):PS X (.Assign [.Attribute o f pos'] value B) (SX X.K ta tv f):=by intro pins s J H D I h;refine plainObj_wpAny_Assign_Attribute (dO (v pins s J H _ I h) λu i ⟨y,G,e,g,q⟩=>dO (r pins i J G _ e q) λp j z=>?_) t;obtain⟨x,H2,k,w,a,C,dx,fs,ex,m,c,n,l,d⟩:=z;subst ex;obtain rfl:p=Value.ref a:=w;exact z0 k m c n l g λS b=>⟨J,_,b,d⟩
end
section
variable{X:Cx}{pins:PN}{J:St}{H:Hp}{s:Shared}{A:Around}{E:VP}{Q:VP}{c:Value}{b:Bool}
inductive TyOf(K:FG)(H:Hp):V->Value->Prop where
 |non:TyOf K H .non (.type "NoneType")
 |bl (x:Bool):TyOf K H (.bl x) (.type "bool")
 |int (i:Int):TyOf K H (.int i) (.type "int")
 |str (x:Str):TyOf K H (.str x) (.type "str")
 |flt (x:UInt64):TyOf K H (.flt x) (.type "float")
 |lst {a:Addr}{xs:List V} (e:H a=Y (.lst xs)):TyOf K H (.ref a) (.type "list")
 |frz {a:Addr}{o:Obj}{xs:List V} (e:H a=Y (.frz o (.lst xs))):TyOf K H (.ref a) (.type "list")
 |tup {a:Addr}{xs:List V} (e:H a=Y (.tup xs)):TyOf K H (.ref a) (.type "tuple")
 |dK {a:Addr}{kvs:List (ci×V)} (e:H a=Y (.dK kvs)):TyOf K H (.ref a) (.type "dict")
 |dT {a:Addr}{kvs:List (List ci×V)} (e:H a=Y (.dT kvs)):TyOf K H (.ref a) (.type "dict")
 |ins {a C dx:Addr}{fs:List (Str×V)} (e:H a=Y (.ins C dx fs)) (cl:Cls K C) (ha:dt K (.ref C) "__class__"=Y (Y (.builtin "object.__class__")))
   (hn:Fd K (.builtin "object.__class__") "__get__"=Y (Y (.builtin "getset_descriptor.__get__"))) (htk:PySem.W.takesIn K (.builtin "object.__class__")=Y Vl)
   (hm:PySem.W.mroIn K C (.type "object")=Y Vl):TyOf K H (.ref a) (.ref C)
end
structure Room(k:Nat)(A:Around):Prop where
 hd:A.handled=Vk
 dp:A.depth+3 * k+5 < recursionLimit
 un:A.units+16 * k+200 < cLine
variable{k:Nat}
theorem Room.deeper(r:Room (k+1) A)(e:Env):Room k (A.deeper e):=
 ⟨r.hd,by have:=r.dp;show A.depth+1+3 * k+5 < _;lia,by have:=r.un;show A.units+3+16 * k+200 < _;lia⟩
variable{kw:List (Str×Value)}
theorem Ap:(A.under (.builtin "type.__call__" ⟨.ref C::j,kw⟩)).depth=A.depth+1:=by first|rfl|simp[wk,Code.weight,Code.isCreation,Code.isGuard,Code.isCaller,Code.frames,Code.isFrame,guardIds]
theorem Ao:(A.under (.builtin "type.__call__" ⟨.ref C::j,kw⟩)).units=A.units+1:=by first|rfl|simp[wk,Code.cUnits,Code.frames,Code.isFrame]
theorem Room.make(r:Room (k+1) A)(C:Addr)(j:LV)(kw:List (Str×Value)):Room k (A.under (.builtin "type.__call__" ⟨.ref C::j,kw⟩)):=
 ⟨r.hd,by have:=r.dp;rw[Ap];lia,by have:=r.un;rw[Ao];lia⟩
theorem Room.depth(r:Room k A):A.depth < recursionLimit:=by have:=r.dp;lia
noncomputable def Pl:TA:=λ_ H Q=>Q [] H
noncomputable def Pp(ta:TE)(tr:TA):TA:=λJ H Q=>ta J H λx G=>tr J G λxs H2=>Q (x::xs) H2
section
variable{X:Cx}{e:Expr}{es:Ab}{te:TE}{t:TA}{B:Pos}
theorem ie:PA X [] Pl:=λ_ _ _ _ H Q I h=>kR ⟨[],H,I,.nil,h⟩
theorem fK(k:PE X e te)(r:PA X es t)(f:starEach (e::es) X.e=(Vm,eval e X.e)::starEach es X.e:=by rfl):PA X (e::es) (Pp te t):=by intro B pins s J H Q I h;rw[f];show wpAny _ _ (spliced ((Vm,eval e X.e)::backTo B (starEach es X.e))) _ _ s;refine iy (dO (k pins s J H _ I h) λu p z=>?_);obtain⟨x,G,a,c,q⟩:=z;exact dO (r B pins p J G _ a q) λj v z=>by obtain⟨xs,H2,n,m,b⟩:=z;exact⟨x::xs,H2,n,.cons c m,b⟩
def Sv(t:TA):TE:=λJ H Q=>t J H λxs G=>xs.length≤sizeLine/\∀p,G p=Vk->Q (.ref p) (cG G p (.tup xs))
def SA(t:TA):TE:=λJ H Q=>t J H λxs G=>xs.length≤sizeLine/\∀p,G p=Vk->Q (.ref p) (cG G p (.lst xs))
theorem wI {N} (h:PA X es t):PE X (.Tuple es N B) (Sv t):=by intro pins s J H Q I n;refine wpAny_Tuple_spliced (dO (h B pins s J H _ I n) λj x k=>?_);obtain⟨xs,G,a,r,z,q⟩:=k;refine⟨by rw[<- r.length];exact z,?_⟩;have f:G x.heap.objs.size=Vk:=a.h.fresh (az _);refine⟨.ref x.heap.objs.size,cG G x.heap.objs.size (.tup xs),a.laid (t':=x.toks) (λb u e=>aW _ e) (az _) ?_,rfl,q _ f⟩;exact⟨z,j,r,qE.new _ _⟩
theorem Al(h:PA X es t):PE X (.List es B) (SA t):=by intro pins s J H Q I n;refine wpAny_List_spliced (dO (h B pins s J H _ I n) λj x k=>?_);obtain⟨xs,G,a,r,z,q⟩:=k;refine⟨by rw[<- r.length];exact z,?_⟩;have f:G x.heap.objs.size=Vk:=a.h.fresh (az _);refine⟨.ref x.heap.objs.size,cG G x.heap.objs.size (.lst xs),a.laid (t':=x.toks) (λb u e=>aW _ e) (az _) ?_,rfl,q _ f⟩;exact⟨z,j,0,r,bJ _ rfl⟩
end
noncomputable abbrev Sp:=List V->Hp->VK->XK->Prop
noncomputable abbrev ER:=List Env->Hp->Shared->XK->VP
structure Env0(P:Program)(w:World)(K:FG)(mg:SV)(base:Heap)(A:Around)(outer:List Env)(s:Shared)(H:Hp):Prop where
 frames:A.frames=Y outer
 mod:Mod K mg base
 bs:∀b o,base.get? b=Y o->s.heap.get? b=Y o/\H b=Vk
 bsz:base.objs.size≤s.heap.objs.size
 funs:s.heap.FunFrames base outer
 frf:∀b ∈ HA outer,H b=Vk
 tab:∀P ∈ cy K,H P=Y .tbl
 h:mY P w H s.heap
 bare:AllBare s.gens
def CE(o:List Env)(P:Program)(w:World)(H:Hp)(s:Shared)(Q:VK)(u:Value)(s':Shared):Prop:=
 ∃v H',s'.os=s.os/\AllBare s'.gens/\Un (HA o) [] H H' s.heap s'.heap/\mY P w H' s'.heap/\RelV v u/\Q v H'
def CR(CX:ER)(o:List Env)(P:Program)(w:World)(H:Hp)(s:Shared)(Q:VK)(E:XK)(r:Result)(s':Shared):Prop:=
 match r with
 | .ok (.ret u)=>CE o P w H s Q u s'
 | .ok _=>False
 | .error e=>CX o H s E e s'
structure FnOk(P:Program)(w:World)(K:FG)(mg:SV)(base:Heap)(CX:ER)(k:Nat)(f:Addr)(fd:FuncData)(ps:LS)(sp:Sp):Prop where
 len:∀vs H Q E,sp vs H Q E->vs.length=ps.length
 run:∀(A:Around)(outer:List Env)(s:Shared)(H:Hp)(args:Args)(us:LV)(vs:List V)(Q:VK)(E:XK),Room k A->Env0 P w K mg base A outer s H->BindsTo s fd args (ps.zip us)->bo vs us->sp vs H Q E ->
  codeAny (model P w) A (.call (.ref f) args) (CR CX outer P w H s Q E) s
theorem FnOk.imp(F:FnOk P w K mg base CX k f fd ps sp)
  (h:∀v H Q E,z v H Q E->sp v H Q E):FnOk P w K mg base CX k f fd ps z:=
 ⟨λv H Q E q=>F.len v H Q E (h _ _ _ _ q),λA o s H a j v Q E r e b n x=>F.run A o s H a j v Q E r e b n (h _ _ _ _ x)⟩
theorem Env0.make(e:Env0 P w K mg base A q s H)(C:Addr)(j:LV)(kw:List (Str×Value)) :
  Env0 P w K mg base (A.under (.builtin "type.__call__" ⟨.ref C::j,kw⟩)) q s H:=⟨by first|exact e.frames|(simpa[wk,Code.envs,Code.isFrame,pushEnvs] using e.frames),e.mod,e.bs,e.bsz,e.funs,e.frf,e.tab,e.h,e.bare⟩
section
variable{X:Cx}{pins:PN}{J:St}{H:Hp}{s s':Shared}
theorem Inv.env0(I:Inv X pins J H s):Env0 X.p X.w X.K X.g X.b X.A X.k s H:=
 ⟨I.o.frames,I.o.mod,I.bs,bf I.o.bsz I.sz,I.stack,I.stkFree,λP h=>I.base.tbls P (I.o.tab P h),I.h,I.bare⟩
theorem Inv.after(I:Inv X pins J H s)(h:CE X.k X.p X.w H s Q u s'):EP X pins J Q u s':=by obtain⟨v,H',os,a,un,o,r,q⟩:=h;obtain⟨e,g,d,t,x⟩:=s';obtain rfl:x=s.os:=os;exact⟨v,H',I.call (h':=e) (g':=g) (d':=d) (t':=t) (ch:=[]) un o a (λb z=>absurd z (by simp)),r,q⟩
end
noncomputable def Pq(sp:Sp)(dvs:List V)(E:XK)(t:TA):TE:=λJ H Q=>t J H λv G=>sp (v++dvs) G Q E
def FR(C:Addr)(m:Str)(sp:Sp)(dvs:List V)(E:XK)(ta:TE)(t:TA):TE:=λJ H Q=>ta J H λx G=>∃a dx fs,x=.ref a/\G a=Y (.ins C dx fs)/\fs.lookup m=Vk /\
 t J G λv H2=>sp (x::(v++dvs)) H2 Q E
def Pn(C:Addr)(sp:Sp)(dvs:List V)(E:XK)(t:TA):TE:=λJ H Q=>t J H λs G=>∀x dx,G x=Vk->G dx=Vk->dx≠x ->
 sp (.ref x::(s++dvs)) (cG (cG G dx (.own x)) x (.ins C dx [])) (λv H2=>v=.non/\Q (.ref x) H2) E
def Binds(K:FG)(fd:FuncData)(ps:LS)(ds:LV):Prop:=
 ∀(s:Shared)(j:LV),K.In s.heap->(j++ds).length=ps.length->BindsTo s fd ⟨j,[]⟩ (ps.zip (j++ds))
theorem Binds.all(h:∀j:LV,j.length=ps.length->bindArgs fd ⟨j,[]⟩=pure (ps.zip j)):Binds K fd ps []:=λs j _ l=>by rw[eZ]at l ⊢;exact .of_eq (h j l)
def nM(CX:ER)(X:Cx)(E:XK):Prop:=∀(pins:PN)(J:St)(H:Hp)(s:Shared)(e:Value)(s':Shared),Inv X pins J H s->CX X.k H s E e s'->X.xe e s'
section
variable{X:Cx}{CX:ER}{k:Nat}{f C:Addr}{fd:FuncData}{ps:LS}{sp:Sp}{dvs:List V}{ds:LV}{E:XK}{x m:Str}{p B apos:Pos}{e o:Expr}{es:Ab}{ta:TE}{t:TA}
set_option tactic.hygienic true in
theorem z4(F:FnOk X.p X.w X.K X.g X.b CX k f fd ps sp)(n:Room k X.A)(b:Binds X.K fd ps ds)(hd:bo dvs ds)(c:nM CX X E)
  (I:Inv X pins J H s) (r:bo z j) (h:sp (z++dvs) H Q E):wx X (call (.ref f) j) (EP X pins J Q) X.xe s:=by
 have x:bo (z++dvs) (j++ds):=r.append hd;have a:(j++ds).length=ps.length:=by rw[<- x.length];exact F.len _ _ _ _ h
 refine ze (vb (F.run X.A X.k s H ⟨j,[]⟩ (j++ds) (z++dvs) Q E n I.env0 (b s j I.kIn a) x h) λr s' q=>?_);cases r with
 |error e=>exact c pins J H s e s' I q
 |ok l=>
  cases l with
  |ret u=>exact I.after q
  |next=>exact False.elim q
  |brk=>exact False.elim q
  |cont=>exact False.elim q
theorem wJ(F:FnOk X.p X.w X.K X.g X.b CX k f fd ps sp)(v:Room k X.A)(g:Gl X x)(m:X.g x=Y (.ref f))(hk:iN X.K (.ref f)=Vl)(b:Binds X.K fd ps ds)(hd:bo dvs ds)(w:nM CX X E)
  (n:PA X (e::es) t) (d:(x == ("__debug__":Str))=Vm:=by decide) (c:starEach (e::es) X.e=(Vm,eval e X.e)::starEach es X.e:=by rfl) (l:(backTo B (starEach es X.e)).any (·.1)=Vm:=by rfl) :
  PE X (.Call (.Name x p) (e::es) [] B) (Pq sp dvs E t):=by
 intro pins s J H Q I h;refine nw (wU I g m ?_ d);refine zF (h₀:=X.b) I.o.mod.kin hk (dO (n B pins s J H _ I h) λj u z=>?_) c l;obtain⟨i,G,a,r,q⟩:=z;refine⟨a.kIn,?_⟩;exact z4 F v b hd w a r q
theorem J8(y:PE X o ta)(c:Cls X.K C)(d:Meth X.K C m f)(F:FnOk X.p X.w X.K X.g X.b CX k f fd ps sp)(S:Room k X.A)(i:Binds X.K fd ps ds)(hd:bo dvs ds)(P:nM CX X E)(g:PA X (e::es) t)
  (n:starEach (e::es) X.e=(Vm,eval e X.e)::starEach es X.e:=by rfl) (p:(backTo B (starEach es X.e)).any (·.1)=Vm:=by rfl)
  (K:eval (.Call (.Attribute o m apos) (e::es) [] B) X.e=(do
   let N <- eval o X.e
   standAt apos.atName
   let (f,first) <- holding [N] (getMethod N m pl)
   callWith B f first (backTo B (starEach (e::es) X.e)) (backToKw B (keywordEach [] X.e))):=by rfl) :
  PE X (.Call (.Attribute o m apos) (e::es) [] B) (FR C m sp dvs E ta t):=by
 intro pins s J H Q I h;refine Fg (pl:=pl) (dO (y pins s J H _ I h) λu L z=>?_) K;obtain⟨x,G,b,D,a,dx,fs,ex,w,l,q⟩:=z;subst ex;obtain rfl:u=Value.ref a:=D;refine sY b w c d l ?_;refine zF (first:=[.ref a]) (h₀:=X.b) I.o.mod.kin d.kp (dO (g B pins L J G _ b q) λj R z=>?_) n p;obtain⟨M,H2,v,r,A⟩:=z;refine⟨v.kIn,?_⟩;exact z4 (j:=.ref a::j) (z:=.ref a::M) F S i hd P v (.cons rfl r) A
theorem Gx(t:PE X o ta)(c:Cls X.K C)(n:Meth X.K C m f)(F:FnOk X.p X.w X.K X.g X.b CX k f fd ps sp)(p:Room k X.A)(r:Binds X.K fd ps ds)(hd:bo dvs ds)(d:nM CX X E)
  (v:eval (.Call (.Attribute o m apos) [] [] B) X.e=(do
   let z <- eval o X.e
   standAt apos.atName
   let (f,first) <- holding [z] (getMethod z m N)
   callWith B f first (backTo B (starEach [] X.e)) (backToKw B (keywordEach [] X.e))):=by rfl) :
  PE X (.Call (.Attribute o m apos) [] [] B) (FR C m sp dvs E ta Pl):=by
 intro pins s J H Q I h;refine Fg (pl:=N) (dO (t pins s J H _ I h) λu i w=>?_) v;obtain⟨x,G,e,g,a,dx,fs,ex,b,l,q⟩:=w;subst ex;obtain rfl:u=Value.ref a:=g;refine sY e b c n l ?_;exact PySem.W.callWith_K0 (first:=[.ref a]) e.kIn n.kp (z4 (j:=[.ref a]) (z:=[.ref a]) F p r hd d e (.cons rfl .nil) q)
structure Mk(K:FG)(C f:Addr):Prop where
 makes:zB K C=Vl
 init:dt K (.ref C) "__init__"=Y (Y (.ref f))
 fn:vK K (.ref f)=Vl
 kp:iN K (.ref C)=Vl
set_option tactic.hygienic true in
theorem Ga(M:Mk X.K C f)(F:FnOk X.p X.w X.K X.g X.b CX k f fd ps sp)(d:Room (k+1) X.A)(t:Binds X.K fd ps ds)(hd:bo dvs ds)
  (w:nM CX X E) (I:Inv X pins J H s) (r:bo z j)
  (h:∀x dx,H x=Vk->H dx=Vk->dx≠x->sp (.ref x::(z++dvs)) (cG (cG H dx (.own x)) x (.ins C dx [])) (λv H2=>v=.non/\Q (.ref x) H2) E) :
  wx X (call (.ref C) j) (EP X pins J Q) X.xe s:=by
 have n:=h (s.heap.objs.size+1) s.heap.objs.size (I.h.fresh (qQ _)) (I.h.fresh (az _)) (bG (nX _));have a:=Inv.made (C:=C) I;have b:bo (V.ref (s.heap.objs.size+1)::(z++dvs)) (Value.ref (s.heap.objs.size+1)::(j++ds)):=.cons rfl (r.append hd);have p:(Value.ref (s.heap.objs.size+1)::j++ds).length=ps.length:=by have e:=b.length;rw[F.len _ _ _ _ n]at e;exact e.symm
 refine ze (GZ (f:=f) I.kIn M.makes M.init (n_.mp M.fn) (vb (F.run _ X.k _ _ ⟨Value.ref (s.heap.objs.size+1)::j,[]⟩ (Value.ref (s.heap.objs.size+1)::(j++ds)) _ _ E (d.make C j [])
  (a.env0.make C j []) (t _ (Value.ref (s.heap.objs.size+1)::j) a.kIn p) b n) λr s' q=>?_))
 cases r with
 |error e=>exact w pins J _ _ e s' a q
 |ok l=>
  cases l with
  |ret u=>obtain⟨v,H',c,i,m,g⟩:=a.after q;subst m;exact⟨i,⟨V.ref (s.heap.objs.size+1),H',c,rfl,g⟩⟩
  |next=>exact False.elim q
  |brk=>exact False.elim q
  |cont=>exact False.elim q
theorem J_(M:Mk X.K C f)(F:FnOk X.p X.w X.K X.g X.b CX k f fd ps sp)(v:Room (k+1) X.A)(g:Gl X x)(m:X.g x=Y (.ref C))(b:Binds X.K fd ps ds)(hd:bo dvs ds)(w:nM CX X E)
  (n:PA X (e::es) t) (d:(x == ("__debug__":Str))=Vm:=by decide) (c:starEach (e::es) X.e=(Vm,eval e X.e)::starEach es X.e:=by rfl) (l:(backTo B (starEach es X.e)).any (·.1)=Vm:=by rfl) :
  PE X (.Call (.Name x p) (e::es) [] B) (Pn C sp dvs E t):=by
 intro pins s J H Q I h;refine nw (wU I g m ?_ d);refine zF (h₀:=X.b) I.o.mod.kin M.kp (dO (n B pins s J H _ I h) λj u z=>?_) c l;obtain⟨i,G,a,r,q⟩:=z;refine⟨a.kIn,?_⟩;exact Ga M F v b hd w a r q
end
section
variable{X:Cx}{CX:ER}{k:Nat}{f C:Addr}{fd:FuncData}{ps ks:LS}{sp:Sp}{E:XK}{x m:Str}{p B apos kpos:Pos}{e o:Expr}{es:Ab}{kws:List Keyword}{te ta:TE}{t tk:TA}{nm:Option Str}
structure KBinds(K:FG)(fd:FuncData)(ps ks:LS)(g:LV->LV->LV)(gV:List V->List V->List V):Prop where
 to:∀(s:Shared)(us ws:LV),K.In s.heap->(g us ws).length=ps.length->BindsTo s fd ⟨us,ks.zip ws⟩ (ps.zip (g us ws))
 rel:∀{vs:List V}{us:LV}{zs:List V}{ws:LV},bo vs us->bo zs ws->bo (gV vs zs) (g us ws)
variable{g:LV->LV->LV}{gV:List V->List V->List V}
end
structure FnScope(N P:LS)(sc:Scope):Prop where
 kind:sc.kind=.function
 co:sc.isCoroutine=Vm
 gen:sc.isGenerator=Vm
 nd:N.Nodup
 pre:N.take P.length=P
 par:∀x ∈ P,sc.names.lookup x=Y .local\/sc.names.lookup x=Y .cell
 nofree:∀y ∈ sc.names,y.2≠.free
theorem u4{kindOf:Str->Option NameKind}{x:Str}:∀{b:List (Str×Value)}{m:SV},(∀v,(x,v) ∉ b)->bindL kindOf b m x=m x
 | [],_,_=>rfl
 |(n,v)::r,m,h=>by
  unfold bindL;rw[u4 λw hw=>h w (aL _ hw)];split
  .have:x≠n:=by rintro rfl;exact h v aK
   simp[this]
  .rfl
theorem u6{kindOf:Str->Option NameKind}{x:Str}:∀{b:List (Str×Value)}{m:SV},(∀v,(x,v) ∉ b)->bindC kindOf b m x=m x
 | [],_,_=>rfl
 |(n,v)::r,m,h=>by
  unfold bindC;rw[u6 λw hw=>h w (aL _ hw)];split
  .rfl
  .have:x≠n:=by rintro rfl;exact h v aK
   simp[this]
theorem u5{kindOf:Str->Option NameKind}{x:Str}{v:Value}:∀{P:LS}{s:LV}{i:Nat}{m:SV},P.Nodup->P[i]? = Y x->s[i]? = Y v->kindOf x=Y .local ->
  bindL kindOf (P.zip s) m x=Y v
 | [],_,_,_,_,h,_,_=>by simp at h
 |_::_,[],_,_,_,_,h,_=>by simp at h
 |p::P,w::s,0,m,n,h1,h2,hk=>by simp at h1 h2;subst h1;subst h2;show bindL kindOf ((p,w)::P.zip s) m p=_;unfold bindL;rw[u4 λv a=>(cA.mp n).1 (vP a).1,ac hk];simp
 |p::P,w::s,i+1,m,n,h1,h2,hk=>by show bindL kindOf ((p,w)::P.zip s) m x=_;unfold bindL;exact u5 (i:=i) (cA.mp n).2 (by simpa using h1) (by simpa using h2) hk
theorem u7{kindOf:Str->Option NameKind}{x:Str}{v:Value}:∀{P:LS}{s:LV}{i:Nat}{m:SV},P.Nodup->P[i]? = Y x->s[i]? = Y v->kindOf x≠Y .local ->
  bindC kindOf (P.zip s) m x=Y v
 | [],_,_,_,_,h,_,_=>by simp at h
 |_::_,[],_,_,_,_,h,_=>by simp at h
 |p::P,w::s,0,m,n,h1,h2,hk=>by simp at h1 h2;subst h1;subst h2;show bindC kindOf ((p,w)::P.zip s) m p=_;unfold bindC;rw[u6 λv a=>(cA.mp n).1 (vP a).1,ae hk];simp
 |p::P,w::s,i+1,m,n,h1,h2,hk=>by show bindC kindOf ((p,w)::P.zip s) m x=_;unfold bindC;exact u7 (i:=i) (cA.mp n).2 (by simpa using h1) (by simpa using h2) hk
noncomputable def start(N:LS)(v:List V):St:=v.map Y++List.replicate (N.length-v.length) Vk
noncomputable def yR(CX:ER)(P:Program)(w:World)(K:FG)(mg:SV)(base:Heap)(N:LS)(q:Str)(h:Scope)(f:Addr)(d:Value)(A:Around)(u:List Env)(s:Shared)(H:Hp)(E:XK):Cx where
 p:=P
 w:=w
 K:=K
 g:=mg
 b:=base
 A:=A.deeper (envOfC q h s.heap.objs.size f d)
 N:=N
 z:=s
 y:=H
 e:=envOfC q h s.heap.objs.size f d
 o:=u
 k:=envOfC q h s.heap.objs.size f d::u
 ex:=[]
 c:=Vl
 fn:=λ_=>Vl
 pn:=[]
 xe:=λe s'=>wpAny (model P w) (A.deeper (envOfC q h s.heap.objs.size f d)) (leaving (envOfC q h s.heap.objs.size f d) e) (λ_ x=>CX u H s E e x) (λa x=>CX u H s E a x) s'
variable{x:Str}
theorem y1{sc:Scope}(h:sc.names.lookup x=Y .cell):∃c,(cellsFrom n sc.names []).lookup x=Y c:=by have q:=Fh sc.names n [] (.inl h);exact qP.mp q
theorem Ei{CX:ER}{P:Program}{w:World}{K:FG}{mg:SV}{base:Heap}{N ps:LS}{l:Str}{o:Scope}{f:Addr}{D:Value}{A:Around}{t:List Env}{s I:Shared}{H:Hp}{E:XK}{j:LV}{F:List V}
  (S:FnScope N ps o) (hd:A.handled=Vk) (m:Env0 P w K mg base A t s H) (T:F.length=ps.length) (r:bo F j)
  (x:InCallC s s.heap.objs.size (bindL (envOfC l o s.heap.objs.size f D).kindOf (ps.zip j) λ_=>Vk) (cellsFrom (s.heap.objs.size+1) o.names []) (bindC (envOfC l o s.heap.objs.size f D).kindOf (ps.zip j) λ_=>Vk) I) :
  Inv (yR CX P w K mg base N l o f D A t s H E) [] (start N F) H I:=by
 have M:ps.length≤N.length:=by have:=cE oe S.pre;rw[gp]at this;lia
 obtain⟨h1,tk,rfl,hk⟩:=x.done;have g:∀b:Addr,b ∉ (yR CX P w K mg base N l o f D A t s H E).ex:=fun b z=>absurd (show b ∈ ([]:List Addr) from z) (by simp);refine⟨⟨m.mod,S.kind,rfl,rfl,az _,fun y z c h1 h2=>?_,fun y d=>?_,fun y c _ h=>?_,fun _=>hd,Around.frames_deeper m.frames,.inr ⟨rfl,rfl⟩,fun b z=>absurd z (g b),m.bs,m.bsz,fun b _ _=>g b,fun b z=>absurd z (g b),m.funs,m.frf,m.tab⟩,
  rfl,m.bare,Un.kept hk,⟨_,x.toInCall.ns,λi y v h1 h2 R=>?_⟩,λy c h=>⟨_,x.cell y c h⟩,m.h.fresh (az _),λy c h=>?_,λp B=>absurd (show p ∈ ([]:PN) from B) (by simp),m.h.kept hk,?_⟩
 .exact name_of_addr x.apart (rY h1) (rY h2)
 .have d:o.names.lookup y=Y .cell\/o.names.lookup y=Y .free:=d;rcases d with d|d
  .exact y1 d
  .exact absurd rfl (S.nofree _ (rY d))
 .exact i8 (x.above y c (rY h))
 .have hi:i < F.length:=by
   unfold start at h2;by_cases hi:i < F.length
   .exact hi
   .rw [c_ (by simpa using hi)]at h2;rw[wc]at h2;split at h2<;>cases h2
  have L:F[i]? = Y v:=by
   unfold start at h2;rw[ce (by simpa using hi),bq]at h2;cases e:F[i]? with
   |none=>rw[e]at h2;cases h2
   |some a=>rw[e]at h2;cases h2;rfl
  obtain⟨u,G,Q⟩:=r.get L;have B:ps[i]? = Y y:=by rw[<- S.pre,kW (by lia)];exact h1
  have C:ps.Nodup:=by rw[<- S.pre];exact S.nd.sublist (vV _ _)
  refine⟨u,Q,?_⟩;rcases S.par y (bg B) with k|k
  .exact .inl ⟨k,u5 C B G k⟩
  .obtain⟨c,e⟩:=y1 (n:=s.heap.objs.size+1) k;refine .inr ⟨.inl k,c,e,?_⟩;have q:=x.cell y c e;rw[u7 C B G (by show o.names.lookup y≠_;rw[k];decide)]at q;exact q
 .exact m.h.fresh (i8 (x.above y c (rY h)))
 .unfold start;show _=N.length;rw[bK,aH,B5];lia
set_option tactic.hygienic true in
theorem QM{CX:ER}{P:Program}{w:World}{K:FG}{mg:SV}{base:Heap}{k:Nat}{f:Addr}{name a:Str}{p:Arguments}{m:List Stmt}{c:Scope}{dV kV B pm d ct oc:Value}{an od:Option Addr}
  {W:Array (OV)}{N ps:LS}{sp:Sp} (lk:K.lookup f=Y ⟨oc,od,.func (kZ name a p m c dV kV B pm an d ct),W⟩) (M:j3 K d a=Vl) (S:FnScope N ps c)
  (len:∀g H Q E,sp g H Q E->g.length=ps.length)
  (l:∀(A:Around) (h:List Env) (s:Shared) (H:Hp) (g:List V) (Q:VK) (E:XK),Room k (A.deeper (envOfC a c s.heap.objs.size f d))->sp g H Q E ->
   ∃t,qF (yR CX P w K mg base N a c f d A h s H E) m t/\t { nx:=λ_ H'=>Q .non H',rt:=Q } (start N g) H) :
  FnOk P w K mg base CX (k+1) f (kZ name a p m c dV kV B pm an d ct) ps sp:=by
 refine⟨len,λA h s H args j g Q E R C hb r G=>?_⟩;have hl:=len _ _ _ _ G;have Z:K.In s.heap:=C.mod.kin.keeps λb o e=>(C.bs b o e).1;have T:s.heap.NoLimit:=C.mod.nolimit.keeps λb o e=>(C.bs b o e).1;have z:∀y ∈ ps.zip j,c.names.lookup y.1=Y .local\/(c.names.lookup y.1=Y .cell/\((cellsFrom (s.heap.objs.size+1) c.names []).lookup y.1).isSome=Vl):=λ⟨n,v⟩ hy=>by
  rcases S.par n (vP hy).1 with q|q
  .exact .inl q
  .exact .inr ⟨q,Fh _ _ _ (.inl q)⟩
 refine codeAny_call_function R.depth (Z _ _ lk) rfl S.co S.gen rfl (PySem.W.codeRec_of Z M) (hb _ _ _ _ ?_);refine wpAny_newFunctionEnv_cells S.kind z λenv he s1 x=>?_;subst he;refine⟨T.keeps x.toInCall.keep,codeAny_func ?_⟩;obtain⟨t,ht,hq⟩:=l A h s H g Q E (R.deeper _) G;have I:Inv (yR CX P w K mg base N a c f d A h s H E) [] (start N g) H s1:=Ei S R.hd C hl r x;refine dg (ht [] s1 (start N g) H _ I hq) (λfl s' F=>?_) λe s' F=>F;have D:∀{L:St}{H':Hp}{v:V}{u:Value},Inv (yR CX P w K mg base N a c f d A h s H E) [] L H' s'->RelV v u->Q v H'->CE h P w H s Q u s':=
  λ{L H' v u} i X q=>⟨v,H',i.os,i.bare,i.base,i.h,X,q⟩
 cases fl with
 |ret u=>obtain⟨v,L,H',i,X,q⟩:=F;exact D i X q
 |next=>obtain⟨L,H',i,q⟩:=F;exact D (v:=V.non) (u:=Value.none) i rfl q
 |brk=>obtain⟨_,_,_,q⟩:=F;exact False.elim q
 |cont=>obtain⟨_,_,_,q⟩:=F;exact False.elim q
section
variable{X:Cx}{x:Str}{p B:Pos}{e:Expr}{es:Ab}{t:TA}{id T:String}{r:List V->Hp->VK->Prop}
noncomputable def T'(r:List V->Hp->VK->Prop)(t:TA):TE:=λJ H Q=>t J H λv G=>r v G Q
theorem oF(c:fZ X (.builtin id) r)(g:Gl X x)(m:X.g x=Vk)(v:bootBuiltins x=Y (.builtin id))(n:PA X (e::es) t)(f:x≠"__name__":=by decide)(d:(x == ("__debug__":Str))=Vm:=by decide)
  (k:starEach (e::es) X.e=(Vm,eval e X.e)::starEach es X.e:=by rfl) (l:(backTo B (starEach es X.e)).any (·.1)=Vm:=by rfl):PE X (.Call (.Name x p) (e::es) [] B) (T' r t):=by
 intro pins s J H Q I h;refine nw (nD I g m v ?_ f d);exact Jd (dO (n B pins s J H _ I h) λj w z=>by obtain⟨u,G,a,b,q⟩:=z;exact c pins w J G u j Q a b q) k l
theorem kn(c:fZ X (.type T) r)(g:Gl X x)(m:X.g x=Vk)(v:bootBuiltins x=Y (.type T))(n:PA X (e::es) t)(f:x≠"__name__":=by decide)(d:(x == ("__debug__":Str))=Vm:=by decide)
  (k:starEach (e::es) X.e=(Vm,eval e X.e)::starEach es X.e:=by rfl) (l:(backTo B (starEach es X.e)).any (·.1)=Vm:=by rfl):PE X (.Call (.Name x p) (e::es) [] B) (T' r t):=by
 intro pins s J H Q I h;refine nw (nD I g m v ?_ f d);exact nU (dO (n B pins s J H _ I h) λj w z=>by obtain⟨u,G,a,b,q⟩:=z;exact c pins w J G u j Q a b q) k l
end
end L2
set_option tactic.hygienic true
namespace HT
open PySem PyProof.Rows
section
variable{prog:Program}{w:World}{A:Around}{E:VP}{s:Shared}
theorem KZ(g:IsTup s.heap t z.toArray)(u:IsTup s.heap b q.toArray)(v:z≠[])
  (h1:q=[]->Q (.ref t) s) (h2:q≠[]->Q (.ref s.heap.objs.size) { s with heap:=s.heap.push { cls:=.type "tuple",data:=.seq (z++q).toArray } })
  (a:z.length+q.length≤sizeLine):wpAny (model prog w) A (binaryOp .Add (.ref t) (.ref b)) Q E s:=by
 obtain⟨⟨N,f,I,p⟩,o,m,n,hd⟩:=id g;obtain⟨⟨k,d,data2,l⟩,h,c,r,x⟩:=id u;simp only at m hd c x;subst m hd c x;have e:z.toArray++q.toArray=(z++q).toArray:=by simp
 by_cases hw:q=[]
 .exact zh ⟨_,o,rfl⟩ ⟨_,h,rfl⟩ zt zl vk vl (vo _ _)
   (tuple_addW1 t b z.toArray q.toArray n r f d p l (by simpa using v) (by simp[hw])) ⟨o,h,h1 hw⟩
 .refine zh ⟨_,o,rfl⟩ ⟨_,h,rfl⟩ zt zl vk vl (vo _ _)
   (tuple_addW2 t b z.toArray q.toArray n r f d p l (by simpa using v) (by simpa using hw) (by rw[bv,bv];exact a)) ⟨o,h,?_⟩
  rw[e];exact h2 hw
noncomputable def gw(n d:Nat):Option Int->Nat
 |none=>d
 |some v=>if v < 0 then (v+(n:Int)).toNat else min v.toNat n
theorem x4(n d:Nat):gw n d Vk=d:=rfl
theorem C0(n d k:Nat):gw n d (Y (k:Int))=min k n:=by show(if (k:Int) < 0 then ((k:Int)+(n:Int)).toNat else min (k:Int).toNat n)=min k n;rw[ae (by lia),fG]
theorem MJ(n d:Nat)(hd:d≤n)(o:Option Int):gw n d o≤n:=by
 cases o with
 |none=>exact hd
 |some v=>
  show(if v < 0 then (v+(n:Int)).toNat else min v.toNat n)≤n;by_cases h:v < 0
  .rw [ac h];lia
  .rw [ae h];exact Nat.min_le_right _ _
theorem DL(v:Int)(n d:Nat):(if v < 0 then max (v+(n:Int)) 0 else min v (n:Int))=((gw n d (Y v):Nat):Int):=by
 show(if v < 0 then max (v+(n:Int)) 0 else min v (n:Int))=(((if v < 0 then (v+(n:Int)).toNat else min v.toNat n):Nat):Int);by_cases h:v < 0
 .simp only[ac h];lia
 .simp only[ae h];lia
theorem AY(lo hi:Option Int)(n:Nat):vf lo hi 1 (n:Int)=(((gw n 0 lo:Nat):Int),((gw n n hi:Nat):Int)):=by
 have h1:¬((1:Int) < 0):=by lia
 unfold vf;simp only[h1,fH];refine Prod.ext ?_ ?_
 .cases lo with
  |none=>rfl
  |some v=>exact DL v n 0
 .cases hi with
  |none=>rfl
  |some v=>exact DL v n n
theorem Ak(i j:Nat):qJ (i:Int) (j:Int) 1=j-i:=by
 unfold qJ;have h1:(1:Int) > 0:=by lia
 simp only[h1,iB,Int.ediv_one];split<;>lia
theorem su(p:IsPart v o)(h:Q o s):wpAny (model prog w) A (IC v) Q E s:=by
 cases p with
 |none=>exact Bl h
 |int i t=>exact slicePart_int h
theorem km{l:Addr}{v u:Value}{lo hi:Option Int}{n:Nat}{Q:Int×Int×Nat->Shared->Prop}(a:s.heap.IsSliceOf l v u .none)(p:IsPart v lo)(e:IsPart u hi)
  (h:Q (((gw n 0 lo:Nat):Int),1,gw n n hi-gw n 0 lo) s):wpAny (model prog w) A (A3 (.ref l) (pure (n:Int))) Q E s:=by
 obtain⟨os,o,c,d⟩:=id a;unfold A3 IB;refine af (af (eC o d (x:=v) rfl (af (eC o d (x:=u) rfl (af (eC o d (x:=.none) rfl (aq ?_)))))));refine af (Bl ?_);show wpAny _ _ (if ((1:Int) == 0)=Vl then _ else _) _ _ s;rw[ae (by decide)];refine af (su p (af (su e (af (aq ?_)))));show wpAny _ _ (match vf lo hi 1 (n:Int) with|(lo,hi)=>pure (lo,(1:Int),qJ lo hi 1)) _ _ s;rw[AY lo hi n];show wpAny _ _ (pure (((gw n 0 lo:Nat):Int),(1:Int),qJ ((gw n 0 lo:Nat):Int) ((gw n n hi:Nat):Int) 1)) _ _ s;rw[Ak];exact aq h
theorem Gr(xs:Array Value)(i k:Nat):((List.range k).filterMap λ(m:Nat)=>xs[((i:Int)+(m:Int) * 1).toNat]?).toArray=((xs.toList.drop i).take k).toArray:=by
 have e:(λ(m:Nat)=>xs[((i:Int)+(m:Int) * 1).toNat]?)=λm=>xs[i+m]?:=by
  funext m;have:((i:Int)+(m:Int) * 1).toNat=i+m:=by lia
  rw[this]
 rw[e];have:=pick_run xs i k
 rw[List.filterMap_map]at this;have h:((λx=>xs[x]?) ∘ λx=>i+x)=λm=>xs[i+m]?:=rfl;rw[h]at this;rw[this]
theorem oS{t l:Addr}{i:Array Value}{v u:Value}{lo hi:Option Int}{Q:VP}(x:IsTup s.heap t i)(e:s.heap.IsSliceOf l v u .none)(p:IsPart v lo)(k:IsPart u hi)
  (hw:¬(gw i.size 0 lo=0/\gw i.size i.size hi=i.size))
  (h:Q (.ref s.heap.objs.size) { s with heap:=s.heap.push { cls:=.type "tuple",data:=.seq ((i.toList.drop (gw i.size 0 lo)).take (gw i.size i.size hi-gw i.size 0 lo)).toArray } })
  (z:i.size≤sizeLine):wpAny (model prog w) A (getItem (.ref t) (.ref l)) Q E s:=by
 have a:sizeOk (.seq ((i.toList.drop (gw i.size 0 lo)).take (gw i.size i.size hi-gw i.size 0 lo)).toArray):=by show((i.toList.drop (gw i.size 0 lo)).take (gw i.size i.size hi-gw i.size 0 lo)).toArray.size≤sizeLine;rw[bv,gp,vS,k8];lia
 have j:gw i.size i.size hi≤i.size:=MJ _ _ (az _) hi;obtain⟨os,o,c,d⟩:=id e;have T:s.TypeIs (.ref l) "slice":=⟨os,o,c⟩;unfold getItem;try with_reducible refine gR ?_
 first|refine af (aq ?_)|skip
 refine af (ET x.typeIs (by decide) ?_);refine af (pf (name:=Str.ofString "__getitem__") x.typeIs jI
  (pc jI x.typeIs Bq ?_ (Bp _ _)))
 show wpAny _ _ (E8 (.ref t) >>= _) _ _ s;refine af (Bk x ?_);refine af (rS T ?_);rw[ac (by decide)];refine af (km e p k ?_);have n:¬((((gw i.size 0 lo:Nat):Int) == 0 && (1:Int) == 1 && (gw i.size i.size hi-gw i.size 0 lo) == i.size)=Vl):=by intro q;rw[ar,ar]at q;have f:((gw i.size 0 lo:Nat):Int)=0:=eq_of_beq q.1.1;have b:gw i.size i.size hi-gw i.size 0 lo=i.size:=eq_of_beq q.2;exact hw ⟨by lia,by lia⟩
 show wpAny _ _ (if (((gw i.size 0 lo:Nat):Int) == 0 && (1:Int) == 1 && (gw i.size i.size hi-gw i.size 0 lo) == i.size)=Vl then _ else _) _ _ s;rw[ae n,Gr];first
  |exact af (m:=AZ _) (pe (aq ⟨_,rfl,aq h⟩) a)
  |exact af (m:=AZ _) (pe (af (aq (aq ⟨_,rfl,aq h⟩))) a)
  |exact af (af (m:=AZ _) (pe (aq (aq ⟨_,rfl,aq h⟩)) a))
  |exact af (af (m:=AZ _) (pe (aq ⟨_,rfl,aq h⟩) a))
end
end HT
set_option tactic.hygienic false
namespace L2
open PySem PySem.Spec PyProof.Rows
noncomputable abbrev TO:=St->Hp->(Option Int->Hp->Prop)->Prop
def PO(X:Cx)(e:Option Expr)(t:TO):Prop:=
 ∀(pins:PN)(s:Shared)(J:St)(H:Hp)(Q:Option Int->Hp->Prop),Inv X pins J H s->t J H Q ->
  wx X (evalPart e X.e) (λu s'=>∃o H',Inv X pins J H' s'/\IsPart u o/\Q o H') X.xe s
noncomputable def JA:TO:=λ_ H Q=>Q Vk H
noncomputable def Pj(t:TE):TO:=λJ H Q=>t J H λx G=>∃i,x=.int i/\Q (Y i) G
section
variable{X:Cx}{e:Expr}{te:TE}{lo hi:Option Expr}{tl th:TO}{B p2:Pos}
theorem JZ:PO X Vk JA:=by intro pins s J H Q I h;rw[Ci];exact aq ⟨Vk,H,I,.none,h⟩
theorem JY(h:PE X e te):PO X (Y e) (Pj te):=by
 intro pins s J H Q I hw;rw[evalPart_some];refine dO (h pins s J H _ I hw) λu k z=>?_
 obtain⟨x,G,a,r,n⟩:=z;obtain⟨i,rfl,q⟩:=n;obtain⟨t,rfl⟩:=r;exact⟨Y i,G,a,.int i t,q⟩
def LR(X:Cx)(r:V->Option Int->Option Int->Hp->VK->Prop):Prop:=
 ∀(pins:PN)(s:Shared)(J:St)(H:Hp)(x:V)(v h u:Value)(lo hi:Option Int)(l:Addr)(Q:VK),Inv X pins J H s->RelV x v->s.heap.IsSliceOf l h u .none->IsPart h lo->IsPart u hi->r x lo hi H Q ->
  ∃T id,typeLookup (.type T) "__getitem__"=pure (Y (.builtin id))/\s.TypeIs v T/\wx X (getItem v (.ref l)) (EP X pins J Q) X.xe s
theorem LR.or(h:LR X r)(h':LR X z):LR X (λx lo hi H Q=>r x lo hi H Q\/z x lo hi H Q):=by
 intro pins s J H x v n k lo hi l Q I e a p u q;rcases q with q|q
 .exact h pins s J H x v n k lo hi l Q I e a p u q
 .exact h' pins s J H x v n k lo hi l Q I e a p u q
noncomputable def UM(r:V->Option Int->Option Int->Hp->VK->Prop)(te:TE)(tl th:TO):TE:=λJ H Q=>te J H λx G=>tl J G λl H2=>th J H2 λu h=>r x l u h Q
theorem Gw(i:LR X r)(d:PE X e te)(w:PO X lo tl)(y:PO X hi th):PE X (.Subscript e (.Slice lo hi Vk p2) B) (UM r te tl th):=by
 intro pins s J H Q I h;refine Subscript_ (dO (d pins s J H _ I h) λv C z=>?_);obtain⟨x,G,c,A,F⟩:=z;refine wpAny_Slice (dO (w pins C J G _ c F) λn D ⟨l,H2,m,o,K⟩=>dO (y pins D J H2 _ m K) λk a z=>?_);obtain⟨u,f,t,S,P⟩:=z;rw[Ci];refine aq ?_;have p:Inv X pins J f { a with heap:=a.heap.push { cls:=.type "slice",data:=.fields #[n,k,.none] } }:=t.kept (t':=a.toks) λb E q=>aW _ q
 obtain⟨T,id,hT,j,g⟩:=i pins { a with heap:=a.heap.push { cls:=.type "slice",data:=.fields #[n,k,.none] } } J f x v n k l u a.heap.objs.size Q p A (Heap.IsSliceOf.new ..) o S P;show wx X (subscriptTail e (.Slice lo hi Vk p2) v (.ref a.heap.objs.size)) (EP X pins J Q) X.xe { a with heap:=a.heap.push { cls:=.type "slice",data:=.fields #[n,k,.none] } };exact nT (ops:=[.ref a.heap.objs.size,v]) j hT g (by with_unfolding_all rfl)
def yU(xs:List V)(lo hi:Option Int):List V:=(xs.drop (HT.gw xs.length 0 lo)).take (HT.gw xs.length xs.length hi-HT.gw xs.length 0 lo)
theorem qg(xs:List V)(lo hi:Option Int):(yU xs lo hi).length≤xs.length:=by unfold yU;rw[gp,vS];lia
def SY(K:FG):V->Option Int->Option Int->Hp->VK->Prop:=λx lo hi H Q=>∃a xs,x=.ref a/\nu K H a xs /\
 ¬(HT.gw xs.length 0 lo=0/\HT.gw xs.length xs.length hi=xs.length)/\∀p,H p=Vk->Q (.ref p) (cG H p (.tup (yU xs lo hi)))
theorem MD:LR X (SY X.K):=by
 intro pins s J H x v m d lo hi c Q I k e p u h;obtain⟨a,xs,rfl,n,hw,q⟩:=h;cases k;obtain⟨i,r,t,z⟩:=I.tuple n;have l:i.toArray.size=xs.length:=by rw[bv];exact r.length.symm
 refine⟨"tuple",_,jI.lookup,t.typeIs,?_⟩;refine HT.oS t e p u (by rw[l];exact hw) ?_ (by rw[l];exact z);rw[l];refine⟨.ref s.heap.objs.size,_,I.laid (t':=s.toks) (o:=.tup (yU xs lo hi)) (λb f q=>aW _ q) (az _) ?_,rfl,q _ (I.h.fresh (az _))⟩;exact⟨bf (qg xs lo hi) z,_,(r.drop (HT.gw xs.length 0 lo)).take (HT.gw xs.length xs.length hi-HT.gw xs.length 0 lo),qE.new _ _⟩
def PZ(K:FG):R2:=λx y H Q=>∃a b xs ys,x=.ref a/\y=.ref b/\nu K H a xs/\nu K H b ys/\xs≠[]/\xs.length+ys.length≤sizeLine /\
 (ys=[]->Q (.ref a) H)/\(ys≠[]->∀p,H p=Vk->Q (.ref p) (cG H p (.tup (xs++ys))))
theorem bo.nil_iff(r:bo xs j):j=[]↔xs=[]:=by
 cases r with
 |nil=>simp
 |cons _ _=>simp
theorem Kf:jZ X (binaryOp .Add) (PZ X.K):=by intro pins s J H x y v u Q I g j h;obtain⟨a,b,xs,ys,rfl,rfl,k,f,c,n,m,d⟩:=h;cases g;cases j;obtain⟨t,e,p,_⟩:=I.tuple k;obtain⟨i,r,p2,_⟩:=I.tuple f;refine HT.KZ p p2 (λz=>c (e.nil_iff.mp z)) (λz=>⟨.ref a,H,I,rfl,m (r.nil_iff.mp z)⟩) (λz=>?_) (by rw[<- e.length,<- r.length];exact n);refine⟨.ref s.heap.objs.size,_,I.laid (t':=s.toks) (o:=.tup (xs++ys)) (λb l q=>aW _ q) (az _) ?_,rfl,d (λw=>z (r.nil_iff.mpr w)) _ (I.h.fresh (az _))⟩;exact⟨by rw[bK];exact n,_,e.append r,qE.new _ _⟩
end
noncomputable def Aw(n:Nat)(i:Int):Option Nat:=if 0≤i then (if i < n then Y i.toNat else Vk) else if -(n:Int)≤i then Y (i+n).toNat else Vk
variable{α:Type}
def atI(xs:List α)(i:Int):Option α:=(Aw xs.length i).bind λj=>xs[j]?
variable{n:Nat}
theorem Dq{i:Int}(h:Aw n i=Y q):seqIndex? i n=Y q/\q < n/\-(n:Int)≤i/\i < n:=by
 unfold Aw at h;by_cases x:0≤i
 .rw [ac x]at h;by_cases h1:i < n
  .rw [ac h1]at h;have e:i.toNat=q:=b0 h;exact⟨by rw[va x h1,e],by lia,by lia,h1⟩
  .rw [ae h1]at h;cases h
 .rw [ae x]at h;by_cases h1:-(n:Int)≤i
  .rw [ac h1]at h;have e:(i+n).toNat=q:=b0 h;exact⟨by rw[zi (by lia) h1,e],by lia,h1,by lia⟩
  .rw [ae h1]at h;cases h
theorem xx{i:Int}(h:atI xs i=Y v):∃j,seqIndex? i xs.length=Y j/\xs[j]? = Y v/\j < xs.length/\-(xs.length:Int)≤i/\i < xs.length:=by
 unfold atI at h;cases e:Aw xs.length i with
 |none=>rw[e]at h;cases h
 |some j=>rw[e]at h;obtain⟨h1,h2,x,a⟩:=Dq e;exact⟨j,h1,h,h2,x,a⟩
theorem atI_last(xs:List α)(v:α):atI (xs++[v]) (-1)=Y v:=by
 have h:(xs++[v]).length=xs.length+1:=by simp
 have e:Aw (xs++[v]).length (-1)=Y xs.length:=by unfold Aw;rw[h,ae (by decide),ac (by lia)];congr 1;lia
 unfold atI;rw[e];show(xs++[v])[xs.length]? = Y v;simp
def mX(b:Expr):Prop:=∀o i,subscripted b Vm o i=operate [o,i] (getItem o i)
def EN(X:Cx)(r:R2):Prop:=
 ∀(value l:Expr)(pins:PN)(s:Shared)(J:St)(H:Hp)(x y:V)(v u:Value)(Q:VK),Inv X pins J H s->RelV x v->RelV y u->r x y H Q ->
  subscripted l Vm v u=operate [v,u] (getItem v u)->wx X (subscriptTail value l v u) (EP X pins J Q) X.xe s
def Vh(X:Cx)(id:String)(r:V->List V->Hp->VK->Prop):Prop:=
 ∀(pins:PN)(s:Shared)(J:St)(H:Hp)(x:V)(xs:List V)(v:Value)(j:LV)(Q:VK),Inv X pins J H s->RelV x v->bo xs j->r x xs H Q ->
  wx X (call (.builtin id) (v::j)) (EP X pins J Q) X.xe s
section
variable{X:Cx}{a b:Expr}{ta tb:TE}{B:Pos}
theorem EN.or(h:EN X r)(h':EN X z):EN X (λx y H Q=>r x y H Q\/z x y H Q):=by
 intro value l pins s J H x y v u Q I e n q a;rcases q with q|q
 .exact h value l pins s J H x y v u Q I e n q a
 .exact h' value l pins s J H x y v u Q I e n q a
theorem C6(f:EN X r)(n:PE X a ta)(k:PE X b tb)(c:mX b):PE X (.Subscript a b B) (Mp r ta tb):=by intro pins s J H Q I h;exact Subscript_ (Oa n k I h λv u p x y H2 e m t q=>f a b pins p J H2 x y v u Q e m t q (c _ _))
def Tc(K:FG):R2:=λx y H Q=>∃p xs i v,x=.ref p/\y=.int i/\lB K H p xs/\atI xs i=Y v/\Q v H
def S_(K:FG):R2:=λx y H Q=>∃p xs i v,x=.ref p/\y=.int i/\nu K H p xs/\atI xs i=Y v/\Q v H
def Ta:R2:=λx y H Q=>∃z i c,x=.str z/\y=.int i/\z.length≤sizeLine/\atI z.cps.toList i=Y c/\Q (.str ⟨#[c]⟩) H
theorem wW:EN X (Tc X.K):=by
 intro value c pins s J H x y v u Q I K P h m;obtain⟨p,xs,i,z,rfl,rfl,F,o,q⟩:=h;cases K;obtain⟨t,rfl⟩:=P;obtain⟨e,r,l,C⟩:=I.list F;obtain⟨j,h1,h2,A,d,g⟩:=xx o;obtain⟨w,k,n⟩:=r.get h2;have S:=r.length;have B:=l8;have f:EP X pins J Q w s:=⟨z,H,I,n,q⟩;by_cases b:0≤i
 .have a:i.toNat=j:=by
   rw[va b g]at h1;exact b0 h1
  exact item_listR l.isList b (by lia) (by rw[a];simpa using k) f m
 .have a:(i+(e.toArray.size:Int)).toNat=j:=by
   rw[zi (by lia) d]at h1;rw[bv,<- S];exact b0 h1
  exact Bs (x:=w) l.isList.typeIs Cy.lookup
   (wpAny_getItem_list_neg (Q:=λr s'=>r=w/\EP X pins J Q r s') l.isList (by lia) (by rw[bv]<;>lia) (by lia) (by rw[a];simpa using k) ⟨rfl,f⟩) m
theorem Hc:EN X (S_ X.K):=by
 intro value l pins s J H x y v u Q I g o h m;obtain⟨p,xs,i,z,rfl,rfl,c,k,q⟩:=h;cases g;obtain⟨t,rfl⟩:=o;obtain⟨d,r,e,A⟩:=I.tuple c;obtain⟨j,h1,h2,S,F,K⟩:=xx k;obtain⟨w,n,a⟩:=r.get h2;have b:=r.length;have P:=l8;have f:EP X pins J Q w s:=⟨z,H,I,a,q⟩;exact Bs (x:=w) e.typeIs jI.lookup
  (Bi (j:=j) (Q:=λr s'=>r=w/\EP X pins J Q r s') e (by lia) (by lia) (by rw[bv,<- b];exact h1) (by simpa using n) ⟨rfl,f⟩) m
theorem NC:EN X Ta:=by
 intro value l pins s J H x y v u Q I r p h m;obtain⟨z,i,c,rfl,rfl,g,f,q⟩:=h;obtain⟨t,rfl⟩:=r;obtain⟨o,rfl⟩:=p;obtain⟨j,h1,h2,d,n,k⟩:=xx f;have b:z.cps.toList.length=z.length:=by simp[nS]
 rw[b]at h1 n k;have w:=l8;exact nT (typeIs_str s z t) slot_str_getitem.lookup (getItem_str (c:=c) (by have e:decide (i < -(2 ^ 63:Int))=Vm:=bA (by lia);have a:decide (i ≥ 2 ^ 63)=Vm:=bA (by lia);rw[e,a,Bool.or_false]) (by rw[h1];simpa using h2) ⟨.str ⟨#[c]⟩,H,I.tok _,⟨_,rfl⟩,q⟩) m
theorem An(i:LV)(n j:Nat)(u:Value):kQ (·.setIfInBounds j u) { cls:=.type "list",data:=.seq i.toArray n }={ cls:=.type "list",data:=.seq (i.set j u).toArray n }:=by simp[kQ]
theorem Inv.lst(I:Inv X pins J H s)(h:H p=Y (.lst xs)) :
  ∃(i:LV)(n:Nat),bo xs i/\s.heap.get? p=Y { cls:=.type "list",data:=.seq i.toArray n }/\xs.length≤sizeLine:=by
 obtain⟨z,i,n,r,e⟩:=I.h p _ h;exact⟨i,n,r,e,z⟩
theorem Inv.lstUpd{i:LV}(I:Inv X pins J H s)(h:H p=Y (.lst xs))
  (o:s.heap.get? p=Y { cls:=.type "list",data:=.seq i.toArray n }) (a:f { cls:=.type "list",data:=.seq i.toArray n }={ cls:=.type "list",data:=.seq z.toArray N }) (r:bo ys z) (c:ys.length≤sizeLine) (t:Nat) :
  Inv X pins J (cG H p (.lst ys)) { s with heap:=s.heap.update p f,toks:=t }:=by
 have e:(s.heap.update p f).get? p=Y { cls:=.type "list",data:=.seq z.toArray N }:=by rw[vG f o (by rw[a]<;>rfl),a]
 refine I.write (x:=p) (e:=p) (by rw[h];trivial) (.inl rfl) (λb u k q=>(BL _ _ (aZ k)).trans q) ⟨_,e⟩ ?_;exact⟨c,z,N,r,e⟩
def PY:V->V->V->Hp->(Hp->Prop)->Prop:=λo i v H Q=>∃p xs k j,o=.ref p/\i=.int k/\H p=Y (.lst xs)/\Aw xs.length k=Y j/\Q (cG H p (.lst (xs.set j v)))
theorem FW:Rc X PY:=by
 intro pins s J H o i v F iv u Q I g w y h;obtain⟨p,xs,k,j,rfl,rfl,m,d,q⟩:=h;cases g;obtain⟨t,rfl⟩:=w;obtain⟨x,n,r,a,z⟩:=I.lst m;obtain⟨h1,h2,b,c⟩:=Dq d;have l:=r.length;have S:=l8;have e:Inv X pins J (cG H p (.lst (xs.set j v))) { s with heap:=s.heap.update p (kQ (·.setIfInBounds j u)) }:=
  I.lstUpd m a (An x n j u) (r.set y j) (by rw[fI];exact z) s.toks
 by_cases f:0≤k
 .have hk:k.toNat=j:=by
   rw[va f c]at h1;exact b0 h1
  exact PySem.W.ki_setAt a f (by lia) (by rw[bv,<- l];exact c) (by rw[hk];exact⟨_,e,q⟩)
 .have hk:(k+(x.toArray.size:Int)).toNat=j:=by
   rw[zi (by lia) b]at h1;rw[bv,<- l];exact b0 h1
  exact PySem.W.ki_setBack a (by lia) (by rw[bv,<- l];exact b) (by lia) (by rw[hk];exact⟨_,e,q⟩)
theorem wF(lo hi:Option Int)(n:Nat):(sliceBounds lo hi Vk n).1=((HT.gw n 0 lo:Nat):Int)/\(sliceBounds lo hi Vk n).2.1=((HT.gw n n hi:Nat):Int)/\(sliceBounds lo hi Vk n).2.2=1:=by
 refine⟨?_,?_,rfl⟩
 .cases lo with
  |none=>simp[sliceBounds,HT.gw]
  |some i=>
   simp only[sliceBounds,HT.gw,Bx,show(1:Int) > 0 by decide,iB];by_cases h:i < 0
   .simp only[h,iB]<;>lia
   .simp only[h,fH]<;>lia
 .cases hi with
  |none=>simp[sliceBounds,HT.gw]
  |some i=>
   simp only[sliceBounds,HT.gw,Bx,show(1:Int) > 0 by decide,iB];by_cases h:i < 0
   .simp only[h,iB]<;>lia
   .simp only[h,fH]<;>lia
theorem tU(i:LV)(lo hi:Option Int):slicePick i.toArray lo hi Vk=((i.drop (HT.gw i.length 0 lo)).take (HT.gw i.length i.length hi-HT.gw i.length 0 lo)).toArray:=by obtain⟨h1,h2,h⟩:=wF lo hi i.toArray.size;unfold slicePick;rw[h1,h2,h];simp only[sliceRange_one,pick_run,bv]<;>rfl
def S4(K:FG):V->Option Int->Option Int->Hp->VK->Prop:=λx lo hi H Q=>∃a xs,x=.ref a/\lB K H a xs/\∀p,H p=Vk->Q (.ref p) (cG H p (.lst (yU xs lo hi)))
theorem JE:LR X (S4 X.K):=by intro pins s J H x v m d lo hi c Q I k e p u h;obtain⟨a,xs,rfl,n,q⟩:=h;cases k;obtain⟨i,r,t,z⟩:=I.list n;have l:=r.length;refine⟨"list",_,Cy.lookup,t.isList.typeIs,?_⟩;refine wpAny_getItem_list_slice t.isList e p u .none (by simp) ?_ (by rw[bv]<;>lia);rw[tU,<- l];refine⟨.ref s.heap.objs.size,_,I.laid (t':=s.toks) (o:=.lst (yU xs lo hi)) (λb f q=>aW _ q) (az _) ?_,rfl,q _ (I.h.fresh (az _))⟩;exact⟨bf (qg xs lo hi) z,_,0,(r.drop (HT.gw xs.length 0 lo)).take (HT.gw xs.length xs.length hi-HT.gw xs.length 0 lo),bJ _ rfl⟩
theorem xt:fZ X (.builtin "len") (λxs H Q=>∃p ys,xs=[.ref p]/\(lB X.K H p ys\/nu X.K H p ys)/\Q (.int ys.length) H):=by
 intro pins s J H xs j Q I r h;obtain⟨p,ys,rfl,x,q⟩:=h;obtain⟨u,rfl,n⟩:=vals1 r;cases n;have k:=l8;rcases x with x|x
 .obtain⟨i,e,a,z⟩:=I.list x;have l:=e.length;exact Calls.call_len_list a.isList (by simp only[bv]<;>lia) ⟨.int ys.length,H,I.tok _,⟨s.toks+1,by rw[bv,l]⟩,q⟩
 .obtain⟨i,e,a,z⟩:=I.tuple x;have l:=e.length;exact len_tuple a (by simp only[bv]<;>lia) ⟨.int ys.length,H,I.tok _,⟨s.toks+1,by rw[bv,l]⟩,q⟩
theorem xp:fZ X (.builtin "len") (λxs H Q=>∃z,xs=[.str z]/\z.length≤sizeLine/\Q (.int z.length) H):=by intro pins s J H xs j Q I r h;obtain⟨z,rfl,x,q⟩:=h;obtain⟨u,rfl,t,rfl⟩:=vals1 r;have n:=l8;exact len_str (by lia) ⟨.int z.length,H,I.tok _,⟨_,rfl⟩,q⟩
theorem fZ.or(h:fZ X f r)(h':fZ X f z):fZ X f (λxs H Q=>r xs H Q\/z xs H Q):=by
 intro pins s J H xs j Q I x q;rcases q with q|q
 .exact h pins s J H xs j Q I x q
 .exact h' pins s J H xs j Q I x q
theorem lu:fZ X (.type "list") (λxs H Q=>∃p ys,xs=[.ref p]/\(lB X.K H p ys\/nu X.K H p ys)/\∀l,H l=Vk->Q (.ref l) (cG H l (.lst ys))):=by
 intro pins s J H xs j Q I r h;obtain⟨p,ys,rfl,k,q⟩:=h;obtain⟨u,rfl,w⟩:=vals1 r;cases w;have f:∀(i:LV),bo ys i->ys.length≤sizeLine->∀(h':Heap)(c:Nat),(∀b o',s.heap.get? b=Y o'->h'.get? b=Y o') ->
   h'.get? s.heap.objs.size=Y { cls:=.type "list",dict:=Vk,data:=.seq i.toArray c,slots:=#[] }->EP X pins J Q (.ref s.heap.objs.size) { s with heap:=h' }:=λi x z h' c m e=>
  ⟨.ref s.heap.objs.size,_,I.laid (t':=s.toks) m (az _) (show dj X.p X.w _ h' _ (.lst ys) from ⟨z,i,c,x,e⟩),rfl,q _ (I.h.fresh (az _))⟩
 rcases k with k|k
 .obtain⟨i,x,d,z⟩:=I.list k;have a:=x.length;obtain⟨o,v,t,n,hd⟩:=d.isList;exact Ch p (.inl rfl) v t hd (λh' c m e=>f i x z h' c m e) (by simp only[bv]<;>lia)
 .obtain⟨i,x,d,z⟩:=I.tuple k;have a:=x.length;obtain⟨o,v,t,n,hd⟩:=d;exact Ch p (.inr rfl) v t hd (λh' c m e=>f i x z h' c m e) (by simp only[bv]<;>lia)
theorem ni:fZ X (.type "tuple") (λxs H Q=>∃p ys,xs=[.ref p]/\((lB X.K H p ys/\∀l,H l=Vk->Q (.ref l) (cG H l (.tup ys)))\/(nu X.K H p ys/\Q (.ref p) H))):=by
 intro pins s J H xs j Q I r h;obtain⟨p,ys,rfl,h⟩:=h;obtain⟨u,rfl,t⟩:=vals1 r;cases t;rcases h with ⟨x,q⟩|⟨x,q⟩
 .obtain⟨i,n,a,z⟩:=I.list x;have f:=n.length;refine call_tuple_list a.isList (λh' m=>?_) (by simp only[bv]<;>lia);have k:Inv X pins J H { s with heap:=h' }:=I.kept (t':=s.toks) m;have c:Inv X pins J (cG H h'.objs.size (.tup ys)) { s with heap:=h'.push { cls:=.type "tuple",data:=.seq i.toArray } }:=
   k.laid (t':=s.toks) (λb o e=>aW _ e) (az _) (show dj X.p X.w _ _ _ (.tup ys) from ⟨z,i,n,qE.new _ _⟩)
  exact⟨.ref h'.objs.size,_,c,rfl,q _ (k.h.fresh (az _))⟩
 .obtain⟨i,n,a,z⟩:=I.tuple x;exact call_tuple_same a ⟨.ref p,H,I,rfl,q⟩
def tyV(K:FG)(T:String)(x:V)(H:Hp):Prop:=match x with
 | .str _=>T="str"
 | .int _=>T="int"
 | .ref p=>(T="list"/\∃xs,lB K H p xs)\/(T="tuple"/\∃o,K.lookup p=Y o/\o.cls=.type "tuple"/\o.dict=Vk) \/
   (T="dict"/\((∃kvs,H p=Y (.dK kvs))\/∃kvs,H p=Y (.dT kvs)))\/(T="set"/\∃S n,H p=Y (.set S n))
 |_=>False
theorem Me(I:Inv X pins J H s)(r:RelV x v)(ty:tyV X.K T x H) :
  s.TypeIs v T/\∀a,v=.ref a->∃b,s.heap.get? a=Y b/\b.dict=Vk:=by
 cases x with
 |str z=>obtain⟨t,rfl⟩:=r;cases (show T="str" from ty);exact⟨typeIs_str s z t,λ_ e=>nomatch e⟩
 |int i=>obtain⟨t,rfl⟩:=r;cases (show T="int" from ty);exact⟨zd s i t,λ_ e=>nomatch e⟩
 |ref p=>
  cases r;rcases ty with ⟨rfl,xs,q⟩|⟨rfl,o,hk,k,hd⟩|⟨rfl,hk⟩|⟨rfl,S,n,hk⟩
  .obtain⟨f,_,l,_⟩:=I.list q;refine⟨l.isList.typeIs,λa e=>?_⟩;cases e;obtain⟨o,n,e,c,hd,_⟩:=l;exact⟨o,e,hd⟩
  .refine⟨⟨o,I.kIn p o hk,k⟩,λa e=>?_⟩;cases e;exact⟨o,I.kIn _ o hk,hd⟩
  .have z:∃o,s.heap.get? p=Y o/\o.ExactDict:=by
    rcases hk with ⟨kvs,hk⟩|⟨kvs,hk⟩
    .obtain⟨_,_,_,_,o,_,_,e,ex,_⟩:=I.h p _ hk;exact⟨o,e,ex⟩
    .obtain⟨_,_,_,_,o,_,_,e,ex,_⟩:=I.h p _ hk;exact⟨o,e,ex⟩
   obtain⟨o,e,ex⟩:=z;refine⟨⟨o,e,ex.1⟩,λa h=>?_⟩;cases h;exact⟨o,e,ex.2.1⟩
  .obtain⟨o,_,_,_,e,ex,_⟩:=I.h p _ hk;refine⟨⟨o,e,ex.1⟩,λa h=>?_⟩;cases h;exact⟨o,e,ex.2.1⟩
 |_=>exact False.elim ty
noncomputable def UP(K:FG)(T:String)(r:V->List V->Hp->VK->Prop)(to:TE)(t:TA):TE:=λJ H Q=>to J H λx G=>tyV K T x G/\t J G λxs H2=>r x xs H2 Q
variable{o e:Expr}{es:Ab}{to:TE}{t:TA}{name:Str}{apos cpos:Pos}{T id:String}{r:V->List V->Hp->VK->Prop}
theorem Lp(w:PlainAttrs T)(slot:Slot T name id)(y:typeOf (.builtin id)=pure (.type "method_descriptor"))(m:Vh X id r)(q:PE X o to)(c:PA X (e::es) t)
  (b:attributeBase o name X.e (eval o X.e)=eval o X.e:=by rfl)
  (f:((backTo cpos (starEach (e::es) X.e)).all (fun x=>!x.1) && (backToKw cpos (keywordEach [] X.e)).all (fun x=>x.1.isSome)
   && decide ((e::es).length+([]:List Keyword).length+(if ([]:List Keyword).isEmpty then 0 else 1) < 30))=Vl:=by rfl)
  (l:(apos.endLine == cpos.line)=Vl:=by rfl) (d:starEach (e::es) X.e=(Vm,eval e X.e)::starEach es X.e:=by rfl) (p:(backTo cpos (starEach es X.e)).any (·.1)=Vm:=by rfl) :
  PE X (.Call (.Attribute o name apos) (e::es) [] cpos) (UP X.K T r to t):=by
 intro pins s J H Q I h;refine E7 b f l rfl (dO (q pins s J H _ I h) λv S z=>?_);obtain⟨x,G,a,n,ty,u⟩:=z;obtain⟨h1,h2⟩:=Me a n ty;refine⟨T,id,w,slot,y,h1,h2,?_⟩;have A:=c cpos pins S J G _ a u;rw[d]at A ⊢;refine nW (by show(Vm ||(backTo cpos (starEach es X.e)).any (·.1))=Vm;rw[p]<;>rfl) (nV ?_);exact dO A λj F z=>by obtain⟨K,H2,k,i,g⟩:=z;exact m pins F J H2 x K v j Q k n i g
end
def Ux(X:Cx)(id:String)(r:V->List V->Hp->VK->Prop):Prop:=
 ∀(pins:PN)(s:Shared)(J:St)(H:Hp)(x:V)(xs:List V)(v:Value)(j:LV)(Q:VK),Inv X pins J H s->RelV x v->bo xs j->r x xs H Q ->
  wx X (call (.builtin id) (v::j)) (EP X pins J Q) X.xe s
theorem bo.one:∀{x:V}{j:LV},bo [x] j->∃u,j=[u]/\RelV x u
 |_,_,.cons r .nil=>⟨_,rfl,r⟩
theorem bo.rep(h:bo xs j):∀k:Nat,bo (List.replicate k xs).flatten (List.replicate k j).flatten
 |0=>.nil
 |k+1=>by rw[gq,gq,mO,mO];exact bo.append h (bo.rep h k)
theorem foldl_rep(i:LV):∀(k:Nat)(a:LV),
  vL (λx s=>x++s) a.toArray (List.replicate k i.toArray)=(a++(List.replicate k i).flatten).toArray
 |0,a=>by simp
 |k+1,a=>by
  have e:a.toArray++i.toArray=(a++i).toArray:=by simp
  have h:(a++i)++(List.replicate k i).flatten=a++(List.replicate (k+1) i).flatten:=by rw[gq,mO,gW]
  rw[<- h,<- foldl_rep i k (a++i),<- e,gq,i_]
section
variable{X:Cx}{pins:PN}{J:St}{H:Hp}{s:Shared}{l b:Addr}{xs ys zs:List V}
theorem Inv.lset{i:LV}{t:Nat}(I:Inv X pins J H s)(h:H l=Y (.lst xs))
  (e:s.heap.get? l=Y { cls:=.type "list",data:=.seq i.toArray n }) (a:f i.toArray=z.toArray) (v:bo ys z) (c:ys.length≤sizeLine) :
  Inv X pins J (cG H l (.lst ys)) { s with heap:=s.heap.update l (kQ f),toks:=t }:=by
 have q:=PySem.IsL.update e f;rw[a]at q;refine I.write (x:=l) (e:=l) (by rw[h];exact trivial) (.inl rfl) (λm u b k=>(BL s.heap (kQ f) (aZ b)).trans k) ⟨_,q⟩ ?_;exact⟨c,z,_,v,q⟩
theorem Inv.lnew{t:Nat}(I:Inv X pins J H s)(h:bo ys z)(x:ys.length≤sizeLine) :
  Inv X pins J (cG H s.heap.objs.size (.lst ys)) { s with heap:=s.heap.push { cls:=.type "list",data:=.seq z.toArray },toks:=t }:=
 I.laid (λ_ _ q=>aW _ q) (az _) ⟨x,z,0,h,bJ _ rfl⟩
theorem Inv.fresh(I:Inv X pins J H s):H s.heap.objs.size=Vk:=I.h.fresh (az _)
theorem Inv.lstM(I:Inv X pins J H s)(h:H l=Y (.lst xs)):xs.length≤sizeLine/\∃(i:LV)(n:Nat),bo xs i/\xs.length=i.length/\s.heap.get? l=Y { cls:=.type "list",data:=.seq i.toArray n }:=by obtain⟨z,i,n,r,e⟩:=I.h l _ h;exact⟨z,i,n,r,r.length,e⟩
theorem ye(h:n≤sizeLine):qI n=Vm:=by unfold qI;exact bA (by lia)
end
section
variable{X:Cx}
def JR:V->List V->Hp->VK->Prop:=λx v H Q=>∃l xs y,x=.ref l/\v=[y]/\H l=Y (.lst xs)/\xs.length < sizeLine/\Q .non (cG H l (.lst (xs++[y])))
theorem uM:Ux X "list.append" JR:=by intro pins s J H x t v j Q I b f h;obtain⟨l,xs,y,rfl,rfl,a,m,q⟩:=h;cases b;obtain⟨u,rfl,k⟩:=f.one;obtain⟨z,i,n,r,c,e⟩:=I.lstM a;refine nv A9 ⟨_,e,rfl⟩ F.entry_list_append (F.args_list_append_2 _ _) (PySem.list_append l i.toArray n u (by rw[bv];lia)) ⟨e,?_⟩;refine⟨.non,_,I.lset (z:=i++[u]) a e (by simp) (r.append (.cons k .nil)) ?_,rfl,q⟩;rw[bK,List.length_singleton];lia
def JQ:V->List V->Hp->VK->Prop:=λx v H Q=>∃l b xs zs,x=.ref l/\v=[.ref b]/\H l=Y (.lst xs)/\H b=Y (.lst zs)/\xs.length+zs.length≤sizeLine/\Q .non (cG H l (.lst (xs++zs)))
theorem Ec:Ux X "list.extend" JQ:=by
 intro pins s J H x K v j Q I g w h;obtain⟨l,b,xs,zs,rfl,rfl,k,hB,S,q⟩:=h;cases g;obtain⟨u,rfl,d⟩:=w.one;cases d;obtain⟨z,t,n,r,y,e⟩:=I.lstM k;obtain⟨P,i,m,p,c,f⟩:=I.lstM hB;have a:t.toArray.size+i.toArray.size≤sizeLine:=by rw[bv,bv];lia
 have o:¬(!t.toArray.isEmpty && qI (t.toArray.size+i.toArray.size))=Vl:=by rw[ye a,Bool.and_false];exact bU
 refine nv A_ ⟨_,e,rfl⟩ F.entry_list_extend (F.args_list_extend_2 _ _)
  (AutoSeq1.list_extend_list_list_0 l t.toArray n b i.toArray m o (by rw[bv];lia) (by lia)) ⟨e,f,?_⟩
 refine⟨.non,_,I.lset (z:=t++i) k e (by simp) (r.append p) ?_,rfl,q⟩;rw[bK];lia
def Td:R2:=λx y H Q=>∃l b xs zs,x=.ref l/\y=.ref b/\H l=Y (.lst xs)/\H b=Y (.lst zs)/\xs.length+zs.length≤sizeLine/\∀p,H p=Vk->Q (.ref p) (cG H p (.lst (xs++zs)))
theorem Ni:jZ X (binaryOp .Add) Td:=by
 intro pins s J H x y v u Q I p d h;obtain⟨l,b,xs,zs,rfl,rfl,f,hB,g,q⟩:=h;cases p;cases d;obtain⟨z,t,n,r,w,e⟩:=I.lstM f;obtain⟨o,i,j,m,c,a⟩:=I.lstM hB;refine PySem.P.add_list e a ?_ (by rw[bv,bv];lia);have k:t.toArray++i.toArray=(t++i).toArray:=by simp
 rw[k];exact⟨.ref _,_,I.lnew (t:=s.toks) (r.append m) (by rw[bK];lia),rfl,q _ I.fresh⟩
def S6:R2:=λx y H Q=>∃l k xs,x=.ref l/\y=.int k/\H l=Y (.lst xs)/\-(2 ^ 63)≤k/\k < 2 ^ 63/\xs.length * k.toNat≤sizeLine /\
 ∀p,H p=Vk->Q (.ref p) (cG H p (.lst (List.replicate k.toNat xs).flatten))
theorem Kr(xs:List α)(k:Nat):(List.replicate k xs).flatten.length=k * xs.length:=by
 induction k with
 |zero=>simp
 |succ k i=>rw[gq,mO,bK,i,BE,Nat.add_comm]
theorem Nd:jZ X (binaryOp .Mult) S6:=by
 intro pins s J H x y v u Q I P A h;obtain⟨l,k,xs,rfl,rfl,S,h1,h2,g,q⟩:=h;cases P;obtain⟨t,rfl⟩:=A;obtain⟨z,i,n,r,K,e⟩:=I.lstM S;have b:i.toArray.size * k.toNat≤sizeLine:=by rw[bv,<- K];exact g
 have c:¬i.toArray.size * k.toNat > (2 ^ 63-1) / 8:=by
  have:(sizeLine:Nat)≤(2 ^ 63-1) / 8:=by decide
  lia
 have f:¬(!Builtin.List.listFitsIndex k)=Vl:=by rw[fitsIndex_both h1 h2];exact bU
 have o:¬qI (i.toArray.size * k.toNat)=Vl:=by rw[ye b];exact bU
 have w:vL (λp d=>p++d) #[] (List.replicate (if i.toArray.isEmpty=Vl then 0 else k.toNat) i.toArray)=(List.replicate k.toNat i).flatten.toArray:=by
  have j:∀m:Nat,vL (λp d=>p++d) #[] (List.replicate m i.toArray)=(List.replicate m i).flatten.toArray:=λm=>by have:=foldl_rep i m [];rw[cS]at this;exact this
  rw[j];cases i with
  |nil=>simp
  |cons a B=>rw[ae (by simp)]
 refine wpAny_binaryOp_repeat_ref (T:="list") (U:="int") (by decide) ⟨_,e,rfl⟩ (λs'=>zd s' k t) noFill_list_mul F.fills_int_mul A6 repeat_list F.slot_int_index.lookup
  (nv A6 (zd s k t) F.entry_int_rmul (F.args_int_rmul_2 _ _) (int___rmul___int_list k t l i.toArray n)
   ⟨e,rfl,⟨_,e,rfl⟩,nv F.slot_list_mul ⟨_,e,rfl⟩ F.entry_list_mul (F.args_list_mul_2 _ _) (AutoListH.list___mul___list_int_3 l i.toArray n k t f c o) ⟨e,?_⟩⟩)
 rw[w];exact⟨.ref _,_,I.lnew (t:=s.toks) (r.rep k.toNat) (by rw[Kr,mI];exact g),rfl,q _ I.fresh⟩
end
section
variable{κ:Type}[DecidableEq κ]
noncomputable def iG(kvs:List (κ×V))(k:κ):Option V:=(kvs.find? λv=>decide (v.1=k)).map (·.2)
noncomputable def putK(kvs:List (κ×V))(k:κ)(v:V):List (κ×V):=
 if (kvs.any λh=>decide (h.1=k))=Vl then kvs.map (λh=>if h.1=k then (h.1,v) else h) else kvs++[(k,v)]
theorem jn{p:κ×V}{r:List (κ×V)}{k:κ}(e:p.1=k):iG (p::r) k=Y p.2:=by simp[iG,iC,e]
theorem iF{p:κ×V}{r:List (κ×V)}{k:κ}(e:¬p.1=k):iG (p::r) k=iG r k:=by simp[iG,iC,e]
theorem xQ(k:κ):∀kvs:List (κ×V),(kvs.any λv=>decide (v.1=k))=(iG kvs k).isSome
 | []=>rfl
 |p::r=>by
  rw[eY];by_cases e:p.1=k
  .simp only[jn e,eF e,Bool.true_or,Option.isSome_some]
  .rw [iF e,bA e,mS];exact xQ k r
theorem l_(kvs:List (κ×V))(k:κ)(v:V):(putK kvs k v).length≤kvs.length+1:=by
 unfold putK;split
 .rw [aH];lia
 .rw [bK,aS,i'];lia
theorem lN.isSome_eq(r:lN o u):o.isSome=u.isSome:=by
 cases o with
 |none=>cases u with
  |none=>rfl
  |some _=>exact(show False from r).elim
 |some _=>cases u with
  |none=>exact(show False from r).elim
  |some _=>rfl
theorem lN.getD(r:lN o u)(h:RelV d q):RelV (o.getD d) (u.getD q):=by
 cases o with
 |none=>cases u with
  |none=>exact h
  |some _=>exact(show False from r).elim
 |some _=>cases u with
  |none=>exact(show False from r).elim
  |some _=>exact r
theorem KV.val{kvs:List (κ×V)}{v:List (κ×Value)}(r:KV kvs v)(k:κ):lN (iG kvs k) (valueAt v k):=by
 unfold KV at r;induction r with
 |nil=>exact True.intro
 | @cons p q ps qs h t i=>
  obtain⟨h1,h2⟩:=h;by_cases e:p.1=k
  .have x:q.1=k:=h1.symm.trans e;have b:valueAt (q::qs) k=Y q.2:=by simp[valueAt,iC,x]
   rw[jn e,b];exact h2
  .have x:¬q.1=k:=λz=>e (h1.trans z);have b:valueAt (q::qs) k=valueAt qs k:=by simp[valueAt,iC,x]
   rw[iF e,b];exact i
theorem KV.any(r:KV kvs q)(k:κ):(kvs.any λv=>decide (v.1=k))=q.any λv=>decide (v.1=k):=by
 unfold KV at r;induction r with
 |nil=>rfl
 |cons h t i=>rw[eY,eY,i,h.1]
theorem KV.repl(r:KV kvs I)(k:κ)(x:RelV y u) :
  KV (kvs.map λv=>if v.1=k then (v.1,y) else v) (I.map λv=>if v.1=k then (v.1,u) else v):=by
 unfold KV at r ⊢;induction r with
 |nil=>exact .nil
 | @cons p q ps qs h t i=>
  rw[aC,aC];refine .cons ?_ i;obtain⟨h1,h2⟩:=h;by_cases e:p.1=k
  .rw [ac e,ac (h1.symm.trans e)];exact⟨h1,x⟩
  .rw [ae e,ae (λz=>e (h1.trans z))];exact⟨h1,h2⟩
theorem KV.put(r:KV kvs q)(k:κ)(h:RelV y u):KV (putK kvs k y) (stored q k u):=by
 unfold putK stored;rw[r.any k];by_cases e:(q.any λv=>decide (v.1=k))=Vl
 .rw [ac e,ac e];exact r.repl k h
 .rw [ae e,ae e];exact Paired.snoc r ⟨rfl,h⟩
theorem KV.length(r:KV kvs q):kvs.length=q.length:=Paired.length r
end
variable{w:World}{u:Value}
theorem p9(r:RelV (kV k) u):(cH P w).is k u=Vl:=by
 cases k with
 |inl i=>obtain⟨t,e⟩:=(show ∃t,u=Value.int i t from r);subst e;exact yk P w i t
 |inr x=>obtain⟨t,e⟩:=(show ∃t,u=Value.str x t from r);subst e;exact yj P w x t
theorem uQ:∀{ks:List ci}{j:LV},bo (ks.map kV) j->ItemsAre (cH P w) ks j
 | [],_,r=>by rw[gn]at r;cases r;exact .nil
 |k::ks,_,r=>by
  rw[aC]at r;cases r with
  |cons h t=>exact .cons (p9 h) (uQ t)
abbrev KT(H:Hp):List (List ci×V)->List (List ci×Addr×Value)->Prop:=Paired λp q=>p.1=q.1/\H q.2.1=Y (.tup (p.1.map kV))/\RelV p.2 q.2.2
theorem KT.val{H:Hp}{kvs:List (List ci×V)}{xs:List (List ci×Addr×Value)}(r:KT H kvs xs)(k:List ci):lN (iG kvs k) ((atKey xs k).map (·.2)):=by
 induction r with
 |nil=>exact True.intro
 | @cons p q ps qs h t i=>
  obtain⟨h1,_,h2⟩:=h;by_cases e:p.1=k
  .have x:q.1=k:=h1.symm.trans e;have b:atKey (q::qs) k=Y q.2:=by simp[atKey,iC,x]
   rw[jn e,b];exact h2
  .have x:¬q.1=k:=λz=>e (h1.trans z);have b:atKey (q::qs) k=atKey qs k:=by simp[atKey,iC,x]
   rw[iF e,b];exact i
variable{H:Hp}{kvs:List (List ci×V)}{xs:List (List ci×Addr×Value)}{y:V}
theorem KT.repl(r:KT H kvs xs)(k:List ci)(a:RelV y u) :
  KT H (kvs.map λv=>if v.1=k then (v.1,y) else v) (xs.map (putAt k u)):=by
 induction r with
 |nil=>exact .nil
 | @cons p q ps qs h t i=>
  rw[aC,aC];refine .cons ?_ i;obtain⟨h1,h2,x⟩:=h;unfold putAt;by_cases e:p.1=k
  .rw [ac e,ac (h1.symm.trans e)];exact⟨h1,h2,a⟩
  .rw [ae e,ae (λz=>e (h1.trans z))];exact⟨h1,h2,x⟩
theorem KT.put(r:KT H kvs xs)(k:List ci)(x:H b=Y (.tup (k.map kV)))(h:RelV y u) :
  KT H (putK kvs k y) (storedH xs k b u):=by
 have e:(kvs.any λv=>decide (v.1=k))=(atKey xs k).isSome:=by rw[xQ,(r.val k).isSome_eq,By]
 unfold putK storedH;rw[e];by_cases q:(atKey xs k).isSome=Vl
 .rw [ac q,ac q];exact r.repl k h
 .rw [ae q,ae q];exact Paired.snoc r ⟨rfl,x,h⟩
theorem KT.keeps(r:KT H kvs xs)(h:∀b ys,H b=Y (.tup ys)->H' b=Y (.tup ys)):KT H' kvs xs:=
 Paired.mapP r λ_ _ z=>⟨z.1,h _ _ z.2.1,z.2.2⟩
section
variable{P:Program}{w:World}{H:Hp}{h:Heap}{a:Addr}
theorem rd_of{u:HO}(ok:mY P w H h)(e:Rd H a u):dj P w H h a u:=e.ok ok
theorem uW{kvs:List (ci×V)}(ok:mY P w H h)(e:Rd H a (.dK kvs)):kvs.length≤sizeLine/\(a == sysModules)=Vm/\∃vs,KV kvs vs/\h.DictOf (cH P w) a vs:=
 show dj P w H h a (.dK kvs) from rd_of ok e
theorem LK{kvs:List (ci×V)}(ok:mY P w H h)(e:H a=Y (.dK kvs)):kvs.length≤sizeLine/\(a == sysModules)=Vm/\∃v,KV kvs v/\h.DictOf (cH P w) a v:=uW ok (.inl e)
theorem pJ(ok:mY P w H h)(e:H a=Y (.tup (ks.map kV))):(tupleKind (cH P w)).is h ks a:=by obtain⟨_,i,r,o,h1,⟨h2,n,x⟩,_⟩:=(show dj P w H h a (.tup (ks.map kV)) from ok a _ e);exact⟨o,i.toArray,n,h1,h2,x,by simpa using uQ r⟩
theorem uV(ok:mY P w H h)(e:Rd H a (.dT kvs)):kvs.length≤sizeLine/\(a == sysModules)=Vm /\
  ∃xs,KT H kvs xs/\h.DictOfH (tupleKind (cH P w)) a xs:=by
 obtain⟨z,y,xs,r,o,es,k,h1,h2,f,b,c⟩:=(show dj P w H h a (.dT kvs) from rd_of ok e);refine⟨z,y,xs,r,o,es,k,h1,h2,f,b,λx s=>?_,c⟩;have all:∀{l:List (List ci×V)}{m:List (List ci×Addr×Value)},KT H l m->∀x ∈ m,(tupleKind (cH P w)).is h x.1 x.2.1:=by
  intro l m q;induction q with
  |nil=>intro x s;exact nomatch s
  | @cons p q ps qs n t i=>
   intro x s;rcases bc.mp s with e|s
   .subst e;exact pJ ok (by rw[<- n.1];exact n.2.1)
   .exact i x s
 exact all r x s
theorem QS(ok:mY P w H h)(e:H a=Y (.dT kvs)):kvs.length≤sizeLine/\(a == sysModules)=Vm /\
  ∃xs,KT H kvs xs/\h.DictOfH (tupleKind (cH P w)) a xs:=uV ok (.inl e)
end
def lD(H:Hp)(a:Addr)(y:V)(r:Option V):Prop:=
 (∃kvs k,Rd H a (.dK kvs)/\y=kV k/\r=iG kvs k)\/∃kvs k b,Rd H a (.dT kvs)/\y=.ref b/\H b=Y (.tup (k.map kV))/\r=iG kvs k
def y7(H:Hp)(a:Addr)(y v:V)(H':Hp):Prop:=
 (∃kvs k,H a=Y (.dK kvs)/\y=kV k/\kvs.length < sizeLine/\H'=cG H a (.dK (putK kvs k v))) \/
 ∃kvs k b,H a=Y (.dT kvs)/\y=.ref b/\H b=Y (.tup (k.map kV))/\kvs.length < sizeLine/\H'=cG H a (.dT (putK kvs k v))
theorem lD.k{H:Hp}{a:Addr}{kvs:List (ci×V)}{k:ci}(e:H a=Y (.dK kvs)):lD H a (kV k) (iG kvs k):=.inl ⟨kvs,k,.inl e,rfl,rfl⟩
theorem lD.t{H:Hp}{a b:Addr}{kvs:List (List ci×V)}{k:List ci}(e:H a=Y (.dT kvs))(h:H b=Y (.tup (k.map kV))):lD H a (.ref b) (iG kvs k):=.inr ⟨kvs,k,b,.inl e,rfl,h,rfl⟩
theorem y7.k{H:Hp}{a:Addr}{kvs:List (ci×V)}{k:ci}{v:V}(e:H a=Y (.dK kvs))(h:kvs.length < sizeLine):y7 H a (kV k) v (cG H a (.dK (putK kvs k v))):=.inl ⟨kvs,k,e,rfl,h,rfl⟩
theorem y7.t{H:Hp}{a b:Addr}{kvs:List (List ci×V)}{k:List ci}{v:V}(e:H a=Y (.dT kvs))(h:H b=Y (.tup (k.map kV)))(l:kvs.length < sizeLine) :
  y7 H a (.ref b) v (cG H a (.dT (putK kvs k v))):=.inr ⟨kvs,k,b,e,rfl,h,l,rfl⟩
section
variable{X:Cx}{pins:PN}{J:St}{H:Hp}{s:Shared}{a:Addr}{y v:V}{u r:Value}{o:Option V}{A:Around}{E:VP}
theorem Inv.big(I:Inv X pins J H s):sysModules < s.heap.objs.size:=by have h:mainGlobals < s.heap.objs.size:=(I.mod.glob.keeps I.bk).lt;exact mG (by decide) h
theorem uX(q:A.units+1 < cLine)(I:Inv X pins J H s)(g:lD H a y (Y v))(c:RelV y u)(h:∀x s',Inv X pins J H s'->RelV v x->Q x s') :
  wpAny (model X.p X.w) A (getItem (.ref a) u) Q E s:=by
 rcases g with ⟨kvs,k,e,n,l⟩|⟨kvs,k,b,e,n,m,l⟩
 .subst n;obtain⟨z,hd,i,r,d⟩:=uW I.h e;obtain⟨x,hw,w⟩:=lN.some_of (v:=v) (o:=valueAt i k) (by rw[l];exact r.val k);exact wpAny_getItem_of (p9 c) d.mapOf hw (h x _ (I.tok _) w)
 .subst n;cases (show u=Value.ref b from c);obtain⟨z,hd,xs,r,d⟩:=uV I.h e;obtain⟨x,hw,w⟩:=lN.some_of (v:=v) (o:=(atKey xs k).map (·.2)) (by rw[l];exact r.val k);obtain⟨p,t,f⟩:=eE.mp hw;refine EU (rW q) (pJ I.h m) d t ?_;rw[f];exact h x _ (I.tok _) w
theorem TM(c:A.units+1 < cLine)(I:Inv X pins J H s)(g:lD H a y o)(n:RelV y u)(h:∀s',Inv X pins J H s'->Q (.bool o.isSome) s') :
  wpAny (model X.p X.w) A (compareOp .In u (.ref a)) Q E s:=by
 rcases g with ⟨kvs,k,e,x,l⟩|⟨kvs,k,b,e,x,f,l⟩
 .subst x;obtain⟨z,hd,v,r,d⟩:=uW I.h e;refine wpAny_in_of (p9 n) hd d.mapOf ?_;rw[<- (r.val k).isSome_eq,<- l];exact h _ (I.tok _)
 .subst x;cases (show u=Value.ref b from n);obtain⟨z,hd,xs,r,d⟩:=uV I.h e;refine wpAny_in_heap (rW c) (pJ I.h f) hd d ?_;have q:=(r.val k).isSome_eq;rw[By]at q;rw[<- q,<- l];exact h _ (I.tok _)
theorem rL{t:Nat}(I:Inv X pins J H s)(m:Rh (H a))(f:gm a s.heap h')(k:∃q,h'.get? a=Y q)(n:dj X.p X.w (cG H a N) h' a N) :
  Inv X pins J (cG H a N) { s with heap:=h',toks:=t }:=
 I.write (x:=a) (e:=a) m (.inl rfl) (λb q h z=>(f.2 b h).trans z) k n
theorem HJ{P:Program}{w:World}{H':Hp}{h':Heap}{kvs:List (ci×V)}{v:List (ci×Value)}(z:kvs.length≤sizeLine)(hd:(a == sysModules)=Vm)(r:KV kvs v)(d:h'.DictOf (cH P w) a v) :
  dj P w H' h' a (.dK kvs):=⟨z,hd,v,r,d⟩
theorem Eu{H':Hp}{Q:Unit->Shared->Prop}(hu:A.units+1 < cLine)(I:Inv X pins J H s)(g:y7 H a y v H')(ry:RelV y u)(rv:RelV v r)(h:∀s',Inv X pins J H' s'->Q () s') :
  wpAny (model X.p X.w) A (setItem (.ref a) u r) Q E s:=by
 rcases g with ⟨kvs,k,e,ey,l,eH⟩|⟨kvs,k,b,e,ey,eb,l,eH⟩
 .subst ey eH;obtain⟨z,hd,vs,rel,dd⟩:=LK I.h e;have hz:vs.length≤sizeLine:=by rw[<- rel.length];exact z
  have hl:(putK kvs k v).length≤sizeLine:=by have:=l_ kvs k v;lia
  refine wpAny_setItem_pairs (hsz:=hz) (p9 ry) dd λh' dd' hs=>h _ ?_;have he:∃q,h'.get? a=Y q:=let ⟨q,_,_,hq,_⟩:=dd';⟨q,hq⟩
  exact rL I (by rw[e];exact True.intro) hs he (HJ hl hd (rel.put k rv) dd')
 .subst ey eH;cases (show u=Value.ref b from ry);obtain⟨z,hd,xs,rel,dd⟩:=QS I.h e;have hz:xs.length≤sizeLine:=by rw[<- Paired.length rel];exact z
  have hl:(putK kvs k v).length≤sizeLine:=by have:=l_ kvs k v;lia
  refine EW (hsz:=hz) (rW hu) (pJ I.h eb) dd λh' dd' hs=>h _ ?_;obtain⟨q,es,ep,hq,h2,h3,h4,_,h5⟩:=dd';refine rL I (by rw[e];exact True.intro) hs ⟨q,hq⟩ ⟨hl,hd,_,(rel.put k eb rv).keeps λc ys ec=>?_,q,es,ep,hq,h2,h3,h4,h5⟩;rw[aJ (Qq ec e (λz=>nomatch z))];exact ec
end
noncomputable def PM(td ty tv:TE):TS:=λD J H=>tv J H λv G=>td J G λx H2=>ty J H2 λy e=>∃a h,x=.ref a/\y7 e a y v h/\D.nx J h
section
variable{X:Cx}{o i e value:Expr}{B pos' tpos:Pos}{td ty tv:TE}
theorem C4(t:X.A.units+1 < cLine)(c:PE X o td)(hi:PE X i ty)(p:PE X value tv)(m:swapsWith value (Y (.Subscript o i pos')) B.line X.e=pure Vm) :
  PS X (.Assign [.Subscript o i pos'] value B) (PM td ty tv):=by
 intro pins s J H D I h;refine E6 (dO (p pins s J H _ I h) λr F ⟨v,G,n,j,q⟩=>dO (c pins F J G _ n q) λu K ⟨x,H2,k,l,d⟩=>dO (hi pins K J H2 _ k d) λiv A z=>?_) m;obtain⟨y,P,f,S,a,e,ex,g,w⟩:=z;subst ex;obtain rfl:u=Value.ref a:=l;exact Eu t f g S j λC b=>⟨J,e,b,w⟩
end
theorem HK(h:Heap)(b:sysModules < h.objs.size):dj P w H (h.push { cls:=.type "dict",data:=.dict #[] }) h.objs.size (.dK []):=
 ⟨cO _,jL.mpr (aZ (bG b)),[],.nil,Heap.DictOf.new h⟩
theorem HG(h:Heap)(b:sysModules < h.objs.size):dj P w H (h.push { cls:=.type "dict",data:=.dict #[] }) h.objs.size (.dT []):=
 ⟨cO _,jL.mpr (aZ (bG b)),[],.nil,_,#[],0,bJ _ rfl,⟨rfl,rfl,rfl⟩,rfl,rfl,vM⟩
def Mu:TE:=λ_ H Q=>∀p,H p=Vk->Q (.ref p) (cG H p (.dK []))
def Mr:TE:=λ_ H Q=>∀p,H p=Vk->Q (.ref p) (cG H p (.dT []))
section
variable{X:Cx}{B:Pos}
theorem GB:PE X (.Dict [] [] B) Mu:=λpins s J H Q I h=>
 zu ⟨.ref s.heap.objs.size,_,I.laid (a:=s.heap.objs.size) (o:=.dK []) (t':=s.toks) (λ_ _ q=>aW _ q) (az _) (HK s.heap I.big),rfl,h _ (I.h.fresh (az _))⟩
theorem Gz:PE X (.Dict [] [] B) Mr:=λpins s J H Q I h=>
 zu ⟨.ref s.heap.objs.size,_,I.laid (a:=s.heap.objs.size) (o:=.dT []) (t':=s.toks) (λ_ _ q=>aW _ q) (az _) (HG s.heap I.big),rfl,h _ (I.h.fresh (az _))⟩
end
structure M1(X:Cx)(o:Expr)(m:Str)(apos:Pos)(e:Expr)(cpos:Pos):Prop where
 base:attributeBase o m X.e (eval o X.e)=eval o X.e
 few:((backTo cpos (starEach [e] X.e)).all (fun x=>!x.1) && (backToKw cpos (keywordEach [] X.e)).all (fun x=>x.1.isSome)
  && decide (([e]:Ab).length+([]:List Keyword).length+(if ([]:List Keyword).isEmpty then 0 else 1) < 30))=Vl
 line:(apos.endLine == cpos.line)=Vl
 trees:backTo cpos (starEach [e] X.e)=[(Vm,eval e X.e)]
structure M2(X:Cx)(o:Expr)(m:Str)(apos:Pos)(e f:Expr)(cpos:Pos):Prop where
 base:attributeBase o m X.e (eval o X.e)=eval o X.e
 few:((backTo cpos (starEach [e,f] X.e)).all (fun x=>!x.1) && (backToKw cpos (keywordEach [] X.e)).all (fun x=>x.1.isSome)
  && decide (([e,f]:Ab).length+([]:List Keyword).length+(if ([]:List Keyword).isEmpty then 0 else 1) < 30))=Vl
 line:(apos.endLine == cpos.line)=Vl
 trees:backTo cpos (starEach [e,f] X.e)=[(Vm,eval e X.e),(Vm,eval f X.e)]
def T6(H:Hp)(a:Addr):Prop:=(∃kvs,Rd H a (.dK kvs))\/∃kvs,Rd H a (.dT kvs)
variable{pins:PN}{J:St}{s:Shared}
theorem AB(I:Inv X pins J H s)(d:T6 H a) :
  s.TypeIs (.ref a) "dict"/\(∀b,Value.ref a=.ref b->∃o,s.heap.get? b=Y o/\o.dict=Vk)/\(a == sysModules)=Vm:=by
 rcases d with ⟨kvs,e⟩|⟨kvs,e⟩
 .obtain⟨_,hd,v,_,h⟩:=uW I.h e;refine⟨h.typeIs,λb q=>?_,hd⟩;cases q;obtain⟨o,_,_,h1,h2,_⟩:=h;exact⟨o,h1,h2.2.1⟩
 .obtain⟨_,hd,xs,_,h⟩:=uV I.h e;refine⟨h.typeIs,λb q=>?_,hd⟩;cases q;obtain⟨o,_,_,h1,h2,_⟩:=h;exact⟨o,h1,h2.2.1⟩
section
variable{X:Cx}{pins:PN}{J:St}{H:Hp}{s:Shared}{a:Addr}{y d:V}{u r:Value}{o:Option V}{A:Around}{E:VP}
theorem NX(c:A.units+1 < cLine)(I:Inv X pins J H s)(g:lD H a y o)(n:RelV y u)(h:∀w s',Inv X pins J H s'->RelV (o.getD .non) w->Q w s') :
  wpAny (model X.p X.w) A (call (.builtin "dict.get") [.ref a,u]) Q E s:=by
 rcases g with ⟨kvs,k,e,x,l⟩|⟨kvs,k,b,e,x,f,l⟩
 .subst x;obtain⟨z,hd,v,r,d⟩:=uW I.h e;refine pb mE d.typeIs qK (Bd _ _) (meets_dict_get (cH X.p X.w) a (p9 n) hd) ⟨_,d.mapOf,h _ _ (I.tok _) ?_⟩;rw[l];exact(r.val k).getD rfl
 .subst x;cases (show u=Value.ref b from n);obtain⟨z,hd,xs,r,d⟩:=uV I.h e;refine pb mE d.typeIs qK (Bd _ _) (meetsH_dict_get (tupleKind (cH X.p X.w)) a b hd) ⟨rW c,k,xs,pJ I.h f,d,h _ _ (I.tok _) ?_⟩;rw[l];exact(r.val k).getD rfl
theorem NW(p:A.units+1 < cLine)(I:Inv X pins J H s)(g:lD H a y o)(m:RelV y u)(c:RelV d r)(h:∀w s',Inv X pins J H s'->RelV (o.getD d) w->Q w s') :
  wpAny (model X.p X.w) A (call (.builtin "dict.get") [.ref a,u,r]) Q E s:=by
 rcases g with ⟨kvs,k,e,f,l⟩|⟨kvs,k,b,e,f,t,l⟩
 .subst f;obtain⟨z,hd,v,x,n⟩:=uW I.h e;refine pb mE n.typeIs qK (Be _ _ _) (meets_dict_get_default (cH X.p X.w) a (p9 m) hd r) ⟨_,n.mapOf,h _ _ (I.tok _) ?_⟩;rw[l];exact(x.val k).getD c
 .subst f;cases (show u=Value.ref b from m);obtain⟨z,hd,xs,x,n⟩:=uV I.h e;refine pb mE n.typeIs qK (Be _ _ _) (meetsH_dict_get_default (tupleKind (cH X.p X.w)) a b hd r) ⟨rW p,k,xs,pJ I.h t,n,h _ _ (I.tok _) ?_⟩;rw[l];exact(x.val k).getD c
end
noncomputable def Mw(td ty:TE):TE:=λJ H Q=>td J H λx G=>∃a,x=.ref a/\T6 G a/\ty J G λy H2=>∃o,lD H2 a y o/\Q (o.getD .non) H2
noncomputable def Mv(td ty tx:TE):TE:=λJ H Q=>td J H λx G=>∃a,x=.ref a/\T6 G a/\ty J G λy H2=>tx J H2 λz h=>∃o,lD h a y o/\Q (o.getD z) h
section
variable{X:Cx}{o e f:Expr}{apos cpos:Pos}{td ty tx:TE}
theorem GD(t:X.A.units+1 < cLine)(c:PE X o td)(b:PE X e ty)(m:M1 X o "get" apos e cpos):PE X (.Call (.Attribute o "get" apos) [e] [] cpos) (Mw td ty):=by intro pins s J H Q I h;refine zw m.base m.few m.line vm mE Bb (dO (c pins s J H _ I h) λu i z=>?_);obtain⟨x,G,n,v,a,ex,d,q⟩:=z;subst ex;obtain rfl:u=Value.ref a:=v;obtain⟨j,l,_⟩:=AB n d;refine⟨j,l,?_⟩;rw[m.trees];refine nW rfl (nV (iy (dO (b pins i J G _ n q) λiv F ⟨y,H2,k,w,S,g,p⟩=>kR ?_)));exact NX t k g w λP K f r=>⟨_,H2,f,r,p⟩
theorem GC(w:X.A.units+1 < cLine)(v:PE X o td)(p:PE X e ty)(q:PE X f tx)(m:M2 X o "get" apos e f cpos):PE X (.Call (.Attribute o "get" apos) [e,f] [] cpos) (Mv td ty tx):=by
 intro pins s J H Q I h;refine zw m.base m.few m.line vm mE Bb (dO (v pins s J H _ I h) fun u A i=>?_);obtain⟨x,G,n,F,a,ex,d,j⟩:=i;subst ex;obtain rfl:u=Value.ref a:=F;obtain⟨C,D,_⟩:=AB n d;refine⟨C,D,?_⟩;rw [m.trees];refine nW rfl (nV (iy (dO (p pins A J G _ n j) fun iv B ⟨y,H2,b,K,l⟩=>
  iy (dO (q pins B J H2 _ b l) λE M ⟨z,k,c,P,L,g,S⟩=>kR ?_))))
 exact NW w c g K P λR N t r=>⟨_,k,t,r,S⟩
end
end L2
set_option tactic.hygienic true
namespace Att
open PySem PySem.W PySem.Calls PyProof.Rows
theorem qy:∀(s:List Int)(v:LV),WellAll P h v (s.map WData.int)->IntsAre v s:=by
 intro s;induction s with
 |nil=>intro v w;rw[gn]at w;cases w;exact .nil
 |cons n s i=>
  intro v w;rw[aC]at w;cases w with
  |cons a b=>cases a;exact .cons _ _ (i _ b)
theorem D3{l:OpenLaw}(t:l.most=Y n)
  (p:l.row.toRowW.claim.pre z=Vl) (w:WellAll P h I z) :
  ∃a v s,I=[Value.ref a]/\z=[WData.list (s.map WData.int)]/\h.get? a=Y { cls:=.type "list",data:=.seq v.toArray }/\IntsAre v s/\s.length≤n:=by
 have b:WShape.hasAll [] z [.list .int]=Vl:=(pre_splitW p).1;have c:l.pre.holds [] { args:=z }=Vl:=(pre_splitW p).2;obtain⟨d,r,rfl,h1,h2⟩:=hasAllW_cons b;obtain rfl:=hasAllW_nil h2;obtain⟨xs,rfl,m⟩:=hasW_list h1;obtain⟨s,rfl⟩:=items_int m;have e:s.length≤n:=by
  unfold OpenLaw.pre at c;have k:(WTm.not (.lt (.lit (.int (n:Int))) (.len (.arg 0)))).holds [] { args:=[.list (s.map .int)] }=Vl:=by have k:=(holds_andW c).1;rw[t]at k;exact k
  have f:=condW_of k (w_not (w_lt w_lit (w_len_list (w_arg rfl))));rw[aH]at f;refine Nat.le_of_not_lt λq=>?_;have u:(n:Int) < ((s.length:Nat):Int):=by lia
  first
   |(rw[eF u]at f;exact absurd f (by decide))
   |(simp at f;lia)
 cases w with
 |cons g i=>
  cases i;cases g with
  |list o x=>exact⟨_,_,s,rfl,rfl,o,qy s _ x,e⟩
theorem D7(l:OpenLaw)(a:List WData):l.row.toRowW.claim.post a (.bool Vl) a=Vl:=
 postW_of (r:=l.row.toRowW) (X:=(Vl == Vl))
  (show WShape.has [] (.bool Vl) .bool=Vl by first|rfl|decide|simp[WShape.has,WShape.arms,WShape.armsAll])
  (show(WTm.eq .res (.lit (.bool Vl))).value [] { args:=a,res:=Y (.bool Vl),after:=a }=Y (.bool (Vl == Vl)) from w_eq_bool (w_res rfl) w_lit) rfl
theorem attach_call{l:OpenLaw}
  (M:l.most=Y n) (u:d.params.defaults=[])
  (call:∀(w:World) (h s:Shared) (mg y:SV) (x:Addr) (o:Obj) (H k c:Value) (a:Addr) (v:LV) (m:List Int),
   Ground q z [] I w h mg y s.heap->N w s.heap ->
   s.heap.get? x=Y o->o.data=.func (docDef d.name d.params d.body d.scope H k c)->s.heap.CodeRec k d.name->mg d.name=Y (.ref x) ->
   s.heap.get? a=Y { cls:=.type "list",data:=.seq v.toArray }->IntsAre v m->m.length≤n->s.gens=#[] ->
   codeAny (model l.prog w) callerA (.call (.ref x) ⟨[.ref a],[]⟩) (λr s'=>r=.ok (.ret (.bool Vl))/\OldK s.heap s'.heap/\s'.os=s.os/\AllBare s'.gens) s) :
  WalkO q z I N l.row.toRowW d [] (λf v=>PySem.call f v):=by
 intro w h s mg y G P x o H k c V kV Q hd t D g C S K W p F T j E;obtain rfl:V=.none:=Dflts.none D u;obtain rfl:kV=.none:=Dflts.noKw D;obtain⟨a,v,m,rfl,rfl,b,i,e⟩:=D3 M p j;refine enter_call (vb (call w h s mg y x o H k c a v m G P Q (fd_plain hd) t g b i e C) λr s' R=>?_);obtain⟨rfl,h2,A,B⟩:=R;exact⟨.inl ⟨.bool Vl,.bool Vl,[],rfl,λ_=>rfl,.bool Vl,D7 l _,λ_=>⟨List.Pairwise.nil,λ_ L=>(nomatch L)⟩⟩,h2,A,B⟩
end Att
set_option tactic.hygienic false
namespace L2
open PySem PySem.Spec PyProof.Rows
theorem uo:∀{v:LV}{s:List Int},IntsAre v s->bo (s.map V.int) v
 |_,_,.nil=>.nil
 |_,_,.cons n t h=>.cons ⟨t,rfl⟩ (uo h)
def EI(H:Hp):Prop:=∀b,H b=Vk\/H b=Y .tbl\/∃o xs,H b=Y (.frz o (.lst xs))
set_option tactic.hygienic true in
theorem G5{P:Program}{w:World}{K:FG}{mg mb:SV}{CX:ER}{k:Nat}{fa a:Addr}{fd:FuncData}{x:Str}{sp:Sp}{f:Shared}{C:LV}{X:List Int}
  (Z:K.In f.heap) (hNT:zA K=Vl) (hT:∀P ∈ cy K,f.heap.get? P=Y (r_ #[])/\∃c,rZ f.heap c P) (Q:f.heap.Ns mainGlobals mg) (t:f.heap.Ns builtinsNs mb) (hbb:∀x:Str,x≠"__name__"->mb x=bootBuiltins x) (N:f.heap.NoLimit) (hbm:∃G A,mg "__builtins__"=Y (.ref G)/\G≠builtinsNs/\f.heap.get? G=Y A/\A.cls=.type "module"/\A.dict=Y builtinsNs/\A.data=.plain) (hg:f.gens=#[])
  (D:f.heap.get? a=Y { cls:=.type "list",data:=.seq C.toArray }) (hi:IntsAre C X) (hl:X.length≤sizeLine) (hr:Room k callerA)
  (F:∀base:Heap,K.In base->base.Ns mainGlobals mg->FnOk P w K mg base CX k fa fd [x] sp) (B:∀(s:Shared)(u:Value),BindsTo s fd ⟨[u],[]⟩ [(x,u)])
  (hsp:∀H:Hp,EI H->lB K H a (X.map V.int)->sp [.ref a] H (λv _=>v=.bl Vl) λ_ _ _=>False)
  (hCX:∀H e s',CX [] H f (λ_ _ _=>False) e s'->False) :
  codeAny (model P w) callerA (.call (.ref fa) ⟨[.ref a],[]⟩) (λr s'=>r=.ok (.ret (.bool Vl))/\OldK f.heap s'.heap/\s'.os=f.os/\AllBare s'.gens) f:=by
 have rv:=uo hi;have W:=hi.length;have y:∀H:Hp,EI H->lB K H a (X.map V.int)->mY P w H f.heap->(∀b,H b≠Vk->b=a\/b ∈ cy K)->(∀b,H b=Y .tbl->b ∈ cy K)->(∀b ∈ cy K,H b=Y .tbl)->(H a≠Vk->K.lookup a=Vk) ->
   codeAny (model P w) callerA (.call (.ref fa) ⟨[.ref a],[]⟩) (λr s'=>r=.ok (.ret (.bool Vl))/\OldK f.heap s'.heap/\s'.os=f.os/\AllBare s'.gens) f:=by
  intro H hO hS R hA hB hC hK;have hKT:∀b ∈ cy K,K.lookup b=Vk:=λb t=>by
   cases q:K.lookup b with
   |none=>rfl
   |some o=>have e:=Z b o q;rw[(hT b t).1]at e;cases e;have h2:=bi.mp hNT (b,_) (Fi q);exact absurd (show Vm=Vl from h2) bU
  have p:∀{b:Addr}{o:Obj},f.heap.get? b=Y o->H b=Vk->(w1 f.heap H).get? b=Y o:=λe n=>Hs e n;have noA:∀{b:Addr}{o:Obj}{es:Array DictEntry}{L:Nat},f.heap.get? b=Y o->o.data=.dict es L->H b=Vk:=λ{b o es L} e d=>by
   cases q:H b with
   |none=>rfl
   |some u=>
    rcases hA b (by rw[q];simp) with j|j
    .subst j;rw[D]at e;cases e;have d':Data.seq C.toArray _=Data.dict es L:=d;cases d'
    .rw [(hT b j).1]at e;cases e;cases d
  have noM:∀{b:Addr}{o:Obj},f.heap.get? b=Y o->o.cls=.type "module"->H b=Vk:=λ{b o} e d=>by
   cases q:H b with
   |none=>rfl
   |some u=>
    rcases hA b (by rw[q];simp) with j|j
    .subst j;rw[D]at e;cases e;exact absurd (show Value.type "list"=Value.type "module" from d) (by decide)
    .rw [(hT b j).1]at e;cases e;cases d
  have l:∀{b:Addr}{m:SV},f.heap.Ns b m->(w1 f.heap H).Ns b m:=fun {b m} ⟨o,es,L,e,d,r⟩=>⟨o,es,L,p e (noA e d),d,r⟩;have M:K.In (w1 f.heap H):=fun b o e=>p (Z b o e) (by
   cases q:H b with
   |none=>rfl
   |some u=>
    rcases hA b (by rw[q];simp) with j|j
    .subst j;rw[hK (by rw[q];simp)]at e;cases e
    .rw [hKT b j]at e;cases e)
  have hM:Mod K mg (w1 f.heap H):=⟨M,l Q,⟨mb,l t,hbb⟩,let ⟨mc,h1,h2⟩:=N;⟨mc,l h1,h2⟩,let ⟨G,A,c1,c2,c3,c4,c5⟩:=hbm;⟨G,A,c1,c2,p c3 (noM c3 c4),c4,c5⟩⟩;have e0:Env0 P w K mg (w1 f.heap H) callerA [] f H:=⟨rfl,hM,λb o e=>Kj e,vu (Ek _ _),trivial,λb t=>absurd (show b ∈ ([]:List Addr) from t) (by simp),hC,R,.of_eq hg⟩;refine vb ((F _ M (l Q)).run callerA [] f H ⟨[.ref a],[]⟩ [.ref a] [.ref a] _ _ hr e0 (B f (.ref a)) (.cons rfl .nil) (hsp H hO hS)) λr s' h=>?_;cases r with
  |error e=>exact(hCX H e s' h).elim
  |ok fl=>
   cases fl with
   |next=>exact False.elim h
   |brk=>exact False.elim h
   |cont=>exact False.elim h
   |ret u=>
    obtain⟨v,H',os,E,un,S,r',q⟩:=h;have q':v=.bl Vl:=q;subst q';obtain rfl:u=Value.bool Vl:=r';have aw:∀b o,f.heap.get? b=Y o->asItWas f.heap s'.heap b o:=λb o e=>by
     rcases hO b with q|z|⟨A,xs,z⟩
     .exact .inl (un.keep b o e q (by intro z;exact absurd (show b ∈ ([]:List Addr) from z) (by simp)) (by simp))
     .obtain⟨I,c,e2⟩:=hT b (hB b z);obtain⟨ps,e3,_⟩:=(show tJ H' s'.heap b from S b _ (un.tbls b z));rw[I]at e;cases e;exact .inr (.inl ⟨(e2.tab I).isCodeTable,rfl,#[],ps,rfl,by rw[Array.empty_append];exact e3⟩)
     .have z2:=un.frzs b A _ z;obtain⟨I,_⟩:=R b _ z;obtain⟨e2,_⟩:=S b _ z2;rw[e]at I;cases I;exact .inl e2
    refine⟨rfl,⟨aw,λb o e=>?_⟩,os,E⟩;rcases aw b o e with x|⟨_,_,_,_,_,x⟩|⟨_,_,⟨_,_,_,x,_⟩,_⟩<;>exact⟨_,x⟩
 have T:a ∉ cy K:=λz=>by have e:=(hT a z).1;rw[D]at e;cases e
 have tk:∀b,b ∈ cy K->∀H:Hp,tJ H f.heap b:=λb t H=>⟨#[],(hT b t).1,.inl rfl⟩;cases hk:K.lookup a with
 |some o=>
  have e:=Z a o hk;rw[D]at e;cases e;refine y (λb=>if b ∈ cy K then Y .tbl else Vk) (λb=>?_) (.inr ⟨_,C.toArray,_,hk,rfl,rfl,rfl,by rw[bv,W];exact hl,by simpa using rv⟩) (λb u z=>?_) (λb z=>?_) (λb z=>?_) (λb z=>ac z) λz=>absurd (ae T) z
  .by_cases t:b ∈ cy K
   .exact .inr (.inl (ac t))
   .exact .inl (ae t)
  .by_cases t:b ∈ cy K
   .have g:=(ac t).symm.trans z;cases g;exact tk b t _
   .have g:=(ae t).symm.trans z;cases g
  .by_cases t:b ∈ cy K
   .exact .inr t
   .exact absurd (ae t) z
  .by_cases t:b ∈ cy K
   .exact t
   .have g:=(ae t).symm.trans z;cases g
 |none=>
  refine y (λb=>if b=a then Y (.frz { cls:=.type "list",data:=.seq C.toArray } (.lst (X.map V.int))) else if b ∈ cy K then Y .tbl else Vk) (λb=>?_) (.inl (.inr ⟨{ cls:=.type "list",data:=.seq C.toArray },ac rfl⟩)) (λb u z=>?_) (λb z=>?_) (λb z=>?_) (λb z=>?_) λ_=>hk
  .by_cases t:b=a
   .exact .inr (.inr ⟨_,_,ac t⟩)
   .by_cases i:b ∈ cy K
    .exact .inr (.inl ((ae t).trans (ac i)))
    .exact .inl ((ae t).trans (ae i))
  .by_cases t:b=a
   .have g:=(ac t).symm.trans z;cases g;subst t;exact⟨D,by rw[aH];exact hl,C,_,rv,D⟩
   .have z1:=(ae t).symm.trans z;by_cases i:b ∈ cy K
    .have g:=(ac i).symm.trans z1;cases g;exact tk b i _
    .have g:=(ae i).symm.trans z1;cases g
  .by_cases t:b=a
   .exact .inl t
   .by_cases i:b ∈ cy K
    .exact .inr i
    .exact absurd ((ae t).trans (ae i)) z
  .by_cases t:b=a
   .have g:=(ac t).symm.trans z;cases g
   .by_cases i:b ∈ cy K
    .exact i
    .have g:=(ae i).symm.trans ((ae t).symm.trans z);cases g
  .have t:b≠a:=λq=>T (q ▸ z);exact(ae t).trans (ac z)
noncomputable abbrev Uy{K:FG}(_:K.In h):FG:=K
theorem Jo{l:Fb}{n k:Nat}{q:Program}{m:LS}{I:(SV)->Heap->Prop}{g:World->Heap->Prop}{d:DefRec}{K:Params->FG}{CX:World->ER}{sp:World->Sp}{x:Str}
  (hn:l.most=Y n) (S:n≤sizeLine) (y:d.params.defaults=[]) (hr:Room k callerA)
  (T:∀(w:World)(h:Heap),g w h->(K w.params).In h) (N:∀w:World,zA (K w.params)=Vl) (hT:∀(w:World)(h:Heap),g w h->∀P ∈ cy (K w.params),h.get? P=Y (r_ #[])/\∃c,rZ h c P)
  (F:∀(w:World) (mg:SV) (t:Addr) (h:Heap),(K w.params).In h->h.Ns mainGlobals mg->mg d.name=Y (.ref t) ->
   ∃fd:FuncData,(∀(s:Shared)(u:Value),BindsTo s fd ⟨[u],[]⟩ [(x,u)]) /\
    ∀base:Heap,(K w.params).In base->base.Ns mainGlobals mg->FnOk l.prog w (K w.params) mg base (CX w) k t fd [x] (sp w))
  (A:∀(w:World)(H:Hp)(a:Addr)(p:List Int),p.length≤n->EI H->lB (K w.params) H a (p.map V.int)->sp w [.ref a] H (λv _=>v=.bl Vl) λ_ _ _=>False)
  (C:∀(w:World)(H:Hp)(s:Shared)(e:Value)(s':Shared),CX w [] H s (λ_ _ _=>False) e s'->False) :
  E_ q m I g l.row.toRowW d [] (λf E=>PySem.call f E):=by
 refine Att.attach_call hn y λw D r mg mb t o pm cd L a E p G B ho hd Z z j i b hg=>?_;have X:=T w _ B;obtain⟨fd,W,M⟩:=F w mg t _ X G.T.g z;exact G5 X (N w) (hT w _ B) G.T.g G.T.b G.T.builtins G.T.nolimit G.T.bmain hg j i (bf b S) hr M W (λH Q R=>A w H a p b Q R) λH e s'=>C w H r e s'
theorem FC{l:Fb}{n k:Nat}{q:Program}{o:LS}{X:(SV)->Heap->Prop}{m:World->Heap->Prop}{d:DefRec}{K:Params->FG}{CX:ER}{sp:FG->Sp}{x:Str}
  (y:l.most=Y n) (t:n≤sizeLine) (r:d.params.defaults=[]) (z:Room k callerA)
  (j:∀(w:World)(h:Heap),m w h->(K w.params).In h) (N:∀w:World,zA (K w.params)=Vl) (hT:∀(w:World)(h:Heap),m w h->∀P ∈ cy (K w.params),h.get? P=Y (r_ #[])/\∃c,rZ h c P)
  (F:∀(w:World) (mg:SV) (g:Addr) (h:Heap),(K w.params).In h->h.Ns mainGlobals mg->mg d.name=Y (.ref g) ->
   ∃fd:FuncData,(∀(s:Shared)(u:Value),BindsTo s fd ⟨[u],[]⟩ [(x,u)]) /\
    ∀base:Heap,(K w.params).In base->base.Ns mainGlobals mg->FnOk l.prog w (K w.params) mg base CX k g fd [x] (sp (K w.params)))
  (p:∀(K:FG)(H:Hp)(a:Addr)(b:List Int),b.length≤n->EI H->lB K H a (b.map V.int)->sp K [.ref a] H (λv _=>v=.bl Vl) λ_ _ _=>False)
  (C:∀(H:Hp)(s:Shared)(e:Value)(s':Shared),CX [] H s (λ_ _ _=>False) e s'->False) :
  E_ q o X m l.row.toRowW d [] (λf S=>PySem.call f S):=
 Jo (K:=K) (CX:=λ_=>CX) (sp:=λw=>sp (K w.params)) y t r z j N hT F (λw H a b h1 h2 i=>p (K w.params) H a b h1 h2 i) λ_ H s e s'=>C H s e s'
noncomputable def gy(s:Stmt)(j:Nat):Stmt:=match s with
 | .ClassDef _ _ _ b _ _ _ _ _ _ _=>b.getD j (.Pass ⟨0,0,0,0⟩)
 |_=>.Pass ⟨0,0,0,0⟩
noncomputable def jX(s:Stmt):Arguments:=match s with
 | .FunctionDef _ a _ _ _ _ _ _ _ _=>a
 |_=>{ posonlyargs:=[],args:=[],vararg:=Vk,kwonlyargs:=[],kw_defaults:=[],kwarg:=Vk,defaults:=[] }
noncomputable def hU(s:Stmt):List Stmt:=match s with
 | .FunctionDef _ _ b _ _ _ _ _ _ _=>b
 |_=>[]
noncomputable def bz(s:Stmt):Scope:=match s with
 | .FunctionDef _ _ _ _ _ _ sc _ _ _=>sc
 |_=>{ kind:=.function,names:=[],isGenerator:=Vm,isCoroutine:=Vm }
noncomputable abbrev u9:ER:=λ_ _ _ _ _ _=>False
noncomputable abbrev E0:XK:=λ_ _ _=>False
theorem uJ:nM u9 X E0:=λ_ _ _ _ _ _ _ h=>h.elim
structure Fun(K:FG)(x qual:Str)(st:Stmt)(f:Addr)(fd:FuncData):Prop where
 ex:∃(oc:Value)(od:Option Addr)(dV kV doc pm:Value)(an:Option Addr)(cdv ct:Value)(osl:Array (OV)),
  fd=kZ x qual (jX st) (hU st) (bz st) dV kV doc pm an cdv ct/\K.lookup f=Y ⟨oc,od,.func fd,osl⟩/\j3 K cdv qual=Vl
 kp:iN K (.ref f)=Vl
section
variable{P:Program}{w:World}{K:FG}{mg:SV}{base:Heap}
theorem Hz{x q:Str}{st:Stmt}{f:Addr}{h:Value}{e a:Option Addr}{s:Array (OV)}{V kV o p d t:Value}(l:K.lookup f=Y ⟨h,e,.func (kZ x q (jX st) (hU st) (bz st) V kV o p a d t),s⟩)
  (c:j3 K d q=Vl) (k:iN K (.ref f)=Vl):Fun K x q st f (kZ x q (jX st) (hU st) (bz st) V kV o p a d t):=⟨⟨h,e,V,kV,o,p,a,d,t,s,rfl,l,c⟩,k⟩
end
section
variable{X:Cx}
end
abbrev KN:List (PyData×V×V)->List (PyData×Addr×Value)->Prop:=Paired λp q=>p.1=q.1/\p.2.1=V.ref q.2.1/\RelV p.2.2 q.2.2
def pW(h:Heap)(d:PyData)(v:V):Prop:=∃b,v=.ref b/\Nk.kd d=Vl/\d.depth≤8/\∃as,Reads h (.ref b) d as
noncomputable def AH(kvs:List (PyData×V×V))(d:PyData):Bool:=kvs.any λp=>decide (p.1=d)
section
variable{P:Program}{w:World}{H:Hp}{h:Heap}{a:Addr}
theorem KN.has(r:KN kvs xs)(d:PyData):(atKey xs d).isSome=AH kvs d:=by
 induction r with
 |nil=>rfl
 | @cons p q ps qs h t i=>
  unfold AH at i ⊢;rw[eY];by_cases e:p.1=d
  .have x:q.1=d:=h.1.symm.trans e;simp[atKey,iC,e,x]
  .have x:¬q.1=d:=λz=>e (h.1.trans z);rw[bA e,mS,<- i];simp[atKey,iC,x]
theorem HH(ok:mY P w H h)(e:H a=Y (.dN kvs))(ks:∀p ∈ kvs,pW h p.1 p.2.1):kvs.length≤sizeLine/\(a == sysModules)=Vm/\∃xs,KN kvs xs/\h.DictOfH (Nk.nest P w) a xs:=by
 obtain⟨z,y,xs,r,o,es,ep,h1,h2,h3,h4,h5⟩:=(show dj P w H h a (.dN kvs) from ok a _ e);refine⟨z,y,xs,r,o,es,ep,h1,h2,h3,h4,?_,h5⟩;clear h4 h5 e z;induction r with
 |nil=>exact λx hx=>nomatch hx
 | @cons p q ps qs hq t ih=>
  intro x hx;rcases bc.mp hx with rfl|hx
  .obtain⟨b,e1,k,l,as,rd⟩:=ks p aK;have e2:=hq.2.1;rw[e1]at e2;cases e2;rw[<- hq.1];exact⟨k,l,as,rd⟩
  .exact ih (λp hp=>ks p (aL _ hp)) x hx
end
section
variable{X:Cx}{pins:PN}{J:St}{H:Hp}{s:Shared}{a:Addr}{d:PyData}{y v:V}{u r:Value}{A:Around}{E:VP}{kvs:List (PyData×V×V)}
theorem Kl(hu:A.units+9 < cLine)(I:Inv X pins J H s)(e:H a=Y (.dN kvs))(ks:∀p ∈ kvs,pW s.heap p.1 p.2.1)(ky:pW s.heap d y)(ry:RelV y u)(h:∀s',Inv X pins J H s'->Q (.bool (!AH kvs d)) s') :
  wpAny (model X.p X.w) A (compareOp .NotIn u (.ref a)) Q E s:=by
 obtain⟨b,rfl,k⟩:=ky;cases (show u=Value.ref b from ry);obtain⟨z,hd,xs,rel,dd⟩:=HH I.h e ks;refine wpAny_notIn_heap (knd:=Nk.nest X.p X.w) (show(A.in1).units+8 < cLine by rw[q_];lia) k hd dd ?_;rw[rel.has];exact h _ (I.tok _)
theorem Qr(hu:A.units+9 < cLine)(I:Inv X pins J H s)(e:H a=Y (.dN kvs))(ks:∀p ∈ kvs,pW s.heap p.1 p.2.1)(ky:pW s.heap d y)(ry:RelV y u)(rv:RelV v r)(new:AH kvs d=Vm)(hl:kvs.length < sizeLine)
  (h:∀s',Inv X pins J (cG H a (.dN (kvs++[(d,y,v)]))) s'->Q () s'):wpAny (model X.p X.w) A (setItem (.ref a) u r) Q E s:=by
 obtain⟨b,rfl,k⟩:=ky;cases (show u=Value.ref b from ry);obtain⟨z,hd,xs,rel,dd⟩:=HH I.h e ks;have hz:xs.length≤sizeLine:=by rw[<- Paired.length rel];exact z
 refine EW (knd:=Nk.nest X.p X.w) (hsz:=hz) (show(A.in1).units+8 < cLine by rw[q_];lia) k dd λh' dd' hs=>h _ ?_;have nn:atKey xs d=Vk:=by have:=rel.has d;rw[new]at this;simpa using this
 rw[storedH_new nn]at dd';obtain⟨q,es,ep,hq,h2,h3,h4,_,h5⟩:=dd';exact rL I (by rw[e];exact True.intro) hs ⟨q,hq⟩ ⟨by simp;lia,hd,_,Paired.snoc rel ⟨rfl,rfl,rv⟩,q,es,ep,hq,h2,h3,h4,h5⟩
end
theorem HI(h:Heap)(b:sysModules < h.objs.size):dj P w H (h.push { cls:=.type "dict",data:=.dict #[] }) h.objs.size (.dN []):=
 ⟨cO _,jL.mpr (aZ (bG b)),[],.nil,_,#[],0,bJ _ rfl,⟨rfl,rfl,rfl⟩,rfl,rfl,vM⟩
end L2
set_option tactic.hygienic true
namespace PySem
open PySem PyProof.Rows
namespace F
theorem entry_dict_update_loop:entryFor table "dict.update.loop"=Y Builtin.«dict.update.loop»:=entryFor_of_tree (by kernel_rfl)
theorem plain_dict_update_loop:plainId "dict.update.loop"=Vl:=by decide +kernel
end F
section
variable{prog:Program}{w:World}{A:Around}{E:VP}{s:Shared}
inductive PairsAt{K:Type}[DecidableEq K](knd:KeyKind prog w K)(h:Heap):LV->List (K×Value)->Prop
 |nil:PairsAt knd h [] []
 |cons {t:Addr}{key v:Value}{k:K}{us:LV}{kvs:List (K×Value)}:IsTup h t #[key,v]->knd.is k key=Vl->PairsAt knd h us kvs->PairsAt knd h (.ref t::us) ((k,v)::kvs)
end
end PySem
namespace Ev
open PySem L2
inductive P where
 |non|bl (b:Bool)|int (i:Int)|str (x:Str)|tup (xs:List P)|lst (xs:List P)|ro (xs:List P)|dct (ks:List ci) (vs:List P)|obj (c:Str) (ks:LS) (vs:List P)|dtt (ks:List (List ci)) (vs:List P)
inductive D where
 |p (v:P)|ref (i:Nat)
inductive SO where
 |lst (xs:List D)|dct (ks:List ci) (vs:List D)|fz (v:P)|ins (c:Str) (ks:LS) (vs:List D)|dtn (ks:List P) (vs:List D)|dtt (ks:List (List ci)) (vs:List D)
noncomputable abbrev aM:=List SO
noncomputable abbrev Lc:=List (Option D)
mutual
noncomputable def pd:P->PyData
 | .non=>.none
 | .bl b=>.bool b
 | .int i=>.int i
 | .str x=>.str x
 | .tup xs=>.tuple (jG xs)
 | .lst xs=>.list (jG xs)
 | .ro xs=>.list (jG xs)
 | .dct _ _=>.none
 | .obj _ _ _=>.none
 | .dtt _ _=>.none
noncomputable def jG:List P->List PyData
 | []=>[]
 |x::r=>pd x::jG r
end
def T3(K:FG)(a:Addr)(xs:List V):Prop:=nu K (λ_=>Vk) a xs
def T4(K:FG)(a:Addr)(xs:List V):Prop:=lB K (λ_=>Vk) a xs
def TupAt(K:FG)(H:Hp)(a:Addr)(xs:List V):Prop:=H a=Y (.tup xs)\/T3 K a xs
def LstAt(F:Aa)(H:Hp)(a:Addr)(xs:List V):Prop:=F a/\H a=Y (.lst xs)
def EH(K:FG)(F:Aa)(H:Hp)(a:Addr)(xs:List V):Prop:=(F a/\∃o,H a=Y (.frz o (.lst xs)))\/T4 K a xs
variable{K:FG}{H:Hp}{a:Addr}{xs:List V}
theorem TupAt.sq(h:TupAt K H a xs):nu K H a xs:=by
 rcases h with h|(h|h)
 .exact .inl (.inl h)
 .rcases h with h|⟨o,h⟩<;>cases h
 .exact .inr h
variable{F:Aa}
theorem LstAt.sq(h:LstAt F H a xs):lB K H a xs:=.inl (.inl h.2)
theorem EH.sq(h:EH K F H a xs):lB K H a xs:=by
 rcases h with ⟨_,o,h⟩|(h|h)
 .exact .inl (.inr ⟨o,h⟩)
 .rcases h with h|⟨o,h⟩<;>cases h
 .exact .inr h
section
variable(K:FG)(F:Aa)(H:Hp)
mutual
noncomputable def RP:P->V->Prop
 | .non,v=>v=.non
 | .bl b,v=>v=.bl b
 | .int i,v=>v=.int i
 | .str x,v=>v=.str x
 | .tup ds,v=>∃a xs,v=.ref a/\TupAt K H a xs/\cN ds xs
 | .lst ds,v=>∃a xs,v=.ref a/\LstAt F H a xs/\cN ds xs
 | .ro ds,v=>∃a xs,v=.ref a/\EH K F H a xs/\cN ds xs
 | .dct ks ds,v=>∃a kvs,v=.ref a/\F a/\H a=Y (.dK kvs)/\kvs.map (·.1)=ks/\cN ds (kvs.map (·.2))
 | .obj c ks ds,v=>∃a C dx kvs,v=.ref a/\F a/\ph K mainGlobals c=Y (Y (.ref C))/\H a=Y (.ins C dx kvs)/\kvs.map (·.1)=ks/\cN ds (kvs.map (·.2))
 | .dtt ks ds,v=>∃a kvs,v=.ref a/\F a/\H a=Y (.dT kvs)/\kvs.map (·.1)=ks/\cN ds (kvs.map (·.2))
noncomputable def cN:List P->List V->Prop
 | [],xs=>xs=[]
 |d::ds,xs=>∃x r,xs=x::r/\RP d x/\cN ds r
end
def RD(m:List Addr):D->V->Prop
 | .p d,v=>RP K F H d v
 | .ref i,v=>∃a,v=.ref a/\m[i]? = Y a
def dR(m:List Addr):List D->List V->Prop
 | [],xs=>xs=[]
 |d::s,xs=>∃x r,xs=x::r/\RD K F H m d x/\dR m s r
def RO(m:List Addr)(a:Addr):SO->Prop
 | .lst d=>∃xs,H a=Y (.lst xs)/\dR K F H m d xs
 | .dct s d=>∃k,H a=Y (.dK k)/\k.map (·.1)=s/\dR K F H m d (k.map (·.2))
 | .fz v=>RP K F H v (.ref a)
 | .ins c s d=>∃C x k,ph K mainGlobals c=Y (Y (.ref C))/\H a=Y (.ins C x k)/\k.map (·.1)=s/\dR K F H m d (k.map (·.2))
 | .dtn s d=>∃k,H a=Y (.dN k)/\k.map (·.1)=jG s/\cN K F H s (k.map (·.2.1))/\dR K F H m d (k.map (·.2.2))
 | .dtt s d=>∃k,H a=Y (.dT k)/\k.map (·.1)=s/\dR K F H m d (k.map (·.2))
def SO.own:SO->Prop
 | .fz _=>False
 |_=>True
structure Rel(m:List Addr)(S:aM):Prop where
 len:m.length=S.length
 nd:m.Nodup
 obj:∀(i:Nat) a o,m[i]? = Y a->S[i]? = Y o->RO K F H m a o
 sep:∀(i:Nat) a o,m[i]? = Y a->S[i]? = Y o->o.own->¬F a
 trk:∀a ∈ m,H a≠Vk
 ft:∀a,F a->H a≠Vk
end
structure Kp(F:Aa)(m:List Addr)(H:Hp)(F':Aa)(m':List Addr)(H':Hp):Prop where
 pre:∃n,m'=m++n
 frz:∀b,F b->F' b
 frk:∀b o,F b->H b=Y o->H' b=Y o
 tup:∀b xs,H b=Y (.tup xs)->H' b=Y (.tup xs)
structure Stp(F:Aa)(m:List Addr)(H:Hp)(F':Aa)(m':List Addr)(H':Hp):Prop where
 pre:∃n,m'=m++n
 oth:∀b o,H b=Y o->b ∉ m->H' b=Y o
 frz:∀b,F b->F' b
 frk:∀b o,F b->H b=Y o->H' b=Y o
 tup:∀b xs,H b=Y (.tup xs)->H' b=Y (.tup xs)
 trk:∀b,H b≠Vk->H' b≠Vk
 nf:∀b,F' b->F b\/H b=Vk\/b ∈ m
 nm:∀b,b ∈ m'->b ∈ m\/H b=Vk
variable{F':Aa}{m:List Addr}{m':List Addr}{H':Hp}
theorem Stp.kp(s:Stp F m H F' m' H'):Kp F m H F' m' H':=⟨s.pre,s.frz,s.frk,s.tup⟩
theorem Stp.refl:Stp F m H F m H:=
 ⟨⟨[],by simp⟩,λ_ _ h _=>h,λ_ h=>h,λ_ _ _ h=>h,λ_ _ h=>h,λ_ h=>h,λ_ h=>.inl h,λ_ h=>.inl h⟩
theorem Stp.trans(a:Stp F m H B k y)(b:Stp B k y j r I):Stp F m H j r I where
 pre:=by obtain⟨f,s⟩:=a.pre;obtain⟨t,n⟩:=b.pre;exact⟨f++t,by rw[n,s,gW]⟩
 oth:=λc o h x=>b.oth c o (a.oth c o h x) λz=>by
  rcases a.nm c z with z|z
  .exact x z
  .rw [h]at z;cases z
 frz:=λc h=>b.frz c (a.frz c h)
 frk:=λc o h e=>b.frk c o (a.frz c h) (a.frk c o h e)
 tup:=λc xs h=>b.tup c xs (a.tup c xs h)
 trk:=λc h=>b.trk c (a.trk c h)
 nf:=λc h=>by
  rcases b.nf c h with h|h|h
  .exact a.nf c h
  .by_cases e:H c=Vk
   .exact .inr (.inl e)
   .exact absurd h (a.trk c e)
  .rcases a.nm c h with h|h
   .exact .inr (.inr h)
   .exact .inr (.inl h)
 nm:=λc h=>by
  rcases b.nm c h with h|h
  .exact a.nm c h
  .by_cases e:H c=Vk
   .exact .inr e
   .exact absurd h (a.trk c e)
section
variable{K:FG}{F F':Aa}{H H':Hp}{m m':List Addr}{S T:aM}
theorem TupAt.kp(s:Kp F m H F' m' H')(h:TupAt K H a xs):TupAt K H' a xs:=by
 rcases h with h|h
 .exact .inl (s.tup _ _ h)
 .exact .inr h
theorem LstAt.kp(s:Kp F m H F' m' H')(h:LstAt F H a xs):LstAt F' H' a xs:=⟨s.frz _ h.1,s.frk _ _ h.1 h.2⟩
theorem EH.kp(s:Kp F m H F' m' H')(h:EH K F H a xs):EH K F' H' a xs:=by
 rcases h with ⟨f,o,h⟩|h
 .exact .inl ⟨s.frz _ f,o,s.frk _ _ f h⟩
 .exact .inr h
mutual
theorem RP.kp(s:Kp F m H F' m' H'):∀{d:P}{v:V},RP K F H d v->RP K F' H' d v
 | .non,_,h=>h
 | .bl _,_,h=>h
 | .int _,_,h=>h
 | .str _,_,h=>h
 | .tup _,_,h=>by obtain⟨a,xs,e,t,r⟩:=h;exact⟨a,xs,e,t.kp s,cN.kp s r⟩
 | .lst _,_,h=>by obtain⟨a,xs,e,t,r⟩:=h;exact⟨a,xs,e,t.kp s,cN.kp s r⟩
 | .ro _,_,h=>by obtain⟨a,xs,e,t,r⟩:=h;exact⟨a,xs,e,t.kp s,cN.kp s r⟩
 | .dct _ _,_,h=>by obtain⟨a,kvs,e,f,t,k,r⟩:=h;exact⟨a,kvs,e,s.frz _ f,s.frk _ _ f t,k,cN.kp s r⟩
 | .obj _ _ _,_,h=>by obtain⟨a,C,dx,kvs,e,f,n,t,k,r⟩:=h;exact⟨a,C,dx,kvs,e,s.frz _ f,n,s.frk _ _ f t,k,cN.kp s r⟩
 | .dtt _ _,_,h=>by obtain⟨a,kvs,e,f,t,k,r⟩:=h;exact⟨a,kvs,e,s.frz _ f,s.frk _ _ f t,k,cN.kp s r⟩
theorem cN.kp(s:Kp F m H F' m' H'):∀{ds:List P}{xs:List V},cN K F H ds xs->cN K F' H' ds xs
 | [],_,h=>h
 |_::_,_,h=>by obtain⟨x,r,e,h1,h2⟩:=h;exact⟨x,r,e,RP.kp s h1,cN.kp s h2⟩
end
theorem RD.kp(s:Kp F m H F' m' H'):∀{d:D}{v:V},RD K F H m d v->RD K F' H' m' d v
 | .p _,_,h=>RP.kp s h
 | .ref i,_,h=>by obtain⟨a,e,h⟩:=h;obtain⟨n,x⟩:=s.pre;refine⟨a,e,?_⟩;rw[x];have k:i < m.length:=(aX.mp h).1;rw[ce k];exact h
theorem dR.kp(s:Kp F m H F' m' H'):∀{d:List D}{xs:List V},dR K F H m d xs->dR K F' H' m' d xs
 | [],_,h=>h
 |_::_,_,h=>by obtain⟨x,r,e,a,n⟩:=h;exact⟨x,r,e,RD.kp s a,dR.kp s n⟩
variable{d:P}{v:V}
theorem RP.mono(s:Stp F m H F' m' H')(h:RP K F H d v):RP K F' H' d v:=RP.kp s.kp h
theorem cN.mono(s:Stp F m H F' m' H'){d:List P}{v:List V}(h:cN K F H d v):cN K F' H' d v:=cN.kp s.kp h
theorem RD.mono(s:Stp F m H F' m' H'){d:D}{v:V}(h:RD K F H m d v):RD K F' H' m' d v:=RD.kp s.kp h
theorem dR.mono(s:Stp F m H F' m' H'){d:List D}{v:List V}(h:dR K F H m d v):dR K F' H' m' d v:=dR.kp s.kp h
theorem cN.length:∀{d:List P}{xs:List V},cN K F H d xs->d.length=xs.length
 | [],_,h=>by rw[show _=([]:List V) from h]<;>rfl
 |_::_,_,h=>by obtain⟨x,r,e,_,a⟩:=h;rw[e,aS,aS,cN.length a]
theorem dR.length:∀{d:List D}{xs:List V},dR K F H m d xs->d.length=xs.length
 | [],_,h=>by rw[show _=([]:List V) from h]<;>rfl
 |_::_,_,h=>by obtain⟨x,r,e,_,a⟩:=h;rw[e,aS,aS,dR.length a]
theorem cN.get:∀{s:List P}{xs:List V}{i:Nat}{d:P},cN K F H s xs->s[i]? = Y d->∃x,xs[i]? = Y x/\RP K F H d x
 | [],_,_,_,_,e=>by simp at e
 |_::_,_,0,_,h,e=>by obtain⟨x,r,rfl,n,_⟩:=h;simp at e;subst e;exact⟨x,rfl,n⟩
 |_::_,_,i+1,d,h,e=>by obtain⟨x,r,rfl,_,k⟩:=h;obtain⟨y,a,f⟩:=cN.get (i:=i) k (by simpa using e);exact⟨y,by simpa using a,f⟩
theorem cN.append:∀{d z:List P}{xs y:List V},cN K F H d xs->cN K F H z y->cN K F H (d++z) (xs++y)
 | [],_,_,_,h,g=>by rw[show _=([]:List V) from h];exact g
 |_::_,_,_,_,h,g=>by obtain⟨x,r,rfl,a,e⟩:=h;exact⟨x,r++_,rfl,a,cN.append e g⟩
theorem dR.append:∀{d z:List D}{xs y:List V},dR K F H m d xs->dR K F H m z y->dR K F H m (d++z) (xs++y)
 | [],_,_,_,h,g=>by rw[show _=([]:List V) from h];exact g
 |_::_,_,_,_,h,g=>by obtain⟨x,r,rfl,a,e⟩:=h;exact⟨x,r++_,rfl,a,dR.append e g⟩
theorem cN.take:∀(n:Nat){d:List P}{xs:List V},cN K F H d xs->cN K F H (d.take n) (xs.take n)
 |0,_,_,_=>rfl
 |_+1,[],_,h=>by rw[show _=([]:List V) from h];rfl
 |n+1,_::_,_,h=>by obtain⟨x,r,rfl,a,e⟩:=h;exact⟨x,r.take n,rfl,a,cN.take n e⟩
theorem cN.drop:∀(n:Nat){d:List P}{xs:List V},cN K F H d xs->cN K F H (d.drop n) (xs.drop n)
 |0,_,_,h=>h
 |_+1,[],_,h=>by rw[show _=([]:List V) from h];rfl
 |n+1,_::_,_,h=>by obtain⟨x,r,rfl,_,a⟩:=h;exact cN.drop n a
theorem dR.take:∀(n:Nat){d:List D}{xs:List V},dR K F H m d xs->dR K F H m (d.take n) (xs.take n)
 |0,_,_,_=>rfl
 |_+1,[],_,h=>by rw[show _=([]:List V) from h];rfl
 |n+1,_::_,_,h=>by obtain⟨x,r,rfl,a,e⟩:=h;exact⟨x,r.take n,rfl,a,dR.take n e⟩
theorem dR.get:∀{s:List D}{xs:List V}{i:Nat}{d:D},dR K F H m s xs->s[i]? = Y d->∃x,xs[i]? = Y x/\RD K F H m d x
 | [],_,_,_,_,e=>by simp at e
 |_::_,_,0,_,h,e=>by obtain⟨x,r,rfl,n,_⟩:=h;simp at e;subst e;exact⟨x,rfl,n⟩
 |_::_,_,i+1,d,h,e=>by obtain⟨x,r,rfl,_,k⟩:=h;obtain⟨y,a,f⟩:=dR.get (i:=i) k (by simpa using e);exact⟨y,by simpa using a,f⟩
theorem dR.ofP:∀{d:List P}{xs:List V},cN K F H d xs->dR K F H m (d.map .p) xs
 | [],_,h=>h
 |_::_,_,h=>by obtain⟨x,r,e,a,s⟩:=h;exact⟨x,r,e,a,dR.ofP s⟩
variable{p:Addr}
theorem Rel.fresh_m(r:Rel K F H m S)(h:H p=Vk):p ∉ m:=λz=>r.trk p z h
theorem Rel.fresh_F(r:Rel K F H m S)(h:H p=Vk):¬F p:=λz=>r.ft p z h
variable{o:HO}
theorem k_(x:H p=Vk):Stp F m H F m (cG H p o) where
 pre:=⟨[],by simp⟩
 oth:=λb u h _=>by rw[aJ (by rintro rfl;rw[x]at h;cases h)];exact h
 frz:=λ_ h=>h
 frk:=λb u _ h=>by rw[aJ (by rintro rfl;rw[x]at h;cases h)];exact h
 tup:=λb u h=>by rw[aJ (by rintro rfl;rw[x]at h;cases h)];exact h
 trk:=λb h=>by
  by_cases e:b=p
  .subst e;rw[aV];exact λz=>nomatch z
  .rw [aJ e];exact h
 nf:=λ_ h=>.inl h
 nm:=λ_ h=>.inl h
theorem RO.kp(s:Kp F m H F' m' H'){a:Addr}{o:SO}(k:∀u,H a=Y u->H' a=Y u)(h:RO K F H m a o):RO K F' H' m' a o:=by
 cases o with
 |lst d=>obtain⟨xs,e,r⟩:=h;exact⟨xs,k _ e,dR.kp s r⟩
 |dct b d=>obtain⟨x,e,f,r⟩:=h;exact⟨x,k _ e,f,dR.kp s r⟩
 |fz v=>exact RP.kp s (show RP K F H v (.ref a) from h)
 |ins c b d=>obtain⟨C,t,x,n,e,f,r⟩:=h;exact⟨C,t,x,n,k _ e,f,dR.kp s r⟩
 |dtn b d=>obtain⟨x,e,f,p,r⟩:=h;exact⟨x,k _ e,f,cN.kp s p,dR.kp s r⟩
 |dtt b d=>obtain⟨x,e,f,r⟩:=h;exact⟨x,k _ e,f,dR.kp s r⟩
theorem RO.mono(s:Stp F m H F' m' H'){a:Addr}{o:SO}(k:∀u,H a=Y u->H' a=Y u)(h:RO K F H m a o):RO K F' H' m' a o:=RO.kp s.kp k h
theorem Rel.stayK(r:Rel K F H m S)(s:Kp F m H F' m H')(k:∀a u,a ∈ m->H a=Y u->H' a=Y u)(n:∀a,F' a->F a\/H a=Vk)(t:∀a,F' a->H' a≠Vk):Rel K F' H' m S where
 len:=r.len
 nd:=r.nd
 obj:=λi a o e x=>(r.obj i a o e x).kp s λu h=>k a u (bg e) h
 sep:=λi a o e x w f=>by
  rcases n a f with f|f
  .exact r.sep i a o e x w f
  .exact r.trk a (bg e) f
 trk:=λa h=>by
  cases q:H a with
  |none=>exact absurd q (r.trk a h)
  |some u=>rw[k a u h q];exact λz=>nomatch z
 ft:=t
theorem Rel.stay(r:Rel K F H m S)(s:Stp F m H F' m H')(k:∀a u,a ∈ m->H a=Y u->H' a=Y u)(n:∀a,F' a->F a\/H a=Vk)(t:∀a,F' a->H' a≠Vk):Rel K F' H' m S where
 len:=r.len
 nd:=r.nd
 obj:=λi a o e x=>(r.obj i a o e x).mono s λu h=>k a u (bg e) h
 sep:=λi a o e x w f=>by
  rcases n a f with f|f
  .exact r.sep i a o e x w f
  .exact r.trk a (bg e) f
 trk:=λa h=>s.trk a (r.trk a h)
 ft:=t
theorem Rel.new(r:Rel K F H m S)(x:H p=Vk):Rel K F (cG H p o) m S:=
 r.stay (k_ x) (λa u e h=>by rw[aJ (by rintro rfl;exact r.fresh_m x e)];exact h) (λ_ f=>.inl f) λa f=>(k_ (F:=F) (m:=m) x).trk a (r.ft a f)
theorem fJ{p:Addr}{o:HO}(x:H p=Vk):Stp F m H F (m++[p]) (cG H p o) where
 pre:=⟨[p],rfl⟩
 oth:=(k_ (F:=F) (m:=m) (o:=o) x).oth
 frz:=λ_ h=>h
 frk:=(k_ (F:=F) (m:=m) (o:=o) x).frk
 tup:=(k_ (F:=F) (m:=m) (o:=o) x).tup
 trk:=(k_ (F:=F) (m:=m) (o:=o) x).trk
 nf:=λ_ h=>.inl h
 nm:=λb h=>by
  rcases cR.mp h with h|h
  .exact .inl h
  .have:b=p:=by simpa using h
   subst this;exact .inr x
theorem Rel.own(r:Rel K F H m S){p:Addr}{o:HO}{c:SO}(n:H p=Vk)(v:RO K F (cG H p o) (m++[p]) p c):Rel K F (cG H p o) (m++[p]) (S++[c]) where
 len:=by rw[bK,bK,r.len];rfl
 nd:=by
  rw[BZ];refine⟨r.nd,by simp,λa t b q e=>?_⟩;have:b=p:=by simpa using q
  subst this;subst e;exact r.fresh_m n t
 obj:=λi a u x s=>by
  by_cases k:i < m.length
  .rw [ce k]at x;rw[ce (by rw[<- r.len];exact k)]at s;exact(r.obj i a u x s).mono (fJ n) λw h=>by rw[aJ (by rintro rfl;rw[n]at h;cases h)];exact h
  .have l:i=m.length:=by
    have:=(aX.mp x).1;rw[bK]at this;simp at this;lia
   subst l;rw[c_ (az _)]at x;rw[r.len,c_ (az _)]at s;simp at x s;subst x;subst s;exact v
 sep:=λi a u x s w f=>by
  by_cases k:i < m.length
  .rw [ce k]at x;rw[ce (by rw[<- r.len];exact k)]at s;exact r.sep i a u x s w f
  .have l:i=m.length:=by
    have:=(aX.mp x).1;rw[bK]at this;simp at this;lia
   subst l;rw[c_ (az _)]at x;simp at x;subst x;exact r.fresh_F n f
 trk:=λa h=>by
  rcases cR.mp h with h|h
  .exact (fJ (F:=F) (m:=m) n).trk a (r.trk a h)
  .have:a=p:=by simpa using h
   subst this;rw[aV];exact λz=>nomatch z
 ft:=λa f=>(fJ (F:=F) (m:=m) n).trk a (r.ft a f)
variable{i:Nat}
theorem gZ(r:Rel K F H m S)(x:m[i]? = Y p)(s:S[i]? = Y k)(hw:k.own)(t:∀xs,H p≠Y (.tup xs)):Stp F m H F m (cG H p o) where
 pre:=⟨[],by simp⟩
 oth:=λb u h a=>by rw[aJ (by rintro rfl;exact a (bg x))];exact h
 frz:=λ_ h=>h
 frk:=λb u f h=>by rw[aJ (by rintro rfl;exact r.sep i _ k x s hw f)];exact h
 tup:=λb xs h=>by rw[aJ (by rintro rfl;exact t xs h)];exact h
 trk:=λb h=>by
  by_cases e:b=p
  .subst e;rw[aV];exact λz=>nomatch z
  .rw [aJ e];exact h
 nf:=λ_ h=>.inl h
 nm:=λ_ h=>.inl h
theorem yg(h:m.Nodup)(e:m[i]? = Y a)(x:m[k]? = Y a):i=k:=by exact(List.getElem?_inj (aX.mp e).1 h).mp (e.trans x.symm)
theorem Rel.set(r:Rel K F H m S){i:Nat}{p:Addr}{c b:SO}{o:HO}(s:m[i]? = Y p)(k:S[i]? = Y c)(hw:c.own)(t:∀xs,H p≠Y (.tup xs))(q:RO K F (cG H p o) m p b) :
  Rel K F (cG H p o) m (S.set i b) where
 len:=by rw[fI];exact r.len
 nd:=r.nd
 obj:=λj a u e x=>by
  by_cases n:i=j
  .subst n;rw[s]at e;cases e;rw[cF (by exact(aX.mp k).1)]at x;cases x;exact q
  .rw [a6 n]at x;exact(r.obj j a u e x).mono (gZ r s k hw t) λw h=>by rw[aJ (by rintro rfl;exact n (yg r.nd s e))];exact h
 sep:=λj a u e x w f=>by
  by_cases n:i=j
  .subst n;rw[s]at e;cases e;exact r.sep i p c s k hw f
  .rw [a6 n]at x;exact r.sep j a u e x w f
 trk:=λa h=>(gZ (o:=o) r s k hw t).trk a (r.trk a h)
 ft:=λa f=>(gZ (o:=o) r s k hw t).trk a (r.ft a f)
theorem oA(x:p ∈ m):Stp F m H (λb=>F b\/b=p) m H:=
 ⟨⟨[],by simp⟩,fun _ _ h _=>h,fun _ h=>.inl h,fun _ _ _ h=>h,fun _ _ h=>h,fun _ h=>h,fun b h=>by
  rcases h with h|h
  .exact .inl h
  .subst h;exact .inr (.inr x),λ_ h=>.inl h⟩
theorem Rel.frz(r:Rel K F H m S){i:Nat}{p:Addr}{c:SO}{v:P}(n:m[i]? = Y p)(k:S[i]? = Y c)(o:RP K (λb=>F b\/b=p) H v (.ref p)):Rel K (λb=>F b\/b=p) H m (S.set i (.fz v)) where
 len:=by rw[fI];exact r.len
 nd:=r.nd
 obj:=λj a u x e=>by
  by_cases s:i=j
  .subst s;rw[n]at x;cases x;rw[cF (by exact(aX.mp k).1)]at e;cases e;exact o
  .rw [a6 s]at e;exact(r.obj j a u x e).mono (oA (bg n)) λw h=>h
 sep:=λj a u x e w f=>by
  by_cases s:i=j
  .subst s;rw[cF (by exact(aX.mp k).1)]at e;cases e;exact w
  .rw [a6 s]at e;rcases f with f|f
   .exact r.sep j a u x e w f
   .subst f;exact s (yg r.nd n x)
 trk:=r.trk
 ft:=λa f=>by
  rcases f with f|f
  .exact r.ft a f
  .subst f;exact r.trk _ (bg n)
end
noncomputable abbrev EE:=Lc->aM->Option (D×aM)
noncomputable abbrev xF:=Option (D×aM)
noncomputable abbrev EV:=Lc->aM->Option (P×aM)
noncomputable abbrev tyV:=Option (P×aM)
noncomputable abbrev EB:=Lc->aM->Option (Bool×aM)
noncomputable abbrev Op:=Option (Bool×aM)
noncomputable abbrev lC:=Lc->aM->Option (List P×aM)
noncomputable abbrev Jr:=Option (List P×aM)
inductive Fl where
 |nx|rt (d:D)|bk|ct
noncomputable abbrev ES:=Lc->aM->Option (Fl×Lc×aM)
noncomputable abbrev CO:=Option (Fl×Lc×aM)
variable{α:Type}{β:Type}
noncomputable def cg(x:Option (α×aM))(f:α->aM->Option β):Option β:=match x with
 |some (a,S)=>f a S
 |none=>Vk
@[simp] theorem al(a:α)(S:aM)(f:α->aM->Option β):cg (Y (a,S)) f=f a S:=rfl
@[simp] theorem Q7(f:α->aM->Option β):cg Vk f=Vk:=rfl
theorem ak{α β:Type}{x:Option (α×aM)}{f:α->aM->Option β}{r:β}(h:cg x f=Y r):∃a S,x=Y (a,S)/\f a S=Y r:=by
 cases x with
 |none=>cases h
 |some p=>exact⟨p.1,p.2,rfl,h⟩
def nC(f:D->aM->Option (P×aM)):List D->aM->Option (List P×aM)
 | [],S=>Y ([],S)
 |d::r,S=>cg (f d S) λv h=>cg (nC f r h) λM x=>Y (v::M,x)
def toP:Nat->D->aM->Option (P×aM)
 |_,.p v,S=>Y (v,S)
 |0,.ref _,_=>Vk
 |n+1,.ref i,S=>match S[i]? with
  |some (.lst d)=>cg (nC (toP n) d S) λM h=>Y (.lst M,h.set i (.fz (.lst M)))
  |some (.dct k d)=>cg (nC (toP n) d S) λM h=>Y (.dct k M,h.set i (.fz (.dct k M)))
  |some (.fz v)=>Y (v,S)
  |some (.ins c k d)=>cg (nC (toP n) d S) λM h=>Y (.obj c k M,h.set i (.fz (.obj c k M)))
  |some (.dtn _ _)=>Vk
  |some (.dtt k d)=>cg (nC (toP n) d S) λM h=>Y (.dtt k M,h.set i (.fz (.dtt k M)))
  |none=>Vk
@[simp] theorem sm(n:Nat)(v:P)(S:aM):toP n (.p v) S=Y (v,S):=by cases n<;>rfl
theorem mV(n:Nat):∀(M:List P)(S:aM),nC (toP n) (M.map .p) S=Y (M,S)
 | [],_=>rfl
 |v::r,S=>by simp[nC,mV n r S]
variable{n:Nat}{S:aM}{M:List P}
theorem dS(h:S[i]? = Y (.lst (M.map .p))):toP (n+1) (.ref i) S=Y (.lst M,S.set i (.fz (.lst M))):=by simp[toP,h,mV]
section
variable{K:FG}{F:Aa}{H:Hp}{m:List Addr}{S T:aM}
theorem oM 
  (n:∀{d:D}{x:V}{v:P}{F:Aa}{S T:aM},f d S=Y (v,T)->Rel K F H m S->RD K F H m d x->∃F',Stp F m H F' m H/\Rel K F' H m T/\T.length=S.length/\RP K F' H v x) :
  ∀{s:List D}{xs:List V}{M:List P}{F:Aa}{S T:aM},nC f s S=Y (M,T)->Rel K F H m S->dR K F H m s xs->∃F',Stp F m H F' m H/\Rel K F' H m T/\T.length=S.length/\cN K F' H M xs
 | [],xs,M,F,S,T,h,r,a=>by cases h;exact⟨F,.refl,r,rfl,a⟩
 |d::s,xs,M,F,S,T,h,r,a=>by obtain⟨x,z,e,p,q⟩:=a;obtain⟨v,o,c,h⟩:=ak h;obtain⟨C,A,t,h⟩:=ak h;cases h;obtain⟨B,k,i,l,u⟩:=n c r p;obtain⟨j,b,y,w,g⟩:=oM n t i (dR.mono k q);exact⟨j,k.trans b,y,w.trans l,x,z,e,RP.mono b u,g⟩
theorem nz:∀(n:Nat){d:D}{x:V}{v:P}{F:Aa}{S T:aM},toP n d S=Y (v,T)->Rel K F H m S->RD K F H m d x->∃F',Stp F m H F' m H/\Rel K F' H m T/\T.length=S.length/\RP K F' H v x
 |n,.p w,x,v,F,S,T,h,r,L=>by rw[sm]at h;cases h;exact⟨F,.refl,r,rfl,L⟩
 |0,.ref i,x,v,F,S,T,h,r,L=>by cases h
 |n+1,.ref i,x,v,F,S,T,h,r,L=>by
  obtain⟨a,e,p⟩:=L;subst e;have u:i < S.length:=by rw[<- r.len];exact(aX.mp p).1
  obtain⟨o,R⟩:∃o,S[i]? = Y o:=⟨S[i],by simp[u]⟩;have I:=r.obj i a o p R;simp only[toP,R]at h;cases o with
  |fz w=>cases h;exact⟨F,.refl,r,rfl,I⟩
  |ins c G N=>obtain⟨M,f,g,h⟩:=ak h;cases h;obtain⟨C,W,t,X,j,hk,A⟩:=I;obtain⟨B,E,z,l,y⟩:=oM (λh=>nz n h) g r A;obtain⟨Q,k⟩:∃o,f[i]? = Y o:=⟨f[i]'(by rw[l];exact u),by simp[l,u]⟩;have q:Stp B m H (λb=>B b\/b=a) m H:=oA (bg p);have s:RP K (λb=>B b\/b=a) H (.obj c G M) (.ref a):=⟨a,C,W,t,rfl,.inr rfl,X,j,hk,cN.mono q y⟩;exact⟨_,E.trans q,z.frz p k s,by rw[fI];exact l,s⟩
  |dtn _ _=>cases h
  |dtt G N=>obtain⟨M,f,g,h⟩:=ak h;cases h;obtain⟨t,j,hk,A⟩:=I;obtain⟨B,E,z,l,y⟩:=oM (λh=>nz n h) g r A;obtain⟨Q,k⟩:∃o,f[i]? = Y o:=⟨f[i]'(by rw[l];exact u),by simp[l,u]⟩;have q:Stp B m H (λb=>B b\/b=a) m H:=oA (bg p);have s:RP K (λb=>B b\/b=a) H (.dtt G M) (.ref a):=⟨a,t,rfl,.inr rfl,j,hk,cN.mono q y⟩;exact⟨_,E.trans q,z.frz p k s,by rw[fI];exact l,s⟩
  |lst N=>obtain⟨M,f,g,h⟩:=ak h;cases h;obtain⟨xs,j,A⟩:=I;obtain⟨B,E,z,l,y⟩:=oM (λh=>nz n h) g r A;obtain⟨Q,k⟩:∃o,f[i]? = Y o:=⟨f[i]'(by rw[l];exact u),by simp[l,u]⟩;have q:Stp B m H (λb=>B b\/b=a) m H:=oA (bg p);have s:RP K (λb=>B b\/b=a) H (.lst M) (.ref a):=⟨a,xs,rfl,⟨.inr rfl,j⟩,cN.mono q y⟩;exact⟨_,E.trans q,z.frz p k s,by rw[fI];exact l,s⟩
  |dct G N=>obtain⟨M,f,g,h⟩:=ak h;cases h;obtain⟨t,j,hk,A⟩:=I;obtain⟨B,E,z,l,y⟩:=oM (λh=>nz n h) g r A;obtain⟨Q,k⟩:∃o,f[i]? = Y o:=⟨f[i]'(by rw[l];exact u),by simp[l,u]⟩;have q:Stp B m H (λb=>B b\/b=a) m H:=oA (bg p);have s:RP K (λb=>B b\/b=a) H (.dct G M) (.ref a):=⟨a,t,rfl,.inr rfl,j,hk,cN.mono q y⟩;exact⟨_,E.trans q,z.frz p k s,by rw[fI];exact l,s⟩
end
structure Grow(F:Aa)(H:Hp)(F':Aa)(H':Hp):Prop where
 keep:∀b o,H b=Y o->H' b=Y o
 frz:∀b,F b->F' b
 nf:∀b,F' b->F b\/(H b=Vk/\H' b≠Vk)
section
variable{K:FG}{F F' B j:Aa}{H H' y I:Hp}{m:List Addr}{S T:aM}
theorem Grow.refl:Grow F H F H:=⟨λ_ _ h=>h,λ_ h=>h,λ_ h=>.inl h⟩
theorem Grow.stp(g:Grow F H F' H'):Stp F m H F' m H' where
 pre:=⟨[],by simp⟩
 oth:=λb o h _=>g.keep b o h
 frz:=g.frz
 frk:=λb o _ h=>g.keep b o h
 tup:=λb xs h=>g.keep b _ h
 trk:=λb h=>by
  cases q:H b with
  |none=>exact absurd q h
  |some o=>rw[g.keep b o q];exact λz=>nomatch z
 nf:=λb h=>by
  rcases g.nf b h with h|⟨h,_⟩
  .exact .inl h
  .exact .inr (.inl h)
 nm:=λ_ h=>.inl h
theorem Rel.grow(r:Rel K F H m S)(g:Grow F H F' H'):Rel K F' H' m S:=
 r.stay g.stp (fun a u _ h=>g.keep a u h) (fun a f=>by
  rcases g.nf a f with f|⟨f,_⟩
  .exact .inl f
  .exact .inr f) λa f=>by
  rcases g.nf a f with f|⟨_,f⟩
  .exact (g.stp (m:=m)).trk a (r.ft a f)
  .exact f
theorem cK{p:Addr}{o:HO}(x:H p=Vk):Grow F H F (cG H p o):=
 ⟨λb u h=>by rw[aJ (by rintro rfl;rw[x]at h;cases h)];exact h,λ_ h=>h,λ_ h=>.inl h⟩
theorem cn{p:Addr}{o:HO}(x:H p=Vk):Grow F H (λb=>F b\/b=p) (cG H p o):=
 ⟨fun b u h=>by rw [aJ (by rintro rfl;rw [x] at h;cases h)];exact h,fun _ h=>.inl h,fun b h=>by
  rcases h with h|h
  .exact .inl h
  .subst h;exact .inr ⟨x,by rw[aV];exact λz=>nomatch z⟩⟩
theorem RP.grow(g:Grow F H F' H')(h:RP K F H d v):RP K F' H' d v:=RP.mono (m:=[]) g.stp h
theorem cN.grow(g:Grow F H F' H')(h:cN K F H d v):cN K F' H' d v:=cN.mono (m:=[]) g.stp h
theorem RP.newTup(x:H p=Vk)(r:cN K F H h xs):RP K F (cG H p (.tup xs)) (.tup h) (.ref p):=⟨p,xs,rfl,.inl aV,r.grow (cK x)⟩
theorem RP.newLst(x:H p=Vk)(r:cN K F H h xs):RP K (λb=>F b\/b=p) (cG H p (.lst xs)) (.lst h) (.ref p):=⟨p,xs,rfl,⟨.inr rfl,aV⟩,r.grow (cn x)⟩
end
@[simp] def vC(v:P)(_L:Lc)(S:aM):tyV:=Y (v,S)
def aj(i:Nat)(L:Lc)(S:aM):xF:=match L[i]? with
 |some (Y d)=>Y (d,S)
 |_=>Vk
@[simp] def vE(f:EE)(L:Lc)(S:aM):tyV:=cg (f L S) (toP 9)
@[simp] def O(f:EV)(L:Lc)(S:aM):xF:=cg (f L S) λv h=>Y (.p v,h)
@[simp] def gQ(g:P->P->Option P)(a b:EV)(L:Lc)(S:aM):tyV:=cg (a L S) λx h=>cg (b L h) λy e=>(g x y).map λv=>(v,e)
@[simp] def Jq(g:P->Option P)(a:EV)(L:Lc)(S:aM):tyV:=cg (a L S) λx h=>(g x).map λv=>(v,h)
@[simp] def bV(a:EV)(L:Lc)(S:aM):Op:=cg (a L S) λx h=>match x with
 | .bl b=>Y (b,h)
 |_=>Vk
@[simp] def lz(a b:EB)(L:Lc)(S:aM):Op:=cg (a L S) λc h=>if c=Vl then b L h else Y (Vm,h)
@[simp] def EM(a b:EB)(L:Lc)(S:aM):Op:=cg (a L S) λc h=>if c=Vl then Y (Vl,h) else b L h
@[simp] def ED(a:EB)(L:Lc)(S:aM):Op:=cg (a L S) λc h=>Y (!c,h)
@[simp] def vB(a:EB)(L:Lc)(S:aM):tyV:=cg (a L S) λc h=>Y (.bl c,h)
@[simp] def Rl(c:EB)(a b:EV)(L:Lc)(S:aM):tyV:=cg (c L S) λk h=>if k=Vl then a L h else b L h
@[simp] def aU(_L:Lc)(S:aM):Jr:=Y ([],S)
@[simp] def aB(a:EV)(r:lC)(L:Lc)(S:aM):Jr:=cg (a L S) λx h=>cg (r L h) λxs e=>Y (x::xs,e)
@[simp] def bj(g:List P->Option P)(a:lC)(L:Lc)(S:aM):tyV:=cg (a L S) λxs h=>(g xs).map λv=>(v,h)
@[simp] def gf(L:Lc)(S:aM):CO:=Y (.nx,L,S)
@[simp] def ai(f g:ES)(L:Lc)(S:aM):CO:=match f L S with
 |some (.nx,h,x)=>g h x
 |r=>r
@[simp] def aA(i:Nat)(f:EE)(L:Lc)(S:aM):CO:=cg (f L S) λd h=>Y (.nx,L.set i (Y d),h)
@[simp] def bh(f:EE)(L:Lc)(S:aM):CO:=cg (f L S) λd h=>Y (.rt d,L,h)
@[simp] def bW(f:EE)(L:Lc)(S:aM):CO:=cg (f L S) λ_ h=>Y (.nx,L,h)
@[simp] def fm(c:EB)(a b:ES)(L:Lc)(S:aM):CO:=cg (c L S) λk h=>if k=Vl then a L h else b L h
noncomputable def MH:ES:=λ_ _=>Vk
noncomputable abbrev lM:=P->Lc->Option Lc
noncomputable def ah(i:Nat):lM:=λv L=>Y (L.set i (Y (.p v)))
noncomputable def bx(g:lM)(b:ES):List P->Lc->aM->Option (Fl×Lc×aM)
 | [],L,S=>Y (.nx,L,S)
 |v::r,L,S=>match g v L with
  |none=>Vk
  |some a=>match b a S with
   |some (.nx,L2,h)=>bx g b r L2 h
   |some (.ct,L2,h)=>bx g b r L2 h
   |some (.bk,L2,h)=>Y (.nx,L2,h)
   |x=>x
@[simp] def bD(i:lC)(g:lM)(b:ES)(L:Lc)(S:aM):CO:=cg (i L S) λxs h=>bx g b xs L h
open PySem PySem.Spec PyProof.Rows L2
section
variable(K:FG)
structure RL(F:Aa)(H:Hp)(m:List Addr)(J:L2.St)(L:Lc):Prop where
 len:J.length=L.length
 at':∀(i:Nat) d,L[i]? = Y (Y d)->∃v,J[i]? = Y (Y v)/\RD K F H m d v
inductive tEI(f:EE)(J:L2.St)(H:Hp)(Q:VK):Prop
 |mk (F:Aa) (m:List Addr) (L:Lc) (S:aM) (d:D) (S':aM) (h0_:Rel K F H m S) (h1_:RL K F H m J L) (h2_:f L S=Y (d,S')) (h3_:∀v F' m' H',Stp F m H F' m' H'->Rel K F' H' m' S'->RD K F' H' m' d v->Q v H'):tEI f J H Q
noncomputable def tE(f:EE):TE:=λJ H Q=>tEI K f J H Q
inductive tVI(f:EV)(J:L2.St)(H:Hp)(Q:VK):Prop
 |mk (F:Aa) (m:List Addr) (L:Lc) (S:aM) (d:P) (S':aM) (h0_:Rel K F H m S) (h1_:RL K F H m J L) (h2_:f L S=Y (d,S')) (h3_:∀v F' m' H',Stp F m H F' m' H'->Rel K F' H' m' S'->RP K F' H' d v->Q v H'):tVI f J H Q
noncomputable def tV(f:EV):TE:=λJ H Q=>tVI K f J H Q
inductive tQI(f:EB)(J:L2.St)(H:Hp)(Q:Bool->Hp->Prop):Prop
 |mk (F:Aa) (m:List Addr) (L:Lc) (S:aM) (b:Bool) (S':aM) (h0_:Rel K F H m S) (h1_:RL K F H m J L) (h2_:f L S=Y (b,S')) (h3_:∀F' m' H',Stp F m H F' m' H'->Rel K F' H' m' S'->Q b H'):tQI f J H Q
noncomputable def tQ(f:EB):TT:=λJ H Q=>tQI K f J H Q
inductive tVsI(f:lC)(J:L2.St)(H:Hp)(Q:List V->Hp->Prop):Prop
 |mk (F:Aa) (m:List Addr) (L:Lc) (S:aM) (ds:List P) (S':aM) (h0_:Rel K F H m S) (h1_:RL K F H m J L) (h2_:f L S=Y (ds,S')) (h3_:∀xs F' m' H',Stp F m H F' m' H'->Rel K F' H' m' S'->cN K F' H' ds xs->Q xs H'):tVsI f J H Q
noncomputable def tT(f:lC):TA:=λJ H Q=>tVsI K f J H Q
def SG(D:Ends)(F:Aa)(m:List Addr)(J:L2.St)(H:Hp):Fl->Prop
 | .nx=>D.nx J H
 | .bk=>D.bk J H
 | .ct=>D.ct J H
 | .rt d=>∀v,RD K F H m d v->D.rt v H
inductive tStI(f:ES)(D:Ends)(J:L2.St)(H:Hp):Prop
 |mk (F:Aa) (m:List Addr) (L:Lc) (S:aM) (fl:Fl) (L':Lc) (S':aM) (h0_:Rel K F H m S) (h1_:RL K F H m J L) (h2_:f L S=Y (fl,L',S')) (h3_:∀J' F' m' H',Stp F m H F' m' H'->Rel K F' H' m' S'->RL K F' H' m' J' L'->SG K D F' m' J' H' fl):tStI f D J H
noncomputable def pa(f:ES):TS:=λD J H=>tStI K f D J H
end
section
variable{K:FG}{F F':Aa}{H H':Hp}{m m':List Addr}{J:L2.St}{L:Lc}{S:aM}
theorem RL.mono(s:Stp F m H F' m' H')(h:RL K F H m J L):RL K F' H' m' J L:=⟨h.len,λi d e=>by obtain⟨v,x,r⟩:=h.at' i d e;exact⟨v,x,RD.mono s r⟩⟩
theorem RL.set (h:RL K F H m J L) (r:RD K F H m d v) (i:Nat):RL K F H m (J.set i (Y v)) (L.set i (Y d)):=⟨by rw [fI,fI];exact h.len,fun j e q=>by
 by_cases x:i=j
 .subst x;by_cases a:i < L.length
  .rw [cF a]at q;cases q;exact⟨v,cF (by rw[h.len];exact a),r⟩
  .rw [qZ (by rw[fI];lia)]at q;cases q
 .rw [a6 x]at q;rw[a6 x];exact h.at' j e q⟩
end
section
variable{X:Cx}{e:Expr}{z:Ab}{q:Stmt}{sts:List Stmt}
theorem _root_.L2.PE.imp'(h:PE X e t)(i:∀J H Q,k J H Q->t J H Q):PE X e k:=λp s J H Q I q=>h p s J H Q I (i J H Q q)
theorem _root_.L2.PT.imp'(h:PT X e t)(i:∀J H Q,k J H Q->t J H Q):PT X e k:=λp s J H Q I q=>h p s J H Q I (i J H Q q)
theorem _root_.L2.PW.imp'(h:PW X e t)(i:∀J H Q,k J H Q->t J H Q):PW X e k:=λw p s J H Q I q=>h w p s J H Q I (i J H Q q)
theorem _root_.L2.PA.imp'(h:PA X z t)(i:∀J H Q,k J H Q->t J H Q):PA X z k:=λN p s J H Q I q=>h N p s J H Q I (i J H Q q)
theorem _root_.L2.PS.imp'(h:PS X q t)(i:∀D J H,k D J H->t D J H):PS X q k:=λp s J H D I x=>h p s J H D I (i D J H x)
theorem _root_.L2.qF.imp'(h:qF X sts t)(i:∀D J H,k D J H->t D J H):qF X sts k:=λp s J H D I q=>h p s J H D I (i D J H q)
end
section
variable{X:Cx}{a b c e:Expr}{z:Ab}{fa fb:EV}{fe:EE}{N:Pos}
theorem R_(h:PE X e (tE X.K fe)):PE X e (tV X.K (vE fe)):=h.imp' λJ H Q z=>by obtain⟨F,m,L,S,d,T,r,l,q,k⟩:=z;obtain⟨a,x,n,f⟩:=ak q;refine⟨F,m,L,S,a,x,r,l,n,λv F' m' H' s b t=>?_⟩;obtain⟨j,w,c,_,p⟩:=nz 9 f b t;exact k v j m' H' (s.trans w) c p
theorem Oo(h:PE X e (tV X.K fa)):PE X e (tE X.K (O fa)):=h.imp' λJ H Q z=>by obtain⟨F,m,L,S,d,T,r,l,q,k⟩:=z;obtain⟨x,c,a,n⟩:=ak q;cases n;exact⟨F,m,L,S,x,T,r,l,a,λv F' m' H' s f b=>k v F' m' H' s f b⟩
theorem R9(i:Nat)(s:X.N[i]? = Y x:=by rfl)(n:OF X.e.scope x:=by first|exact Or.inl rfl|exact Or.inr (Or.inl rfl)|exact Or.inr (Or.inr rfl))(hd:(x == ("__debug__":Str))=Vm:=by decide)
  (h:(x == ("__classdict__":Str))=Vm:=by decide):PE X (.Name x N) (tE X.K (aj i)):=(M6 s n hd h).imp' λJ H Q z=>by
 obtain⟨F,m,L,S,d,T,r,l,q,k⟩:=z;unfold aj at q;split at q
 .rename_i b e;cases q;obtain⟨v,a,f⟩:=l.at' i _ e;exact⟨v,a,k v F m H .refl r f⟩
 .cases q
theorem xC(h:PE X e (tC v))(r:∀F H,RP X.K F H d v):PE X e (tV X.K (vC d)):=h.imp' λJ H Q z=>by obtain⟨F,m,L,S,a,T,x,l,q,k⟩:=z;cases q;exact k v F m H .refl x (r F H)
theorem Sk {i h N}:PE X (.Constant (.int i) h N) (tV X.K (vC (.int i))):=xC M' λ_ _=>rfl
theorem UH {i h N}:PE X (.Constant (.bool i) h N) (tV X.K (vC (.bl i))):=xC P7 λ_ _=>rfl
theorem Sd {h N}:PE X (.Constant .none h N) (tV X.K (vC .non)):=xC M_ λ_ _=>rfl
theorem Sa {i h N}:PE X (.Constant (.str i) h N) (tV X.K (vC (.str i))):=xC M7 λ_ _=>rfl
inductive rPI(K:FG)(g:P->P->Option P)(x:V)(y:V)(H:Hp)(Q:VK):Prop
 |mk (F:Aa) (dx:P) (dy:P) (d:P) (h0_:(∀a,F a->H a≠Vk)) (h1_:RP K F H dx x) (h2_:RP K F H dy y) (h3_:g dx dy=Y d) (h4_:∀v F' H',Grow F H F' H'->RP K F' H' d v->Q v H'):rPI K g x y H Q
noncomputable def rP(K:FG)(g:P->P->Option P):R2:=λx y H Q=>rPI K g x y H Q
def rQ(X:Cx)(f:Value->Value->Sem Value)(g:P->P->Option P):Prop:=jZ X f (rP X.K g)
theorem wB(h:tV X.K (gQ g fa fb) J H t):Mp (rP X.K g) (tV X.K fa) (tV X.K fb) J H t:=by
 obtain⟨F,m,L,S,d,T,r,l,q,k⟩:=h;obtain⟨x,s,K,q⟩:=ak q;obtain⟨a,o,P,q⟩:=ak q;refine⟨F,m,L,S,x,s,r,l,K,λv B A y b M D=>?_⟩;refine⟨B,A,L,s,a,o,M,l.mono b,P,λu j C I c f E=>?_⟩;cases e:g x a with
 |none=>rw[e]at q;cases q
 |some z=>rw[e]at q;cases q;refine⟨j,x,a,_,f.ft,RP.mono c D,E,e,λw p i n G=>?_⟩;exact k w p C i (b.trans (c.trans n.stp)) (f.grow n) G
theorem UE(o:rQ X (binaryOp k) g)(x:PE X a (tV X.K fa))(e:PE X b (tV X.K fb)):PE X (.BinOp a k b N) (tV X.K (gQ g fa fb)):=
 (P6 o x e).imp' λ_ _ _ h=>wB h
theorem Sm(o:rQ X (compareOp k) g)(x:PE X a (tV X.K fa))(e:PE X b (tV X.K fb))(m:behindInMarks k b=Vm):PE X (.Compare a [k] [b] N) (tV X.K (gQ g fa fb)):=
 (C7 o x e m).imp' λ_ _ _ h=>wB h
theorem FO(h:tQ X.K (bV (gQ g fa fb)) J H t):FP (Mp (rP X.K g) (tV X.K fa) (tV X.K fb)) J H t:=by
 refine wB ?_;obtain⟨F,m,L,S,d,T,r,l,q,k⟩:=h;obtain⟨x,n,e,q⟩:=ak q;cases x with
 |bl b=>cases q;exact⟨F,m,L,S,_,_,r,l,e,λv F' m' H' s a p=>⟨_,p,k F' m' H' s a⟩⟩
 |_=>cases q
theorem R7(o:rQ X (compareOp k) g)(x:PE X a (tV X.K fa))(e:PE X b (tV X.K fb))(m:behindInMarks k b=Vm):PT X (.Compare a [k] [b] N) (tQ X.K (bV (gQ g fa fb))):=
 (C3 o x e m).imp' λ_ _ _ h=>FO h
variable{qa qb:EB}{u:Ab}
theorem OT(h:PT X a (tQ X.K qa)):PW X (.BoolOp .And [a] N) (tQ X.K qa):=JS h
theorem R5(h:PT X a (tQ X.K qa)):PW X (.BoolOp .Or [a] N) (tQ X.K qa):=MT h
theorem R8(n:PT X a (tQ X.K qa))(f:PW X (.BoolOp .And (b::u) N) (tQ X.K qb)):PW X (.BoolOp .And (a::b::u) N) (tQ X.K (lz qa qb)):=
 (MU n f).imp' λJ H Q z=>by
  obtain⟨F,m,L,S,d,T,r,l,q,k⟩:=z;obtain⟨c,h,e,q⟩:=ak q;refine⟨F,m,L,S,c,h,r,l,e,λF' m' H' s x=>?_⟩;cases c with
  |true=>rw[ac rfl]at q ⊢;exact⟨F',m',L,h,d,T,x,l.mono s,q,λj t I v p=>k j t I (s.trans v) p⟩
  |false=>rw[ae bU]at q ⊢;cases q;exact k F' m' H' s x
theorem UC(n:PT X a (tQ X.K qa))(f:PW X (.BoolOp .Or (b::u) N) (tQ X.K qb)):PW X (.BoolOp .Or (a::b::u) N) (tQ X.K (EM qa qb)):=
 (P0 n f).imp' λJ H Q z=>by
  obtain⟨F,m,L,S,d,T,r,l,q,k⟩:=z;obtain⟨c,h,e,q⟩:=ak q;refine⟨F,m,L,S,c,h,r,l,e,λF' m' H' s x=>?_⟩;cases c with
  |false=>rw[ae bU]at q ⊢;exact⟨F',m',L,h,d,T,x,l.mono s,q,λj t I v p=>k j t I (s.trans v) p⟩
  |true=>rw[ac rfl]at q ⊢;cases q;exact k F' m' H' s x
theorem R6(h:PT X a (tQ X.K qa)):PT X (.UnaryOp .Not a N) (tQ X.K (ED qa)):=
 (MV h).imp' λJ H Q z=>by obtain⟨F,m,L,S,d,T,r,l,q,k⟩:=z;obtain⟨c,n,e,q⟩:=ak q;cases q;exact⟨F,m,L,S,c,T,r,l,e,λF' m' H' s x=>k F' m' H' s x⟩
theorem O6 {k} (h:PE X a (tV X.K (vB qa))):PE X (.BoolOp k [a] N) (tV X.K (vB qa)):=M8 h
theorem xS(h:tQ X.K qa J H k)(hk:∀b H',k b H'->t (.bl b) H'):tV X.K (vB qa) J H t:=by obtain⟨F,m,L,S,d,T,r,l,q,x⟩:=h;exact⟨F,m,L,S,.bl d,T,r,l,by unfold vB;rw[q];rfl,λv F' m' H' s a p=>by rw[show v=.bl d from p];exact hk _ _ (x F' m' H' s a)⟩
theorem Dc(h:tV X.K (vB qa) J H k):tQ X.K qa J H λb H'=>k (.bl b) H':=by obtain⟨F,m,L,S,d,T,r,l,q,x⟩:=h;obtain⟨c,n,e,q⟩:=ak q;cases q;exact⟨F,m,L,S,c,T,r,l,e,λF' m' H' s a=>x _ F' m' H' s a rfl⟩
theorem Sn(f:PE X a (tV X.K (vB qa)))(t:PE X (.BoolOp .And (b::u) N) (tV X.K (vB qb))):PE X (.BoolOp .And (a::b::u) N) (tV X.K (vB (lz qa qb))):=
 (Nb f t).imp' λJ H Q h=>by
  obtain⟨F,m,L,S,d,T,r,l,q,k⟩:=Dc h;obtain⟨c,x,n,q⟩:=ak q;refine xS (k:=λc y=>if c=Vl then tV X.K (vB qb) J y Q else Q (.bl Vm) y) ⟨F,m,L,S,c,x,r,l,n,λF' m' H' s e=>?_⟩ λb H' q=>⟨b,rfl,q⟩;cases c with
  |true=>rw[ac rfl]at q ⊢;exact xS (k:=λb I=>Q (.bl b) I) ⟨F',m',L,x,d,T,e,l.mono s,q,λj p I w v=>k j p I (s.trans w) v⟩ λ_ _ q=>q
  |false=>rw[ae bU]at q ⊢;cases q;exact k F' m' H' s e
theorem UD(f:PE X a (tV X.K (vB qa)))(t:PE X (.BoolOp .Or (b::u) N) (tV X.K (vB qb))):PE X (.BoolOp .Or (a::b::u) N) (tV X.K (vB (EM qa qb))):=
 (P5 f t).imp' λJ H Q h=>by
  obtain⟨F,m,L,S,d,T,r,l,q,k⟩:=Dc h;obtain⟨c,x,n,q⟩:=ak q;refine xS (k:=λc y=>if c=Vl then Q (.bl Vl) y else tV X.K (vB qb) J y Q) ⟨F,m,L,S,c,x,r,l,n,λF' m' H' s e=>?_⟩ λb H' q=>⟨b,rfl,q⟩;cases c with
  |false=>rw[ae bU]at q ⊢;exact xS (k:=λb I=>Q (.bl b) I) ⟨F',m',L,x,d,T,e,l.mono s,q,λj p I w v=>k j p I (s.trans w) v⟩ λ_ _ q=>q
  |true=>rw[ac rfl]at q ⊢;cases q;exact k F' m' H' s e
theorem Sc(x:PE X a (tV X.K (vB qa))):PE X (.UnaryOp .Not a N) (tV X.K (vB (ED qa))):=
 (M9 x).imp' λJ H Q h=>by obtain⟨F,m,L,S,d,T,r,l,q,k⟩:=Dc h;obtain⟨c,f,e,q⟩:=ak q;cases q;exact xS (k:=λb H'=>Q (.bl (!b)) H') ⟨F,m,L,S,c,T,r,l,e,λF' m' H' s n=>k F' m' H' s n⟩ λb H' q=>⟨b,rfl,q⟩
theorem CG(h:PE X e (tV X.K fa)):PE X e (tV X.K (vB (bV fa))):=h.imp' λJ H Q h=>by
 obtain⟨F,m,L,S,d,T,r,l,q,k⟩:=Dc h;obtain⟨x,f,a,q⟩:=ak q;cases x with
 |bl b=>cases q;exact⟨F,m,L,S,_,_,r,l,a,λv F' m' H' s n p=>by cases (show v=.bl d from p);exact k F' m' H' s n⟩
 |_=>cases q
theorem UG(u:PT X c (tQ X.K qa))(p:PE X a (tV X.K fa))(w:PE X b (tV X.K fb)):PE X (.IfExp c a b N) (tV X.K (Rl qa fa fb)):=
 (Gy u p w).imp' λJ H Q z=>by
  obtain⟨F,m,L,S,d,T,r,l,q,k⟩:=z;obtain⟨c,h,t,q⟩:=ak q;refine⟨F,m,L,S,c,h,r,l,t,λF' m' H' s f=>?_⟩;cases c with
  |true=>rw[ac rfl]at q ⊢;exact⟨F',m',L,h,d,T,f,l.mono s,q,λv j x I n e=>k v j x I (s.trans n) e⟩
  |false=>rw[ae bU]at q ⊢;exact⟨F',m',L,h,d,T,f,l.mono s,q,λv j x I n e=>k v j x I (s.trans n) e⟩
variable{fs:lC}
theorem Og:PA X [] (tT X.K aU):=ie.imp' λJ H Q h=>by obtain⟨F,m,L,S,d,T,r,l,q,k⟩:=h;cases q;exact k [] F m H .refl r rfl
theorem LQ(b:PE X e (tV X.K fa))(c:PA X z (tT X.K fs))(t:starEach (e::z) X.e=(Vm,eval e X.e)::starEach z X.e:=by rfl):PA X (e::z) (tT X.K (aB fa fs)):=
 (fK b c t).imp' λJ H Q p=>by obtain⟨F,m,L,S,d,T,r,l,q,k⟩:=p;obtain⟨x,h,n,q⟩:=ak q;obtain⟨xs,P,f,q⟩:=ak q;cases q;refine⟨F,m,L,S,x,h,r,l,n,λv B w y s o g=>?_⟩;refine⟨B,w,L,h,xs,T,o,l.mono s,f,λM j u I a K i=>?_⟩;exact k (v::M) j u I (s.trans a) K ⟨v,M,rfl,RP.mono a g,i⟩
noncomputable def few(xs:List α):Bool:=decide (xs.length≤1000000)
theorem mj{α:Type}{xs:List α}(h:few xs=Vl):xs.length≤sizeLine:=bf (aR h) (by decide)
@[simp] def aQ(a:lC)(L:Lc)(S:aM):tyV:=cg (a L S) λxs h=>if few xs=Vl then Y (.tup xs,h) else Vk
@[simp] def bP(a:lC)(L:Lc)(S:aM):tyV:=cg (a L S) λxs h=>if few xs=Vl then Y (.lst xs,h) else Vk
@[simp] def di(a:lC)(L:Lc)(S:aM):xF:=cg (a L S) λxs h=>if few xs=Vl then Y (.ref h.length,h++[.lst (xs.map .p)]) else Vk
theorem R' {t} (h:PA X z (tT X.K fs)):PE X (.Tuple z t N) (tV X.K (aQ fs)):=(wI h).imp' λJ H Q s=>by
 obtain⟨F,m,L,S,d,T,r,l,q,k⟩:=s;obtain⟨xs,v,e,q⟩:=ak q;split at q
 .rename_i f;cases q;refine⟨F,m,L,S,xs,T,r,l,e,λM B n y c b a=>⟨by rw[<- a.length];exact mj f,λp x=>?_⟩⟩;exact k (.ref p) B n _ (c.trans (cK x).stp) (b.grow (cK x)) (.newTup x a)
 .cases q
theorem Sf(h:PA X z (tT X.K fs)):PE X (.List z N) (tV X.K (bP fs)):=(Al h).imp' λJ H Q s=>by
 obtain⟨F,m,L,S,d,T,r,l,q,k⟩:=s;obtain⟨xs,t,e,q⟩:=ak q;split at q
 .rename_i f;cases q;refine⟨F,m,L,S,xs,T,r,l,e,λM B n y c b a=>⟨by rw[<- a.length];exact mj f,λp x=>?_⟩⟩;exact k (.ref p) _ n _ (c.trans (cn x).stp) (b.grow (cn x)) (.newLst x a)
 .cases q
theorem Lb(h:PA X z (tT X.K fs)):PE X (.List z N) (tE X.K (di fs)):=(Al h).imp' λJ H Q t=>by
 obtain⟨F,m,L,S,d,T,r,l,q,k⟩:=t;obtain⟨xs,f,b,q⟩:=ak q;split at q
 .rename_i c;cases q;refine⟨F,m,L,S,xs,f,r,l,b,λM B x y v s e=>⟨by rw[<- e.length];exact mj c,λp a=>?_⟩⟩;have n:Stp B x y B (x++[p]) (cG y p (.lst M)):=fJ a;refine k (.ref p) B (x++[p]) _ (v.trans n) (s.own a ⟨M,aV,dR.ofP (cN.mono n e)⟩) ⟨p,rfl,?_⟩;rw[<- s.len,c_ (az _)];simp
 .cases q
def rC(K:FG)(g:List P->Option P):List V->Hp->VK->Prop:=λxs H Q=>∃F s d,(∀a,F a->H a≠Vk)/\cN K F H s xs/\g s=Y d/\∀v F' H',Grow F H F' H'->RP K F' H' d v->Q v H'
theorem zT(h:tV X.K (bj g fs) J H t):tT X.K fs J H λM y=>rC X.K g M y t:=by
 obtain⟨F,m,L,S,d,T,r,l,q,k⟩:=h;obtain⟨xs,c,s,q⟩:=ak q;cases e:g xs with
 |none=>rw[e]at q;cases q
 |some z=>rw[e]at q;cases q;exact⟨F,m,L,S,xs,_,r,l,s,λM B n y b a f=>⟨B,xs,_,a.ft,f,e,λv j I x p=>k v j n I (b.trans x.stp) (a.grow x) p⟩⟩
theorem Ma{x:Str}{p:Pos}{id:String}{g:List P->Option P}(c:fZ X (.builtin id) (rC X.K g))(n:Gl X x)(m:X.g x=Vk)(v:bootBuiltins x=Y (.builtin id))(a:PA X (e::z) (tT X.K fs))(k:x≠"__name__":=by decide)(d:(x == ("__debug__":Str))=Vm:=by decide)
  (s:starEach (e::z) X.e=(Vm,eval e X.e)::starEach z X.e:=by rfl) (l:(backTo N (starEach z X.e)).any (·.1)=Vm:=by rfl):PE X (.Call (.Name x p) (e::z) [] N) (tV X.K (bj g fs)):=
 (oF c n m v a k d s l).imp' λ_ _ _ h=>zT h
theorem zI(c:fZ X (.type k) (rC X.K g))(n:Gl X x)(m:X.g x=Vk)(v:bootBuiltins x=Y (.type k))(a:PA X (e::z) (tT X.K fs))(f:x≠"__name__":=by decide)(d:(x == ("__debug__":Str))=Vm:=by decide)
  (s:starEach (e::z) X.e=(Vm,eval e X.e)::starEach z X.e:=by rfl) (l:(backTo N (starEach z X.e)).any (·.1)=Vm:=by rfl):PE X (.Call (.Name x p) (e::z) [] N) (tV X.K (bj g fs)):=
 (kn c n m v a f d s l).imp' λ_ _ _ h=>zT h
noncomputable def Rp(K:FG)(g:List P->Option P):Sp:=λM H Q _=>rC K g M H Q
theorem O5(G:FnOk X.p X.w X.K X.g X.b u9 k f t C (Rp X.K g))(i:Room k X.A)(w:Gl X x)(u:X.g x=Y (.ref f))(hk:iN X.K (.ref f)=Vl)(c:Binds X.K t C [])
  (b:PA X (e::z) (tT X.K fs)) (d:(x == ("__debug__":Str))=Vm:=by decide) (v:starEach (e::z) X.e=(Vm,eval e X.e)::starEach z X.e:=by rfl) (a:(backTo N (starEach z X.e)).any (·.1)=Vm:=by rfl) :
  PE X (.Call (.Name x p) (e::z) [] N) (tV X.K (bj g fs)):=
 (wJ G i w u hk c .nil uJ b d v a).imp' λJ H Q h=>by obtain⟨F,m,L,S,n,T,r,l,q,k⟩:=zT h;exact⟨F,m,L,S,n,T,r,l,q,λxs F' m' H' s j p=>by show Rp X.K g (xs++[]) H' Q E0;rw[eZ];exact k xs F' m' H' s j p⟩
end
section
variable{X:Cx}{a b e:Expr}{q:Stmt}{u bs cs:List Stmt}{f g:ES}{fe:EE}{qa:EB}{N:Pos}
theorem R3:qF X [] (pa X.K gf):=JU.imp' λD J H h=>by obtain⟨F,m,L,S,f,x,T,r,l,q,k⟩:=h;cases q;exact k J F m H .refl r l
theorem OQ(o:PS X q (pa X.K f))(K:qF X u (pa X.K g)):qF X (q::u) (pa X.K (ai f g)):=(Gn o K).imp' λD J H P=>by
 obtain⟨F,m,L,S,i,w,T,r,l,h,k⟩:=P;cases e:f L S with
 |none=>rw[show ai f g L S=Vk by unfold ai;rw[e]]at h;cases h
 |some x=>
  obtain⟨yJ,p,v⟩:=x;cases yJ with
  |nx=>
   have n:g p v=Y (i,w,T):=by have:=h;unfold ai at this;rw[e]at this;exact this
   exact⟨F,m,L,S,.nx,p,v,r,l,e,λt B s y c b a=>⟨B,s,p,v,i,w,T,b,a,n,λz j C I G E A=>k z j C I (c.trans G) E A⟩⟩
  |rt d=>
   have n:Y (Fl.rt d,p,v)=Y (i,w,T):=by have:=h;unfold ai at this;rw[e]at this;exact this
   cases n;exact⟨F,m,L,S,_,_,_,r,l,e,λt B s y c b a=>k t B s y c b a⟩
  |bk=>
   have n:Y (Fl.bk,p,v)=Y (i,w,T):=by have:=h;unfold ai at this;rw[e]at this;exact this
   cases n;exact⟨F,m,L,S,_,_,_,r,l,e,λt B s y c b a=>k t B s y c b a⟩
  |ct=>
   have n:Y (Fl.ct,p,v)=Y (i,w,T):=by have:=h;unfold ai at this;rw[e]at this;exact this
   cases n;exact⟨F,m,L,S,_,_,_,r,l,e,λt B s y c b a=>k t B s y c b a⟩
theorem R1(h:PS X q (pa X.K f)):qF X [q] (pa X.K f):=JT h
theorem OJ(h:PE X e (tE X.K fe)):PS X (.Return (Y e) N) (pa X.K (bh fe)):=(MX h).imp' λD J H z=>by obtain⟨F,m,L,S,b,n,T,r,l,q,k⟩:=z;obtain⟨d,f,x,q⟩:=ak q;cases q;exact⟨F,m,L,S,d,T,r,l,x,λv F' m' H' s a p=>k J F' m' H' s a (l.mono s) v p⟩
theorem OP(h:PE X e (tE X.K fe))(a:swapsWith e Vk N.line X.e=pure Vm:=by rfl):PS X (.Expr e N) (pa X.K (bW fe)):=(JW h a).imp' λD J H z=>by obtain⟨F,m,L,S,c,f,T,r,l,q,k⟩:=z;obtain⟨d,b,x,q⟩:=ak q;cases q;exact⟨F,m,L,S,d,T,r,l,x,λv F' m' H' s n p=>k J F' m' H' s n (l.mono s)⟩
theorem zH(i:Nat)(n:X.N.Nodup)(h:PE X e (tE X.K fe))(b:X.N[i]? = Y x:=by rfl)(w:Loc X.e.scope x:=by first|exact Or.inl rfl|exact Or.inr rfl)(c:swapsWith e (Y (.Name x t)) N.line X.e=pure Vm:=by rfl)
  (f:X.fn x=Vl\/X.e.scope.names.lookup x=Y .local:=by first|exact .inl rfl|exact .inr rfl|assumption):PS X (.Assign [.Name x t] e N) (pa X.K (aA i fe)):=
 (MW n b w h c f).imp' λD J H z=>by obtain⟨F,m,L,S,y,g,T,r,l,q,k⟩:=z;obtain⟨d,j,a,q⟩:=ak q;cases q;exact⟨F,m,L,S,d,T,r,l,a,λv F' m' H' s u p=>k (J.set i (Y v)) F' m' H' s u ((l.mono s).set p i)⟩
theorem UB(i:PT X c (tQ X.K qa))(w:qF X bs (pa X.K f))(u:qF X cs (pa X.K g)):PS X (.If c bs cs N) (pa X.K (fm qa f g)):=(P1 i w u).imp' λD J H z=>by
 obtain⟨F,m,L,S,p,t,T,r,l,q,k⟩:=z;obtain⟨c,x,d,q⟩:=ak q;refine⟨F,m,L,S,c,x,r,l,d,λF' m' H' s v=>?_⟩;cases c with
 |true=>rw[ac rfl]at q ⊢;exact⟨F',m',L,x,p,t,T,v,l.mono s,q,λh j e I b n a=>k h j e I (s.trans b) n a⟩
 |false=>rw[ae bU]at q ⊢;exact⟨F',m',L,x,p,t,T,v,l.mono s,q,λh j e I b n a=>k h j e I (s.trans b) n a⟩
inductive gTI(K:FG)(g:lM)(x:V)(J:L2.St)(H:Hp)(Q:L2.St->Hp->Prop):Prop
 |mk (F:Aa) (m:List Addr) (L:Lc) (v:P) (L':Lc) (h0_:RL K F H m J L) (h1_:RP K F H v x) (h2_:g v L=Y L') (h3_:∀J',RL K F H m J' L'->Q J' H):gTI K g x J H Q
noncomputable def gT(K:FG)(g:lM):TG:=λx J H Q=>gTI K g x J H Q
theorem _root_.L2.PG.imp'(h:PG X l t)(i:∀v J H Q,k v J H Q->t v J H Q):PG X l k:=λp s J H v u Q I r q=>h p s J H v u Q I r (i v J H Q q)
theorem NO(i:Nat)(h:X.N.Nodup)(a:X.N[i]? = Y x:=by rfl)(e:Loc X.e.scope x:=by first|exact Or.inl rfl|exact Or.inr rfl)(f:X.fn x=Vl\/X.e.scope.names.lookup x=Y .local:=by first|exact .inl rfl|exact .inr rfl|assumption) :
  PG X (.Name x N) (gT X.K (ah i)):=(J2 h a e f).imp' λv J H Q z=>by
 obtain⟨F,m,L,d,s,l,p,q,k⟩:=z;cases q;exact k _ (l.set (d:=.p d) p i)
def OI(K:FG)(a:It)(M:List P)(F:Aa)(m:List Addr)(H:Hp):Prop:=∀j s I,Stp F m H j s I ->
 (∀(i:Nat) v,M[i]? = Y v->a.go i I/\∀x h,a.yld i I x h->∃e,Grow j I e h/\RP K e h v x)/\a.stop M.length I
inductive tII(K:FG)(f:lC)(J:L2.St)(H:Hp)(R:It->Hp->Prop):Prop
 |mk (F:Aa) (m:List Addr) (L:Lc) (S:aM) (vs:List P) (S':aM) (h0_:Rel K F H m S) (h1_:RL K F H m J L) (h2_:f L S=Y (vs,S')) (h3_:∀J9 F' m' H',Stp F m H F' m' H'->Rel K F' H' m' S'->OI K J9 vs F' m' H'->R J9 H'):tII K f J H R
noncomputable def tI(K:FG)(f:lC):TI:=λJ H R=>tII K f J H R
theorem R4{tg iter:Expr}{fi:lC}{g:lM}{b:List Stmt}{fb:ES}(hp:PassesOwn (model X.p X.w) X.A X.e X.xe)(hc:X.c=Vl)(hi:PI X tg iter (tI X.K fi))(hg:PG X tg (gT X.K g))(hb:qF X b (pa X.K fb))
  (hs:∀x,foldedSetIterable iter X.e x=pure x:=by intro _;rfl):PS X (.For tg iter b [] N) (pa X.K (bD fi g fb)):=
 (MY hp hc hi hg hb hs).imp' λD J H hz=>by
  obtain⟨F,m,L,S,fl,L',T,r,l,q,k⟩:=hz;obtain⟨M,S1,e1,q⟩:=ak q;refine⟨F,m,L,S,M,S1,r,l,e1,fun J9 B u y A r1 it=>?_⟩;refine⟨fun i n Q I=>n=M.length-i/\i≤M.length/\∃j s L2 f,Stp B u y j s I/\Rel X.K j I s f/\RL X.K j I s Q L2/\bx g fb (M.drop i) L2 f=Y (fl,L',T),
   ⟨M.length,rfl,cO _,B,u,L,S1,.refl,r1,l.mono A,by rw[qT];exact q⟩,?_⟩
  rintro i n Q I ⟨rfl,hi,j,s,L2,f,s2,r2,l2,a⟩;obtain⟨go,o⟩:=it j s I s2;by_cases t:i < M.length
  .right;have hv:M[i]? = Y M[i]:=by simp[t]
   rw[B_ t]at a;obtain⟨hgo,hy⟩:=go i _ hv;refine⟨hgo,λJ3 c=>∃n',n' < M.length-i/\(n'=M.length-(i+1)/\i+1≤M.length/\∃j s L2 f,Stp B u y j s c/\Rel X.K j c s f/\RL X.K j c s J3 L2/\bx g fb (M.drop (i+1)) L2 f=Y (fl,L',T)),λ_ _ z=>z,λx c h=>?_⟩;obtain⟨G,gr,p3⟩:=hy x c h;unfold bx at a;cases eg:g M[i] L2 with
   |none=>rw[eg]at a;cases a
   |some R=>
    rw[eg]at a;dsimp only at a;refine⟨G,s,L2,M[i],R,l2.mono gr.stp,p3,eg,λJ3 l3=>?_⟩;have C:Stp B u y G s c:=s2.trans gr.stp;have r3:=r2.grow gr;cases Z:fb R f with
    |none=>rw[Z]at a;cases a
    |some z=>
     obtain⟨p,V,W⟩:=z;rw[Z]at a;refine⟨G,s,R,f,p,V,W,r3,l3,Z,λJ4 v K H4 E P w=>?_⟩;cases p with
     |nx=>exact⟨M.length-(i+1),by lia,rfl,t,v,K,V,W,C.trans E,P,w,a⟩
     |ct=>exact⟨M.length-(i+1),by lia,rfl,t,v,K,V,W,C.trans E,P,w,a⟩
     |bk=>cases a;exact k J4 v K H4 (A.trans (C.trans E)) P w
     |rt d=>cases a;exact k J4 v K H4 (A.trans (C.trans E)) P w
  .left;have e:i=M.length:=by lia
   subst e;rw[qU]at a;cases a;exact⟨o,k Q j s I (A.trans s2) r2 l2⟩
end
theorem Stp.toGrow(s:Stp F [] H F' m' H')(f:∀a,F' a->H' a≠Vk):Grow F H F' H':=
 ⟨fun b o h=>s.oth b o h (by simp),s.frz,fun b h=>by
  rcases s.nf b h with q|q|q
  .exact .inl q
  .exact .inr ⟨q,f b h⟩
  .simp at q⟩
theorem nc{α:Prop}{β:Type}{d:β}(h:(Vk:Option β)=Y d):α:=nomatch h
noncomputable def lr(n:Nat):Bool:=decide (n≤1000000)
theorem jY(h:lr n=Vl):n≤sizeLine:=bf (aR h) (by decide)
section
variable{X:Cx}
def tB:P->P->Option P
 | .int i,.int j=>Y (.int (i+j))
 | .str x,.str y=>if lr (x.length+y.length)=Vl then Y (.str (x++y)) else Vk
 | .tup xs,.tup s=>if (!xs.isEmpty && lr (xs.length+s.length))=Vl then Y (.tup (xs++s)) else Vk
 | .lst xs,.lst s=>if lr (xs.length+s.length)=Vl then Y (.lst (xs++s)) else Vk
 |_,_=>Vk
theorem Qm:rQ X (binaryOp .Add) tB:=by
 intro f s J H x y v u Q I g l h;obtain⟨F,B,w,d,D,px,py,q,k⟩:=h;cases B with
 |int i=>
  cases w with
  |int j=>cases q;cases (show x=.int i from px);cases (show y=.int j from py);exact Nj f s J H _ _ v u Q I g l ⟨i,j,rfl,rfl,k _ F H .refl rfl⟩
  |_=>exact nc q
 |str i=>
  cases w with
  |str j=>
   simp only[tB]at q;split at q
   .rename_i c;cases q;cases (show x=.str i from px);cases (show y=.str j from py);exact Am f s J H _ _ v u Q I g l ⟨i,j,rfl,rfl,jY c,k _ F H .refl rfl⟩
   .cases q
  |_=>exact nc q
 |tup K=>
  cases w with
  |tup z=>
   simp only[tB]at q;split at q
   .rename_i c;rw[ar]at c;cases q;obtain⟨a,xs,rfl,ta,r⟩:=px;obtain⟨b,S,rfl,o,t⟩:=py;have P:=r.length;have A:=t.length;have C:xs≠[]:=λn=>by
     subst n;have:K=[]:=kY P;subst this;simp at c
    refine Kf f s J H _ _ v u Q I g l ⟨a,b,xs,S,rfl,rfl,ta.sq,o.sq,C,by rw[<- P,<- A];exact jY c.2,λn=>?_,λ_ p m=>?_⟩
    .subst n;have e:z=[]:=kY A;subst e;refine k _ F H .refl ?_;rw[eZ];exact⟨a,xs,rfl,ta,r⟩
    .exact k _ F _ (cK m) (.newTup m (r.append t))
   .cases q
  |_=>exact nc q
 |lst K=>
  cases w with
  |lst z=>
   simp only[tB]at q;split at q
   .rename_i c;cases q;obtain⟨a,xs,rfl,ta,r⟩:=px;obtain⟨b,S,rfl,o,t⟩:=py;exact Ni f s J H _ _ v u Q I g l ⟨a,b,xs,S,rfl,rfl,ta.2,o.2,by rw[<- r.length,<- t.length];exact jY c,λp m=>k _ _ _ (cn m) (.newLst m (r.append t))⟩
   .cases q
  |_=>exact nc q
 |_=>exact nc q
noncomputable def Ir(c:Int->Int->Bool)(g:Int->Int->P):P->P->Option P
 | .int i,.int j=>if c i j=Vl then Y (g i j) else Vk
 |_,_=>Vk
@[simp] theorem KR(c:Int->Int->Bool)(g:Int->Int->P)(i j:Int):Ir c g (.int i) (.int j)=if c i j=Vl then Y (g i j) else Vk:=rfl
theorem yd{f:Value->Value->Sem Value}{C:Int->Int->Prop}{a:Int->Int->V}{c:Int->Int->Bool}{g:Int->Int->P}(o:jZ X f (rI C a))(b:∀i j,c i j=Vl->C i j)(m:∀K F H i j,RP K F H (g i j) (a i j)):rQ X f (Ir c g):=by
 intro p s J H x y v u Q I t w h;obtain⟨F,e,n,d,l,px,py,q,k⟩:=h;cases e with
 |int i=>
  cases n with
  |int j=>
   rw[KR]at q;split at q
   .rename_i r;cases q;cases (show x=.int i from px);cases (show y=.int j from py);exact o p s J H _ _ v u Q I t w ⟨i,j,rfl,rfl,b i j r,k _ F H .refl (m _ _ _ _ _)⟩
   .cases q
  |_=>exact nc q
 |_=>exact nc q
theorem sG(h:jZ X f (JP k)):jZ X f (rI (λ_ _=>True) k):=λp s J H x y v u Q I r n ⟨i,j,e,a,_,q⟩=>h p s J H x y v u Q I r n ⟨i,j,e,a,q⟩
noncomputable abbrev Fu:Int->Int->Bool:=λ_ _=>Vl
abbrev NY:=Ir Fu λi j=>.int (i-j)
theorem Qb:rQ X (binaryOp .Sub) NY:=yd (sG Nc) (λ_ _ _=>trivial) λ_ _ _ _ _=>rfl
noncomputable abbrev M3:Int->Int->Bool:=λ_ j=>decide (0 < j) && decide (j < 1152921504606846976)
theorem GK:jZ X (binaryOp .FloorDiv) (rI (λ_ j=>0 < j/\j < 1152921504606846976) λi j=>.int (i / j)):=Rs λi j _ _ _ _ _ h q=>by have a:(0:Int) < j:=h.1;have e:j < 1152921504606846976:=h.2;have x:j.natAbs.log2 < 9000:=bZ ((BA (by lia)).mpr (show j.natAbs < 2 ^ 60 by lia)) (by decide);exact floordiv_int (by lia) (by rw[Int.fdiv_eq_ediv_of_nonneg i (by lia)];exact q) (.inl (PyProof.noPylong_of_log2 x))
abbrev AQ:=Ir M3 λi j=>.int (i / j)
theorem Kg:rQ X (binaryOp .FloorDiv) AQ:=yd GK (λi j h=>by rw[ar]at h;exact⟨aR h.1,aR h.2⟩) λ_ _ _ _ _=>rfl
abbrev N4:=Ir (λ_ j=>decide (0 < j)) λi j=>.int (i % j)
theorem Qf:rQ X (binaryOp .Mod) N4:=yd Ng (λi j h=>aR h) λ_ _ _ _ _=>rfl
abbrev N0:=Ir (λi j=>decide (0≤j) && decide (j≤1000000) && decide (i.natAbs < 2 ^ 64)) λi j=>.int (i ^ j.toNat)
theorem Qc:rQ X (binaryOp .Pow) N0:=yd Nf (λi j h=>by simp only[ar]at h;exact⟨aR h.1.1,aR h.1.2,aR h.2⟩) λ_ _ _ _ _=>rfl
abbrev TQ:=Ir Fu λi j=>.bl (decide (i < j))
theorem Th:rQ X (compareOp .Lt) TQ:=yd (sG P9) (λ_ _ _=>trivial) λ_ _ _ _ _=>rfl
abbrev QY:=Ir Fu λi j=>.bl (decide (i≤j))
theorem Ti:rQ X (compareOp .LtE) QY:=yd (sG P_) (λ_ _ _=>trivial) λ_ _ _ _ _=>rfl
abbrev TU:=Ir Fu λi j=>.bl (decide (j < i))
theorem Tj:rQ X (compareOp .Gt) TU:=yd (sG P') (λ_ _ _=>trivial) λ_ _ _ _ _=>rfl
abbrev TV:=Ir Fu λi j=>.bl (decide (j≤i))
theorem Tl:rQ X (compareOp .GtE) TV:=yd (sG Qa) (λ_ _ _=>trivial) λ_ _ _ _ _=>rfl
noncomputable def iH(i j:Int):Bool:=decide (i.natAbs.log2+j.natAbs.log2 < 100000000)
theorem GV{i j:Int}(h:iH i j=Vl):IntMulOk i j:=by
 have a:i.natAbs.log2+j.natAbs.log2 < 100000000:=aR h;have b:∀x:Int,Builtin.Int.intBits x≤x.natAbs.log2+1:=λx=>by
  unfold Builtin.Int.intBits;split
  .exact cO _
  .exact az _
 exact IntMulOk.of_le (b i) (b j) (by lia)
theorem Ke:jZ X (binaryOp .Mult) (rI (λi j=>IntMulOk i j) λi j=>.int (i * j)):=Rs λ_ _ _ _ _ _ _ h q=>mul_int q h
noncomputable def fy(x:Str)(n:Nat):Str:=⟨(List.replicate n x.cps).foldl (·++·) #[]⟩
theorem zV(x:Str):fy x 1=x:=by unfold fy;cases x;simp
theorem Ep(n:Nat):(List.replicate n (#[]:Array Nat)).foldl (·++·) #[]=#[]:=by
 induction n with
 |zero=>rfl
 |succ n i=>rw[gq,i_];simpa using i
theorem wD(x:Str)(n:Nat)(h:x.length=0):fy x n=x:=by have e:x.cps=#[]:=Array.eq_empty_of_size_eq_zero (by simpa[nS] using h);unfold fy;cases x;simp only at e;subst e;rw[Ep]
theorem AJ(a:Array Nat)(n:Nat):∀b:Array Nat,((List.replicate n a).foldl (·++·) b).size=b.size+n * a.size:=by
 induction n with
 |zero=>intro b;simp
 |succ n i=>intro b;rw[gq,i_,i,Array.size_append,BE];lia
theorem na(x:Str)(n:Nat):(fy x n).length=n * x.length:=by unfold fy nS;simp only;rw[AJ];simp
def xl:P->P->Option P
 | .int i,.int j=>if iH i j=Vl then Y (.int (i * j)) else Vk
 | .str x,.int n=>if (lr (n.toNat * x.length) && decide (n.natAbs < 1000000))=Vl then Y (.str (fy x n.toNat)) else Vk
 | .lst xs,.int n=>if (lr (xs.length * n.toNat) && decide (n.natAbs < 1000000))=Vl then Y (.lst (List.replicate n.toNat xs).flatten) else Vk
 |_,_=>Vk
theorem cN.rep(h:cN K F H r xs):∀k:Nat,cN K F H (List.replicate k r).flatten (List.replicate k xs).flatten
 |0=>rfl
 |k+1=>by rw[gq,gq,mO,mO];exact h.append (cN.rep h k)
theorem Qe:rQ X (binaryOp .Mult) xl:=by
 intro r s J H x y v u Q I g l h;obtain⟨F,P,w,d,E,px,py,q,k⟩:=h;cases P with
 |int i=>
  cases w with
  |int j=>
   simp only[xl]at q;split at q
   .rename_i c;cases q;cases (show x=.int i from px);cases (show y=.int j from py);exact Ke r s J H _ _ v u Q I g l ⟨i,j,rfl,rfl,GV c,k _ F H .refl rfl⟩
   .cases q
  |_=>exact nc q
 |str i=>
  cases w with
  |int n=>
   simp only[xl]at q;split at q
   .rename_i c;rw[ar]at c;have C:=aR c.2;have G:n.toNat * i.length≤1000000:=aR c.1;have M:=l8;have N:(1000000:Nat)≤sizeLine:=by decide
    cases q;cases (show x=.str i from px);cases (show y=.int n from py);obtain⟨t,rfl⟩:=g;obtain⟨R,rfl⟩:=l;refine PySem.P.mul_str (by have A:decide (n < -(2 ^ 63:Int))=Vm:=bA (by lia);have B:decide (n ≥ 2 ^ 63)=Vm:=bA (by lia);rw[A,B];rfl) (λa b=>?_) (λa b=>?_) ?_
    .intro z;have L:((i.length:Nat):Int)≤(2 ^ 63-1) / n:=by
      refine(Int.le_ediv_iff_mul_le (by lia)).mpr ?_;have e:((i.length:Nat):Int) * n=((n.toNat * i.length:Nat):Int):=by rw[Int.natCast_mul,Int.toNat_of_nonneg (by lia),Int.mul_comm]
      rw[e];lia
     lia
    .unfold Builtin.Str.tooLong;first
      |exact bA (by rw[mI];lia)
      |(rw[mI];exact bA (by lia))
    .have f:Q (.str (fy i n.toNat)) H:=k _ F H .refl rfl;by_cases o:n < 1
     .rw [ac o];have e:n.toNat=0:=by lia
      rw[e]at f;exact⟨by decide,⟨.str Str.empty,H,I.tok _,⟨_,rfl⟩,f⟩⟩
     .rw [ae o];by_cases m:(n == 1 ||i.length == 0)=Vl
      .rw [ac m];rw[Bool.or_eq_true]at m;have e:fy i n.toNat=i:=by
        rcases m with m|m
        .have:n=1:=by simpa using m
         subst this;exact zV i
        .exact wD i _ (by simpa using m)
       rw[e]at f;exact⟨.str i,H,I,⟨_,rfl⟩,f⟩
      .rw [ae m];refine⟨?_,⟨.str (fy i n.toNat),H,I.tok _,⟨_,rfl⟩,f⟩⟩;have:=na i n.toNat
       unfold fy at this;rw[this];lia
   .cases q
  |_=>exact nc q
 |lst D=>
  cases w with
  |int n=>
   simp only[xl]at q;split at q
   .rename_i c;rw[ar]at c;have C:=aR c.2;cases q;obtain⟨a,xs,rfl,ta,K⟩:=px;cases (show y=.int n from py);exact Nd r s J H _ _ v u Q I g l ⟨a,n,xs,rfl,rfl,ta.2,by lia,by lia,by rw[<- K.length];exact jY c.1,λp S=>k _ _ _ (cn S) (.newLst S (K.rep _))⟩
   .cases q
  |_=>exact nc q
 |_=>exact nc q
noncomputable def Us:P->P->Option P
 | .int i,.int j=>Y (.bl (decide (i=j)))
 | .str x,.str y=>Y (.bl (decide (x=y)))
 | .bl a,.bl b=>Y (.bl (decide (a=b)))
 |_,_=>Vk
noncomputable def N3:P->P->Option P
 | .int i,.int j=>Y (.bl (!decide (i=j)))
 | .str x,.str y=>Y (.bl (!decide (x=y)))
 | .bl a,.bl b=>Y (.bl (!decide (a=b)))
 |_,_=>Vk
theorem qf{i j:Int}:decide (V.int i=V.int j)=decide (i=j):=by
 by_cases h:i=j
 .subst h;simp
 .rw [bA h,bA λz=>h (V.int.inj z)]
theorem qe:decide (V.str i=V.str k)=decide (i=k):=by
 by_cases h:i=k
 .subst h;simp
 .rw [bA h,bA λz=>h (V.str.inj z)]
theorem tz:decide (V.bl i=V.bl k)=decide (i=k):=by
 by_cases h:i=k
 .subst h;simp
 .rw [bA h,bA λz=>h (V.bl.inj z)]
theorem Tn:rQ X (compareOp .Eq) Us:=by
 intro p s J H x y v u Q I r e h;obtain⟨F,n,a,d,f,px,py,q,k⟩:=h;cases n with
 |int i=>
  cases a with
  |int j=>cases q;cases (show x=.int i from px);cases (show y=.int j from py);exact GL p s J H _ _ v u Q I r e ⟨rfl,by rw[qf];exact k _ F H .refl rfl⟩
  |_=>exact nc q
 |str i=>
  cases a with
  |str j=>cases q;cases (show x=.str i from px);cases (show y=.str j from py);exact GL p s J H _ _ v u Q I r e ⟨rfl,by rw[qe];exact k _ F H .refl rfl⟩
  |_=>exact nc q
 |bl i=>
  cases a with
  |bl j=>cases q;cases (show x=.bl i from px);cases (show y=.bl j from py);exact GL p s J H _ _ v u Q I r e ⟨rfl,by rw[tz];exact k _ F H .refl rfl⟩
  |_=>exact nc q
 |_=>exact nc q
theorem Tg:rQ X (compareOp .NotEq) N3:=by
 intro p s J H x y v u Q I r e h;obtain⟨F,n,a,d,f,px,py,q,k⟩:=h;cases n with
 |int i=>
  cases a with
  |int j=>cases q;cases (show x=.int i from px);cases (show y=.int j from py);exact GJ p s J H _ _ v u Q I r e ⟨rfl,by rw[qf];exact k _ F H .refl rfl⟩
  |_=>exact nc q
 |str i=>
  cases a with
  |str j=>cases q;cases (show x=.str i from px);cases (show y=.str j from py);exact GJ p s J H _ _ v u Q I r e ⟨rfl,by rw[qe];exact k _ F H .refl rfl⟩
  |_=>exact nc q
 |bl i=>
  cases a with
  |bl j=>cases q;cases (show x=.bl i from px);cases (show y=.bl j from py);exact GJ p s J H _ _ v u Q I r e ⟨rfl,by rw[tz];exact k _ F H .refl rfl⟩
  |_=>exact nc q
 |_=>exact nc q
theorem DN{α β:Type}{xs:List α}{s:List β}{i:Int}{d:α}(l:xs.length=s.length)(h:L2.atI xs i=Y d):∃j:Nat,xs[j]? = Y d/\∀y,s[j]? = Y y->L2.atI s i=Y y:=by
 unfold L2.atI at h ⊢;rw[l]at h;cases e:Aw s.length i with
 |none=>rw[e]at h;cases h
 |some j=>rw[e]at h;exact⟨j,h,λy x=>x⟩
theorem cN.atI{K:FG}{F:Aa}{H:Hp}{s:List P}{xs:List V}{i:Int}{d:P}(r:cN K F H s xs)(h:L2.atI s i=Y d):∃x,L2.atI xs i=Y x/\RP K F H d x:=by obtain⟨j,a,n⟩:=DN r.length h;obtain⟨x,e,p⟩:=r.get a;exact⟨x,n x e,p⟩
theorem dR.atI{K:FG}{F:Aa}{H:Hp}{m:List Addr}{s:List D}{xs:List V}{i:Int}{d:D}(r:dR K F H m s xs)(h:L2.atI s i=Y d):∃x,L2.atI xs i=Y x/\RD K F H m d x:=by obtain⟨j,a,n⟩:=DN r.length h;obtain⟨x,e,p⟩:=r.get a;exact⟨x,n x e,p⟩
noncomputable def cT(k:ci):List ci->List α->Option α
 |h::s,v::M=>if h=k then Y v else cT k s M
 |_,_=>Vk
noncomputable def dH:P->Option ci
 | .int i=>Y (.inl i)
 | .str x=>Y (.inr x)
 |_=>Vk
def iM:P->P->Option P
 | .tup xs,.int i=>L2.atI xs i
 | .lst xs,.int i=>L2.atI xs i
 | .ro xs,.int i=>L2.atI xs i
 | .str x,.int i=>if lr x.length=Vl then (L2.atI x.cps.toList i).map λc=>.str ⟨#[c]⟩ else Vk
 | .dct s M,y=>match dH y with
  |some k=>cT k s M
  |none=>Vk
 |_,_=>Vk
theorem pA:∀{s:List (ci×V)}{a:List P}{d:P},cN K F H a (s.map (·.2))->cT k (s.map (·.1)) a=Y d->∃v,iG s k=Y v/\RP K F H d v
 | [],a,d,r,h=>by cases a<;>exact nc h
 |(n,v)::s,[],d,r,h=>nc h
 |(n,v)::s,q::a,d,r,h=>by
  obtain⟨x,u,e,p,f⟩:=r;rw[aC]at e;injection e with b c;simp only[aC,cT]at h;by_cases hk:n=k
  .rw [ac hk]at h;cases h;exact⟨v,jn (p:=(n,v)) hk,by rw[show v=x from b];exact p⟩
  .rw [ae hk]at h;rw[<- c]at f;obtain⟨w,m,t⟩:=pA f h;exact⟨w,by rw[iF (p:=(n,v)) hk];exact m,t⟩
theorem ju(h:dH t=Y k)(r:RP K F H t v):v=kV k:=by
 cases t with
 |int i=>cases h;exact r
 |str x=>cases h;exact r
 |_=>exact nc h
theorem Hd(m:X.A.units+1 < cLine):EN X (λx y H Q=>∃a v,x=.ref a/\lD H a y (Y v)/\(∃k,H a=Y (.dK k))/\Q v H):=by
 intro f l p s J H x y v u Q I t d h c;obtain⟨a,w,rfl,g,⟨k,hk⟩,q⟩:=h;cases t;have n:∃o,s.heap.get? a=Y o/\o.ExactDict:=by obtain⟨_,_,_,_,o,_,_,e,n,_⟩:=I.h a _ hk;exact⟨o,e,n⟩
 obtain⟨o,e,n⟩:=n;exact nT ⟨o,e,n.1⟩ zv.lookup (uX m I g d λj i b r=>⟨w,H,b,r,q⟩) c
theorem Ul(D:X.A.units+1 < cLine):EN X (rP X.K iM):=by
 intro n l f s J H x y v u Q I g j h t;obtain⟨F,P,m,d,G,px,py,q,k⟩:=h;cases P with
 |tup b=>
  cases m with
  |int i=>obtain⟨a,xs,rfl,ta,r⟩:=px;cases (show y=.int i from py);obtain⟨z,e,p⟩:=r.atI (show L2.atI b i=Y d from q);exact Hc n l f s J H _ _ v u Q I g j ⟨a,xs,i,z,rfl,rfl,ta.sq,e,k z F H .refl p⟩ t
  |_=>exact nc q
 |lst b=>
  cases m with
  |int i=>obtain⟨a,xs,rfl,ta,r⟩:=px;cases (show y=.int i from py);obtain⟨z,e,p⟩:=r.atI (show L2.atI b i=Y d from q);exact wW n l f s J H _ _ v u Q I g j ⟨a,xs,i,z,rfl,rfl,ta.sq,e,k z F H .refl p⟩ t
  |_=>exact nc q
 |ro b=>
  cases m with
  |int i=>obtain⟨a,xs,rfl,ta,r⟩:=px;cases (show y=.int i from py);obtain⟨z,e,p⟩:=r.atI (show L2.atI b i=Y d from q);exact wW n l f s J H _ _ v u Q I g j ⟨a,xs,i,z,rfl,rfl,ta.sq,e,k z F H .refl p⟩ t
  |_=>exact nc q
 |str z=>
  cases m with
  |int i=>
   cases (show x=.str z from px);cases (show y=.int i from py);simp only[iM]at q;split at q
   .rename_i C;cases e:L2.atI z.cps.toList i with
    |none=>rw[e]at q;exact nc q
    |some c=>rw[e]at q;cases q;exact NC n l f s J H _ _ v u Q I g j ⟨z,i,c,rfl,rfl,jY C,e,k _ F H .refl rfl⟩ t
   .cases q
  |_=>exact nc q
 |dct L b=>
  obtain⟨a,K,rfl,fa,hk,B,r⟩:=px;simp only[iM]at q;cases o:dH m with
  |none=>rw[o]at q;exact nc q
  |some E=>rw[o]at q;dsimp only at q;subst B;obtain⟨w,A,p⟩:=pA r q;have S:=ju o py;subst S;exact Hd D n l f s J H _ _ v u Q I g j ⟨a,w,rfl,by rw[<- A];exact lD.k hk,⟨K,hk⟩,k w F H .refl p⟩ t
 |_=>exact nc q
theorem UF{a b:Expr}{fa fb:EV}{N:Pos}(u:X.A.units+1 < cLine)(x:PE X a (tV X.K fa))(e:PE X b (tV X.K fb))(s:mX b):PE X (.Subscript a b N) (tV X.K (gQ iM fa fb)):=
 (C6 (Ul u) x e s).imp' λ_ _ _ h=>wB h
end
section
variable{X:Cx}
theorem sj:∀{s:List (ci×V)}{a:List D}{d:D},dR K F H m a (s.map (·.2))->cT k (s.map (·.1)) a=Y d->∃v,iG s k=Y v/\RD K F H m d v
 | [],a,d,r,h=>by cases a<;>exact nc h
 |(n,v)::s,[],d,r,h=>nc h
 |(n,v)::s,u::a,d,r,h=>by
  obtain⟨x,g,e,p,f⟩:=r;rw[aC]at e;injection e with b c;simp only[aC,cT]at h;by_cases hk:n=k
  .rw [ac hk]at h;cases h;exact⟨v,jn (p:=(n,v)) hk,by rw[show v=x from b];exact p⟩
  .rw [ae hk]at h;rw[<- c]at f;obtain⟨w,t,q⟩:=sj f h;exact⟨w,by rw[iF (p:=(n,v)) hk];exact t,q⟩
@[simp] def kF(r:EE)(k:EV)(L:Lc)(S:aM):xF:=cg (r L S) λd x=>cg (k L x) λy h=>match d with
 | .p v=>(iM v y).map λz=>(.p z,h)
 | .ref i=>match h[i]? with
  | some (.lst s)=>(match y with
   | .int j=>(L2.atI s j).map λz=>(z,h)
   |_=>Vk)
  |some (.fz v)=>(iM v y).map λz=>(.p z,h)
  | some (.dct a M)=>(match dH y with
   |some k=>(cT k a M).map λz=>(z,h)
   |none=>Vk)
  |_=>Vk
theorem Sj{a b:Expr}{fa:EE}{fb:EV}{N:Pos}(hu:X.A.units+1 < cLine)(ha:PE X a (tE X.K fa))(hb:PE X b (tV X.K fb))(hs:mX b):PE X (.Subscript a b N) (tE X.K (kF fa fb)):=
 (C6 ((((Ul hu).or wW).or (Hd hu)).or Hc) ha hb hs).imp' λJ H Q hz=>by
  obtain⟨F,m,L,S,d,T,r,l,q,k⟩:=hz;obtain⟨x,S1,C,q⟩:=ak q;obtain⟨h,A,e2,q⟩:=ak q;refine⟨F,m,L,S,x,S1,r,l,C,λv B m1 y o r1 p1=>?_⟩;refine⟨B,m1,L,S1,h,A,r1,l.mono o,e2,λu j V I K c Z=>?_⟩;have px:=RD.mono K p1;have n:∀w:P,RP X.K j I w v->(iM w h).map (λe=>(D.p e,A))=Y (d,T)->rP X.K iM v u I Q:=λw pw q=>by
   cases g:iM w h with
   |none=>rw[g]at q;cases q
   |some e=>rw[g]at q;cases q;exact⟨j,w,h,e,c.ft,pw,Z,g,λt F3 H3 gr p3=>k t F3 V H3 (o.trans (K.trans gr.stp)) (c.grow gr) p3⟩
  cases x with
  |p w=>exact .inl (.inl (.inl (n w px q)))
  |ref i=>
   obtain⟨a,rfl,hm⟩:=px;dsimp only at q;cases z:A[i]? with
   |none=>rw[z]at q;cases q
   |some so=>
    rw[z]at q;have W:=c.obj i a so hm z;cases so with
    |fz w=>exact .inl (.inl (.inl (n w W q)))
    |dct ks M=>
     dsimp only at q;obtain⟨f,hk,ek,ra⟩:=W;cases E:dH h with
     |none=>rw[E]at q;cases q
     |some R=>
      rw[E]at q;dsimp only at q;subst ek;cases g:cT R (f.map (·.1)) M with
      |none=>rw[g]at q;cases q
      |some e=>rw[g]at q;cases q;obtain⟨w,C,p⟩:=sj ra g;have G:=ju E Z;subst G;exact .inl (.inr ⟨a,w,rfl,by rw[<- C];exact lD.k hk,⟨f,hk⟩,k w j V I (o.trans K) c p⟩)
    |ins _ _ _=>cases q
    |dtn _ _=>cases q
    |dtt _ _=>cases q
    |lst ds=>
     dsimp only at q;cases h with
     |int s=>
      dsimp only at q;obtain⟨xs,hH,rs⟩:=W;cases g:L2.atI ds s with
      |none=>rw[g]at q;cases q
      |some e=>rw[g]at q;cases q;obtain⟨t,e3,p3⟩:=rs.atI g;cases (show u=.int s from Z);exact .inl (.inl (.inr ⟨a,xs,s,t,rfl,rfl,lB.of hH,e3,k t j V I (o.trans K) c p3⟩))
     |_=>cases q
def fD:P->Option Nat
 | .tup xs=>Y xs.length
 | .lst xs=>Y xs.length
 | .ro xs=>Y xs.length
 | .str x=>if lr x.length=Vl then Y x.length else Vk
 |_=>Vk
def d_:D->aM->Option Nat
 | .p v,_=>fD v
 | .ref i,S=>match S[i]? with
  |some (.lst d)=>Y d.length
  |some (.fz v)=>fD v
  |_=>Vk
def d5(r:EE):EV:=λL S=>cg (r L S) λd h=>(d_ d h).map λn=>(.int n,h)
theorem Dn{F:Aa}{H:Hp}{w:P}{v:V}{n:Nat}{Q:VK}(p:RP X.K F H w v)(h:fD w=Y n)(q:Q (.int n) H) :
  (∃p y,[v]=[V.ref p]/\(lB X.K H p y\/nu X.K H p y)/\Q (.int y.length) H)\/(∃z,[v]=[V.str z]/\z.length≤sizeLine/\Q (.int z.length) H):=by
 cases w with
 |tup d=>obtain⟨a,xs,rfl,ta,r⟩:=p;cases h;exact .inl ⟨a,xs,rfl,.inr ta.sq,by rw[<- r.length];exact q⟩
 |lst d=>obtain⟨a,xs,rfl,ta,r⟩:=p;cases h;exact .inl ⟨a,xs,rfl,.inl ta.sq,by rw[<- r.length];exact q⟩
 |ro d=>obtain⟨a,xs,rfl,ta,r⟩:=p;cases h;exact .inl ⟨a,xs,rfl,.inl ta.sq,by rw[<- r.length];exact q⟩
 |str x=>
  cases (show v=.str x from p);simp only[fD]at h;split at h
  .rename_i c;cases h;exact .inr ⟨x,rfl,jY c,q⟩
  .cases h
 |_=>exact nc h
theorem Sg(A:Gl X "len")(f:X.g "len"=Vk)(P:PE X e (tE X.K fe))(c:starEach [e] X.e=[(Vm,eval e X.e)]:=by rfl):PE X (.Call (.Name "len" p) [e] [] N) (tV X.K (d5 fe)):=
 (oF (xt.or xp) A f EZ (fK P ie (by rw[c];rfl)) (by decide) (by decide) (by rw[c];rfl) rfl).imp' λJ H Q C=>by
  obtain⟨F,m,L,S,d,T,r,l,q,k⟩:=C;obtain⟨x,b,j,q⟩:=ak q;refine⟨F,m,L,S,x,b,r,l,j,λv B D y G u t=>?_⟩;cases h:d_ x b with
  |none=>rw[h]at q;cases q
  |some n=>
   rw[h]at q;cases q;have s:Q (.int n) y:=k _ B D y G u rfl;cases x with
   |p w=>exact Dn t h s
   |ref i=>
    obtain⟨a,rfl,f⟩:=t;simp only[d_]at h;cases z:T[i]? with
    |none=>rw[z]at h;cases h
    |some g=>
     rw[z]at h;have o:=u.obj i a g f z;cases g with
     |fz w=>exact Dn o h s
     |dct R M=>cases h
     |ins _ _ _=>cases h
     |dtn _ _=>cases h
     |dtt _ _=>cases h
     |lst I=>cases h;obtain⟨xs,K,E⟩:=o;exact .inl ⟨a,xs,rfl,.inl (lB.of K),by rw[<- E.length];exact s⟩
noncomputable def fu(d:D)(S:aM):Option (Nat×List D):=match d with
 | .ref i=>match S[i]? with
  |some (.lst s)=>Y (i,s)
  |_=>Vk
 |_=>Vk
theorem oH(h:fu d S=Y (i,k)):d=.ref i/\S[i]? = Y (.lst k):=by
 unfold fu at h;split at h
 .split at h
  .rename_i e;cases h;exact⟨rfl,e⟩
  .cases h
 .cases h
@[simp] def bC(r:EE)(a:EE)(L:Lc)(S:aM):xF:=cg (r L S) λd h=>match fu d h with
 |none=>Vk
 |some _=>cg (a L h) λx e=>match fu d e with
  |some (i,s)=>if few s=Vl then Y (.p .non,e.set i (.lst (s++[x]))) else Vk
  |none=>Vk
theorem Jn{o e:Expr}{W fe:EE}{p c:Pos}(ho:PE X o (tE X.K W))(he:PE X e (tE X.K fe))(M:starEach [e] X.e=[(Vm,eval e X.e)]:=by rfl)
  (t:attributeBase o "append" X.e (eval o X.e)=eval o X.e:=by rfl) (w:(p.endLine == c.line)=Vl:=by rfl):PE X (.Call (.Attribute o "append" p) [e] [] c) (tE X.K (bC W fe)):=
 (Lp vn A9 PySem.F.type_list_append uM ho (fK he ie (by rw[M];rfl)) t (by rw[M];rfl) w (by rw[M];rfl) rfl).imp' λJ H Q hz=>by
  obtain⟨F,m,L,S,d,T,r,l,h,k⟩:=hz;obtain⟨x,C,e1,h⟩:=ak h;refine⟨F,m,L,S,x,C,r,l,e1,λv B m1 y s1 r1 p1=>?_⟩;cases E:fu x C with
  |none=>rw[E]at h;cases h
  |some s=>
   obtain⟨i,ds⟩:=s;rw[E]at h;dsimp only at h;obtain⟨rfl,z⟩:=oH E;obtain⟨a,rfl,hm⟩:=id p1;obtain⟨xs,hH,rs⟩:=r1.obj i a _ hm z;refine⟨.inl ⟨rfl,xs,lB.of hH⟩,?_⟩;obtain⟨n,V,e2,h⟩:=ak h;refine⟨B,m1,L,C,n,V,r1,l.mono s1,e2,λu j N I s2 R p2=>?_⟩;cases f:fu (.ref i) V with
   |none=>rw[f]at h;cases h
   |some s=>
    obtain⟨i2,D⟩:=s;rw[f]at h;dsimp only at h;obtain⟨e3,b⟩:=oH f;cases e3;split at h
    .rename_i Z;cases h;obtain⟨a2,e4,g⟩:=RD.mono s2 p1;cases e4;obtain⟨K,P,A⟩:=R.obj i a _ g b;have hl:=mj Z;have G:K.length < sizeLine:=by
      have:D.length≤1000000:=aR Z;rw[<- A.length];exact kS this (by decide)
     have nt:∀zs,I a≠Y (.tup zs):=λzs s=>by rw[P]at s;cases s
     have q:Stp j N I j N (cG I a (.lst (K++[u]))):=gZ R g b trivial nt;refine⟨a,K,u,rfl,rfl,P,G,?_⟩;exact k .non j N _ (s1.trans (s2.trans q)) (R.set g b trivial nt ⟨_,aV,dR.mono q (A.append ⟨u,[],rfl,p2,rfl⟩)⟩) rfl
    .cases h
noncomputable abbrev EO:=Lc->aM->Option (Option Int×aM)
noncomputable def l7:EO:=λ_ S=>Y (Vk,S)
def lE(a:EV):EO:=λL S=>cg (a L S) λv h=>match v with
 | .int i=>Y (Y i,h)
 |_=>Vk
inductive tOI(K:FG)(f:EO)(J:L2.St)(H:Hp)(Q:Option Int->Hp->Prop):Prop
 |mk (F:Aa) (m:List Addr) (L:Lc) (S:aM) (b:Option Int) (S':aM) (h0_:Rel K F H m S) (h1_:RL K F H m J L) (h2_:f L S=Y (b,S')) (h3_:∀F' m' H',Stp F m H F' m' H'->Rel K F' H' m' S'->Q b H'):tOI K f J H Q
noncomputable def tO(K:FG)(f:EO):TO:=λJ H Q=>tOI K f J H Q
theorem _root_.L2.PO.imp'(h:PO X e t)(i:∀J H Q,k J H Q->t J H Q):PO X e k:=λp s J H Q I q=>h p s J H Q I (i J H Q q)
theorem Nr:PO X Vk (tO X.K l7):=JZ.imp' λJ H Q h=>by obtain⟨F,m,L,S,d,T,r,l,q,k⟩:=h;cases q;exact k F m H .refl r
theorem Nq(h:PE X e (tV X.K fa)):PO X (Y e) (tO X.K (lE fa)):=(JY h).imp' λJ H Q z=>by
 obtain⟨F,m,L,S,d,T,r,l,q,k⟩:=z;obtain⟨x,b,a,q⟩:=ak q;cases x with
 |int i=>cases q;exact⟨F,m,L,S,_,_,r,l,a,λv B s y f n p=>⟨i,p,k B s y f n⟩⟩
 |_=>cases q
def cut(xs:List α)(lo h:Option Int):List α:=(xs.drop (HT.gw xs.length 0 lo)).take (HT.gw xs.length xs.length h-HT.gw xs.length 0 lo)
theorem cN.cut(r:cN K F H k xs)(lo h:Option Int):cN K F H (Ev.cut k lo h) (yU xs lo h):=by unfold Ev.cut yU;rw[r.length];exact(r.drop _).take _
def Vg:P->Option Int->Option Int->Option P
 | .lst xs,lo,h=>Y (.lst (cut xs lo h))
 | .ro xs,lo,h=>Y (.lst (cut xs lo h))
 | .tup xs,lo,h=>if HT.gw xs.length 0 lo=0/\HT.gw xs.length xs.length h=xs.length then Vk else Y (.tup (cut xs lo h))
 |_,_,_=>Vk
theorem _root_.L2.PI.imp'(h:PI X r iter t)(i:∀J H R,k J H R->t J H R):PI X r iter k:=λp s J H R I q=>h p s J H R I (i J H R q)
theorem He(f:∀j h I,Stp F m H j h I->lB K I a xs)(r:cN K F H M xs):OI K (T5 K a) M F m H:=by
 intro j h I s;have q:=f j h I s;have k:=cN.mono s r;refine⟨λi v e=>?_,⟨xs,q,by rw[k.length];exact az _⟩⟩;obtain⟨x,n,p⟩:=k.get e;refine⟨⟨xs,x,q,n⟩,λy b z=>?_⟩;obtain⟨rfl,z⟩:=z;have:=z xs q
 rw[n]at this;cases this;exact⟨j,.refl,p⟩
theorem ND(k:TupAt K H a xs)(r:cN K F H M xs):OI K (Uz K a) M F m H:=by
 intro j b I s;have q:=(k.kp s.kp).sq;have n:=cN.mono s r;refine⟨λi v e=>?_,⟨xs,q,by rw[n.length];exact az _⟩⟩;obtain⟨x,h,p⟩:=n.get e;refine⟨⟨xs,x,q,h⟩,λy f z=>?_⟩;obtain⟨rfl,z⟩:=z;have:=z xs q
 rw[h]at this;cases this;exact⟨j,.refl,p⟩
noncomputable def intsFrom(lo:Int)(n:Nat):List P:=(List.range n).map λ(i:Nat)=>.int (lo+(i:Int))
def ji(a:EV):lC:=λL S=>cg (a L S) λv h=>match v with
 | .int j=>if decide (j.natAbs < 1000000)=Vl then Y (intsFrom 0 j.toNat,h) else Vk
 |_=>Vk
theorem NE{lo:Int}:OI K (RX lo n) (intsFrom lo n) F m H:=by
 intro j k I s;have l:(intsFrom lo n).length=n:=by unfold intsFrom;simp
 refine⟨λi v e=>?_,by show n≤(intsFrom lo n).length;rw[l];exact az _⟩;have h:i < n:=by rw[<- l];exact(aX.mp e).1
 refine⟨h,λx a z=>?_⟩;obtain⟨rfl,rfl⟩:=z;refine⟨j,.refl,?_⟩;unfold intsFrom at e;simp[h]at e;subst e;exact rfl
theorem U3{w a:Expr}{fa:EV}{p N:Pos}(g:Gl X "range")(n:X.g "range"=Vk)(s:PE X a (tV X.K fa))(h:starEach [a] X.e=[(Vm,eval a X.e)]:=by rfl):PI X w (.Call (.Name "range" p) [a] [] N) (tI X.K (ji fa)):=
 (D9 g n (fK s ie (by rw[h];rfl)) h).imp' λJ H R z=>by
  obtain⟨F,m,L,S,M,T,r,l,q,k⟩:=z;obtain⟨v,u,e,q⟩:=ak q;cases v with
  |int j=>
   dsimp only at q;split at q
   .rename_i c;have i:j.natAbs < 1000000:=aR c;cases q;refine⟨F,m,L,S,_,_,r,l,e,λx B f y d t b=>?_⟩;cases (show x=.int j from b);exact⟨j,rfl,by lia,by lia,k _ B f y d t NE⟩
   .cases q
  |_=>cases q
end
def bL(g:lM)(c:EB)(e:EV):List P->Lc->aM->Option (List P×aM)
 | [],_,S=>Y ([],S)
 |v::r,L,S=>match g v L with
  |none=>Vk
  |some h=>cg (c h S) λk x=>if k=Vl then cg (e h x) λy a=>cg (bL g c e r h a) λn s=>Y (y::n,s) else bL g c e r h x
open Classical in
def lq(ok:aM->Prop)(g:lM)(c:EB)(e:EV):List P->Lc->aM->Option (List P×aM)
 | [],_,S=>if ok S then Y ([],S) else Vk
 | v::r,L,S=>if ok S then (match g v L with
  |none=>Vk
  |some h=>cg (c h S) λk x=>if k=Vl then cg (e h x) λy a=>cg (lq ok g c e r h a) λn s=>Y (y::n,s) else lq ok g c e r h x) else Vk
theorem tD:∀{M:List P}{L:Lc}{S:aM},lq (λ_=>True) g c e M L S=bL g c e M L S
 | [],_,_=>ac trivial
 |v::r,L,S=>by
  unfold lq bL;rw[ac trivial];cases g v L with
  |none=>rfl
  |some h=>simp only[tD (M:=r)]
noncomputable def m9(Q:List Nat)(n:Nat)(L:List (Option α)):List (Option α):=(Q.foldl (λL i=>L.set i Vk) L)++List.replicate n Vk
def bp(i:lC)(Q:List Nat)(n:Nat)(g:lM)(c:EB)(e:EV):EV:=λL S=>cg (i L S) λxs h=>if few xs=Vl then cg (bL g c e xs (m9 Q n L) h) λy x=>Y (.lst y,x) else Vk
@[simp] def eA(_L:Lc)(S:aM):Op:=Y (Vl,S)
theorem iD(Q:List Nat):∀L:List (Option α),(Q.foldl (λL i=>L.set i Vk) L).length=L.length:=by
 induction Q with
 |nil=>intro L;rfl
 |cons t Q h=>intro L;rw[i_,h,fI]
theorem tZ(Q:List Nat):∀(L:List (Option α))(i:Nat)(d:α),(Q.foldl (λL i=>L.set i Vk) L)[i]? = Y (Y d)->L[i]? = Y (Y d)/\i ∉ Q:=by
 induction Q with
 |nil=>intro L i d h;exact⟨h,by simp⟩
 |cons t Q s=>
  intro L i d h;rw[i_]at h;obtain⟨x,a⟩:=s _ _ _ h;by_cases e:t=i
  .subst e;by_cases l:t < L.length
   .rw [cF l]at x;cases x
   .rw [qZ (by rw[fI];lia)]at x;cases x
  .rw [a6 e]at x;exact⟨x,by simp[a];exact λz=>e z.symm⟩
theorem wr(Q:List Nat)(n:Nat)(L:List (Option α)):(m9 Q n L).length=L.length+n:=by unfold m9;rw[bK,iD,B5]
theorem CM(h:(m9 Q n L)[i]? = Y (Y d)):L[i]? = Y (Y d)/\i ∉ Q/\i < L.length:=by
 unfold m9 at h;by_cases x:i < L.length
 .rw [ce (by rw[iD];exact x)]at h;obtain⟨a,e⟩:=tZ Q L i d h;exact⟨a,e,x⟩
 .rw [c_ (by rw[iD];lia),wc]at h;split at h<;>cases h
variable{J:L2.St}
theorem RL.up(l:RL K F H m J L)(Q:List Nat)(n:Nat):RL K F H m (m9 Q n J) (m9 Q n L):=by
 refine⟨by rw[wr,wr,l.len],λi d h=>?_⟩;obtain⟨a,s,f⟩:=CM h;obtain⟨v,e,r⟩:=l.at' i d a;refine⟨v,?_,r⟩;unfold m9;rw[ce (by rw[iD,l.len];exact f)];have k:∀(Q:List Nat)(J:L2.St),i ∉ Q->J[i]? = Y (Y v)->(Q.foldl (λL i=>L.set i Vk) J)[i]? = Y (Y v):=by
  intro Q;induction Q with
  |nil=>intro J _ e;exact e
  |cons t Q b=>intro J x e;rw[i_];refine b _ (λz=>x (aL _ z)) ?_;rw[a6 (λz=>x (by rw[z];exact aK))];exact e
 exact k Q J s e
noncomputable def pS(G:Scope)(e:Env):List (Str×Addr):=((G.names.filter λx=>x.2 == .free).map λx=>(x.1,(e.cells.lookup x.1).getD 0)).reverse
def inn(X:Cx)(G:Scope)(N':LS)(s:Shared)(H:Hp)(C:Addr)(f:List Addr):Cx:=
 { X with N:=N',z:=s,y:=H,e:=compEnvC G (pS G X.e) C X.e,o:=X.k,ex:=f,fn:=λ_=>Vm,pn:=[],xe:=λ_ _=>False }
structure BlockOk(X:Cx)(scope:Scope)(N':LS)(ts:List Nat)(n:Nat):Prop where
 kind:scope.kind=.function
 cell:∀x ∈ scope.names,x.2≠.cell
 loc:∀x ∈ scope.names,x.2=.local->scope.names.lookup x.1=Y .local
 fr:∀x ∈ scope.names,x.2=.free->scope.names.lookup x.1=Y .free/\(X.e.kindOf x.1=Y .cell\/X.e.kindOf x.1=Y .free)
 names:X.N=N'.take X.N.length
 more:N'.length=X.N.length+n
 ts:∀x ∈ scope.names,x.2=.local->∀i:Nat,X.N[i]? = Y x.1->i ∈ ts
theorem jt:∀{l:List (Str×α)}{x:Str}{v:α},l.lookup x=Y v->(x,v) ∈ l
 | [],_,_,h=>by simp at h
 |(y,w)::r,x,v,h=>by
  rw[qW]at h;cases e:x == y with
  |true=>rw[e]at h;cases h;rw[show x=y from by simpa using e];exact aK
  |false=>rw[e]at h;exact aL _ (jt h)
theorem ng:∀{l:List (Str×α)}{x:Str}{v:α},(x,v) ∈ l->∃w,l.lookup x=Y w
 | [],_,_,h=>by simp at h
 |(y,w)::r,x,v,h=>by
  rw[qW];cases e:x == y with
  |true=>exact⟨w,rfl⟩
  |false=>
   rcases bc.mp h with h|h
   .injection h with a _;subst a;simp at e
   .exact ng h
variable{x:Str}
theorem g9(h:(relabel G r).names.lookup x=Y k):∃a,(x,a) ∈ G.names/\(k=a\/(k=.cell/\a=.free)):=by
 have m:=jt h;unfold relabel at m;obtain⟨⟨n,a⟩,t,e⟩:=aO.mp m;by_cases c:(a == NameKind.free && r.scope.kind == .function && r.kindOf n == Y .cell)=Vl
 .have s:(n,NameKind.cell)=(x,k):=by simpa[c] using e
  injection s with f b;subst f;rw[ar,ar]at c;exact⟨a,t,.inr ⟨b.symm,by simpa using c.1.1⟩⟩
 .have s:(n,a)=(x,k):=by simpa[c] using e
  injection s with f b;subst f;exact⟨a,t,.inl b.symm⟩
section
variable{X:Cx}{G:Scope}{N':LS}{Q:List Nat}{n:Nat}
theorem BlockOk.cl(B:BlockOk X G N' Q n)(I:Inv X l J H s)(h:(pS G X.e).lookup x=Y c):X.e.cells.lookup x=Y c/\(x,NameKind.free) ∈ G.names:=by
 have t:=jt h;unfold pS at t;obtain⟨⟨y,k⟩,m,e⟩:=aO.mp (BW.mp t);obtain⟨m,hk⟩:=e_.mp m;have r:k=.free:=by simpa using hk
 subst r;injection e with q f;subst q;obtain⟨_,v⟩:=B.fr _ m rfl;obtain⟨p,a⟩:=I.o.has y v;dsimp only at f;rw[a]at f;have b:p=c:=f;subst b;exact⟨a,m⟩
theorem BlockOk.has(B:BlockOk X G N' Q n)(h:(x,NameKind.free) ∈ G.names):∃c,(pS G X.e).lookup x=Y c:=by unfold pS;exact ng (v:=(X.e.cells.lookup x).getD 0) (BW.mpr (aO.mpr ⟨(x,.free),e_.mpr ⟨h,by simp⟩,rfl⟩))
theorem Hj(B:BlockOk X G N' Q n)(I:Inv X k J H s)(t:s.heap.objs.size≤C)(f:∀b ∈ r,xD X k H b)(w:∀b ∈ r,b < s.heap.objs.size) :
  (inn X G N' s H C r).Ok where
 mod:=I.o.mod
 kind:=B.kind
 glob:=I.o.glob
 blt:=I.o.blt
 above:=t
 inj:=λx y c q v=>I.o.inj x y c (B.cl I q).1 (B.cl I v).1
 has:=λx h=>by
  have p:(relabel G X.e).names.lookup x=Y .cell\/(relabel G X.e).names.lookup x=Y .free:=h;rcases p with h|h
  .obtain⟨u,m,e|⟨_,e⟩⟩:=g9 h
   .subst e;exact absurd rfl (B.cell _ m)
   .subst e;exact B.has m
  .obtain⟨u,m,e|⟨e,_⟩⟩:=g9 h
   .subst e;exact B.has m
   .cases e
 cab:=λx c h=>nomatch h
 hd:=I.o.hd
 frames:=I.o.frames
 stk:=.inl rfl
 exf:=λb a=>⟨bG (bZ (w b a) t),λx c h=>(f b a).2.2.2.2.1 x c (B.cl I h).1⟩
 bs:=I.bs
 bsz:=bf I.o.bsz I.sz
 noex:=λb o e a=>by
  rcases(f b a).2.2.2.1 with z|z
  .exact I.o.noex b o e z
  .exact absurd (bZ (aN (I.o.bs b o e).1) z) (i9 _)
 exfs:=λb a z=>by
  rcases bc.mp (I.stkSub b z) with z|z
  .exact (f b a).2.1 z
  .exact (f b a).2.2.1 z
 funs:=I.stack
 frf:=I.stkFree
 tab:=λP d=>I.base.tbls P (I.o.tab P d)
theorem _root_.L2.Un.sameBut(u:Un fs r H H' h t)(k:gm C t l)(a:∀b o,h.get? b=Y o->b≠C):Un fs r H H' h l where
 keep:=λb o e n s x=>k.extBut b o (a b o e) (u.keep b o e n s x)
 slot:=λb o e n s x=>by obtain⟨c,q⟩:=u.slot b o e n s x;exact⟨c,k.extBut b _ (a b o e) q⟩
 free:=u.free
 there:=λb o e x=>by obtain⟨f,q⟩:=u.there b o e x;exact⟨f,k.extBut b _ (a b o e) q⟩
 tups:=u.tups
 frzs:=u.frzs
 tbls:=u.tbls
theorem _root_.L2.mY.sameBut{P:Program}{w:World}{H:Hp}{h x:Heap}{C:Addr}(ok:mY P w H h)(n:gm C h x)(a:H C=Vk):mY P w H x:=λb u e=>
 (ok b u e).stay (fun c v s q=>n.extBut c v (by
  rintro rfl;rcases s with z|z
  .subst z;rw[a]at e;cases e
  .rw [a]at z;cases z) q) (λ_ q=>q) λ_ _ q=>q
inductive PIfs(X:Cx):Ab->EB->Prop where
 |none:PIfs X [] eA
 |one {c:Expr}{q:EB}:PT X c (tQ X.K q)->PIfs X [c] q
theorem Kp.bump(x:¬F p)(t:∀xs,H p≠Y (.tup xs)):Kp F m H F m (cG H p o):=
 ⟨⟨[],by simp⟩,λ_ h=>h,λb u f h=>by rw[aJ (by rintro rfl;exact x f)];exact h,λb xs h=>by rw[aJ (by rintro rfl;exact t xs h)];exact h⟩
theorem Stp.bump(s:Stp F m H F' m' H')(x:H p=Vk):Stp F m H F' m' (cG H' p o) where
 pre:=s.pre
 oth:=λb u h a=>by rw[aJ (by rintro rfl;rw[x]at h;cases h)];exact s.oth b u h a
 frz:=s.frz
 frk:=λb u f h=>by rw[aJ (by rintro rfl;rw[x]at h;cases h)];exact s.frk b u f h
 tup:=λb xs h=>by rw[aJ (by rintro rfl;rw[x]at h;cases h)];exact s.tup b xs h
 trk:=λb h=>by
  by_cases e:b=p
  .subst e;rw[aV];exact λz=>nomatch z
  .rw [aJ e];exact s.trk b h
 nf:=s.nf
 nm:=s.nm
theorem Rel.bump(r:Rel K F H m S)(x:¬F p)(s:p ∉ m)(t:∀xs,H p≠Y (.tup xs)):Rel K F (cG H p o) m S:=
 r.stayK (Kp.bump x t) (λa u e h=>by rw[aJ (by rintro rfl;exact s e)];exact h) (λ_ f=>.inl f) λa f=>by rw[aJ (by rintro rfl;exact x f)];exact r.ft a f
theorem Uk:Kp F m H (λb=>F b\/b=p) m H:=⟨⟨[],by simp⟩,λ_ h=>.inl h,λ_ _ _ h=>h,λ_ _ h=>h⟩
theorem Stp.addF(s:Stp F m H F' m' H')(x:H p=Vk):Stp F m H (λb=>F' b\/b=p) m' H':=
 ⟨s.pre,s.oth,fun b h=>.inl (s.frz b h),s.frk,s.tup,s.trk,fun b h=>by
  rcases h with h|h
  .exact s.nf b h
  .subst h;exact .inr (.inl x),s.nm⟩
theorem Rel.addF(r:Rel K F H m S)(s:p ∉ m)(n:H p≠Vk):Rel K (λb=>F b\/b=p) H m S where
 len:=r.len
 nd:=r.nd
 obj:=λi a o e x=>(r.obj i a o e x).kp Uk λu h=>h
 sep:=λi a o e x w f=>by
  rcases f with f|f
  .exact r.sep i a o e x w f
  .subst f;exact s (bg e)
 trk:=r.trk
 ft:=λa f=>by
  rcases f with f|f
  .exact r.ft a f
  .subst f;exact n
theorem _root_.L2.Inv.letGo(I:Inv X h J H s)(k:gm C s.heap r)(u:H C=Vk)(t:X.z.heap.objs.size≤C)(v:C≠X.e.locals)
  (d:∀x c,X.e.cells.lookup x=Y c->c≠C) (w:∀p ∈ X.pn++h,p.1≠C):Inv X h J H { s with heap:=r }:=by
 have m:∀b:Addr,b ∉ [C]->b≠C:=λb f z=>f (by simp[z]);refine I.call' (s':={ s with heap:=r }) (q:=[C]) rfl ⟨λb o e _ _ a=>k.extBut b o (m b a) e,λb o e _ _ a=>⟨o.slots,k.extBut b o (m b a) e⟩,λ_ _ _ n _=>n,λb o e a=>⟨o,k.extBut b o (m b a) e⟩,λ_ _ q=>q,λ_ _ _ q=>q,λ_ q=>q⟩ (I.h.sameBut k u) I.bare λb f=>?_;have e:b=C:=by simpa using f
 subst e;exact⟨.inr t,v,d,w⟩
theorem Ey(I:Nat->Shared->Prop)
  (u:∀n s,I n s->wpAny (model t w) A (pyNext it) (fun r f=>match r with
   |none=>R (.ok .next) f
   | some v=>wpAny (model t w) A (letOwnedTupleGo tg it v) (fun _ d=>wpAny (model t w) A (assign tg k v) (fun _ g=>
     wpAny (model t w) A (forIn ifs Vl fun c r=>if r=Vl then do let ok <- isTrue c k (eval c k);pure (ForInStep.yield ok) else pure (ForInStep.yield r)) (fun ok b=>
      if ok=Vl then wpAny (model t w) A (eval C k) (fun x i=>
       wpAny (model t w) A (call (.builtin "list.append") [l,x]) (λ_ j=>∃m,m < n/\I m j) (notedBy (model t w) A k λe a=>R (.error e) a) i) (notedBy (model t w) A k λe a=>R (.error e) a) b
      else ∃m,m < n/\I m b) (notedBy (model t w) A k λe a=>R (.error e) a) g) (notedBy (model t w) A k λe a=>R (.error e) a) d) (notedBy (model t w) A k λe a=>R (.error e) a) f) (notedBy (model t w) A k λe a=>R (.error e) a) s)
  (n:Nat) (h:I n s):codeAny (model t w) A (.compLoop (.ListComp C [⟨tg,iter,ifs,0⟩] G N) 0 it l k) R s:=by
 refine codeAny_loop rfl I (λn s F=>?_) n h;show wpAny _ A ((compTurn (.ListComp C [⟨tg,iter,ifs,0⟩] G N) 0 it l k).onRaise (λx=>do noteFrame x k;theTreesLotGoes x)) _ _ s;refine wpAny_noted ?_;rw[compTurn_list];refine af (zo (af (dg (u n s F) (λr f p=>?_) λ_ _ z=>z)));cases r with
 |none=>exact aq p
 |some v=>
  refine af (dg p (λ_ d y=>af (dg y (λ_ g o=>af (dg o (λok b q=>?_) λ_ _ z=>z)) λ_ _ z=>z)) λ_ _ z=>z);cases ok with
  |false=>exact aq ⟨rfl,q⟩
  |true=>exact af (af (dg q (λx i H=>af (dg H (λ_ j S=>aq (aq ⟨rfl,S⟩)) λ_ _ z=>z)) λ_ _ z=>z))
theorem KY{g:Heap}{tk:Nat}(B:BlockOk X G N' Q n)(h:Inv X pins J I k)(s:k.heap.objs.size≤C)(W:∀b ∈ fp,xD X pins I b)(K:∀b ∈ fp,b < k.heap.objs.size)(l:∀b o,k.heap.get? b=Y o->g.get? b=Y o)
  (Z:I k.heap.objs.size=Vk) (D:k.heap.objs.size≠C) (F:I C=Vk) (q:g.Ns C mC) (a:g.get? k.heap.objs.size=Y { cls:=.type "list",dict:=Vk,data:=.seq ([]:LV).toArray }) :
  Inv (inn X G N' k I C fp) [] (m9 Q n J) (cG I k.heap.objs.size (.lst [])) { k with heap:=g,toks:=tk }:=by
 refine⟨Hj B h s W K,rfl,h.bare,Un.laid l (az _) Z,?_,λx c e=>?_,?_,λx c e=>?_,λp hp=>absurd (show p ∈ ([]:PN) from hp) (by simp),?_,?_⟩
 .obtain⟨m0,hn0,P⟩:=h.loc;refine⟨_,q,λi x v R T hv=>?_⟩;obtain⟨j,H,S⟩:=CM T;have t:J.length=X.N.length:=h.len;have L:X.N[i]? = Y x:=by
   rw[B.names,kW (by rw[<- t];exact S)];exact R
  have w:(relabel G X.e).names.lookup x=Y .local\/(relabel G X.e).names.lookup x=Y .cell\/(relabel G X.e).names.lookup x=Y .free:=hv;have N:¬(relabel G X.e).names.lookup x=Y .local:=λz=>by
   obtain⟨M,m,e|⟨e,_⟩⟩:=g9 z
   .subst e;exact absurd (B.ts _ m rfl i L) H
   .cases e
  have E:(x,NameKind.free) ∈ G.names:=by
   rcases w with z|z|z
   .exact absurd z N
   .obtain⟨M,m,e|⟨_,e⟩⟩:=g9 z
    .subst e;exact absurd rfl (B.cell _ m)
    .subst e;exact m
   .obtain⟨M,m,e|⟨e,_⟩⟩:=g9 z
    .subst e;exact m
    .cases e
  obtain⟨_,r⟩:=B.fr _ E rfl;have A:OF X.e.scope x:=by
   rcases r with z|z
   .exact .inr (.inl z)
   .exact .inr (.inr z)
  obtain⟨u,ru,lk⟩:=P i x v L j A;refine⟨u,ru,.inr ⟨?_,?_⟩⟩
  .rcases w with z|z|z
   .exact absurd z N
   .exact .inl z
   .exact .inr z
  .rcases lk with ⟨z,_⟩|⟨_,c,V,ic⟩
   .rcases r with y|y
    .rw [z]at y;cases y
    .rw [z]at y;cases y
   .obtain⟨c',f⟩:=B.has E;have:=(B.cl h f).1
    rw[V]at this;cases this;obtain⟨o,d,hd⟩:=ic;exact⟨c,f,o,l c o d,hd⟩
 .obtain⟨v,o,d,hd⟩:=h.cell x c (B.cl h e).1;exact⟨v,o,l c o d,hd⟩
 .show cG I k.heap.objs.size (.lst []) C=Vk;rw[aJ (aZ D)];exact F
 .obtain⟨v,o,d,hd⟩:=h.cell x c (B.cl h e).1;rw[aJ (bG (aN d))];exact h.freeC x c (B.cl h e).1
 .exact h.h.laid l (az _) ⟨cO _,[],0,.nil,a⟩
 .show (m9 Q n J).length=N'.length;rw[wr,h.len,B.more]
inductive cIv(K:FG)(Y9:Cx)(F1:Aa)(m1:List Addr)(H2:Hp)(A:Addr)(tn:Nat->Heap->Prop)(fp:List Addr)(R:Nat->Nat->Lc->aM->List P->Prop)(ys:List P)(nn:Nat)(sx:Shared):Prop
 |mk (i:Nat) (J':L2.St) (F':Aa) (m':List Addr) (H':Hp) (L':Lc) (S':aM) (acc rest:List P) (xs:List V) (h0_:Inv Y9 [] J' H' sx) (h1_:tn i sx.heap) (h2_:∀b ∈ fp,H' b=Vk) (h3_:Stp F1 m1 H2 F' m' H') (h4_:Rel K F' H' m' S') (h5_:RL K F' H' m' J' L') (h6_:H' A=Y (.lst xs)) (h7_:cN K F' H' acc xs) (h8_:acc.length≤i) (h9_:¬F' A) (ha_:A ∉ m') (hb_:R nn i L' S' rest) (hc_:acc++rest=ys):cIv K Y9 F1 m1 H2 A tn fp R ys nn sx
def UA(K:FG)(ok:aM->Prop)(a:It)(M:List P)(F:Aa)(m:List Addr)(H:Hp):Prop:=∀j s I S,Stp F m H j s I->Rel K j I s S->ok S ->
 (∀(i:Nat) v,M[i]? = Y v->a.go i I/\∀x h,a.yld i I x h->∃e,Grow j I e h/\RP K e h v x)/\a.stop M.length I
def y8(X:Cx)(t iter:Expr)(f:EV)(Q:List Nat)(n:Nat)(g:lM)(c:EB)(fe:EV):Prop:=∃w,PI X t iter w/\∀J H F m L S d a,Rel X.K F H m S->RL X.K F H m J L->f L S=Y (d,a) ->
 ∃ok M x s,d=.lst s/\few M=Vl/\w J H (λe y=>∃B h,Stp F m H B h y/\Rel X.K B y h x/\UA X.K ok e M B h y)/\lq ok g c fe M (m9 Q n L) x=Y (s,a)
theorem Q3(i:PI X tg iter (tI X.K C)):y8 X tg iter (bp C Q n g t fe) Q n g t fe:=by
 refine⟨_,i,λJ H F m L S d a r l h=>?_⟩;obtain⟨M,x,s,h⟩:=ak h;split at h;case isFalse=>cases h
 rename_i f;obtain⟨u,e,k,h⟩:=ak h;cases h;exact⟨λ_=>True,M,x,u,rfl,f,⟨F,m,L,S,M,x,r,l,s,λz B c y w v b=>⟨B,c,w,v,λj p I a q _ _=>b j p I q⟩⟩,by rw[tD];exact k⟩
theorem u0 
  (h:BlockOk X G N' Q n) (hcalm:X.c=Vl)
  (hi:PI X tg iter wi) (hg:∀s H C D,PG (inn X G N' s H C D) tg (gT X.K g)) (hc:∀s H C D,PIfs (inn X G N' s H C D) ifs fc) (he:∀s H C D,PE (inn X G N' s H C D) elt (tV X.K fe))
  (hclos:closureFor G X.e=pure (pS G X.e)) (hs:∀x,foldedSetIterable iter X.e x=pure x)
  (a:Inv X pins J H s) (r:Rel X.K F H m S) (l:RL X.K F H m J L) (hw:wi J H λJ9 y=>∃B m1,Stp F m H B m1 y/\Rel X.K B y m1 S1/\UA X.K ok J9 M B m1 y) (hfew:few M=Vl) (e2:lq ok g fc fe M (m9 Q n L) S1=Y (ds,S2))
  (fin:∀p F' m' H' sx C xs,Inv X pins J H' sx->Stp F m H F' m' H'->Rel X.K F' H' m' S2->H p=Vk/\¬F' p/\p ∉ m'/\H' p=Y (.lst xs)/\cN X.K F' H' ds xs->H' C=Vk->X.z.heap.objs.size≤C->C≠X.e.locals->(∀x c,X.e.cells.lookup x=Y c->c≠C)->(∀p ∈ X.pn++pins,p.1≠C) ->
   (∃mC,sx.heap.Ns C mC)->compPost (model X.p X.w) X.A X.xe use k (.ref p) C (.ok .next) sx) :
  wx X (comprehension (.ListComp elt [⟨tg,iter,ifs,0⟩] G N) G X.e p2 (newList []) Vm (eval iter X.e) use) k X.xe s:=by
 refine wpAny_comprehension_free (use:=use) rfl hs hclos h.kind h.loc (dO (hi pins s J H _ a hw) λxv sA hA=>dO hA λitv P h2=>?_);obtain⟨it,D,tn,J9,I,rfl,I2,t,st2,f2,B,m1,s1,r1,itp⟩:=h2;have hfp:∀b ∈ D,b < P.heap.objs.size:=λb R=>by obtain⟨o,e,_⟩:=t.obj _ _ st2 b R;exact aN e
 refine pe ?_ (by show 0≤sizeLine;exact cO _);refine E3 h.cell (by intro d hy;simp at hy) (λh1 hns1 Z=>?_) h.kind;dsimp only at hns1 Z ⊢;have hD:I P.heap.objs.size=Vk:=I2.h.fresh (az _);generalize hH2:P.heap.push { cls:=.type "list",dict:=Vk,data:=.seq ([]:LV).toArray }=K at hns1 Z ⊢;have hC:K.objs.size=P.heap.objs.size+1:=by rw[<- hH2,nY]
 have A:P.heap.objs.size≤K.objs.size:=by rw[hC];exact qQ _
 have old:∀b o,P.heap.get? b=Y o->h1.get? b=Y o:=λb o e=>Z.extBut b o (bG (bZ (aN e) A)) (aW _ (hH2 ▸ aW _ e));have hDC:P.heap.objs.size≠K.objs.size:=by rw[hC];exact bG (nX _)
 have accO:h1.get? P.heap.objs.size=Y { cls:=.type "list",dict:=Vk,data:=.seq ([]:LV).toArray }:=Z.extBut _ _ hDC (aW _ (hH2 ▸ bJ _ rfl));have hCn:I K.objs.size=Vk:=I2.h.fresh A;have hCcell:∀x c,X.e.cells.lookup x=Y c->c≠K.objs.size:=λx c e z=>by obtain⟨v,o,ho,_⟩:=I2.cell x c e;exact absurd (aN ho) (Bz.mpr (by rw[z];exact A))
 have hCloc:K.objs.size≠X.e.locals:=cD (bZ I2.lt A);have hCpin:∀p ∈ X.pn++pins,p.1≠K.objs.size:=λp hp z=>absurd (aN (I2.pin p hp).1) (Bz.mpr (by rw[z];exact A));have I3:=KY (tk:=P.toks+([]:List (Str×Value)).length) h I2 A f2 hfp old hD hDC hCn hns1 accO;have okX:=Hj (C:=K.objs.size) h I2 A f2 hfp;have fpH:∀{H':Hp},(∀b ∈ D,H' b=Vk)->∀b ∈ D,xD (inn X G N' P I K.objs.size D) [] H' b:=λhn b R=>
  ⟨hn b R,bG (bZ (hfp b R) A),okX.exfs b R,.inl R,(okX.exf b R).2,λp hp=>absurd (show p ∈ ([]:PN) from hp) (by simp)⟩
 have tn1:tn 0 h1:=t.keep _ _ _ st2 λb R o e=>old b o e;have loop:∀s3:Shared,s3={ P with heap:=h1,toks:=P.toks+([]:List (Str×Value)).length } ->
   codeAny (model X.p X.w) X.A (.compLoop (.ListComp elt [⟨tg,iter,ifs,0⟩] G N) 0 (.ref it) (.ref P.heap.objs.size) (compEnvC G (pS G X.e) K.objs.size X.e))
    (compPost (model X.p X.w) X.A X.xe use k (.ref P.heap.objs.size) K.objs.size) s3:=by
  rintro s3 rfl;refine Ey (cIv X.K (inn X G N' P I K.objs.size D) B m1 I P.heap.objs.size tn D (λnn i L' T u=>nn=M.length-i/\i≤M.length/\lq ok g fc fe (M.drop i) L' T=Y (u,S2)) ds) ?_ M.length ?_
  .rintro nn sx ⟨i,J',F',m',H',L',T,acc,u,xs,I',tn',fr',st',r',l',hacc,ra,hal,nF,nm,⟨rfl,hi',E⟩,rfl⟩;by_cases hlt:i < M.length
   .have hv:M[i]? = Y M[i]:=by simp[hlt]
    rw[B_ hlt]at E;unfold lq at E;split at E;case isFalse=>cases E
    rename_i hok;obtain⟨hgo,_⟩:=itp F' m' H' T st' r' hok;obtain⟨hgo1,hy⟩:=hgo i _ hv;refine dg (t.item (inn X G N' P I K.objs.size D) rfl rfl rfl hcalm i [] sx J' H' (λ_ _=>False) I' (fpH fr') tn' hgo1) (λrr sy hr=>?_) (λ_ _ f=>f.elim);obtain⟨w,rfl,hr⟩:=hr;refine dg hr (λ_ sz hz=>?_) (λ_ _ f=>f.elim);obtain⟨x,H3,I4,rx,yl,tn4,fr4⟩:=hz;obtain⟨F3,gr,p3⟩:=hy x H3 yl;have Pw:Stp B m1 I F3 m' H3:=st'.trans gr.stp;have r4:=r'.grow gr;have l4:=l'.mono (gr.stp (m:=m'));have acc4:=gr.keep _ _ hacc;have nF4:¬F3 P.heap.objs.size:=λz=>by
     rcases gr.nf _ z with z|⟨z,_⟩
     .exact nF z
     .rw [hacc]at z;cases z
    have I4':=I4.pinned (fpH fr4) (t.obj _ _ tn4);have back:∀{J7:L2.St}{H7:Hp}{s7:Shared},Inv (inn X G N' P I K.objs.size D) ([]++pE D sz.heap) J7 H7 s7->tn (i+1) s7.heap/\∀b ∈ D,H7 b=Vk:=λ{J7 H7 s7} I7=>
     ⟨t.keep _ _ _ tn4 λb R o e=>(I7.pin (b,o) (gu _ (gu _ (lg R e)))).1,λb R=>by obtain⟨o,e,dd⟩:=t.obj _ _ tn4 b R;exact(I7.pin (b,o) (gu _ (gu _ (lg R e)))).2.1⟩
    cases eg:g M[i] L' with
    |none=>rw[eg]at E;cases E
    |some L1=>
     rw[eg]at E;dsimp only at E;obtain⟨kk,S5,e5,E⟩:=ak E;refine dg (hg P I K.objs.size D _ sz J' H3 x w (λJ5 H5=>H5=H3/\RL X.K F3 H3 m' J5 L1) I4' rx ⟨F3,m',L',M[i],L1,l4,p3,eg,λJ5 l5=>⟨rfl,l5⟩⟩) (λ_ s5 h5=>?_) (λ_ _ f=>f.elim);obtain⟨J5,H5,I5,rfl,l5⟩:=h5;have test:wx X (forIn ifs Vl λc r=>if r=Vl then do let ok <- isTrue c (compEnvC G (pS G X.e) K.objs.size X.e) (eval c (compEnvC G (pS G X.e) K.objs.size X.e));pure (ForInStep.yield ok) else pure (ForInStep.yield r))
       (λok s6=>ok=kk/\∃V m6 H6,Inv (inn X G N' P I K.objs.size D) ([]++pE D sz.heap) J5 H6 s6/\Stp F3 m' H5 V m6 H6/\Rel X.K V H6 m6 S5) (λ_ _=>False) s5:=by
      have hcc:=hc P I K.objs.size D;cases hcc with
      |none=>cases e5;exact wpAny_tests_nil ⟨rfl,F3,m',H5,I5,.refl,r4⟩
      |one hq=>refine wpAny_tests_one (dg (hq _ s5 J5 H5 (λb H6=>b=kk/\∃V m6,Stp F3 m' H5 V m6 H6/\Rel X.K V H6 m6 S5) I5 ⟨F3,m',L1,T,kk,S5,r4,l5,e5,λV m6 H6 s6 r6=>⟨rfl,V,m6,s6,r6⟩⟩) (λb s6 h6=>?_) λ_ _ f=>f);obtain⟨H6,I6,rfl,V,m6,Im,r6⟩:=h6;exact⟨rfl,V,m6,H6,I6,Im,r6⟩
     refine dg test (λok s6 h6=>?_) (λ_ _ f=>f.elim);obtain⟨rfl,V,m6,H6,I6,Im,r6⟩:=h6;have W:=Im.oth _ _ acc4 nm;have nm6:P.heap.objs.size ∉ m6:=λz=>by
      rcases Im.nm _ z with z|z
      .exact nm z
      .rw [acc4]at z;cases z
     have nF6:¬V P.heap.objs.size:=λz=>by
      rcases Im.nf _ z with z|z|z
      .exact nF4 z
      .rw [acc4]at z;cases z
      .exact nm z
     have ra6:=cN.mono Im (ra.grow gr);have l6:=l5.mono Im;cases ok with
     |false=>rw[ae bU]at E ⊢;obtain⟨t7,f7⟩:=back I6;exact⟨M.length-(i+1),by lia,i+1,J5,V,m6,H6,L1,S5,acc,u,xs,I6.pins_of λp hp=>absurd hp (by simp),t7,f7,Pw.trans Im,r6,l6,W,ra6,BI hal,nF6,nm6,⟨rfl,hlt,E⟩,rfl⟩
     |true=>
      rw[ac rfl]at E ⊢;obtain⟨d,S8,e8,E⟩:=ak E;obtain⟨zs,S9,e9,E⟩:=ak E;cases E;refine dg (he P I K.objs.size D _ s6 J5 H6 (λv8 H8=>∃F8 m8,Stp V m6 H6 F8 m8 H8/\Rel X.K F8 H8 m8 S8/\RP X.K F8 H8 d v8) I6 ⟨V,m6,L1,S5,d,S8,r6,l6,e8,λv8 F8 m8 H8 s8 r8 p8=>⟨F8,m8,s8,r8,p8⟩⟩) (λu8 s8 h8=>?_) (λ_ _ f=>f.elim);obtain⟨v8,H8,I8,rv8,F8,m8,st8,r8,p8⟩:=h8;have acc8:=st8.oth _ _ W nm6;have nm8:P.heap.objs.size ∉ m8:=λz=>by
       rcases st8.nm _ z with z|z
       .exact nm6 z
       .rw [W]at z;cases z
      have nF8:¬F8 P.heap.objs.size:=λz=>by
       rcases st8.nf _ z with z|z|z
       .exact nF6 z
       .rw [W]at z;cases z
       .exact nm6 z
      have ra8:=cN.mono st8 ra6;have nt8:∀zs,H8 P.heap.objs.size≠Y (.tup zs):=λzs z=>by rw[acc8]at z;cases z
      have hl8:xs.length < sizeLine:=by have h9:M.length≤1000000:=aR hfew;rw[<- ra8.length];exact bZ (kS hal hlt) (bf h9 (by decide))
      refine dg (uM (X:=inn X G N' P I K.objs.size D) _ s8 J5 H8 (.ref P.heap.objs.size) [v8] (.ref P.heap.objs.size) [u8] (λ_ H9=>H9=cG H8 P.heap.objs.size (.lst (xs++[v8]))) I8 rfl (.cons rv8 .nil) ⟨_,xs,v8,rfl,rfl,acc8,hl8,rfl⟩) (λ_ s9 h9=>?_) (λ_ _ f=>f.elim);obtain⟨_,H9,I9,_,rfl⟩:=h9;obtain⟨t9,f9⟩:=back I9;have kb:Kp F8 m8 H8 F8 m8 (cG H8 P.heap.objs.size (.lst (xs++[v8]))):=Kp.bump nF8 nt8;have st9:Stp B m1 I F8 m8 (cG H8 P.heap.objs.size (.lst (xs++[v8]))):=(Pw.trans (Im.trans st8)).bump hD;have l9:RL X.K F8 (cG H8 P.heap.objs.size (.lst (xs++[v8]))) m8 J5 L1:=⟨l6.len,λj dd e=>by obtain⟨v,e1,rr⟩:=(l6.mono st8).at' j dd e;exact⟨v,e1,RD.kp kb rr⟩⟩
      exact⟨M.length-(i+1),by lia,i+1,J5,F8,m8,_,L1,S8,acc++[d],zs,xs++[v8],I9.pins_of fun p hp=>absurd hp (by simp),t9,f9,st9,r8.bump nF8 nm8 nt8,l9,aV,
       cN.kp kb (ra8.append ⟨v8,[],rfl,p8,rfl⟩),by rw[bK];exact Nat.succ_le_succ hal,nF8,nm8,⟨rfl,hlt,e9⟩,by simp⟩
   .have e:i=M.length:=by lia
    subst e;rw[qU]at E;unfold lq at E;split at E;case isFalse=>cases E
    rename_i hok;cases E;obtain⟨_,hstop⟩:=itp F' m' H' _ st' r' hok;refine dg (t.done (inn X G N' P I K.objs.size D) rfl rfl rfl hcalm M.length [] sx J' H' (λ_ _=>False) I' (fpH fr') tn' hstop) (λrr sy hr=>?_) (λ_ _ f=>f.elim);obtain⟨rfl,I5⟩:=hr;rw[eZ] at *
    have Iout:Inv X pins J H' sy:=I2.call' (q:=D) I5.os I5.base I5.h I5.bare λb R=>⟨(f2 b R).2.2.2.1,(f2 b R).2.1,(f2 b R).2.2.2.2.1,(f2 b R).2.2.2.2.2⟩;have hD0:H P.heap.objs.size=Vk:=by
     cases q:H P.heap.objs.size with
     |none=>rfl
     |some o=>exact absurd hD (s1.trk _ (by rw[q];exact λz=>nomatch z))
    have hCH:H' K.objs.size=Vk:=I5.free;obtain⟨mC,hmC,_⟩:=I5.loc;exact fin P.heap.objs.size F' m' H' sy K.objs.size xs Iout (s1.trans st') r' ⟨hD0,nF,nm,hacc,ra⟩ hCH (bf I2.sz A) hCloc hCcell hCpin ⟨mC,hmC⟩
  .exact⟨0,_,B,m1,_,m9 Q n L,S1,[],ds,[],I3,tn1,λb R=>by rw[aJ (bG (hfp b R))];exact(f2 b R).1,(cK hD).stp,r1.grow (cK hD),((l.mono s1).mono (cK hD).stp).up Q n,aV,rfl,cO _,r1.fresh_F hD,r1.fresh_m hD,⟨rfl,cO _,by rw[qT];exact e2⟩,rfl⟩
 exact codeAny_compStart_list (loop _ rfl) (t.self X.A 0 _ _ _ tn1 (loop _ rfl))
theorem yY(q:Stp F m H F' m' H')(r:Rel K F' H' m' S)(f:H p=Vk/\¬F' p/\p ∉ m'/\H' p=Y (.lst xs)/\cN K F' H' k xs) :
  Stp F m H (λb=>F' b\/b=p) m' H'/\Rel K (λb=>F' b\/b=p) H' m' S/\RP K (λb=>F' b\/b=p) H' (.lst k) (.ref p):=by
 obtain⟨x,e,n,h,a⟩:=f;exact⟨q.addF x,r.addF n (by rw[h];exact λz=>nomatch z),_,xs,rfl,⟨.inr rfl,h⟩,cN.kp (m:=m') Uk a⟩
theorem O3(B:BlockOk X G N' Q n)(c:X.c=Vl)
  (W:y8 X tg iter f Q n g fc fe) (Z:∀s H C e,PG (inn X G N' s H C e) tg (gT X.K g)) (R:∀s H C e,PIfs (inn X G N' s H C e) ifs fc) (V:∀s H C e,PE (inn X G N' s H C e) t (tV X.K fe))
  (o:closureFor G X.e=pure (pS G X.e)) (hs:∀x,foldedSetIterable iter X.e x=pure x:=by intro _;rfl) :
  PE X (.ListComp t [⟨tg,iter,ifs,0⟩] G N) (tV X.K f):=by
 intro i s J H h I ⟨F,m,L,S,d,T,r,l,a,k⟩;rw[eval_ListComp];obtain⟨wi,hi,W⟩:=W;obtain⟨ok,M,S1,ds,rfl,w,hw,z⟩:=W J H F m L S d T r l a;refine u0 B c hi Z R V o hs I r l hw w z λp F' m' H' sx C xs v q r' f E K P A D hz=>?_
 obtain⟨mC,b⟩:=hz;obtain⟨u,j,y⟩:=yY q r' f;exact⟨mC,b,λh' sb=>⟨.ref p,H',v.letGo sb E K P A D,rfl,k _ _ m' H' u j y⟩⟩
theorem OR(i:Nat)(hN:X.N.Nodup)(B:BlockOk X G N' Q n)(c:X.c=Vl)
  (W:y8 X tg iter f Q n g fc fe) (hg:∀s H C b,PG (inn X G N' s H C b) tg (gT X.K g)) (hc:∀s H C b,PIfs (inn X G N' s H C b) ifs fc) (he:∀s H C b,PE (inn X G N' s H C b) t (tV X.K fe))
  (o:closureFor G X.e=pure (pS G X.e)) (A:swapsWith (.ListComp t [⟨tg,iter,ifs,0⟩] G N) (Y (.Name x px)) spos.line X.e=pure Vl:=by rfl)
  (hs:∀x,foldedSetIterable iter X.e x=pure x:=by intro _;rfl) (K:X.N[i]? = Y x:=by rfl) (hx:Loc X.e.scope x:=by first|exact Or.inl rfl|exact Or.inr rfl)
  (hf:X.fn x=Vl\/X.e.scope.names.lookup x=Y .local:=by first|exact .inl rfl|exact .inr rfl|assumption) :
  PS X (.Assign [.Name x px] (.ListComp t [⟨tg,iter,ifs,0⟩] G N) spos) (pa X.K (aA i (O f))):=by
 intro y s J H D I ⟨F,m,L,S,fl,L',T,r,l,h,k⟩;obtain⟨d,S1,e1,h⟩:=ak h;cases h;obtain⟨v,S2,e2,e3⟩:=ak e1;cases e3;rw[exec_Assign_Name_used _ _ _ _ A];refine af (zo (af ?_));show wpAny _ _ (do let _ <- comprehension (.ListComp t [⟨tg,iter,ifs,0⟩] G N) G X.e _ (newList []) Vm (eval iter X.e) (Y (assign (.Name x px) X.e))) _ _ s;obtain⟨wi,hi,W⟩:=W;obtain⟨ok,M,S3,ds,rfl,u,hw,e4⟩:=W J H F m L S v _ r l e2;refine af (dg (u0 (use:=Y (assign (.Name x px) X.e)) (k:=λ_ E=>SP X y D .next E) B c hi hg hc he o hs I r l hw u e4 λp F' m' H' sx C xs I' V r0 f hC h0 Z h2 h3 hz=>?_) (λ_ E hq=>aq (aq hq)) λ_ _ e=>e);obtain⟨mC,P⟩:=hz;obtain⟨q,r',rp⟩:=yY V r0 f;refine Cz (uA I' hN K hx (v:=.ref p) rfl (λE z j=>?_) hf);refine⟨mC,?_,λh' sb=>⟨_,H',z.letGo sb hC h0 Z h2 h3,k _ _ m' H' q r' ((l.mono q).set (d:=.p (.lst ds)) rp i)⟩⟩;obtain⟨a,R,w⟩:=j;refine P.sameBut R ?_;rcases w with w|w
 .rw [w];exact Z
 .exact aZ (h2 x a w)
end
end Ev
namespace Ev
open PySem PySem.Spec PyProof.Rows L2
section
variable{X:Cx}{a b e:Expr}{es:Ab}{t C:EV}{fs:lC}{N p:Pos}
noncomputable def uh:P->Option P
 | .int i=>Y (.int (-i))
 |_=>Vk
theorem Se(f:PE X a (tV X.K t)):PE X (.UnaryOp .USub a N) (tV X.K (Jq uh t)):=(P4 Md f).imp' λJ H Q z=>by
 obtain⟨F,m,L,S,d,w,r,l,q,k⟩:=z;obtain⟨x,u,n,q⟩:=ak q;cases x with
 |int i=>cases q;exact⟨F,m,L,S,_,_,r,l,n,λv h b e s c p=>⟨i,p,k _ h b e s c rfl⟩⟩
 |_=>cases q
noncomputable def mu:List P->Option P
 | [.int i]=>Y (.int i)
 | [.bl b]=>Y (.int (if b then 1 else 0))
 |_=>Vk
theorem D4{K:FG}{F:Aa}{H:Hp}{d:P}{s:List V}(r:cN K F H [d] s):∃x,s=[x]/\RP K F H d x:=by obtain⟨x,h,rfl,p,a⟩:=r;cases (show h=[] from a);exact⟨x,rfl,p⟩
theorem K1:fZ X (.type "int") (rC X.K mu):=by
 intro B s J H n u Q I r h;obtain⟨F,e,d,f,a,q,k⟩:=h;unfold mu at q;split at q
 .cases q;obtain⟨x,rfl,p⟩:=D4 a;exact u3 B s J H _ u Q I r (.inl ⟨_,by rw[show x=_ from p],k _ F H .refl rfl⟩)
 .cases q;obtain⟨x,rfl,p⟩:=D4 a;exact u3 B s J H _ u Q I r (.inr ⟨_,by rw[show x=_ from p],k _ F H .refl rfl⟩)
 .cases q
noncomputable def qd:EE:=λ_ S=>Y (.ref S.length,S++[.dct [] []])
theorem Fy:PE X (.Dict [] [] N) (tE X.K qd):=GB.imp' λJ H Q z=>by obtain⟨F,m,L,S,d,x,r,l,q,k⟩:=z;cases q;intro p h;refine k (.ref p) F (m++[p]) _ (fJ h) (r.own h ⟨[],aV,rfl,rfl⟩) ⟨p,rfl,?_⟩;rw[<- r.len,c_ (az _)];simp
noncomputable def pP(k:ci)(v:D):List ci->List D->List ci×List D
 |h::s,w::x=>if h=k then (h::s,v::x) else (h::(pP k v s x).1,w::(pP k v s x).2)
 |_,_=>([k],[v])
noncomputable def nB(d:D)(S:aM):Option (Nat×List ci×List D):=match d with
 | .ref i=>match S[i]? with
  |some (.dct k T)=>Y (i,k,T)
  |_=>Vk
 |_=>Vk
theorem wM(h:nB r S=Y (i,v,T)):r=.ref i/\S[i]? = Y (.dct v T):=by
 unfold nB at h;split at h
 .split at h
  .rename_i e;cases h;exact⟨rfl,e⟩
  .cases h
 .cases h
def x3(o:EE)(k v:EV):ES:=λL S=>cg (v L S) λy x=>cg (o L x) λd a=>cg (k L a) λz h=>match nB d h,dH z with
 |some (i,s,T),Y e=>if (s.Nodup/\few s=Vl) then Y (.nx,L,h.set i (.dct (pP e (.p y) s T).1 (pP e (.p y) s T).2)) else Vk
 |_,_=>Vk
theorem uH{K:FG}{F:Aa}{H:Hp}{m:List Addr}{k:ci}{y:D}{u:V}(b:RD K F H m y u):∀{v:List (ci×V)}{s:List D},(v.map (·.1)).Nodup->dR K F H m s (v.map (·.2)) ->
  (putK v k u).map (·.1)=(pP k y (v.map (·.1)) s).1/\dR K F H m (pP k y (v.map (·.1)) s).2 ((putK v k u).map (·.2))
 | [],s,_,r=>by have:s=[]:=kY r.length;subst this;exact⟨rfl,u,[],rfl,b,rfl⟩
 |(h,w)::v,[],_,r=>by have:=r.length;simp at this
 |(h,w)::v,d::s,g,r=>by
  obtain⟨x,E,e,C,i⟩:=r;rw[aC]at e g;injection e with j o;subst j;subst o;obtain⟨t,p⟩:=cA.mp g;simp only[aC,pP];by_cases hk:h=k
  .subst hk;rw[ac rfl];have n:putK ((h,w)::v) h u=(h,u)::v:=by
    unfold putK;rw[ac (by simp)];rw[aC,ac rfl];congr 1;have:∀l:List (ci×V),h ∉ l.map (·.1)->l.map (λa=>if a.1=h then (a.1,u) else a)=l:=by
     intro l;induction l with
     |nil=>intro _;rfl
     |cons q l B=>
      intro f;rw[aC]at f;have S:¬q.1=h:=λz=>f (by rw[<- z];exact aK)
      rw[aC,ae S,B λz=>f (aL _ z)]
    exact this v t
   rw[n];exact⟨rfl,u,_,rfl,b,i⟩
  .rw [ae hk];obtain⟨P,A⟩:=uH b p i;have n:putK ((h,w)::v) k u=(h,w)::putK v k u:=by
    unfold putK;rw[eY,bA (show ¬(h,w).1=k from hk),mS];by_cases c:(v.any λa=>decide (a.1=k))=Vl
    .rw [ac c,ac c,aC,ae (show ¬(h,w).1=k from hk)]
    .rw [ae c,ae c];rfl
   rw[n,aC,aC,P];exact⟨rfl,w,_,rfl,C,A⟩
theorem R0{o i g:Expr}{I:EE}{h Q:EV}{G:Pos}(hu:X.A.units+1 < cLine)(ho:PE X o (tE X.K I))(hi:PE X i (tV X.K h))(hv:PE X g (tV X.K Q))(hs:swapsWith g (Y (.Subscript o i G)) N.line X.e=pure Vm:=by rfl) :
  PS X (.Assign [.Subscript o i G] g N) (pa X.K (x3 I h Q)):=(C4 hu ho hi hv hs).imp' λD J H hz=>by
 obtain⟨F,m,L,S,fl,L',S',r,l,q,k⟩:=hz;obtain⟨y,E,e1,q⟩:=ak q;obtain⟨d,M,e2,q⟩:=ak q;obtain⟨z,R,e3,q⟩:=ak q;refine⟨F,m,L,S,y,E,r,l,e1,λv C m1 H1 c r1 p1=>?_⟩;refine⟨C,m1,L,E,d,M,r1,l.mono c,e2,λx F2 m2 H2 p r2 p2=>?_⟩;refine⟨F2,m2,L,M,z,R,r2,(l.mono c).mono p,e3,λw n b f u B p3=>?_⟩;cases P:nB d R with
 |none=>rw[P]at q;cases q
 |some t=>
  obtain⟨j,ks,T⟩:=t;rw[P]at q;cases K:dH z with
  |none=>rw[K]at q;cases q
  |some e=>
   rw[K]at q;dsimp only at q;split at q
   .rename_i Z;cases q;obtain⟨rfl,es⟩:=wM P;obtain⟨a,rfl,A⟩:=RD.mono u p2;obtain⟨s,W,hk,rs⟩:=B.obj j a _ A es;subst hk;have pv:RD X.K n f b (.p y) v:=RD.mono u (RD.mono p (show RD X.K C H1 m1 (.p y) v from p1));obtain⟨h1,h2⟩:=uH (k:=e) pv Z.1 rs;cases (ju K p3);have nt:∀zs,f a≠Y (.tup zs):=λzs z=>by rw[W]at z;cases z
    have st:Stp n b f n b (cG f a (.dK (putK s e v))):=gZ B A es trivial nt;have hl:s.length < sizeLine:=by have V:(s.map (·.1)).length≤1000000:=aR Z.2;rw[aH]at V;exact kS V (by decide)
    refine⟨a,_,rfl,y7.k W hl,?_⟩;exact k J n b _ (c.trans (p.trans (u.trans st))) (B.set A es trivial nt ⟨_,aV,h1,dR.mono st h2⟩) (((l.mono c).mono p).mono (u.trans st))
   .cases q
end
section
variable{X:Cx}{a b c e:Expr}{es:Ab}{t C z:EV}{fs:lC}{N p:Pos}
abbrev AS:P->P->Option P:=Us
theorem Ql(_:X.A.units+1 < cLine):rQ X (compareOp .Eq) AS:=Tn
@[simp] def eR(a:EV)(L:Lc)(S:aM):Jr:=cg (a L S) λv h=>match v with
 | .lst x=>Y (x,h)
 | .ro x=>Y (x,h)
 | .tup x=>Y (x,h)
 |_=>Vk
theorem iS{M iter:Expr}(h:PE X iter (tV X.K t)):PI X M iter (tI X.K (eR t)):=by
 intro B s J H R I ⟨F,m,L,S,T,W,r,l,q,k⟩;obtain⟨v,K,Z,q⟩:=ak q;refine dO (h B s J H (λx n=>∃c w,Stp F m H c w n/\Rel X.K c n w K/\RP X.K c n v x) I ⟨F,m,L,S,v,K,r,l,Z,λx c w n f C j=>⟨c,w,f,C,j⟩⟩) λu f A=>?_
 obtain⟨x,n,d,G,c,w,st,C,j⟩:=A;have mk:∀{D:It},OI X.K D T c w n->K=W->R D n:=λit e=>by subst e;exact k _ c w n st C it
 have i:∀{a:Addr}{z:List V},x=.ref a->lB X.K n a z->R (T5 X.K a) n->wx X (pyIter u) (RU X B J M R) X.xe f:=λ{a z} e hq q=>by
  subst e;cases G;obtain⟨g,rv,p,A⟩:=d.list hq;refine CB p.isList ?_;refine⟨f.heap.objs.size,[f.heap.objs.size],_,_,n,rfl,d.kept (t':=f.toks) λb o e=>aW _ e,DY a _,⟨_,bJ _ rfl,rfl,rfl⟩,λb P=>?_,q⟩;have e:b=f.heap.objs.size:=by simpa using P
  subst e;exact d.fpOk (az _) (d.h.fresh (az _))
 cases v with
 |lst E=>cases q;obtain⟨a,z,rfl,ta,y⟩:=j;exact i rfl ta.sq (mk (He (λN m2 Q s=>(ta.kp s.kp).sq) y) rfl)
 |ro E=>cases q;obtain⟨a,z,rfl,ta,y⟩:=j;exact i rfl ta.sq (mk (He (λN m2 Q s=>(ta.kp s.kp).sq) y) rfl)
 |tup E=>
  cases q;obtain⟨a,z,rfl,ta,y⟩:=j;cases G;obtain⟨g,rv,pp,A⟩:=d.tuple ta.sq;refine vd (show f.heap.IsTuple a g.toArray from pp) ?_;refine⟨f.heap.objs.size,[f.heap.objs.size],_,_,n,rfl,d.kept (t':=f.toks) λb o e=>aW _ e,zK a _,⟨_,bJ _ rfl,rfl,rfl⟩,λb P=>?_,mk (ND ta y) rfl⟩;have e:b=f.heap.objs.size:=by simpa using P
  subst e;exact d.fpOk (az _) (d.h.fresh (az _))
 |_=>cases q
end
section
variable{X:Cx}{N p:Pos}
end
noncomputable def d9:Nat->P->Bool
 |_,.non=>Vl
 |_,.bl _=>Vl
 |_,.int _=>Vl
 |_,.str x=>ba x
 |n+1,.tup s=>s.all (d9 n)
 |n+1,.lst s=>s.all (d9 n)
 |n+1,.ro s=>s.all (d9 n)
 |_,_=>Vm
variable{n:Nat}
theorem rG:∀{s:List P},(∀d ∈ s,(pd d).canLay0=Vl/\(pd d).depth≤n)->xJ (jG s)=Vl/\r9 (jG s)≤n
 | [],_=>⟨rfl,cO _⟩
 |d::r,h=>by obtain⟨⟨p,a⟩,q⟩:=List.forall_mem_cons.mp h;obtain⟨x,e⟩:=rG q;exact⟨by simp only[jG,xJ,p,x,ou],by simp only[jG,r9];lia⟩
theorem fM:∀(n:Nat)(p:P),d9 n p=Vl->(pd p).canLay0=Vl/\(pd p).depth≤n
 |_,.non,_=>⟨rfl,cO _⟩
 |_,.bl _,_=>⟨rfl,cO _⟩
 |_,.int _,_=>⟨rfl,cO _⟩
 |n,.str x,h=>⟨by cases n<;>exact h,cO _⟩
 |n,.dct _ _,h=>by cases n<;>cases h
 |n,.obj _ _ _,h=>by cases n<;>cases h
 |n,.dtt _ _,h=>by cases n<;>cases h
 |0,.tup _,h=>by cases h
 |0,.lst _,h=>by cases h
 |0,.ro _,h=>by cases h
 |n+1,.tup s,h=>by obtain⟨a,b⟩:=rG λd hd=>fM n d (bi.mp h d hd);exact⟨a,by simp only[pd,ul];lia⟩
 |n+1,.lst s,h=>by obtain⟨a,b⟩:=rG λd hd=>fM n d (bi.mp h d hd);exact⟨a,by simp only[pd,ul];lia⟩
 |n+1,.ro s,h=>by obtain⟨a,b⟩:=rG λd hd=>fM n d (bi.mp h d hd);exact⟨a,by simp only[pd,ul];lia⟩
theorem lb(h:d9 20 p=Vl):BM (pd p)=Vl:=by obtain⟨x,a⟩:=fM 20 p h;unfold BM;rw[x,Ca];exact eF (by lia)
section
variable{X:Cx}{B:PN}{J:L2.St}{H:Hp}{s:Shared}{F:Aa}
theorem jT(o:∀{p:P}{v:V}{u:Value},RP X.K F H p v->RelV v u->d9 n p=Vl->∃k,Reads s.heap u (pd p) k) :
  ∀{f:List P}{a:List V}{b:LV},cN X.K F H f a->bo a b->(∀d ∈ f,d9 n d=Vl)->∃k,ReadsAll s.heap b (jG f) k
 | [],a,b,r,v,_=>by cases (show a=[] from r);cases v;exact⟨_,.nil⟩
 |d::f,a,b,r,v,h=>by
  obtain⟨x,i,rfl,p,r⟩:=r;cases v with
  |cons w t=>obtain⟨k,q⟩:=o p w (h d (.head _));obtain⟨g,m⟩:=jT o r t λe c=>h e (.tail _ c);exact⟨_,.cons q m⟩
theorem jo(I:Inv X B J H s):∀(n:Nat){p:P}{v:V}{u:Value},RP X.K F H p v->RelV v u->d9 n p=Vl->∃w,Reads s.heap u (pd p) w:=by
 intro n;induction n with
 |zero=>
  intro p v u r k h;cases p with
  |non=>cases (show v=.non from r);cases k;exact⟨_,.none⟩
  |bl b=>cases (show v=.bl b from r);cases k;exact⟨_,.bool b⟩
  |int i=>cases (show v=.int i from r);obtain⟨t,rfl⟩:=k;exact⟨_,.int i t⟩
  |str x=>cases (show v=.str x from r);obtain⟨t,rfl⟩:=k;exact⟨_,.str x t⟩
  |_=>simp[d9]at h
 |succ n l=>
  intro p v u r k h;cases p with
  |non=>cases (show v=.non from r);cases k;exact⟨_,.none⟩
  |bl b=>cases (show v=.bl b from r);cases k;exact⟨_,.bool b⟩
  |int i=>cases (show v=.int i from r);obtain⟨t,rfl⟩:=k;exact⟨_,.int i t⟩
  |str x=>cases (show v=.str x from r);obtain⟨t,rfl⟩:=k;exact⟨_,.str x t⟩
  |dct S T=>simp[d9]at h
  |obj c S T=>simp[d9]at h
  |dtt S T=>simp[d9]at h
  |tup y=>obtain⟨a,K,rfl,ta,j⟩:=r;cases k;obtain⟨g,f,⟨o,e,c,m,d⟩,z⟩:=I.tuple ta.sq;obtain⟨w,q⟩:=jT l j f (by simpa[d9] using h);rw[pd];exact⟨w,reads_tuple_at e c d (by simpa using q)⟩
  |lst y=>obtain⟨a,K,rfl,ta,j⟩:=r;cases k;obtain⟨g,f,⟨o,m,e,c,_,d⟩,z⟩:=I.list ta.sq;obtain⟨w,q⟩:=jT l j f (by simpa[d9] using h);rw[pd];exact⟨_,vq e c d (by simpa using q)⟩
  |ro y=>obtain⟨a,K,rfl,ta,j⟩:=r;cases k;obtain⟨g,f,⟨o,m,e,c,_,d⟩,z⟩:=I.list ta.sq;obtain⟨w,q⟩:=jT l j f (by simpa[d9] using h);rw[pd];exact⟨_,vq e c d (by simpa using q)⟩
end
noncomputable def tX(f:D->Option P):List D->Option (List P)
 | []=>Y []
 |d::r=>(f d).bind λv=>(tX f r).map λT=>v::T
def g6(S:aM):Nat->D->Option P
 |_,.p v=>Y v
 |0,.ref _=>Vk
 |n+1,.ref i=>match S[i]? with
  |some (.lst d)=>(tX (g6 S n) d).map .lst
  |some (.fz v)=>Y v
  |_=>Vk
@[simp] theorem zZ(S:aM)(n:Nat)(v:P):g6 S n (.p v)=Y v:=by cases n<;>rfl
section
variable{X:Cx}{B:PN}{J:L2.St}{H:Hp}{s:Shared}{F:Aa}{m:List Addr}{S:aM}
theorem sN(o:∀{d:D}{v:V}{u:Value}{p:P},RD X.K F H m d v->RelV v u->g6 S n d=Y p->d9 L p=Vl->∃c,Reads s.heap u (pd p) c) :
  ∀{f:List D}{b:List V}{t:LV}{k:List P},dR X.K F H m f b->bo b t->tX (g6 S n) f=Y k->(∀d ∈ k,d9 L d=Vl)->∃c,ReadsAll s.heap t (jG k) c
 | [],b,t,k,r,v,q,_=>by cases (show b=[] from r);cases v;cases q;exact⟨_,.nil⟩
 |d::f,b,t,k,r,v,q,h=>by
  obtain⟨x,B,rfl,p,r⟩:=r;obtain⟨y,j,q⟩:∃a,g6 S n d=Y a/\(tX (g6 S n) f).map (λT=>a::T)=Y k:=by
   cases e:g6 S n d with
   |none=>simp[tX,e]at q
   |some a=>exact⟨a,rfl,by simpa[tX,e] using q⟩
  obtain⟨C,l,rfl⟩:∃a,tX (g6 S n) f=Y a/\k=y::a:=by
   cases e:tX (g6 S n) f with
   |none=>rw[e]at q;cases q
   |some a=>rw[e]at q;cases q;exact⟨a,rfl,rfl⟩
  cases v with
  |cons K z=>obtain⟨c,g⟩:=o p K j (h y (.head _));obtain⟨A,w⟩:=sN o r z l λe i=>h e (.tail _ i);exact⟨_,.cons g w⟩
theorem fA(I:Inv X B J H s)(y:Rel X.K F H m S):∀(n k:Nat){d:D}{v:V}{u:Value}{p:P},RD X.K F H m d v->RelV v u->g6 S n d=Y p->d9 k p=Vl->∃b,Reads s.heap u (pd p) b:=by
 intro n;induction n with
 |zero=>
  intro k d v u p r x q h;cases d with
  |p w=>rw[zZ]at q;cases q;exact jo I k r x h
  |ref i=>cases q
 |succ n C=>
  intro k d v u p r x q h;cases d with
  |p w=>rw[zZ]at q;cases q;exact jo I k r x h
  |ref i=>
   obtain⟨a,rfl,g⟩:=r;have A:i < S.length:=by rw[<- y.len];exact(aX.mp g).1
   obtain⟨o,j⟩:∃o,S[i]? = Y o:=⟨S[i],by simp[A]⟩;have l:=y.obj i a o g j;simp only[g6,j]at q;cases o with
   |fz w=>cases q;exact jo I k l x h
   |dct M t=>cases q
   |ins _ _ _=>cases q
   |dtn _ _=>cases q
   |dtt _ _=>cases q
   |lst t=>
    dsimp only at q;cases e:tX (g6 S n) t with
    |none=>rw[e]at q;cases q
    |some Q=>
     rw[e]at q;cases q;cases k with
     |zero=>simp[d9]at h
     |succ k=>obtain⟨R,K,G⟩:=l;cases x;obtain⟨E,f,⟨o,N,z,c,_,d⟩,L⟩:=I.list (lB.of K);obtain⟨b,q⟩:=sN (L:=k) (λr x q h=>C k r x q h) G f e (by simpa[d9] using h);rw[pd];exact⟨_,vq z c d (by simpa using q)⟩
theorem oB(l:Rel X.K F H m S)(r:RD X.K F H m u v)(q:g6 S n u=Y p)(f:∀s,p≠.lst s/\p≠.tup s):RP X.K F H p v:=by
 cases u with
 |p w=>rw[zZ]at q;cases q;exact r
 |ref i=>
  cases n with
  |zero=>cases q
  |succ n=>
   obtain⟨a,rfl,h⟩:=r;have k:i < S.length:=by rw[<- l.len];exact(aX.mp h).1
   obtain⟨o,x⟩:∃o,S[i]? = Y o:=⟨S[i],by simp[k]⟩;have b:=l.obj i a o h x;simp only[g6,x]at q;cases o with
   |fz w=>cases q;exact b
   |dct t d=>cases q
   |ins _ _ _=>cases q
   |dtn _ _=>cases q
   |dtt _ _=>cases q
   |lst d=>
    dsimp only at q;cases e:tX (g6 S n) d with
    |none=>rw[e]at q;cases q
    |some c=>rw[e]at q;cases q;exact absurd rfl (f c).1
end
inductive rEI(K:FG)(g:D->D->aM->Option P)(x:V)(y:V)(H:Hp)(Q:VK):Prop
 |mk (F:Aa) (m:List Addr) (S:aM) (d:D) (e:D) (v:P) (h0_:Rel K F H m S) (h1_:RD K F H m d x) (h2_:RD K F H m e y) (h3_:g d e S=Y v) (h4_:∀u F' H',Grow F H F' H'->RP K F' H' v u->Q u H'):rEI K g x y H Q
noncomputable def rE(K:FG)(g:D->D->aM->Option P):R2:=λx y H Q=>rEI K g x y H Q
@[simp] def fx(g:D->D->aM->Option P)(a b:EE)(L:Lc)(S:aM):tyV:=cg (a L S) λx e=>cg (b L e) λy h=>(g x y h).map λv=>(v,h)
section
variable{X:Cx}{a b:Expr}{t C:EE}{N:Pos}
theorem CT(h:tV X.K (fx a0 t C) J H a1):Mp (rE X.K a0) (tE X.K t) (tE X.K C) J H a1:=by
 obtain⟨F,m,L,S,d,K,r,l,q,k⟩:=h;obtain⟨x,a,P,q⟩:=ak q;obtain⟨y,s,A,q⟩:=ak q;refine⟨F,m,L,S,x,a,r,l,P,λv p B M b I D=>?_⟩;refine⟨p,B,L,a,y,s,I,l.mono b,A,λu i n N c f E=>?_⟩;cases e:a0 x y s with
 |none=>rw[e]at q;cases q
 |some z=>rw[e]at q;cases q;exact⟨i,n,K,x,y,_,f,RD.mono c D,E,e,λw j o g G=>k w j n o (b.trans (c.trans g.stp)) (f.grow g) G⟩
theorem O4(o:jZ X (compareOp v) (rE X.K r))(x:PE X a (tE X.K t))(e:PE X b (tE X.K C))(m:behindInMarks v b=Vm):PE X (.Compare a [v] [b] N) (tV X.K (fx r t C)):=
 (C7 o x e m).imp' λ_ _ _ h=>CT h
theorem OS(o:jZ X (compareOp op) (rE X.K u))(c:PE X a (tE X.K t))(w:PE X b (tE X.K C))(g:behindInMarks op b=Vm):PT X (.Compare a [op] [b] N) (tQ X.K (bV (fx u t C))):=
 (C3 o c w g).imp' λJ H Q h=>by
  refine CT ?_;obtain⟨F,m,L,S,d,y,r,l,q,k⟩:=h;obtain⟨x,z,f,q⟩:=ak q;cases x with
  |bl b=>cases q;exact⟨F,m,L,S,_,_,r,l,f,λv e i n s j p=>⟨_,p,k e i n s j⟩⟩
  |_=>cases q
end
def DC(x y:P):Option Bool:=match AS x y with
 |some (.bl b)=>Y b
 |_=>if (d9 20 x && d9 20 y)=Vl then Y (de (pd x) (pd y)) else Vk
def Hy(d e:D)(S:aM):Option P:=(g6 S 9 d).bind λx=>(g6 S 9 e).bind λy=>(DC x y).map .bl
def GS(x y:P):Option Bool:=match N3 x y with
 |some (.bl b)=>Y b
 |_=>if (d9 20 x && d9 20 y)=Vl then Y (!PyData.eqv (pd x) (pd y)) else Vk
def LA(d e:D)(S:aM):Option P:=(g6 S 9 d).bind λx=>(g6 S 9 e).bind λy=>(GS x y).map .bl
noncomputable def nh(c:D)(S:aM):Option (List ci):=match c with
 | .p (.dct k _)=>Y k
 | .ref i=>match S[i]? with
  |some (.dct k _)=>Y k
  |some (.fz (.dct k _))=>Y k
  |_=>Vk
 |_=>Vk
noncomputable def El(k:ci)(s:List ci):Bool:=s.any λh=>decide (h=k)
def Ow(d c:D)(S:aM):Option Bool:=match nh c S with
 |some s=>(g6 S 9 d).bind λx=>(dH x).map λk=>El k s
 |none=>Vk
def NP(d c:D)(S:aM):Option P:=(Ow d c S).map .bl
noncomputable def fj:D->Bool
 | .p .non=>Vl
 |_=>Vm
def yD(d e:D)(_:aM):Option P:=match e with
 | .p .non=>Y (.bl (fj d))
 |_=>Vk
def dw(d e:D)(_:aM):Option P:=match e with
 | .p .non=>Y (.bl (!fj d))
 |_=>Vk
theorem AR(h:AS r v=Y b):(∀x,r≠.lst x/\r≠.tup x)/\∀x,v≠.lst x/\v≠.tup x:=by
 refine⟨λx=>⟨λe=>?_,λe=>?_⟩,λx=>⟨λe=>?_,λe=>?_⟩⟩
 .subst e;cases v<;>cases h
 .subst e;cases v<;>cases h
 .subst e;cases r<;>cases h
 .subst e;cases r<;>cases h
section
variable{X:Cx}
theorem Qk(j:X.A.units+64 < cLine):jZ X (compareOp .Eq) (rE X.K Hy):=by
 intro B s J H x y v u Q I g i h;obtain⟨F,m,S,d,e,r,l,px,py,q,k⟩:=h;unfold Hy at q;cases t:g6 S 9 d with
 |none=>rw[t]at q;cases q
 |some a=>
  rw[t]at q;cases p:g6 S 9 e with
  |none=>rw[p]at q;cases q
  |some b=>
   rw[p]at q;simp only[eD]at q;cases n:DC a b with
   |none=>rw[n]at q;cases q
   |some c=>
    rw[n]at q;cases q;unfold DC at n;split at n
    .rename_i D w;cases n;obtain⟨z,o⟩:=AR w;exact Ql (by lia) B s J H x y v u Q I g i ⟨F,a,b,.bl c,l.ft,oB l px t z,oB l py p o,w,k⟩
    .split at n
     .rename_i f;rw[ar]at f;cases n;obtain⟨A,K⟩:=fA I l 9 20 px g t f.1;obtain⟨C,P⟩:=fA I l 9 20 py i p f.2;exact eq_dataH K P (lb f.1) (lb f.2) j ⟨.bl _,H,I,rfl,k _ F H .refl rfl⟩
     .cases n
theorem Ew(h:N3 r v=Y b):(∀x,r≠.lst x/\r≠.tup x)/\∀x,v≠.lst x/\v≠.tup x:=by
 refine⟨λx=>⟨λe=>?_,λe=>?_⟩,λx=>⟨λe=>?_,λe=>?_⟩⟩
 .subst e;cases v<;>cases h
 .subst e;cases v<;>cases h
 .subst e;cases r<;>cases h
 .subst e;cases r<;>cases h
theorem Qd(j:X.A.units+64 < cLine):jZ X (compareOp .NotEq) (rE X.K LA):=by
 intro B s J H x y v u Q I g i h;obtain⟨F,m,S,d,e,r,l,px,py,q,k⟩:=h;unfold LA at q;cases t:g6 S 9 d with
 |none=>rw[t]at q;cases q
 |some a=>
  rw[t]at q;cases p:g6 S 9 e with
  |none=>rw[p]at q;cases q
  |some b=>
   rw[p]at q;simp only[eD]at q;cases n:GS a b with
   |none=>rw[n]at q;cases q
   |some c=>
    rw[n]at q;cases q;unfold GS at n;split at n
    .rename_i D w;cases n;obtain⟨z,o⟩:=Ew w;exact Tg B s J H x y v u Q I g i ⟨F,a,b,.bl c,l.ft,oB l px t z,oB l py p o,w,k⟩
    .split at n
     .rename_i f;rw[ar]at f;cases n;obtain⟨A,K⟩:=fA I l 9 20 px g t f.1;obtain⟨C,P⟩:=fA I l 9 20 py i p f.2;exact ne_dataH K P (lb f.1) (lb f.2) j ⟨.bl _,H,I,rfl,k _ F H .refl rfl⟩
     .cases n
theorem oG(x:P):∀s:List P,(jG s).any (λy=>de y (pd x))=s.any λy=>de (pd y) (pd x)
 | []=>rfl
 |y::r=>by rw[jG,eY,eY,oG x r]
theorem GQ(h:r.all (d9 19)=Vl):xJ (jG r)=Vl/\r9 (jG r)≤20:=by have l:=fM 20 (.lst r) h;simp only[pd,E9,ul]at l;have x:=l.2;exact⟨l.1,by lia⟩
theorem DX:(iG u v).isSome=El v (u.map (·.1)):=by
 induction u with
 |nil=>rfl
 |cons p r i=>
  unfold El at i ⊢;by_cases h:p.1=v
  .rw [jn h,aC,eY,eF h];rfl
  .rw [iF h,i,aC,eY,bA h];rfl
theorem HP{K:FG}{F:Aa}{H:Hp}{m:List Addr}{S:aM}{c:D}{y:V}{s:List ci}(r:Rel K F H m S)(py:RD K F H m c y)(q:nh c S=Y s):∃a k,y=.ref a/\H a=Y (.dK k)/\k.map (·.1)=s:=by
 unfold nh at q;split at q
 .cases q;obtain⟨a,k,e,_,hk,h,_⟩:=py;exact⟨a,k,e,hk,h⟩
 .rename_i i;obtain⟨a,rfl,x⟩:=py;split at q
  .rename_i o;cases q;obtain⟨k,hk,h,_⟩:=r.obj i a _ x o;exact⟨a,k,rfl,hk,h⟩
  .rename_i o;cases q;obtain⟨b,k,e,_,hk,h,_⟩:=r.obj i a _ x o;cases e;exact⟨a,k,rfl,hk,h⟩
  .cases q
 .cases q
theorem Qh(K:X.A.units+64 < cLine):jZ X (compareOp .In) (rE X.K NP):=by
 intro B s J H x y v u Q I j o h;obtain⟨F,m,S,d,e,r,l,px,py,q,k⟩:=h;unfold NP Ow at q;cases c:nh e S with
 |some P=>
  rw[c]at q;dsimp only at q;cases f:g6 S 9 d with
  |none=>rw[f]at q;cases q
  |some a=>
   rw[f]at q;simp only[eD]at q;cases n:dH a with
   |none=>rw[n]at q;cases q
   |some w=>rw[n]at q;cases q;obtain⟨b,g,rfl,hk,p⟩:=HP l py c;have i:RP X.K F H a x:=oB l px f λC=>⟨λz=>(by subst z;cases n),λz=>(by subst z;cases n)⟩;cases o;cases ju n i;exact TM (by lia) I (lD.k hk) j λA t=>⟨.bl _,H,t,rfl,by rw[DX,p];exact k _ F H .refl rfl⟩
 |none=>rw[c]at q;cases q
theorem Qg:jZ X (compareOp .Is) (rE X.K yD):=by
 intro B s J H x y v u Q I f t h;obtain⟨F,m,S,d,e,r,l,px,py,q,k⟩:=h;unfold yD at q;split at q
 .cases q;cases (show y=.non from py);refine Nh B s J H x _ v u Q I f t ⟨rfl,?_⟩;have:decide (x=.non)=fj d:=by
   cases d with
   |ref i=>obtain⟨a,rfl,_⟩:=px;rfl
   |p w=>
    cases w with
    |non=>cases (show x=.non from px);rfl
    |bl b=>cases (show x=.bl b from px);rfl
    |int b=>cases (show x=.int b from px);rfl
    |str b=>cases (show x=.str b from px);rfl
    |obj c j T=>(obtain⟨a,C,g,n,rfl,_⟩:=px;rfl)
    |_=>(obtain⟨a,z,rfl,_⟩:=px;rfl)
  rw[this];exact k _ F H .refl rfl
 .cases q
theorem GP:jZ X (compareOp .IsNot) (rE X.K dw):=by
 intro B s J H x y v u Q I f t h;obtain⟨F,m,S,d,e,r,l,px,py,q,k⟩:=h;unfold dw at q;split at q
 .cases q;cases (show y=.non from py);refine Kc B s J H x _ v u Q I f t ⟨rfl,?_⟩;have:decide (x=.non)=fj d:=by
   cases d with
   |ref i=>obtain⟨a,rfl,_⟩:=px;rfl
   |p w=>
    cases w with
    |non=>cases (show x=.non from px);rfl
    |bl b=>cases (show x=.bl b from px);rfl
    |int b=>cases (show x=.int b from px);rfl
    |str b=>cases (show x=.str b from px);rfl
    |obj c j T=>(obtain⟨a,C,g,n,rfl,_⟩:=px;rfl)
    |_=>(obtain⟨a,z,rfl,_⟩:=px;rfl)
  rw[this];exact k _ F H .refl rfl
 .cases q
end
noncomputable def sX:List lM->List P->Lc->Option Lc
 | [],[],L=>Y L
 |g::s,v::T,L=>match g v L with
  |some h=>sX s T h
  |none=>Vk
 |_,_,_=>Vk
def be(g:List lM):lM:=λv L=>match v with
 | .tup T=>sX g T L
 |_=>Vk
theorem yz:∀{s:List lM}{T:List P}{L x:Lc},sX s T L=Y x->T.length=s.length
 | [],[],_,_,_=>rfl
 | [],_::_,_,_,h=>by cases h
 |_::_,[],_,_,h=>by cases h
 |g::s,v::T,L,x,h=>by
  unfold sX at h;split at h
  .rw [aS,aS,yz h]
  .cases h
inductive gTsI(K:FG)(gs:List lM)(xs:List V)(J:L2.St)(H:Hp)(Q:L2.St->Hp->Prop):Prop
 |mk (F:Aa) (m:List Addr) (L:Lc) (vs:List P) (L':Lc) (h0_:RL K F H m J L) (h1_:cN K F H vs xs) (h2_:sX gs vs L=Y L') (h3_:∀J',RL K F H m J' L'->Q J' H):gTsI K gs xs J H Q
noncomputable def U5(K:FG)(g:List lM):Oj:=λx J H Q=>gTsI K g x J H Q
inductive GsOk(X:Cx):Ab->List lM->Prop where
 |nil:GsOk X [] []
 |cons {x:Str}{p:Pos}{es:Ab}{g:lM}{gs:List lM}:PG X (.Name x p) (gT X.K g)->GsOk X es gs->GsOk X (.Name x p::es) (g::gs)
section
variable{X:Cx}{N:Pos}
theorem uj:assignEach (.Name r p::es) v=(Vm,assign (.Name r p) v)::assignEach es v:=rfl
theorem GsOk.len(h:GsOk X es r)(e:Env):(assignEach es e).length=r.length/\(assignEach es e).findIdx? (·.1)=Vk:=by
 induction h with
 |nil=>exact⟨rfl,rfl⟩
 |cons _ _ i=>rw[uj];refine⟨by rw[aS,aS,i.1],?_⟩;simp only[List.findIdx?_cons,i.2];rfl
theorem GsOk.pgs(h:GsOk X es gs):Rg X es (U5 X.K gs):=by
 induction h with
 |nil=>
  intro B s J H f u Q I a ⟨F,m,L,T,e,l,r,q,k⟩;cases T with
  |nil=>cases q;cases (show f=[] from r);exact J1 B s J H [] u Q I a ⟨rfl,k J l⟩
  |cons _ _=>cases q
 |cons g _ i=>
  intro B s J H f u Q I a ⟨F,m,L,T,e,l,r,q,k⟩;cases T with
  |nil=>cases q
  |cons v T=>
   unfold sX at q;split at q
   .rename_i n b;obtain⟨x,t,rfl,p,r⟩:=r;refine Gs g i rfl B s J H _ u Q I a ⟨x,t,rfl,F,m,L,v,n,l,p,b,λd c=>?_⟩;exact⟨F,m,n,T,e,c,r,q,k⟩
   .cases q
theorem NN(c:X.c=Vl)(h:GsOk X es r):PG X (.Tuple es n N) (gT X.K (be r)):=
 PG.imp' (M4 c h.pgs (h.len _).1 (h.len _).2) λv J H Q z=>by
  obtain⟨F,m,L,d,x,l,p,q,k⟩:=z;cases d with
  |tup T=>obtain⟨a,f,rfl,ta,e⟩:=p;have s:=yz (show sX r T L=Y x from q);exact⟨a,f,rfl,ta.sq,by rw[<- e.length];exact s,F,m,L,T,x,l,e,q,k⟩
  |_=>cases q
noncomputable def bE(k:Int):List P->List P
 | []=>[]
 |x::r=>.tup [.int k,x]::bE (k+1) r
theorem pK:∀{T:List P}{k:Int}{i:Nat}{v:P},(bE k T)[i]? = Y v->∃x,T[i]? = Y x/\v=.tup [.int (k+i),x]
 | [],_,_,_,h=>by simp[bE]at h
 |x::r,k,0,v,h=>⟨x,rfl,by simpa[bE] using h.symm⟩
 |x::r,k,i+1,v,h=>by obtain⟨y,a,e⟩:=pK (T:=r) (k:=k+1) (i:=i) (by simpa[bE] using h);refine⟨y,by simpa using a,?_⟩;rw[e];congr 3;lia
theorem dB:∀(T:List P)(k:Int),(bE k T).length=T.length
 | [],_=>rfl
 |_::r,k=>by rw[bE,aS,aS,dB r]
end
open PySem.AutoSeq1 (wpAny_loadPart')
section
variable{X:Cx}
noncomputable def pU:List P->Option P
 | [.lst x]=>Y (.lst x)
 | [.ro x]=>Y (.lst x)
 | [.tup x]=>Y (.lst x)
 |_=>Vk
noncomputable def a_:List P->Option P
 | [.lst x]=>Y (.tup x)
 | [.ro x]=>Y (.tup x)
 | [.tup x]=>Y (.tup x)
 |_=>Vk
theorem HX:fZ X (.type "list") (rC X.K pU):=by
  intro B s J H c u Q I r h;obtain⟨F,b,d,t,f,q,k⟩:=h;unfold pU at q;split at q;all_goals first
    |(cases q;done)
    | (cases q
       obtain⟨x,rfl,p⟩:=D4 f;obtain⟨a,y,rfl,ta,n⟩:=p;first
         |exact lu B s J H _ u Q I r ⟨a,y,rfl,.inl ta.sq,λl e=>k _ _ _ (cn e) (.newLst e n)⟩
         |exact lu B s J H _ u Q I r ⟨a,y,rfl,.inr ta.sq,λl e=>k _ _ _ (cn e) (.newLst e n)⟩)
theorem EA:fZ X (.type "tuple") (rC X.K a_):=by
  intro B s J H c u Q I r h;obtain⟨F,b,d,t,f,q,k⟩:=h;unfold a_ at q;split at q;all_goals first
    |(cases q;done)
    | (cases q
       obtain⟨x,rfl,p⟩:=D4 f;obtain⟨a,y,rfl,ta,n⟩:=p;first
         |exact ni B s J H _ u Q I r ⟨a,y,rfl,.inl ⟨ta.sq,λl e=>k _ F _ (cK e) (.newTup e n)⟩⟩
         |exact ni B s J H _ u Q I r ⟨a,y,rfl,.inr ⟨ta.sq,k _ F H .refl ⟨a,y,rfl,ta,n⟩⟩⟩)
noncomputable def tH:List P->Option P
 | [.int i]=>Y (.int (if i < 0 then -i else i))
 |_=>Vk
theorem K2:fZ X (.builtin "abs") (rC X.K tH):=by
 intro B s J H n u Q I r h;obtain⟨F,e,d,f,a,q,k⟩:=h;unfold tH at q;split at q
 .cases q;obtain⟨x,rfl,p⟩:=D4 a;exact HV B s J H _ u Q I r ⟨_,by rw[show x=_ from p],k _ F H .refl rfl⟩
 .cases q
variable{e:Expr}{es:Ab}{fs:lC}{p N:Pos}
theorem LZ(g:Gl X "list")(m:X.g "list"=Vk)(a:PA X (e::es) (tT X.K fs))(x:starEach (e::es) X.e=(Vm,eval e X.e)::starEach es X.e)(h:(backTo N (starEach es X.e)).any (·.1)=Vm) :
  PE X (.Call (.Name "list" p) (e::es) [] N) (tV X.K (bj pU fs)):=zI HX g m vr a (by decide) (by decide) x h
theorem Jh(g:Gl X "tuple")(m:X.g "tuple"=Vk)(a:PA X (e::es) (tT X.K fs))(x:starEach (e::es) X.e=(Vm,eval e X.e)::starEach es X.e)(h:(backTo N (starEach es X.e)).any (·.1)=Vm) :
  PE X (.Call (.Name "tuple" p) (e::es) [] N) (tV X.K (bj a_ fs)):=zI EA g m Jb a (by decide) (by decide) x h
theorem OW(g:Gl X "abs")(m:X.g "abs"=Vk)(a:PA X (e::es) (tT X.K fs))(x:starEach (e::es) X.e=(Vm,eval e X.e)::starEach es X.e)(h:(backTo N (starEach es X.e)).any (·.1)=Vm) :
  PE X (.Call (.Name "abs" p) (e::es) [] N) (tV X.K (bj tH fs)):=Ma K2 g m I0 a (by decide) (by decide) x h
@[simp] def gA(r:EE)(a:EV)(L:Lc)(S:aM):xF:=cg (r L S) λd h=>match fu d h with
 |none=>Vk
 |some _=>cg (a L h) λx e=>match fu d e,x with
  |some (i,s),.lst y=>if lr (s.length+y.length)=Vl then Y (.p .non,e.set i (.lst (s++y.map .p))) else Vk
  |_,_=>Vk
end
section
variable{X:Cx}{o e:Expr}{I k:EE}{t:EV}{j x N:Pos}
theorem Jm(ho:PE X o (tE X.K I))(he:PE X e (tV X.K t))(E:starEach [e] X.e=[(Vm,eval e X.e)])
  (f:attributeBase o "extend" X.e (eval o X.e)=eval o X.e) (c:(j.endLine == x.line)=Vl):PE X (.Call (.Attribute o "extend" j) [e] [] x) (tE X.K (gA I t)):=
 (Lp vn A_ PySem.F.type_list_extend Ec ho (fK he ie (by rw[E];rfl)) f (by rw[E];rfl) c (by rw[E];rfl) rfl).imp' λJ H Q hz=>by
  obtain⟨F,m,L,S,d,S',r,l,q,k⟩:=hz;obtain⟨h,C,e1,q⟩:=ak q;refine⟨F,m,L,S,h,C,r,l,e1,λv F1 m1 H1 Z V T=>?_⟩;cases D:fu h C with
  |none=>rw[D]at q;cases q
  |some z=>
   obtain⟨i,ds⟩:=z;rw[D]at q;dsimp only at q;obtain⟨rfl,es⟩:=oH D;obtain⟨a,rfl,hm⟩:=id T;obtain⟨xs,hH,rs⟩:=V.obj i a _ hm es;refine⟨.inl ⟨rfl,xs,lB.of hH⟩,?_⟩;obtain⟨y,N,e2,q⟩:=ak q;refine⟨F1,m1,L,C,y,N,V,l.mono Z,e2,λu A G B s2 M p2=>?_⟩;cases s:fu (.ref i) N with
   |none=>rw[s]at q;cases q
   |some z=>
    obtain⟨i2,ds2⟩:=z;rw[s]at q;obtain⟨e3,n⟩:=oH s;cases e3;cases y with
    |lst ys=>
     dsimp only at q;split at q
     .rename_i hf;cases q;obtain⟨a2,e4,p⟩:=RD.mono s2 T;cases e4;obtain⟨K,w,g⟩:=M.obj i a _ p n;obtain⟨b,P,rfl,tb,W⟩:=p2;have R:∀P,B a≠Y (.tup P):=λP z=>by rw[w]at z;cases z
      have st:Stp A G B A G (cG B a (.lst (K++P))):=gZ M p n trivial R;refine⟨a,b,K,P,rfl,rfl,w,tb.2,by rw[<- g.length,<- W.length];exact jY hf,?_⟩;exact k .non A G _ (Z.trans (s2.trans st)) (M.set p n trivial R ⟨_,aV,dR.mono st (g.append (dR.ofP W))⟩) rfl
     .cases q
    |_=>cases q
noncomputable abbrev uk:=Lc->aM->Option (List D×aM)
noncomputable abbrev O_:=Option (List D×aM)
inductive tDsI(K:FG)(f:uk)(J:L2.St)(H:Hp)(Q:List V->Hp->Prop):Prop
 |mk (F:Aa) (m:List Addr) (L:Lc) (S:aM) (ds:List D) (S':aM) (h0_:Rel K F H m S) (h1_:RL K F H m J L) (h2_:f L S=Y (ds,S')) (h3_:∀xs F' m' H',Stp F m H F' m' H'->Rel K F' H' m' S'->dR K F' H' m' ds xs->Q xs H'):tDsI K f J H Q
noncomputable def zR(K:FG)(f:uk):TA:=λJ H Q=>tDsI K f J H Q
@[simp] def h_(_L:Lc)(S:aM):O_:=Y ([],S)
@[simp] def cM(a:EE)(r:uk)(L:Lc)(S:aM):O_:=cg (a L S) λx h=>cg (r L h) λs e=>Y (x::s,e)
variable{es:Ab}{fs:uk}
theorem LN:PA X [] (zR X.K h_):=ie.imp' λJ H Q h=>by obtain⟨F,m,L,S,d,x,r,l,q,k⟩:=h;cases q;exact k [] F m H .refl r rfl
theorem HM(u:PE X e (tE X.K k))(g:PA X es (zR X.K fs))(i:starEach (e::es) X.e=(Vm,eval e X.e)::starEach es X.e):PA X (e::es) (zR X.K (cM k fs)):=
 (fK u g i).imp' λJ H Q z=>by obtain⟨F,m,L,S,d,t,r,l,q,h⟩:=z;obtain⟨x,a,p,q⟩:=ak q;obtain⟨B,D,w,q⟩:=ak q;cases q;refine⟨F,m,L,S,x,a,r,l,p,λv f j C s P o=>?_⟩;refine⟨f,j,L,a,B,t,P,l.mono s,w,λT b y c n A K=>?_⟩;exact h (v::T) b y c (s.trans n) A ⟨v,T,rfl,RD.mono n o,K⟩
def LJ(a:uk):EE:=λL S=>cg (a L S) λx h=>if few x=Vl then Y (.ref h.length,h++[.lst x]) else Vk
theorem OZ(h:PA X es (zR X.K fs)):PE X (.List es N) (tE X.K (LJ fs)):=(Al h).imp' λJ H Q z=>by
 obtain⟨F,m,L,S,d,g,r,l,q,k⟩:=z;obtain⟨u,c,t,q⟩:=ak q;split at q
 .rename_i v;cases q;refine⟨F,m,L,S,u,c,r,l,t,λT x a e w f n=>⟨by rw[<- n.length];exact mj v,λp s=>?_⟩⟩;have b:Stp x a e x (a++[p]) (cG e p (.lst T)):=fJ s;refine k (.ref p) x (a++[p]) _ (w.trans b) (f.own s ⟨T,aV,dR.mono b n⟩) ⟨p,rfl,?_⟩;rw[<- f.len,c_ (az _)];simp
 .cases q
noncomputable abbrev GF:=List D->aM->Option (D×aM)
inductive spRI(K:FG)(g:GF)(vs:List V)(H:Hp)(Q:VK):Prop
 |mk (F:Aa) (m:List Addr) (ds:List D) (S:aM) (d:D) (S':aM) (h0_:Rel K F H m S) (h1_:dR K F H m ds vs) (h2_:g ds S=Y (d,S')) (h3_:∀v F' m' H',Stp F m H F' m' H'->Rel K F' H' m' S'->RD K F' H' m' d v->Q v H'):spRI K g vs H Q
noncomputable def tM(K:FG)(g:GF):Sp:=λT H Q _=>spRI K g T H Q
@[simp] def xi(g:GF)(a:uk)(L:Lc)(S:aM):xF:=cg (a L S) λd h=>g d h
theorem L_(G:FnOk X.p X.w X.K X.g X.b u9 u f fd ps (tM X.K a0))(K:Room u X.A)(z:Gl X a1)(o:X.g a1=Y (.ref f))(hk:iN X.K (.ref f)=Vl)(j:Binds X.K fd ps [])
  (i:PA X (e::es) (zR X.K fs)) (h:(a1 == ("__debug__":Str))=Vm) (y:starEach (e::es) X.e=(Vm,eval e X.e)::starEach es X.e) (x:(backTo N (starEach es X.e)).any (·.1)=Vm) :
  PE X (.Call (.Name a1 p) (e::es) [] N) (tE X.K (xi a0 fs)):=
 (wJ G K z o hk j .nil uJ i h y x).imp' λJ H Q P=>by obtain⟨F,m,L,S,d,w,r,l,q,u⟩:=P;obtain⟨n,a,g,q⟩:=ak q;refine⟨F,m,L,S,n,a,r,l,g,λM k A c s D p=>?_⟩;show tM X.K a0 (M++[]) c Q E0;rw[eZ];exact⟨k,A,n,a,d,w,D,p,q,λv b B t I E C=>u v b B t (s.trans I) E C⟩
noncomputable def Aq(n:Nat):D->Bool
 | .p _=>Vl
 | .ref i=>decide (i < n)
def Nv(n:Nat):SO->Bool
 | .lst d=>d.all (Aq n)
 | .dct _ d=>d.all (Aq n)
 | .fz _=>Vl
 | .ins _ _ d=>d.all (Aq n)
 | .dtn _ d=>d.all (Aq n)
 | .dtt _ d=>d.all (Aq n)
def trunc(n:Nat)(S:aM):aM:=if (S.take n).all (Nv n)=Vl then S.take n else S
@[simp] def FF(g:GF)(a:uk)(L:Lc)(S:aM):tyV:=cg (a L S) λs h=>cg (g s h) λd x=>cg (toP 9 d x) λv e=>Y (v,trunc h.length e)
end
section
variable{K:FG}{F:Aa}{H:Hp}{m:List Addr}{S:aM}
theorem RD.low(h:RD K F H m r v)(l:Aq n r=Vl):RD K F H (m.take n) r v:=by
 cases r with
 |p w=>exact h
 |ref i=>obtain⟨a,e,x⟩:=h;exact⟨a,e,by rw[kW (aR l)];exact x⟩
theorem dR.low:∀{s:List D}{a:List V},dR K F H m s a->s.all (Aq n)=Vl->dR K F H (m.take n) s a
 | [],_,h,_=>h
 |d::s,_,h,l=>by obtain⟨x,r,e,k,f⟩:=h;rw[mL,ar]at l;exact⟨x,r,e,k.low l.1,dR.low f l.2⟩
theorem Rel.trunc(r:Rel K F H m S)(z:n≤m.length)(h:(S.take n).all (Nv n)=Vl):Rel K F H (m.take n) (S.take n) where
 len:=by rw[gp,gp,r.len]
 nd:=r.nd.sublist (vV _ _)
 obj:=λi a o b t=>by
  have q:i < n:=by have:=(aX.mp b).1;rw[gp]at this;lia
  rw[kW q]at b;have lo:=bi.mp h o (bg t);rw[kW q]at t;have p:=r.obj i a o b t;cases o with
  |lst d=>obtain⟨y,x,s⟩:=p;exact⟨y,x,s.low lo⟩
  |dct u d=>obtain⟨k,x,e,s⟩:=p;exact⟨k,x,e,s.low lo⟩
  |fz v=>exact p
  |ins c u d=>obtain⟨C,g,k,j,x,e,s⟩:=p;exact⟨C,g,k,j,x,e,s.low lo⟩
  |dtn u d=>obtain⟨k,x,e,l,s⟩:=p;exact⟨k,x,e,l,s.low lo⟩
  |dtt u d=>obtain⟨k,x,e,s⟩:=p;exact⟨k,x,e,s.low lo⟩
 sep:=λi a o b t w f=>by
  have q:i < n:=by have:=(aX.mp b).1;rw[gp]at this;lia
  rw[kW q]at b t;exact r.sep i a o b t w f
 trk:=λa h=>r.trk a (mQ h)
 ft:=r.ft
theorem Stp.trunc(s:Stp F m H v r u):Stp F m H v (r.take m.length) u:=by
 obtain⟨n,e⟩:=s.pre;have x:r.take m.length=m:=by rw[e];simp
 rw[x];exact⟨⟨[],by simp⟩,s.oth,s.frz,s.frk,s.tup,s.trk,s.nf,λ_ h=>.inl h⟩
end
section
variable{X:Cx}{e:Expr}{es:Ab}{fs:uk}{N:Pos}
theorem Jk(G:FnOk X.p X.w X.K X.g X.b u9 u f fd ps (tM X.K a0))(hr:Room u X.A)(W:Gl X a1)(Z:X.g a1=Y (.ref f))(hk:iN X.K (.ref f)=Vl)(T:Binds X.K fd ps [])
  (R:PA X (e::es) (zR X.K fs)) (b:(a1 == ("__debug__":Str))=Vm) (V:starEach (e::es) X.e=(Vm,eval e X.e)::starEach es X.e) (k:(backTo N (starEach es X.e)).any (·.1)=Vm) :
  PE X (.Call (.Name a1 p) (e::es) [] N) (tV X.K (FF a0 fs)):=
 (wJ G hr W Z hk T .nil uJ R b V k).imp' λJ H Q hz=>by
  obtain⟨F,m,L,S,d,S',r,l,q,u⟩:=hz;obtain⟨y,h,E,q⟩:=ak q;obtain⟨D,C,I,q⟩:=ak q;obtain⟨v1,x,M,q⟩:=ak q;cases q;refine⟨F,m,L,S,y,h,r,l,E,λxs A w B P o p1=>?_⟩;show tM X.K a0 (xs++[]) B Q E0;rw[eZ];refine⟨A,w,y,h,D,C,o,p1,I,λv F2 g j s2 r2 p2=>?_⟩;obtain⟨i,s3,K,l3,z⟩:=nz 9 M r2 p2;have st:=s2.trans s3;have a:=o.len;by_cases c:(x.take h.length).all (Nv h.length)=Vl
  .have t:Ev.trunc h.length x=x.take h.length:=ac c;rw[t]at u;have s:w.length≤g.length:=by
    obtain⟨nn,e⟩:=st.pre;rw[e,bK];lia
   have rt:=K.trunc (n:=h.length) (by rw[<- a];exact s) c;refine u v i (g.take w.length) j (P.trans st.trunc) ?_ z;rw[a];exact rt
  .have t:Ev.trunc h.length x=x:=ae c;rw[t]at u;exact u v i g j (P.trans st) K z
end
section
variable{X:Cx}{a b c e o i g:Expr}{t C z h Q:EV}{I k:EE}{N G:Pos}
def tL (i:Expr):Prop:=∀(o:Expr) (N:Pos) (e:Env) (v:Value),assign (.Subscript o i N) e v=(do
 let h <- holding [v] (eval o e)
 let iv <- holding [v,h] (eval i e)
 standAt N
 holding [v,h,iv] (setItem h iv v)
 release [v,h,iv] [])
def CZ(o:EE)(k v:EV):ES:=λL S=>cg (v L S) λy x=>cg (o L x) λd a=>cg (k L a) λz h=>match fu d h,z with
 |some (i,s),.int n=>match Aw s.length n with
  |some j=>Y (.nx,L,h.set i (.lst (s.set j (.p y))))
  |none=>Vk
 |_,_=>Vk
theorem dR.setAt{K:FG}{F:Aa}{H:Hp}{m:List Addr}{d:D}{v:V}(h:RD K F H m d v):∀{s:List D}{e:List V}(j:Nat),dR K F H m s e->dR K F H m (s.set j d) (e.set j v)
 | [],_,_,r=>by cases (show _=([]:List V) from r);exact rfl
 |_::_,_,0,r=>by obtain⟨x,a,rfl,p,r⟩:=r;exact⟨v,a,rfl,h,r⟩
 |_::_,_,j+1,r=>by obtain⟨x,a,rfl,p,r⟩:=r;exact⟨x,_,rfl,p,dR.setAt h j r⟩
theorem OM(ho:PE X o (tE X.K I))(hi:PE X i (tV X.K h))(hv:PE X g (tV X.K Q))(hs:swapsWith g (Y (.Subscript o i G)) N.line X.e=pure Vm)(hw:swappedStores [.Subscript o i G] g X.e=pure Vk)(P:tL i) :
  PS X (.Assign [.Subscript o i G] g N) (pa X.K (CZ I h Q)):=(Go hv (M5 ho hi FW (P o G X.e)) hs hw).imp' λD J H hz=>by
 obtain⟨F,m,L,S,fl,L',S',r,l,q,k⟩:=hz;obtain⟨y,M,e1,q⟩:=ak q;obtain⟨d,R,e2,q⟩:=ak q;obtain⟨z,T,e3,q⟩:=ak q;refine⟨F,m,L,S,y,M,r,l,e1,λv E W H1 b r1 p1=>?_⟩;refine⟨E,W,L,M,d,R,r1,l.mono b,e2,λx F2 m2 H2 c r2 p2=>?_⟩;refine⟨F2,m2,L,R,z,T,r2,(l.mono b).mono c,e3,λw e f s p C p3=>?_⟩;cases K:fu d T with
 |none=>rw[K]at q;cases q
 |some t=>
  obtain⟨j,ds⟩:=t;rw[K]at q;cases z with
  |int n=>
   dsimp only at q;cases u:Aw ds.length n with
   |none=>rw[u]at q;cases q
   |some B=>
    rw[u]at q;cases q;obtain⟨rfl,es⟩:=oH K;obtain⟨a,rfl,A⟩:=RD.mono p p2;obtain⟨xs,V,rs⟩:=C.obj j a _ A es;have pv:RD X.K e s f (.p y) v:=RD.mono p (RD.mono c (show RD X.K E H1 W (.p y) v from p1));cases (show w=.int n from p3);have Z:∀zs,s a≠Y (.tup zs):=λzs z=>by rw[V]at z;cases z
    have st:Stp e f s e f (cG s a (.lst (xs.set B v))):=gZ C A es trivial Z;refine⟨a,xs,n,B,rfl,rfl,V,by rw[<- rs.length];exact u,?_⟩;exact k J e f _ (b.trans (c.trans (p.trans st))) (C.set A es trivial Z ⟨_,aV,dR.mono st (dR.setAt pv B rs)⟩) (((l.mono b).mono c).mono (p.trans st))
  |_=>cases q
def jR(o:EE)(k v:EV):ES:=λL S=>match x3 o k v L S with
 |some r=>Y r
 |none=>CZ o k v L S
theorem ON(u:X.A.units+1 < cLine)(v:PE X o (tE X.K I))(p:PE X i (tV X.K h))(w:PE X g (tV X.K Q))(d:swapsWith g (Y (.Subscript o i G)) N.line X.e=pure Vm)(hw:swappedStores [.Subscript o i G] g X.e=pure Vk)(c:tL i) :
  PS X (.Assign [.Subscript o i G] g N) (pa X.K (jR I h Q)):=λB s J H D x a=>by
 obtain⟨F,m,L,S,f,e,n,r,l,q,k⟩:=a;cases b:x3 I h Q L S with
 |some z=>
  have t:Y z=Y (f,e,n):=by have:=q;unfold jR at this;rw[b]at this;exact this
  cases t;exact R0 u v p w d B s J H D x ⟨F,m,L,S,f,e,n,r,l,b,k⟩
 |none=>
  have t:CZ I h Q L S=Y (f,e,n):=by have:=q;unfold jR at this;rw[b]at this;exact this
  exact OM v p w d hw c B s J H D x ⟨F,m,L,S,f,e,n,r,l,t,k⟩
@[simp] def pB(g n:P->P->Option P)(a b c:EV)(L:Lc)(S:aM):tyV:=cg (a L S) λx e=>cg (b L e) λy h=>match g x y with
 |some (.bl Vl)=>cg (c L h) λz s=>(n y z).map λv=>(v,s)
 |some (.bl Vm)=>Y (.bl Vm,h)
 |_=>Vk
theorem y0{g c:P->P->Option P}{J:L2.St}{H:Hp}{Q:VK}(h:tV X.K (pB g c t C z) J H Q):zS (rP X.K g) (rP X.K c) (tV X.K t) (tV X.K C) (tV X.K z) J H Q:=by
 obtain⟨F,m,L,S,d,S',r,l,q,k⟩:=h;obtain⟨x,o,e1,q⟩:=ak q;obtain⟨y,K,e2,q⟩:=ak q;refine⟨F,m,L,S,x,o,r,l,e1,λv N m1 H1 G r1 p1=>?_⟩;refine⟨N,m1,L,o,y,K,r1,l.mono G,e2,λu R i H2 I B A=>?_⟩;cases b:g x y with
 |none=>rw[b]at q;cases q
 |some a=>
  rw[b]at q;cases a with
  |bl e=>
   refine⟨R,x,y,_,B.ft,RP.mono I p1,A,b,λw f j p p3=>⟨e,p3,?_⟩⟩;have zX:Stp F m H f i j:=G.trans (I.trans p.stp);have D:=B.grow p;cases e with
   |false=>rw[ae bU];cases q;exact k _ f i j zX D rfl
   |true=>
    rw[ac rfl];dsimp only at q;obtain⟨a,Z,e3,q⟩:=ak q;refine⟨f,i,L,K,a,Z,D,l.mono zX,e3,λw' T m4 H4 M E p4=>?_⟩;cases s:c y a with
    |none=>rw[s]at q;cases q
    |some z2=>rw[s]at q;cases q;exact⟨T,y,a,_,E.ft,RP.mono M (RP.grow p A),p4,s,λw2 V W n p5=>k w2 V m4 W (zX.trans (M.trans n.stp)) (E.grow n) p5⟩
  |_=>cases q
theorem L9(n:rQ X (compareOp u) r)(o:rQ X (compareOp v) L)(x:PE X a (tV X.K t))(e:PE X b (tV X.K C))(s:PE X c (tV X.K z))(m:lastMarks [u,v] [b,c]=Vm) :
  PE X (.Compare a [u,v] [b,c] N) (tV X.K (pB r L t C z)):=(GG n o x e s m).imp' λ_ _ _ h=>y0 h
theorem LY(y:rQ X (compareOp op) u)(o:rQ X (compareOp op') g')(w:PE X a (tV X.K t))(g:PE X b (tV X.K C))(i:PE X c (tV X.K z))(j:lastMarks [op,op'] [b,c]=Vm) :
  PT X (.Compare a [op,op'] [b,c] N) (tQ X.K (bV (pB u g' t C z))):=(Gm y o w g i j).imp' λJ H Q h=>by
 refine y0 ?_;obtain⟨F,m,L,S,d,A,r,l,q,k⟩:=h;obtain⟨x,B,f,q⟩:=ak q;cases x with
 |bl b=>cases q;exact⟨F,m,L,S,_,_,r,l,f,λv e K n s P p=>⟨_,p,k e K n s P⟩⟩
 |_=>cases q
def zN:P->Option Bool
 | .non=>Y Vm
 | .bl b=>Y b
 | .int i=>Y (i != 0)
 | .str x=>if lr x.length=Vl then Y ((x.length:Int) != 0) else Vk
 | .tup s=>Y (!s.isEmpty)
 | .lst s=>Y (!s.isEmpty)
 | .ro s=>Y (!s.isEmpty)
 | .dct k _=>Y (!k.isEmpty)
 | .obj _ _ _=>Vk
 | .dtt _ _=>Vk
def Js:D->aM->Option Bool
 | .p v,_=>zN v
 | .ref i,S=>match S[i]? with
  |some (.lst d)=>Y (!d.isEmpty)
  |some (.dct k _)=>Y (!k.isEmpty)
  |some (.fz v)=>zN v
  |_=>Vk
@[simp] def bT(f:EE)(L:Lc)(S:aM):Op:=cg (f L S) λd h=>(Js d h).map λb=>(b,h)
theorem jV{x:List l}{y:List q}(h:x.length=y.length):x.isEmpty=y.isEmpty:=by cases x<;>cases y<;>first|rfl|simp at h
theorem CP(p:RP X.K F H w v)(h:zN w=Y r):Oh X.K v H r:=by
 cases w with
 |non=>cases (show v=.non from p);cases h;rfl
 |bl b=>cases (show v=.bl b from p);cases h;rfl
 |int b=>cases (show v=.int b from p);cases h;rfl
 |str x=>
  cases (show v=.str x from p);simp only[zN]at h;split at h
  .rename_i m;cases h;exact⟨jY m,rfl⟩
  .cases h
 |tup d=>obtain⟨a,s,rfl,ta,e⟩:=p;cases h;exact .inr (.inl ⟨s,ta.sq,by rw[jV e.length]⟩)
 |lst d=>obtain⟨a,s,rfl,ta,e⟩:=p;cases h;exact .inl ⟨s,ta.sq,by rw[jV e.length]⟩
 |ro d=>obtain⟨a,s,rfl,ta,e⟩:=p;cases h;exact .inl ⟨s,ta.sq,by rw[jV e.length]⟩
 |dct n d=>obtain⟨a,k,rfl,_,hk,f,e⟩:=p;cases h;exact .inr (.inr ⟨k,hk,by rw[<- f];cases k<;>rfl⟩)
 |obj c n d=>cases h
 |dtt n d=>cases h
theorem yT(h:PE X e (tE X.K k))(D:∀o,isTrue e X.e o=(do let v <- o;standAt e.pos;holding [v] (truthy v))):PT X e (tQ X.K (bT k)):=
 (Gk h D).imp' λJ H Q E=>by
  obtain⟨F,m,L,S,d,N,r,l,q,s⟩:=E;obtain⟨x,P,B,q⟩:=ak q;cases n:Js x P with
  |none=>rw[n]at q;cases q
  |some t=>
   rw[n]at q;cases q;refine⟨F,m,L,S,x,_,r,l,B,λv z G K I c i=>⟨_,?_,s z G K I c⟩⟩;cases x with
   |p w=>exact CP i n
   |ref j=>
    obtain⟨a,rfl,g⟩:=i;simp only[Js]at n;split at n
    .rename_i A f;cases n;obtain⟨M,u,y⟩:=c.obj j a _ g f;exact .inl ⟨M,lB.of u,by rw[jV y.length]⟩
    .rename_i R A f;cases n;obtain⟨b,u,C,y⟩:=c.obj j a _ g f;exact .inr (.inr ⟨b,u,by rw[<- C];cases b<;>rfl⟩)
    .rename_i w f;exact CP (c.obj j a _ g f) n
    .cases n
@[simp] def xZ(g:lM)(f:EV)(L:Lc)(S:aM):CO:=cg (f L S) λv x=>match g v L with
 |some h=>Y (.nx,h,x)
 |none=>Vk
theorem RZ(d:PE X e (tV X.K t))(w:PG X tg (gT X.K u))(i:swapsWithSole [tg] e N.line X.e=pure Vm)(hw:swappedStores [tg] e X.e=pure Vk)(p:(assignEach [tg] X.e).map (·.2)=[assign tg X.e]) :
  PS X (.Assign [tg] e N) (pa X.K (xZ u t)):=(Go d w i hw p).imp' λD J H z=>by
 obtain⟨F,m,L,S,A,K,P,r,l,q,k⟩:=z;obtain⟨v,b,c,q⟩:=ak q;refine⟨F,m,L,S,v,b,r,l,c,λx h a n s o y=>?_⟩;cases g:u v L with
 |none=>rw[g]at q;cases q
 |some L2=>rw[g]at q;cases q;exact⟨h,a,L,v,_,l.mono s,y,g,λf j=>k f h a n s o j⟩
def lI:P->P->Option P
 | .tup [],.tup s=>Y (.tup s)
 |x,y=>tB x y
theorem N7{M:Program}{w:World}{A:Around}{E:VP}{s:Shared}{t b:Addr}{a:LV}{Q:VP}(n:IsTup s.heap t #[])(e:IsTup s.heap b a.toArray)(h:Q (.ref b) s):wpAny (model M w) A (binaryOp .Add (.ref t) (.ref b)) Q E s:=by obtain⟨o,g,k,m,l⟩:=id n;obtain⟨p,x,f,r,c⟩:=id e;cases o;cases p;cases k;cases l;cases f;cases c;exact zh ⟨_,g,rfl⟩ ⟨_,x,rfl⟩ zt zl vk vl (vo _ _) (tuple_addW0 t b #[] a.toArray m r _ _ _ _ rfl) ⟨g,x,h⟩
theorem Nl:rQ X (binaryOp .Add) lI:=by
 intro B s J H x y v u Q I r c h;obtain⟨F,e,n,d,t,px,py,q,k⟩:=h;have o:tB e n=Y d->wx X (binaryOp .Add v u) (EP X B J Q) X.xe s:=λq=>Qm B s J H x y v u Q I r c ⟨F,e,n,d,t,px,py,q,k⟩
 cases e with
 |tup f=>
  cases n with
  |tup es=>
   cases f with
   |nil=>cases q;obtain⟨a,z,rfl,ta,j⟩:=px;obtain⟨b,P,rfl,l,K⟩:=id py;cases (show z=[] from j);cases r;cases c;obtain⟨m,g,p,_⟩:=I.tuple ta.sq;obtain⟨i,S,w,_⟩:=I.tuple l.sq;cases g;exact N7 p w ⟨.ref b,H,I,rfl,k _ F H .refl py⟩
   |cons _ _=>exact o q
  |_=>cases f<;>exact o q
 |_=>exact o q
def xB(K:FG)(m:SV)(x:Str)(v:P):Prop:=∃u w,m x=Y u/\RelV w u/\∀F H,RP K F H v w
theorem O1(g:Gl X L)(h:xB X.K X.g L v)(hd:(L == ("__debug__":Str))=Vm):PE X (.Name L N) (tV X.K (vC v)):=by obtain⟨u,w,m,r,p⟩:=h;exact xC (Ka g m r hd) p
end
section
variable{X:Cx}{a:Expr}{t:EE}{p N:Pos}
end
noncomputable def iI(f:Str):LS->List D->Option D
 |k::h,d::s=>if k=f then Y d else iI f h s
 |_,_=>Vk
noncomputable def putK(f:Str):LS->LS
 | []=>[f]
 |k::s=>if k=f then k::s else k::putK f s
noncomputable def oE(f:Str)(y:D):LS->List D->List D
 | [],_=>[y]
 |k::h,d::s=>if k=f then y::s else d::oE f y h s
 |_::_,[]=>[]
def j0(K:FG)(c:Str)(C:Addr):Prop:=ph K mainGlobals c=Y (Y (.ref C))
variable{K:FG}
theorem j0.inj(h:j0 K c r)(x:j0 K c v):r=v:=by have:=h.symm.trans x;cases this;rfl
def RY(K:FG)(A:Str->Str->Bool):Prop:=∀c f,A c f=Vl->∃C,j0 K c C/\Cls K C/\nO K C f
section
variable{K:FG}{F:Aa}{H:Hp}{m:List Addr}
theorem wT:∀{a:List (Str×V)}{s:List D}{d:D},dR K F H m s (a.map (·.2))->iI f (a.map (·.1)) s=Y d->∃v,a.lookup f=Y v/\RD K F H m d v
 | [],s,d,_,h=>by cases s<;>cases h
 |(k,x)::r,s,d,p,h=>by
  cases s with
  |nil=>cases h
  |cons q s=>
   obtain⟨y,w,e,c,t⟩:=p;simp only[aC,nR]at e;obtain⟨rfl,rfl⟩:=e;simp only[aC,iI]at h;split at h
   .rename_i hk;cases h;subst hk;exact⟨x,by simp[gU],c⟩
   .rename_i hk;obtain⟨v,n,b⟩:=wT t h;exact⟨v,by rw[qW,show(f == k)=Vm by simpa using λz=>hk z.symm];exact n,b⟩
theorem wS:∀{v:List (Str×V)},(v.map (·.1)).contains f=Vm->v.lookup f=Vk
 | [],_=>rfl
 |(k,x)::r,h=>by simp only[aC,List.contains_cons,Cc]at h;rw[qW,h.1];exact wS h.2
theorem Gj(h:RD K F H m u v):∀{s:List (Str×V)}{d:List D},dR K F H m d (s.map (·.2))->(j5 f v s).map (·.1)=putK f (s.map (·.1))/\dR K F H m (oE f u (s.map (·.1)) d) ((j5 f v s).map (·.2))
 | [],d,n=>⟨rfl,v,[],rfl,h,rfl⟩
 |(k,x)::r,d,n=>by
  cases d with
  |nil=>cases (show _=([]:List V) from n)
  |cons t d=>
   obtain⟨z,p,e,b,a⟩:=n;simp only[aC,nR]at e;obtain⟨rfl,rfl⟩:=e;by_cases hk:k=f
   .simp only[j5,hk,iB,aC,putK,oE];first|exact⟨rfl,v,_,rfl,h,a⟩|exact⟨trivial,v,_,rfl,h,a⟩
   .obtain⟨i,c⟩:=Gj h a;simp only[j5,hk,fH,aC,putK,oE];exact⟨by rw[i],x,_,rfl,b,c⟩
end
section
variable{X:Cx}{o e g:Expr}{f:Str}{N G j:Pos}{I Q:EE}{A:Str->Str->Bool}{es:Ab}{fs:uk}
@[simp] def bR(A:Str->Str->Bool)(o:EE)(f:Str)(L:Lc)(S:aM):xF:=cg (o L S) λd h=>match d with
 | .ref i=>match h[i]? with
  |some (.ins c k s)=>if A c f=Vl then (iI f k s).map λz=>(z,h) else Vk
  |_=>Vk
 | .p (.obj c k T)=>if A c f=Vl then (iI f k (T.map .p)).map λz=>(z,h) else Vk
 |_=>Vk
theorem Af:∀{T:List P}{s:List V},cN K F H T s->dR K F H m (T.map .p) s
 | [],_,h=>h
 |_::_,_,h=>by obtain⟨x,r,e,a,n⟩:=h;exact⟨x,r,e,a,Af n⟩
theorem Sl(V:RY X.K A)(ho:PE X o (tE X.K I))(hb:attributeBase o f X.e (eval o X.e)=eval o X.e):PE X (.Attribute o f N) (tE X.K (bR A I f)):=(Na ho hb).imp' λJ H Q hz=>by
 obtain⟨F,m,L,S,d,S',r,l,q,k⟩:=hz;obtain⟨x,S1,e1,q⟩:=ak q;refine⟨F,m,L,S,x,S1,r,l,e1,λv n E b Z M W=>?_⟩;cases x with
 |p w=>
  cases w with
  |obj c D T=>
   obtain⟨a,C,u,s,rfl,t,j,y,rfl,R⟩:=(show RP X.K n b (.obj c D T) v from W);dsimp only at q;split at q
   .rename_i K;cases h:iI f (s.map (·.1)) (T.map .p) with
    |none=>rw[h]at q;cases q
    |some z=>rw[h]at q;cases q;obtain⟨C',e,P,B⟩:=V c f K;cases j0.inj j e;obtain⟨v,g,G⟩:=wT (Af (m:=E) R) h;exact⟨a,C,u,s,v,rfl,y,P,B,g,k v n E b Z M G⟩
   .cases q
  |_=>cases q
 |ref i=>
  obtain⟨a,rfl,hm⟩:=W;dsimp only at q;split at q
  .rename_i c D ds hs;split at q
   .rename_i K;cases h:iI f D ds with
    |none=>rw[h]at q;cases q
    |some z=>rw[h]at q;cases q;obtain⟨C,u,s,j,y,rfl,R⟩:=M.obj i a _ hm hs;obtain⟨C',e,P,B⟩:=V c f K;cases j0.inj j e;obtain⟨v,g,G⟩:=wT R h;exact⟨a,C,u,s,v,rfl,y,P,B,g,k v n E b Z M G⟩
   .cases q
  .cases q
@[simp] def jS(A:Str->Str->Bool)(o:EE)(f:Str)(v:EE)(L:Lc)(S:aM):CO:=cg (v L S) λy x=>cg (o L x) λd h=>match d with
 | .ref i=>match h[i]? with
  |some (.ins c k s)=>if (A c f && decide (k.length < 900))=Vl then Y (.nx,L,h.set i (.ins c (putK f k) (oE f y k s))) else Vk
  |_=>Vk
 |_=>Vk
theorem OO(hA:RY X.K A)(ho:PE X o (tE X.K I))(hv:PE X g (tE X.K Q))(h:swapsWith g (Y (.Attribute o f G)) N.line X.e=pure Vm):PS X (.Assign [.Attribute o f G] g N) (pa X.K (jS A I f Q)):=(MZ ho hv h).imp' λD J H hz=>by
 obtain⟨F,m,L,S,fl,L',S',r,l,q,k⟩:=hz;obtain⟨y,M,e1,q⟩:=ak q;obtain⟨d,S2,e2,q⟩:=ak q;refine⟨F,m,L,S,y,M,r,l,e1,λv Z m1 H1 B r1 p1=>?_⟩;refine⟨Z,m1,L,M,d,S2,r1,l.mono B,e2,λx e K n E P p2=>?_⟩;cases d with
 |p w=>cases q
 |ref i=>
  obtain⟨a,rfl,j⟩:=p2;dsimp only at q;split at q
  .rename_i c ks ds h;split at q
   .rename_i u;rw[ar]at u;cases q;obtain⟨C,b,s,R,T,rfl,rs⟩:=P.obj i a _ j h;obtain⟨C',t,hc,hn⟩:=hA c f u.1;cases j0.inj R t;have hl:s.length < 1000:=by have:=aR u.2;rw[aH]at this;lia
    have V:∀W,n a≠Y (.tup W):=λW z=>by rw[T]at z;cases z
    have st:Stp e K n e K (cG n a (.ins C b (j5 f v s))):=gZ P j h trivial V;obtain⟨i1,i2⟩:=Gj (f:=f) (RD.mono st (RD.mono E p1)) (dR.mono st rs);exact⟨a,C,b,s,rfl,T,hc,hn,hl,k J e K _ (B.trans (E.trans st)) (P.set j h trivial V ⟨C,b,_,R,aV,i1,i2⟩) ((l.mono B).mono (E.trans st))⟩
   .cases q
  .cases q
@[simp] def cL(M:Str->Str->Option GF)(o:EE)(y:Str)(a:uk)(L:Lc)(S:aM):xF:=cg (o L S) λd h=>match d with
 | .ref i=>match h[i]? with
  |some (.ins c k _)=>match M c y with
   |some g=>if k.contains y=Vl then Vk else cg (a L h) λT x=>g (.ref i::T) x
   |none=>Vk
  |_=>Vk
 | .p (.obj c k T)=>match M c y with
  |some g=>if k.contains y=Vl then Vk else cg (a L h) λw x=>g (.p (.obj c k T)::w) x
  |none=>Vk
 |_=>Vk
def RV(X:Cx)(M:Str->Str->Option GF):Prop:=∀c y g,M c y=Y g->∃C k f d p,j0 X.K c C/\Cls X.K C/\Meth X.K C y f/\FnOk X.p X.w X.K X.g X.b u9 k f d p (tM X.K g)/\Room k X.A/\Binds X.K d p []
variable{M:Str->Str->Option GF}{y:Str}
theorem uN(hM:RV X M){t:TE}{ta:TA}(b:∀C k f z o g,Cls X.K C->Meth X.K C y f->FnOk X.p X.w X.K X.g X.b u9 k f z o (tM X.K g)->Room k X.A->Binds X.K z o []->PE X e (FR C y (tM X.K g) [] E0 (tE X.K I) (zR X.K fs))):PE X e (tE X.K (cL M I y fs)):=by
 intro B s J H Q n h;obtain⟨F,m,L,S,d,S',r,l,q,k⟩:=h;obtain⟨x,G,e1,q⟩:=ak q;cases x with
 |p w=>
  cases w with
  |obj c ks ws=>
   dsimp only at q;split at q
   .rename_i g hg;split at q
    .cases q
    .rename_i hk;obtain⟨T,K,e2,q⟩:=ak q;obtain⟨C,kk,f,z,o,ec,hc,hm,hF,hr,hb⟩:=hM c y g hg;refine b C kk f z o g hc hm hF hr hb B s J H Q n ⟨F,m,L,S,.p (.obj c ks ws),G,r,l,e1,λv E m1 H1 A N P=>?_⟩;obtain⟨a,C',dx,j,rfl,_,u,hH,rfl,rs⟩:=(show RP X.K E H1 (.obj c ks ws) v from P);cases j0.inj ec u;refine⟨a,dx,j,rfl,hH,wS (by simpa using hk),E,m1,L,G,T,K,N,l.mono A,e2,λxs R m2 Z D r2 p2=>?_⟩;show tM X.K g (V.ref a::(xs++[])) Z Q E0;rw[eZ];exact⟨R,m2,.p (.obj c _ ws)::T,K,d,S',r2,⟨_,_,rfl,RD.mono D P,p2⟩,q,λv W m3 H3 s3 r3 p3=>k v W m3 H3 (A.trans (D.trans s3)) r3 p3⟩
   .cases q
  |_=>cases q
 |ref i=>
  dsimp only at q;split at q
  .rename_i c ks ds hs;split at q
   .rename_i g hg;split at q
    .cases q
    .rename_i hk;obtain⟨T,K,e2,q⟩:=ak q;obtain⟨C,kk,f,z,o,ec,hc,hm,hF,hr,hb⟩:=hM c y g hg;refine b C kk f z o g hc hm hF hr hb B s J H Q n ⟨F,m,L,S,.ref i,G,r,l,e1,λv E m1 H1 A N P=>?_⟩;obtain⟨a,rfl,hmi⟩:=id P;obtain⟨C',dx,j,u,hH,rfl,rs⟩:=N.obj i a _ hmi hs;cases j0.inj ec u;refine⟨a,dx,j,rfl,hH,wS (by simpa using hk),E,m1,L,G,T,K,N,l.mono A,e2,λxs R m2 Z D r2 p2=>?_⟩;show tM X.K g (V.ref a::(xs++[])) Z Q E0;rw[eZ];exact⟨R,m2,.ref i::T,K,d,S',r2,⟨_,_,rfl,RD.mono D P,p2⟩,q,λv W m3 H3 s3 r3 p3=>k v W m3 H3 (A.trans (D.trans s3)) r3 p3⟩
   .cases q
  .cases q
theorem OX(x:RV X M)(n:PE X o (tE X.K I))(a:PA X (e::es) (zR X.K fs))(s:starEach (e::es) X.e=(Vm,eval e X.e)::starEach es X.e)(h:(backTo N (starEach es X.e)).any (·.1)=Vm)
  (p:eval (.Call (.Attribute o y j) (e::es) [] N) X.e=(do
   let v <- eval o X.e
   standAt j.atName
   let (f,first) <- holding [v] (getMethod v y u)
   callWith N f first (backTo N (starEach (e::es) X.e)) (backToKw N (keywordEach [] X.e)))) :
  PE X (.Call (.Attribute o y j) (e::es) [] N) (tE X.K (cL M I y fs)):=
 uN (t:=tE X.K I) (ta:=zR X.K fs) x λC k f d q g c m F r b=>J8 n c m F r b .nil uJ a s h p
theorem L5(i:RV X M)(B:PE X o (tE X.K I))
  (E:eval (.Call (.Attribute o y j) [] [] N) X.e=(do
   let u <- eval o X.e
   standAt j.atName
   let (f,first) <- holding [u] (getMethod u y pl)
   callWith N f first (backTo N (starEach [] X.e)) (backToKw N (keywordEach [] X.e)))) :
  PE X (.Call (.Attribute o y j) [] [] N) (tE X.K (cL M I y h_)):=
 uN (t:=tE X.K I) (ta:=zR X.K h_) i λC k f fd ps g K A p D z=>(Gx B K A p D z .nil uJ E).imp' λJ H Q h=>by obtain⟨F,m,L,S,d,n,r,l,q,k⟩:=h;refine⟨F,m,L,S,d,n,r,l,q,λv e R x s' Z V=>?_⟩;obtain⟨a,c,fs,rfl,w,P,s,T,L2,S2,ds,b,r2,l2,W,G⟩:=k v e R x s' Z V;cases W;exact⟨a,c,fs,rfl,w,P,G [] s T x .refl r2 rfl⟩
@[simp] def ml(g:GF)(c:Str)(a:uk)(L:Lc)(S:aM):xF:=cg (a L S) λT h=>match g (.ref h.length::T) (h++[.ins c [] []]) with
 |some (.p .non,x)=>Y (.ref h.length,x)
 |_=>Vk
theorem OY{C f:Addr}{o:FuncData}{K:LS}{k:Nat}{x:Str}{p:Pos}{g:GF}(M:Mk X.K C f)(G:FnOk X.p X.w X.K X.g X.b u9 k f o K (tM X.K g))(hr:Room (k+1) X.A)(hg:Gl X x)(hm:X.g x=Y (.ref C))(Z:j0 X.K x C)(hb:Binds X.K o K [])
  (ha:PA X (e::es) (zR X.K fs)) (i:(x == ("__debug__":Str))=Vm) (he:starEach (e::es) X.e=(Vm,eval e X.e)::starEach es X.e) (z:(backTo N (starEach es X.e)).any (·.1)=Vm) :
  PE X (.Call (.Name x p) (e::es) [] N) (tE X.K (ml g x fs)):=
 (J_ M G hr hg hm hb .nil uJ ha i he z).imp' λJ H Q hz=>by
  obtain⟨F,m,L,S,d,S',r,l,q,k⟩:=hz;obtain⟨T,t,R,q⟩:=ak q;refine⟨F,m,L,S,T,t,r,l,R,λxs s a b s1 P p1=>λy h hy w j=>?_⟩;split at q
  .rename_i _ S2 V;cases q;have A:Stp s a b s a (cG b h (.own y)):=k_ w;have r2:Rel X.K s (cG b h (.own y)) a t:=P.new w;have u:cG b h (.own y) y=Vk:=by rw[aJ (aZ j)];exact hy
   have B:Stp s a (cG b h (.own y)) s (a++[y]) (cG (cG b h (.own y)) y (.ins C h [])):=fJ u;have r3:Rel X.K s (cG (cG b h (.own y)) y (.ins C h [])) (a++[y]) (t++[.ins x [] []]):=r2.own u ⟨C,h,[],Z,aV,rfl,rfl⟩;rw[eZ];have c:(a++[y])[t.length]? = Y y:=by rw[<- P.len,c_ (az _)];simp
   refine⟨s,a++[y],.ref t.length::T,_,.p .non,_,r3,⟨_,_,rfl,⟨y,rfl,c⟩,dR.mono B (dR.mono A p1)⟩,V,λv E m4 I D r4 p4=>⟨p4,?_⟩⟩;refine k (.ref y) E m4 I (s1.trans (A.trans (B.trans D))) r4 ⟨y,rfl,?_⟩;obtain⟨n,W⟩:=D.pre;rw[W,ce (aX.mp c).1];exact c
  .cases q
end
theorem Nt(h:attributeBase o y v (eval o v)=eval o v)(e:methodCallForm (r.length+([]:List Keyword).length) (backTo N (starEach r v)) (backToKw N (keywordEach [] v))=Vl)(l:(j.endLine == N.line)=Vl) :
  eval (.Call (.Attribute o y j) r [] N) v=(do
   let u <- eval o v
   standAt j.atName
   let (f,first) <- holding [u] (getMethod u y (do return (<- importBound o v).getD Vl))
   callWith N f first (backTo N (starEach r v)) (backToKw N (keywordEach [] v))):=by
 have x:methodCallPos Vl o v j N=pure N:=by unfold methodCallPos;rw[l];rfl
 have a:∀u,methodCall o y j N v u (r.length+([]:List Keyword).length) (backTo N (starEach r v)) (backToKw N (keywordEach [] v))=(do
   let (f,first) <- holding [u] (getMethod u y (do return (<- importBound o v).getD Vl))
   callWith N f first (backTo N (starEach r v)) (backToKw N (keywordEach [] v))):=λu=>by
  unfold methodCall;rw[e,x];rfl
 have s:eval (.Call (.Attribute o y j) r [] N) v=(do
  let u <- attributeBase o y v (eval o v)
  standAt j.atName
  methodCall o y j N v u (r.length+([]:List Keyword).length) (backTo N (starEach r v)) (backToKw N (keywordEach [] v))):=by rfl
 rw[s,h];simp only[a]
open PySem.W (KasT kas_sort kas_ask kas_item kat_run kat_snds kat_lt kat_kind KatTups KatLex kat_nil kat_cons kat_yes kat_no kat_one)
noncomputable def KO{l:Type}(lt:Nat->Nat->Option Bool):KasT l->Option l
 | .ret a=>Y a
 | .ask i j k=>match lt i j with
  |some b=>KO lt (k b)
  |none=>Vk
theorem HE{l:Type}{lt:Nat->Nat->Option Bool}{c:Nat->Nat->(Bool->Shared->Prop)->Shared->Prop}{Q:l->Shared->Prop}{s:Shared}(x:∀i j b C,lt i j=Y b->C b s->c i j C s){a:l}(q:Q a s) :
  ∀(t:KasT l),KO lt t=Y a->t.kasWp c Q s
 | .ret _,h=>by cases h;exact q
 | .ask i j k,h=>by
  simp only[KO]at h;split at h
  .rename_i b e;exact x i j b _ e (HE x q (k b) h)
  .cases h
section
variable{d:Program}{w:World}{A:Around}{E:VP}{s:Shared}{D:Addr}{T:LV}
theorem yK(few:T.length < 2):((arrOf (SortSt.mk' general' (T.toArray.zip T.toArray) #[] 7 Vk)).map (·.2))=T.toArray:=by
 have same:(T.toArray.zip T.toArray).map (·.2)=T.toArray:=by
  rcases T with _|⟨v,_|⟨u,r⟩⟩
  .simp
  .simp
  .exact absurd few (by simp)
 exact same
theorem HD{k:Nat}{G:PySem.Fin->Shared->Prop}(few:T.length < 2)(a:s.heap.get? D=Y (seqObj "list" T.toArray k))
  (g:∀x c,(∀b o,b≠D->s.heap.get? b=Y o->x.get? b=Y o)->x.get? D=Y (seqObj "list" T.toArray c)->G (.done (.ret .none)) { s with heap:=x }) :
  wpAny (model d w) A (Builtin.«list.sort» ⟨[.ref D],[]⟩) G E s:=by
 have m:T.length+1≤sizeLine:=by rw[kO];lia
 have cond:T.toArray.size < 2:=by simpa using few
 have h:=Bo a λ_=>(#[]:Array Value);rw[list_sort_plain];refine af <|listItems_at a rfl <|af <|Bj a rfl (af <|seqEpoch_at h rfl <|af <|zp (af <|zm (gR ?_) (cO _)) (by simpa using vA m)) (by simpa using vA m) (cO _);simp only[cond,iB];have p:∀b o,(s.heap.update D (kQ λ_=>(#[]:Array Value))).get? b=Y o->((((s.heap.update D (kQ λ_=>(#[]:Array Value))).push { cls:=.type "tuple",data:=.seq T.toArray }).push { cls:=.type "list",data:=.seq ([]:LV).toArray })).get? b=Y o:=
  λ_ _ q=>aW _ (aW _ q)
 have t:=p D _ h;refine af <|aq <|af <|aq ?_;refine af <|seqEpoch_at t rfl <|af <|Bj t rfl ?_ (cO _) (by rw[yK few];simpa using BI (vA m));rw[yK few];have OE:=Bo t λ_=>T.toArray;simp only[bne_self_eq_false,je,fH,failedOf];refine aq (g _ _ (λb o n e=>?_) OE);exact((nQ _ D _).2 b n).trans (p b o (((nQ s.heap D _).2 b n).trans e))
theorem y6{l:Type}{s:SortKind}{Q e:l->Shared->Prop}(q:∀a u,Q a u->e a u):∀(t:KasT l)(u:Shared),t.kasWp (kas_ask d w A s T) Q u->t.kasWp (kas_ask d w A s T) e u
 | .ret a,u,h=>q a u h
 | .ask _ _ k,_,h=>dg h (λb u n=>y6 q (k b) u n) λ_ _ x=>x
theorem JD{f:Heap}{L l:Addr}{m:SV}{g:PN}{a:String}{o:Obj}{n:Nat}{G:VP}(F:Fr f L s.heap m)(N:News f L s.heap g)(hT:a="list"\/a="tuple")(ho:s.heap.get? l=Y o)(hc:o.cls=.type a)(hd:o.data=.seq T.toArray n)(I:T.length < 64)
  (h1:T.length < 2->∀D j c,s.heap.get? D=Vk->Fr f L j m->News f L j ((D,seqObj "list" T.toArray c)::g)->G (.ref D) { s with heap:=j })
  (h2:2≤T.length->∀D e j,s.heap.get? D=Vk->(∀q ∈ g,q.1≠D)->Fr f L j m->News f L j ((D,seqObj "list" #[] e)::g) ->
   wpAny (model d w) A.in1.in1 (keyKind' T.toArray) (λV u=>(kas_sort T.length).kasWp (kas_ask d w A.in1.in1 V T) (λp u=>Fa f L m D e (p.toList.map λi=>T.getD i Value.none) (λu=>G (.ref D) u) u) u) (λ_ _=>False) { s with heap:=j }) :
  wpAny (model d w) A (call (.builtin "sorted") [.ref l]) G E s:=by
 have H:T.length≤sizeLine:=by rw[kO];lia
 refine Bv (b:=Builtin.«sorted») kind_sorted plain_sorted entry_sorted (args_sorted1 (.ref l)) (af (m:=checkCount "sorted" 1 1 1) <|aq <|af <|wpAny_collect_seq l hT ho hc hd (λh k=>af <|zm ?_ H) H);have t:∀b,b=h.objs.size->s.heap.get? b=Vk:=λb hb=>by
  cases q:s.heap.get? b with
  |none=>rfl
  |some u=>exact absurd (aN (k b u q)) (by rw[hb];exact i9 _)
 have R:∀b u,s.heap.get? b=Y u->(h.push { cls:=.type "list",data:=.seq T.toArray }).get? b=Y u:=λb u e=>aW _ (k b u e);have S:(h.push { cls:=.type "list",data:=.seq T.toArray }).get? h.objs.size=Y (seqObj "list" T.toArray 0):=bJ _ rfl;have K:h.objs.size≠L:=λz=>by obtain⟨u,_,_,e,_⟩:=F.ns;rw[t L z.symm]at e;cases e
 have P:f.get? h.objs.size=Vk:=by
  rcases q:f.get? h.objs.size with _|u
  .rfl
  .have:=F.keep _ _ q;rw[t _ rfl]at this;cases this
 have neN:∀q ∈ g,q.1≠h.objs.size:=λq hq z=>by have:=(N q hq).1;rw[t _ z]at this;cases this
 have B:=F.keeps R;have C:=N.keeps R;refine af (gR (pc (b:=Builtin.«list.sort») Bm ⟨_,S,rfl⟩ Bn ?_ (args_list_sort _)));by_cases few:T.length < 2
 .refine HD (s:={ s with heap:=h.push { cls:=.type "list",data:=.seq T.toArray } }) few S λj c Q e=>⟨_,rfl,aq ⟨_,rfl,h1 few _ j c (t _ rfl) ⟨?_,λb u q=>?_,F.above⟩ λq y=>?_⟩⟩
  .obtain⟨u,es,ep,Z,r⟩:=B.ns;exact⟨u,es,ep,Q L u K.symm Z,r⟩
  .exact Q b u (λz=>by rw[z,P]at q;cases q) (B.keep b u q)
  .rcases bc.mp y with rfl|y
   .exact⟨e,K,P⟩
   .exact⟨Q _ _ (neN q y) (C q y).1,(C q y).2⟩
 .refine PySem.W.kat_list_sort (s:={ s with heap:=h.push { cls:=.type "list",data:=.seq T.toArray } }) B C S K P neN (by lia) I λe j W X=>?_;refine dg (h2 (by lia) _ e j (t _ rfl) neN W X) (λV u hu=>?_) λ_ _ x=>x;exact y6 (λp v M=>M.mono λv M=>⟨_,rfl,aq ⟨_,rfl,M⟩⟩) _ _ hu
end
noncomputable def Ts:P->P->Option Bool
 | .tup [.str a,.int i],.tup [.str b,.int j]=>Y (if a=b then decide (i < j) else decide (a.cps.toList < b.cps.toList))
 |_,_=>Vk
noncomputable def KA:P->Bool
 | .tup [.str _,.int _]=>Vl
 |_=>Vm
theorem Kz(h:KA r=Vl):∃a i,r=.tup [.str a,.int i]:=by
 unfold KA at h;split at h
 .exact⟨_,_,rfl⟩
 .cases h
def oO(d:List P)(i j:Nat):Option Bool:=match d[i]?,d[j]? with
 |some x,Y y=>Ts x y
 |_,_=>Vk
def pY(d:List P):Option (List P):=if d.length < 2 then Y d else if d.length < 64 then (KO (oO d) (kas_sort d.length)).bind λp=>if p.size < 64 then Y (p.toList.map λi=>d.getD i .non) else Vk else Vk
def sortable(d:List P):Bool:=d.all KA
def mq(d:List P):Option P:=if sortable d=Vl then (pY d).map .lst else Vk
def KV(h:Heap)(d:P)(v:Value):Prop:=∃x i a o n t u,d=.tup [.str x,.int i]/\v=.ref a/\h.get? a=Y o/\o.cls=.type "tuple"/\o.data=.seq #[.str x t,.int i u] n
variable{l:Type}{q:Type}
theorem la:∀{s:List l}{a:List q}{i:Nat}{x:l},Paired R s a->s[i]? = Y x->∃y,a[i]? = Y y/\R x y
 |_,_,_,_,.nil,h=>by simp at h
 |_,_,0,x,.cons (b:=b) r _,h=>⟨b,rfl,by simp at h;subst h;exact r⟩
 |_,_,i+1,x,.cons _ n,h=>by obtain⟨y,e,r⟩:=la (i:=i) n (by simpa using h);exact⟨y,by simpa using e,r⟩
theorem jq{l q:Type}{R:l->q->Prop}:∀{x:List l}{y:List q},Paired R x y->x.length=y.length
 |_,_,.nil=>rfl
 |_,_,.cons _ r=>by rw[aS,aS,jq r]
section
variable{d:Program}{w:World}{A:Around}{E:VP}{s:Shared}
theorem K7{n:List P}{T:LV}{i j:Nat}{b:Bool}{C:Bool->Shared->Prop}(r:Paired (KV s.heap) n T)(h:oO n i j=Y b)(c:C b s):kas_ask d w A (tuples' Vl) T i j C s:=by
 unfold oO at h;split at h
 .rename_i x y t p;obtain⟨_,u,z,q,H,E,B,I,M,rfl,rfl,g,F,k⟩:=la r t;obtain⟨_,v,o,l,S,G,D,L,N,rfl,rfl,m,K,f⟩:=la r p;cases h;unfold kas_ask;rw[a8,a8,u,v];refine kat_lt g k m f (kat_cons (Cr ?_));by_cases e:z=o
  .rw [ac e]at c;rw[eF e];refine kat_yes (kat_cons (Cq ?_));by_cases a:(q == l)=Vl
   .rw [a];rw[bA (by rw[eq_of_beq a];exact A5 _)]at c;exact kat_yes (kat_nil c)
   .rw [Bool.not_eq_true]at a;rw[a];exact kat_no (kat_one _ _ (Br (show PySem.W.BoolBack C (.bool _) s from c)))
  .rw [ae e]at c;rw[bA e];exact kat_no (oneLt_str c)
 .cases h
theorem yo:∀{s:List P}{T:LV},Paired (KV L) s T->∃fs,KatTups L T fs/\fs.length=s.length/\∀v ∈ fs,∃x t,v=Value.str x t
 |_,_,.nil=>⟨[],.nil,rfl,λ_ z=>nomatch z⟩
 |d::s,_,.cons k r=>by
  obtain⟨fs,f,h,e⟩:=yo r;obtain⟨x,i,a,o,n,t,u,rfl,rfl,b,c,hd⟩:=k;refine⟨.str x t::fs,.cons (xs:=#[.str x t,.int i u]) b c hd rfl f,by rw[aS,aS,h],λv m=>?_⟩;rcases bc.mp m with rfl|m
  .exact⟨x,t,rfl⟩
  .exact e v m
theorem Ku{x:List P}{T:LV}(r:Paired (KV s.heap) x T)(p:2≤T.length) :
  wpAny (model d w) A (keyKind' T.toArray) (λm h=>h=s/\∀i j b C,oO x i j=Y b->C b h->kas_ask d w A m T i j C h) (λ_ _=>False) s:=by
 obtain⟨fs,f,a,n⟩:=yo r;refine kat_kind (T:=.type "str") f (by rw[a,jq r];lia) (λv k=>?_) rfl ⟨rfl,λi j b C e c=>K7 r e c⟩;obtain⟨i,t,rfl⟩:=n v k;exact PySem.W.Looks.of_peek (K:=[]) (λ_ _ z=>nomatch z) rfl
end
section
variable{X:Cx}
theorem Hb{B:PN}{J:L2.St}{H:Hp}{s:Shared}(I:Inv X B J H s){F:Aa}:∀{e:List P}{f:List V}{k:LV},cN X.K F H e f->bo f k->sortable e=Vl->Paired (KV s.heap) e k
 | [],_,_,h,r,_=>by cases (show _=([]:List V) from h);cases r;exact .nil
 |d::e,_,_,h,r,q=>by
  obtain⟨x,C,rfl,w,g⟩:=h;obtain⟨l,z⟩:=Bool.and_eq_true_iff.mp (show(KA d && sortable e)=Vl from q);cases r with
  |cons S K=>refine .cons ?_ (Hb I g K z);obtain⟨y,i,rfl⟩:=Kz l;obtain⟨a,D,rfl,ta,_,_,rfl,b,_,_,rfl,c,m⟩:=w;cases S;cases b;cases c;cases m;obtain⟨j,A,⟨o,v,p,n,hd⟩,_⟩:=I.tuple ta.sq;obtain⟨_,_,rfl,⟨t,rfl⟩,u,rfl⟩:=vals2 A;exact⟨y,i,a,o,n,t,u,rfl,rfl,v,p,hd⟩
theorem O8(r:bo u v)(i:Nat):RelV (u.getD i .non) (v.getD i Value.none):=by
 rw[a8,a8];cases e:u[i]? with
 |none=>
  have l:=jq r;have:v[i]? = Vk:=by rw[B']at e ⊢;lia
  rw[this];rfl
 |some x=>obtain⟨y,h,a⟩:=la r e;rw[h];exact a
theorem CK{x:List V}{t:LV}(r:bo x t):∀p:List Nat,bo (p.map λi=>x.getD i .non) (p.map λi=>t.getD i Value.none)
 | []=>.nil
 |i::p=>.cons (O8 r i) (CK r p)
theorem Gb{K:FG}{F:Aa}{H:Hp}{s:List P}{h:List V}(r:cN K F H s h):∀p:List Nat,cN K F H (p.map λi=>s.getD i .non) (p.map λi=>h.getD i .non)
 | []=>rfl
 |i::p=>by
  refine⟨_,_,rfl,?_,Gb r p⟩;show RP K F H (s.getD i P.non) (h.getD i V.non);rw[a8,a8];cases e:s[i]? with
  |none=>
   have l:=r.length;have:h[i]? = Vk:=by rw[B']at e ⊢;lia
   rw[this];rfl
  |some d=>obtain⟨x,a,n⟩:=r.get e;rw[a];exact n
theorem uS{B:PN}{J:L2.St}{H:Hp}{s:Shared}{r:Heap}{A:Nat}{m:SV}(I:Inv X B J H s)(y:s.heap.Ns X.e.locals m)(a:r.Ns X.e.locals m)(k:∀b o,b≠X.e.locals->s.heap.get? b=Y o->r.get? b=Y o):Inv X B J H { s with heap:=r,toks:=A }:=by
 have L:∀b u,H b=Y u->b≠X.e.locals:=λb u e z=>by rw[z,I.free]at e;cases e
 refine I.step (g':=s.gens) (d':=s.drawn) (ch:=[]) (λ_ z=>nomatch z) (λb o h _ _ e _=>k b o h e) (λb o h _ _ e _=>⟨o.slots,k b o h e⟩) (λ_ _ _ _ n=>n) (λb o _ e=>?_) (λ_ _ e=>e) (λ_ _ _ e=>e) (λ_ e=>e) (λK l=>?_) (λb u e=>?_) I.bare
 .by_cases h:b=X.e.locals
  .subst h;obtain⟨P,_,_,w,_⟩:=a;exact⟨P,w⟩
  .exact⟨o,k b o h e⟩
 .obtain⟨o,es,C,S,hd,D,t⟩:=y;obtain⟨E,i,g,f,d,F,p⟩:=l;rw[S]at f;cases f;rw[hd]at d;cases d;have:m=K:=funext λx=>(t x).symm.trans (p x);rw[<- this];exact a
 .refine (I.h b u e).stay (λc v j q=>k c v ?_ q) (λ_ q=>q) λ_ _ q=>q;rcases j with z|z
  .rw [z];exact L b u e
  .exact L c _ z
theorem oP{g h x:Heap}{L:Addr}{m:SV}(k:∀b o,g.get? b=Y o->h.get? b=Y o)(F:Fr g L x m)(N:News g L x (o8 g h L)):∀b o,b≠L->h.get? b=Y o->x.get? b=Y o:=λb o a e=>by
 cases q:g.get? b with
 |some u=>have:=k b u q;rw[e]at this;cases this;exact F.keep b _ q
 |none=>exact(N (b,o) (ym a q e)).1
theorem Np{P:Program}{w:World}{H:Hp}{h:Heap}{a:Addr}{o:HO}(x:dj P w H h a o):∃u,h.get? a=Y u:=by
 cases o with
 |lst s=>obtain⟨_,_,_,_,e⟩:=x;exact⟨_,e⟩
 |tup s=>obtain⟨_,_,_,_,e,_⟩:=x;exact⟨_,e⟩
 |dK k=>obtain⟨_,_,_,_,_,_,_,e,_⟩:=x;exact⟨_,e⟩
 |dT k=>obtain⟨_,_,_,_,_,_,_,e,_⟩:=x;exact⟨_,e⟩
 |dN k=>obtain⟨_,_,_,_,_,_,_,e,_⟩:=x;exact⟨_,e⟩
 |set S n=>obtain⟨_,_,_,_,e,_⟩:=x;exact⟨_,e⟩
 |ins C d fs=>obtain⟨_,_,_,e,_⟩:=x;exact⟨_,e⟩
 |own y=>exact x
 |xd fs=>obtain⟨_,⟨_,_,_,e,_⟩,_⟩:=x;exact⟨_,e⟩
 |rng lo i=>obtain⟨_,_,_,e⟩:=x;exact⟨_,e⟩
 |frz b u=>exact⟨_,x.1⟩
 |tbl=>obtain⟨_,e,_⟩:=(show tJ H h a from x);exact⟨_,e⟩
 |met f y=>exact⟨_,(show h.get? a=Y _ from x)⟩
 |ext c=>exact x.2.1
theorem AD{B:PN}{J:L2.St}{H:Hp}{s:Shared}{D:Addr}(I:Inv X B J H s)(h:s.heap.get? D=Vk):H D=Vk:=by
 cases q:H D with
 |none=>rfl
 |some v=>obtain⟨u,e⟩:=Np (I.h D v q);rw[h]at e;cases e
theorem uR{B:PN}{J:L2.St}{H:Hp}{s:Shared}{t:Heap}{S:Nat}{m:SV}{D:Addr}{u:HO}(I:Inv X B J H s)(y:s.heap.Ns X.e.locals m)(h:t.Ns X.e.locals m)(k:∀b o,b≠X.e.locals->s.heap.get? b=Y o->t.get? b=Y o)(j:s.heap.get? D=Vk)(i:dj X.p X.w (cG H D u) t D u):Inv X B J (cG H D u) { s with heap:=t,toks:=S }:=by
 have f:=AD I j;have M:∀b o,s.heap.get? b=Y o->b≠D:=λb o e z=>by rw[z,j]at e;cases e
 have r:∀b v,H b=Y v->b≠D:=λb v e z=>by rw[z,f]at e;cases e
 have F:=uS (A:=S) I y h k;refine I.step (g':=s.gens) (d':=s.drawn) (ch:=[]) (λ_ z=>nomatch z) (λb o L _ _ e _=>k b o L e) (λb o L _ _ e _=>⟨o.slots,k b o L e⟩) (λb o _ e n=>(aJ (M b o e)).trans n) (λb o _ e=>?_) (λb Q e=>(aJ (r b _ e)).trans e) (λb o v e=>(aJ (r b _ e)).trans e) (λb e=>(aJ (r b _ e)).trans e) (λG A=>?_) (λb v e=>?_) I.bare
 .by_cases L:b=X.e.locals
  .subst L;obtain⟨N,_,_,g,_⟩:=h;exact⟨N,g⟩
  .exact⟨o,k b o L e⟩
 .obtain⟨o,es,R,C,hd,T,p⟩:=y;obtain⟨V,P,K,a,d,E,w⟩:=A;rw[C]at a;cases a;rw[hd]at d;cases d;have:m=G:=funext λx=>(p x).symm.trans (w x);rw[<- this];exact h
 .by_cases l:b=D
  .subst l;rw[aV]at e;cases e;exact i
  .rw [aJ l]at e;exact(F.h b v e).stay (λ_ _ _ q=>q) (λc q=>(aJ (r c _ q)).trans q) λc Q q=>(aJ (r c _ q)).trans q
theorem xo:fZ X (.builtin "sorted") (λxs H Q=>∃F a P S b,xs=[.ref a]/\(lB X.K H a P\/nu X.K H a P)/\cN X.K F H S P/\sortable S=Vl/\pY S=Y b/\∀l z,H l=Vk->cN X.K F H b z->Q (.ref l) (cG H l (.lst z))):=by
 intro B s J H xs us Q I r h;obtain⟨F,a,P,S,b,rfl,G,L,hs,k,q⟩:=h;obtain⟨u,rfl,rx⟩:=vals1 r;cases rx;obtain⟨m,R⟩:=I.fr;have w:∀(T:String)(hT:T="list"\/T="tuple")(t:LV)(o:Obj)(n:Nat),bo P t->s.heap.get? a=Y o->o.cls=.type T->o.data=.seq t.toArray n->wx X (call (.builtin "sorted") [.ref a]) (EP X B J Q) X.xe s:=by
  intro T hT t o n M E C hd;have hl1:=L.length;have hl2:=jq M;have y:S.length < 64:=by
   unfold pY at k;split at k
   .lia
   .split at k
    .lia
    .cases k
  have A:∀(z:List V)(j:LV)(D:Addr)(f:Heap)(c:Nat),bo z j->cN X.K F H b z->j.length≤64->s.heap.get? D=Vk->Fr X.b X.e.locals f m->News X.b X.e.locals f ((D,seqObj "list" j.toArray c)::o8 X.b s.heap X.e.locals)->EP X B J Q (.ref D) { s with heap:=f }:=
   λz j D f c vz rz hz K d N=>⟨.ref D,_,uR (S:=s.toks) I R.ns d.ns (oP I.bk d λp hp=>N p (.tail _ hp)) K (show dj X.p X.w _ f _ (.lst z) from ⟨by rw[jq vz,kO];lia,j,c,vz,(N _ (.head _)).1⟩),rfl,q _ z (AD I K) rz⟩
  refine JD R (yh (g:=X.b)) hT E C hd (by lia) (λfew D f c K d N=>?_) λtwo D e f K ne d N=>?_
  .unfold pY at k;rw[ac (by lia)]at k;cases k;exact A P t D f c M L (by lia) K d N
  .unfold pY at k;rw[ae (by lia),ac y]at k;obtain⟨p,ep,k⟩:=qO.mp k;split at k;case isFalse=>cases k
   rename_i ps;cases k;have I1:Inv X B J H { s with heap:=f }:=uS (A:=s.toks) I R.ns d.ns (oP I.bk d λp hp=>N p (.tail _ hp));have Z:KO (oO S) (kas_sort t.length)=Y p:=by rw[<- hl2,<- hl1];exact ep
   refine dg (Ku (s:={ s with heap:=f }) (Hb I1 L M hs) two) (λκ v hv=>?_) λ_ _ x=>x;obtain⟨rfl,W⟩:=hv;exact HE (a:=p) (Q:=λp u=>Fa X.b X.e.locals m D e (p.toList.map λi=>t.getD i Value.none) (λu=>EP X B J Q (.ref D) u) u) W (PySem.W.KasFin.intro d N (.head ne) λh2 c F2 N2=>A _ _ D h2 c (CK M p.toList) (Gb L p.toList) (by rw[aH,k8];lia) K F2 N2) _ Z
 rcases G with G|G
 .obtain⟨t,r',pl,hz⟩:=I.list G;obtain⟨o,E,C,n,hd⟩:=pl.isList;exact w "list" (.inl rfl) t o n r' E C hd
 .obtain⟨t,r',⟨o,E,C,n,hd⟩,hz⟩:=I.tuple G;exact w "tuple" (.inr rfl) t o n r' E C hd
noncomputable def Lh:List D->Option (List P)
 | []=>Y []
 | .p v::r=>(Lh r).map (v::·)
 | .ref _::_=>Vk
theorem FI:∀{d:List D}{T:List P},Lh d=Y T->d=T.map .p
 | [],T,h=>by cases h;rfl
 | .p v::r,T,h=>by
  cases e:Lh r with
  |none=>simp only[Lh,e]at h;cases h
  |some w=>simp only[Lh,e]at h;cases h;rw[FI e];rfl
 | .ref _::_,T,h=>by cases h
theorem Ln:∀{T:List P}{s:List V},dR K F H m (T.map .p) s->cN K F H T s
 | [],_,h=>h
 |_::_,_,h=>by obtain⟨x,r,e,a,n⟩:=h;exact⟨x,r,e,a,Ln n⟩
noncomputable def JG:P->Option (List P)
 | .lst x=>Y x
 | .ro x=>Y x
 | .tup x=>Y x
 |_=>Vk
def FY:D->aM->Option (List P)
 | .p v,_=>JG v
 | .ref i,S=>match S[i]? with
  |some (.lst d)=>Lh d
  |some (.fz v)=>JG v
  |_=>Vk
@[simp] def uv(r:EE)(L:Lc)(S:aM):tyV:=cg (r L S) λd h=>match FY d h with
 |some x=>(mq x).map λv=>(v,h)
 |none=>Vk
theorem CW(p:RP K F H w v)(h:JG w=Y u):∃a y,v=.ref a/\(lB K H a y\/nu K H a y)/\cN K F H u y:=by
 cases w with
 |tup d=>obtain⟨a,y,rfl,ta,r⟩:=p;cases h;exact⟨a,y,rfl,.inr ta.sq,r⟩
 |lst d=>obtain⟨a,y,rfl,ta,r⟩:=p;cases h;exact⟨a,y,rfl,.inl ta.sq,r⟩
 |ro d=>obtain⟨a,y,rfl,ta,r⟩:=p;cases h;exact⟨a,y,rfl,.inl ta.sq,r⟩
 |_=>cases h
theorem JH(r:Rel K F H m S)(p:RD K F H m u v)(h:FY u S=Y L):∃a y,v=.ref a/\(lB K H a y\/nu K H a y)/\cN K F H L y:=by
 cases u with
 |p w=>exact CW p h
 |ref i=>
  obtain⟨a,rfl,x⟩:=p;simp only[FY]at h;split at h
  .rename_i d es;obtain⟨y,e,s⟩:=r.obj i a _ x es;rw[FI h]at s;exact⟨a,y,rfl,.inl (lB.of e),Ln s⟩
  .rename_i w es;exact CW (r.obj i a _ x es) h
  .cases h
theorem Fw(j:Gl X "sorted")(y:X.g "sorted"=Vk)(i:PE X e (tE X.K k))(n:starEach [e] X.e=[(Vm,eval e X.e)]:=by rfl):PE X (.Call (.Name "sorted" p) [e] [] N) (tV X.K (uv k)):=
 (oF xo j y Bt (fK i ie (by rw[n];rfl)) (by decide) (by decide) (by rw[n];rfl) rfl).imp' λJ H Q s=>by
  obtain⟨F,m,L,S,d,I,r,l,q,h⟩:=s;obtain⟨x,t,w,q⟩:=ak q;refine⟨F,m,L,S,x,t,r,l,w,λv c P G D f A=>?_⟩;split at q
  .rename_i b g;unfold mq at q;split at q
   .rename_i n;cases o:pY b with
    |none=>rw[o]at q;cases q
    |some u=>rw[o]at q;cases q;obtain⟨a,E,rfl,K,B⟩:=JH f A g;exact⟨c,a,E,b,u,rfl,K,B,n,o,λz M s C=>h _ _ P _ (D.trans (cn s).stp) (f.grow (cn s)) (.newLst s C)⟩
   .cases q
  .cases q
end
section
variable{X:Cx}{N:Pos}
theorem tG:fZ X (.type "range") (λx H Q=>∃j:Int,x=[.int j]/\∀r,H r=Vk->Q (.ref r) (cG H r (.rng 0 j))):=by intro B s J H x n Q I r h;obtain⟨j,rfl,q⟩:=h;obtain⟨u,rfl,a⟩:=vals1 r;obtain⟨t,rfl⟩:=a;refine call_range_1 ?_;exact⟨.ref s.heap.objs.size,_,I.laid (o:=.rng 0 j) (λb o e=>aW _ e) (az _) ⟨_,_,_,bJ _ rfl⟩,rfl,q _ (I.h.fresh (az _))⟩
theorem pF:∀{s:List l}{e:List q},s.length=e.length->(∀(i:Nat) x y,s[i]? = Y x->e[i]? = Y y->R x y)->Paired R s e
 | [],[],_,_=>.nil
 | [],_::_,h,_=>by simp at h
 |_::_,[],h,_=>by simp at h
 |x::s,y::e,h,k=>.cons (k 0 x y rfl rfl) (pF (by simpa using h) λi a b n f=>k (i+1) a b (by simpa using n) (by simpa using f))
theorem Ax(h:ItemsOf (λi v=>∃t,v=Value.int (0+i * 1) t) r n):bo ((List.range n).map λ(i:Nat)=>V.int (i:Int)) r.toList:=by
 obtain⟨z,f⟩:=h;refine pF (by simp[z]) λi x y a b=>?_;rw[bq]at a;cases e:(List.range n)[i]? with
 |none=>rw[e]at a;cases a
 |some k=>
  rw[e]at a;cases a;have hk:k=i:=by have:=aX.mp e;obtain⟨c,s⟩:=this;simpa using s.symm
  subst hk;obtain⟨t,rfl⟩:=f k y (by simpa using b);exact⟨t,by simp⟩
theorem y4(a:X.c=Vl):fZ X (.type "list") (λk H Q=>∃r j,k=[.ref r]/\H r=Y (.rng 0 j)/\j.natAbs < 1000000/\∀l,H l=Vk->Q (.ref l) (cG H l (.lst ((List.range j.toNat).map λ(i:Nat)=>V.int (i:Int))))):=by
 intro B s J H k y Q I r h;obtain⟨p,j,rfl,m,g,q⟩:=h;obtain⟨u,rfl,d⟩:=vals1 r;cases d;obtain⟨t,u,v,o⟩:=I.h p _ m;refine call_list_range (n:=j.toNat) (I.o.hd a) o (wn (by lia) (by lia) (by lia) (by lia)) (by rw[Cj];split<;>lia) (by lia) λf w x c hk e b=>?_
 exact⟨.ref s.heap.objs.size,_,I.laid (t':=w) hk (az _) (show dj X.p X.w _ f _ (.lst _) from ⟨by rw[aH,vU];exact bf (by lia:j.toNat≤1000000) (by decide),x.toList,c,Ax b,by simpa using e⟩),rfl,q _ (I.h.fresh (az _))⟩
@[simp] def Rk(a:EV)(L:Lc)(S:aM):tyV:=cg (a L S) λv h=>match v with
 | .int j=>if decide (j.natAbs < 1000000)=Vl then Y (.lst (intsFrom 0 j.toNat),h) else Vk
 |_=>Vk
theorem x6:∀s:List Nat,cN K F H (s.map λ(i:Nat)=>P.int (0+(i:Int))) (s.map λ(i:Nat)=>V.int (i:Int))
 | []=>rfl
 |i::s=>⟨_,_,rfl,by show V.int _=V.int _;rw[dD],x6 s⟩
theorem Jj{a:Expr}{t:EV}{p G y o:Pos}(h:X.c=Vl)(B:Gl X "list")(D:X.g "list"=Vk)(g:Gl X "range")(s:X.g "range"=Vk)(P:PE X a (tV X.K t))(w:starEach [a] X.e=[(Vm,eval a X.e)])
  : PE X (.Call (.Name "list" p) [.Call (.Name "range" G) [a] [] o] [] y) (tV X.K (Rk t)):=
 (kn (y4 h) B D vr (fK (kn tG g s vp (fK P ie (by rw[w];rfl)) (by decide) (by decide) (by rw[w];rfl) rfl) ie rfl) (by decide) (by decide) rfl rfl).imp' λJ H Q e=>by
  obtain⟨F,m,L,S,d,N,r,l,q,k⟩:=e;obtain⟨x,i,K,q⟩:=ak q;refine⟨F,m,L,S,x,i,r,l,K,λv f E b M I p=>?_⟩;cases x with
  |int j=>
   dsimp only at q;split at q
   .rename_i A;have C:j.natAbs < 1000000:=aR A;cases q;cases (show v=.int j from p);refine⟨j,rfl,λu n=>⟨u,j,rfl,aV,C,λz e=>?_⟩⟩;have c:Grow f b f (cG b u (.rng 0 j)):=cK n;exact k _ _ E _ (M.trans (c.stp.trans (cn e).stp)) ((I.grow c).grow (cn e)) (.newLst e (x6 _))
   .cases q
  |_=>cases q
end
section
variable{X:Cx}{N:Pos}
theorem DZ{d:Program}{w:World}{A:Around}{E:VP}{s:Shared}{t l:Addr}{i:Array Value}{v u:Value}{lo x:Option Int}{Q:VP}(h:IsTup s.heap t i)(a:s.heap.IsSliceOf l v u .none)(p:IsPart v lo)(b:IsPart u x)
  (k:HT.gw i.size 0 lo=0) (f:HT.gw i.size i.size x=i.size) (q:Q (.ref t) s):wpAny (model d w) A (getItem (.ref t) (.ref l)) Q E s:=by
 have T:s.TypeIs (.ref l) "slice":=by obtain⟨o,e,n,_⟩:=a;exact⟨o,e,n⟩
 unfold getItem;try with_reducible refine gR ?_
 first|refine af (aq ?_)|skip
 refine af (ET h.typeIs (by decide) ?_);refine af (pf (name:=Str.ofString "__getitem__") h.typeIs jI (pc jI h.typeIs Bq ?_ (Bp _ _)));show wpAny _ _ (E8 (.ref t) >>= _) _ _ s;refine af (Bk h (af (rS T ?_)));rw[ac (by decide)];refine af (HT.km a p b ?_);rw[k,f];have y:((((0:Nat):Int) == 0 && (1:Int) == 1 && (i.size-0) == i.size)=Vl):=by simp
 show wpAny _ _ (if ((((0:Nat):Int) == 0 && (1:Int) == 1 && (i.size-0) == i.size)=Vl) then _ else _) _ _ s;rw[ac y];refine af (af (rS h.typeIs ?_));refine aq ?_;rw[ac (by rfl)];first
  |exact af (aq (aq ⟨_,rfl,aq q⟩))
  |exact af (u_ (aq ⟨_,rfl,aq q⟩))
  |exact aq ⟨_,rfl,aq q⟩
theorem FU:LR X (λx lo n H Q=>∃a e,x=.ref a/\nu X.K H a e/\HT.gw e.length 0 lo=0/\HT.gw e.length e.length n=e.length/\Q (.ref a) H):=by
 intro B s J H x v w g lo n d Q I m b p u h;obtain⟨a,e,rfl,c,k,f,q⟩:=h;cases m;obtain⟨i,r,t,_⟩:=I.tuple c;have l:i.toArray.size=e.length:=by rw[bv];exact r.length.symm
 exact⟨"tuple",_,jI.lookup,t.typeIs,DZ t b p u (by rw[l];exact k) (by rw[l];exact f) ⟨.ref a,H,I,rfl,q⟩⟩
def NZ:P->Option Int->Option Int->Option P
 | .tup s,lo,h=>Y (.tup (cut s lo h))
 |x,lo,h=>Vg x lo h
@[simp] def tR(a:EV)(lo n:EO)(L:Lc)(S:aM):tyV:=cg (a L S) λx h=>cg (lo L h) λi e=>cg (n L e) λj s=>(NZ x i j).map λv=>(v,s)
theorem Sb{e:Expr}{lo P:Option Expr}{t:EV}{K o:EO}{N p2:Pos}(V:PE X e (tV X.K t))(Z:PO X lo (tO X.K K))(W:PO X P (tO X.K o)):PE X (.Subscript e (.Slice lo P Vk p2) N) (tV X.K (tR t K o)):=
 (Gw (JE.or (MD.or FU)) V Z W).imp' λJ H Q hz=>by
  obtain⟨F,m,L,S,d,S',r,l,q,k⟩:=hz;obtain⟨x,y,I,q⟩:=ak q;obtain⟨i,z,M,q⟩:=ak q;obtain⟨j,G,R,q⟩:=ak q;refine⟨F,m,L,S,x,y,r,l,I,λv B m1 H1 u r1 p1=>?_⟩;refine⟨B,m1,L,y,i,z,r1,l.mono u,M,λC m2 H2 g r2=>?_⟩;refine⟨C,m2,L,z,j,G,r2,(l.mono u).mono g,R,λD b E A c=>?_⟩;have px:=RP.mono A (RP.mono g p1);have w:=u.trans (g.trans A);cases x with
  |lst f=>cases q;obtain⟨a,s,rfl,ta,n⟩:=px;exact .inl ⟨a,s,rfl,ta.sq,λp h=>k _ _ b _ (w.trans (cn h).stp) (c.grow (cn h)) (.newLst h (n.cut i j))⟩
  |ro f=>cases q;obtain⟨a,s,rfl,ta,n⟩:=px;exact .inl ⟨a,s,rfl,ta.sq,λp h=>k _ _ b _ (w.trans (cn h).stp) (c.grow (cn h)) (.newLst h (n.cut i j))⟩
  |tup f=>
   obtain⟨a,s,rfl,ta,n⟩:=px;cases q;by_cases hw:HT.gw s.length 0 i=0/\HT.gw s.length s.length j=s.length
   .have T:cut f i j=f:=by
     unfold cut;rw[n.length,hw.1,hw.2,qT,BC,<- n.length,mN]
    rw[T]at k;exact .inr (.inr ⟨a,s,rfl,ta.sq,hw.1,hw.2,k _ D b E w c ⟨a,s,rfl,ta,n⟩⟩)
   .exact .inr (.inl ⟨a,s,rfl,ta.sq,hw,λp h=>k _ _ b _ (w.trans (cK h).stp) (c.grow (cK h)) (.newTup h (n.cut i j))⟩)
  |_=>cases q
abbrev da:List P->Option P:=mu
variable{e:Expr}{es:Ab}{fs:lC}{p:Pos}
theorem L0(g:Gl X "int")(m:X.g "int"=Vk)(a:PA X (e::es) (tT X.K fs))(x:starEach (e::es) X.e=(Vm,eval e X.e)::starEach es X.e)(h:(backTo N (starEach es X.e)).any (·.1)=Vm) :
  PE X (.Call (.Name "int" p) (e::es) [] N) (tV X.K (bj da fs)):=zI K1 g m Ja a (by decide) (by decide) x h
inductive PEs(X:Cx):Ab->List EV->Prop
 |nil:PEs X [] []
 |cons {e es f fs}:PE X e (tV X.K f)->PEs X es fs->PEs X (e::es) (f::fs)
@[simp] def FE(a b c:EV)(L:Lc)(S:aM):tyV:=cg (a L S) λd h=>cg (b L h) λy x=>cg (c L x) λz e=>match d with
 | .dct s T=>match dH y with
  |some k=>Y ((cT k s T).getD z,e)
  |none=>Vk
 |_=>Vk
theorem ur{K:FG}{F:Aa}{H:Hp}{k:ci}:∀{s:List (ci×V)}{d:List P},cN K F H d (s.map (·.2))->cT k (s.map (·.1)) d=Vk->iG s k=Vk
 | [],d,r,h=>rfl
 |(a,v)::s,[],r,h=>by have:=r.length;simp at this
 |(a,v)::s,b::d,r,h=>by
  obtain⟨x,m,e,p,n⟩:=r;rw[aC]at e;injection e with c f;simp only[aC,cT]at h;by_cases hk:a=k
  .rw [ac hk]at h;cases h
  .rw [ae hk]at h;rw[<- f]at n;rw[iF (p:=(a,v)) hk];exact ur n h
theorem L3{o a b:Expr}{I t C:EV}{D E:Pos}(hu:X.A.units+1 < cLine)(ho:PE X o (tV X.K I))(ha:PE X a (tV X.K t))(hb:PE X b (tV X.K C))(m:M2 X o "get" D a b E):PE X (.Call (.Attribute o "get" D) [a,b] [] E) (tV X.K (FE I t C)):=
 (GC hu ho ha hb m).imp' λJ H Q hz=>by
  obtain⟨F,m,L,S,d,S',r,l,q,k⟩:=hz;obtain⟨x,A,Z,q⟩:=ak q;obtain⟨y,B,e2,q⟩:=ak q;obtain⟨z,V,e3,q⟩:=ak q;refine⟨F,m,L,S,x,A,r,l,Z,λv R m1 H1 K r1 p1=>?_⟩;cases x with
  |dct ks W=>
   obtain⟨a,s,rfl,i,hk,ek,ra⟩:=id p1;refine⟨a,rfl,.inl ⟨s,.inl hk⟩,?_⟩;refine⟨R,m1,L,A,y,B,r1,l.mono K,e2,λvy T m2 H2 f r2 p2=>?_⟩;refine⟨T,m2,L,B,z,V,r2,(l.mono K).mono f,e3,λvz P G p c M p3=>?_⟩;have h:p a=Y (.dK s):=(f.trans c).frk _ _ i hk;have e:=cN.mono c (cN.mono f ra);have py:=RP.mono c p2;dsimp only at q;split at q
   .rename_i j u;cases q;have g:=ju u py;subst g ek;have N:=K.trans (f.trans c);cases n:cT j (s.map (·.1)) W with
    |none=>have hm:=ur e n;refine⟨Vk,by rw[<- hm];exact lD.k h,?_⟩;rw[n]at k;exact k vz P G p N M p3
    |some w=>obtain⟨v,h1,h2⟩:=pA e n;refine⟨Y v,by rw[<- h1];exact lD.k h,?_⟩;rw[n]at k;exact k v P G p N M h2
   .cases q
  |_=>cases q
end
end Ev
namespace Ev
open PySem PySem.Spec PyProof.Rows L2
theorem yG(f:Nat->β->Sem (ForInStep β))(I:Nat->β->Shared->Prop)(Q:β->Shared->Prop)(k:Nat)
  (turn:∀i b s,i < k->I i b s->wpAny M A (f i b) (λr s'=>match r with | .yield b'=>I (i+1) b' s' | .done b'=>Q b' s') E s)
  (fin:∀b s,I k b s->Q b s) (b:β) (h:I 0 b s):wpAny M A (forIn [0:k] b f) Q E s:=by
 rw[Std.Legacy.Range.forIn_eq_forIn_range'];refine Ct f (λrest b s=>∃i,rest=BN i (k-i)/\i≤k/\I i b s) Q (λx rest b s ⟨i,e,hi,hI⟩=>?_) (λb s ⟨i,e,hi,hI⟩=>?_) _ b ⟨0,by simp[Std.Legacy.Range.size],cO _,h⟩
 .obtain⟨m,hm⟩:∃m,k-i=m+1:=by
   cases q:k-i with
   |zero=>rw[q]at e;simp at e
   |succ m=>exact⟨m,rfl⟩
  rw[hm,vT]at e;injection e with e1 e2;subst e1;refine dg (turn x b s (by lia) hI) (λr s' hr=>?_) λ_ _ z=>z;cases r with
  |done b'=>exact hr
  |yield b'=>exact⟨x+1,by rw[e2];congr 1;lia,by lia,hr⟩
 .have:k-i=0:=by
   cases q:k-i with
   |zero=>rfl
   |succ m=>rw[q,vT]at e;cases e
  have:i=k:=by lia
  subst this;exact fin b s hI
section
open PySem.SeqAt PySem.MeetsSeq
open PySem.AutoSeq1 (wpAny_loadPart')
theorem D0(l:Addr)(items:Array Value)(n:Nat)(dd:Option Addr)(sl:Array (OV))(x:Value)(e:Value->Bool)(j:Nat)(hj:j < items.size)
  (hit:e items[j]=Vl) (hno:∀m (hm:m < items.size),m < j->e items[m]=Vm) :
  Meets (Builtin.«tuple.index» ⟨[.ref l,x],[]⟩)
   (λA R s=>s.heap.get? l=Y { cls:=.type "tuple",dict:=dd,data:=.seq items n,slots:=sl }/\(∀y,y ∈ items->EqAt A.in1 s y x (e y))/\R (.ok (.ret (.int j s.toks))) { s with toks:=s.toks+1 }):=
 .of_wp λprog w A R s h=>by
  obtain⟨hp,g,d,tk,os⟩:=s;obtain⟨hl,he,h⟩:=h
  wp_walk using wpAny_loadPart' hl,yG _ (λi b s'=>i≤j/\b.1=Vk/\s'=⟨hp,g,d,tk,os⟩) _
  case turn=>
   rintro i b s' hi ⟨hij,hb,rfl⟩;have hi':i < items.size:=by lia
   rw[Cf hi'];refine af (he _ (Array.getElem_mem hi') prog w _ _ ?_);by_cases hc:i=j
   .subst hc;rw[hit]
    wp_walk
    exact⟨_,rfl,h⟩
   .rw [hno i hi' (by lia)]
    wp_walk
    exact⟨by lia,rfl,rfl⟩
  case fin=>rintro b s' ⟨hij,_,_⟩;exact absurd hij (by lia)
  case h=>exact⟨cO _,rfl,rfl⟩
end
def jx(ps:List P)(y:P):Option Nat:=if (ps.all (d9 19) && d9 19 y)=Vl then (jG ps).findIdx? λz=>de z (pd y) else Vk
@[simp] def wq(fa fb:EV)(L:Lc)(S:aM):tyV:=cg (fa L S) λv x=>match v with
 | .lst ps=>cg (fb L x) λy h=>(jx ps y).map λ(i:Nat)=>(.int (i:Int),h)
 | .tup ps=>cg (fb L x) λy h=>(jx ps y).map λ(i:Nat)=>(.int (i:Int),h)
 |_=>Vk
section
variable{X:Cx}{pins:PN}{J:L2.St}{H:Hp}{s:Shared}{F:Aa}{ps:List P}{y:P}{vy:V}{u:Value}{i:Nat}{Q:VK}{a:Addr}
theorem wK:∀qs:List P,(jG qs).length=qs.length
 | []=>rfl
 |q::qs=>by simp[jG,wK qs]
theorem Hm(j:X.A.units+64 < cLine)(I:Inv X pins J H s)(py:RP X.K F H y vy)(w:RelV vy u)(e:jx ps y=Y i){v:Array Value}{f:List Addr}(k:ReadsAll s.heap v.toList (jG ps) f) :
  ∃t:i < v.size,de (nZ s.heap v[i]) (pd y)=Vl/\(∀m (x:m < v.size),m < i->de (nZ s.heap v[m]) (pd y)=Vm)/\v.size=ps.length /\
   ∀z,z ∈ v->SeqAt.EqAt X.A.in1 s z u (de (nZ s.heap z) (pd y)):=by
 unfold jx at e;split at e;case isFalse=>cases e
 rename_i c;rw[ar]at c;obtain⟨g,d⟩:=jo I 19 py w c.2;have l:=GQ c.1;have q:=fM 19 _ c.2;obtain⟨t,b,r⟩:=oq.mp e;have n:=SeqAt.readsAll_map _ _ _ l.1 k;have h:v.size=(jG ps).length:=by rw[<- n];simp
 have a:∀(m:Nat)(x:m < v.size),nZ s.heap v[m]=(jG ps)[m]'(h ▸ x):=λm x=>by
  have:(v.toList.map (nZ s.heap))[m]? = (jG ps)[m]?:=by rw[n]
  rw[bq,Array.getElem?_toList,Cf x,aY (h ▸ x)]at this;simpa using this
 refine⟨by lia,?_,λm x p=>?_,by rw[h,wK],SeqAt.items_eqAt k d l.1 q.1 (by lia)⟩
 .rw [a];exact b
 .rw [a];simpa using r m p
theorem Hl(e:jx ps y=Y i):ps.all (d9 19)=Vl:=by
 unfold jx at e;split at e
 .rename_i h;rw[ar]at h;exact h.1
 .cases e
theorem AU(K:X.A.units+64 < cLine)(I:Inv X pins J H s)(px:RP X.K F H (.lst ps) (.ref a))(py:RP X.K F H y vy)(D:RelV vy u)(e:jx ps y=Y i)(q:Q (.int i) H) :
  wx X (call (.builtin "list.index") [.ref a,u]) (EP X pins J Q) X.xe s:=by
 have j:=Hl e;obtain⟨L,b⟩:=jo I 20 px (show RelV (.ref a) (.ref a) from rfl) (by simpa[d9] using j);rw[pd]at b;cases b with
 | @list l o E n _ c x k f d=>
  obtain⟨g,t,p,R,v⟩:=Hm K I py D e d;obtain⟨W,A,B,h⟩:=o;dsimp only at k f;subst k f;have N:ps.length≤sizeLine:=by obtain⟨G,Z,m,S,C⟩:=px;cases m;obtain⟨z,P,V,r,M,_⟩:=I.lstM S.2;have T:=C.length;lia
  have w:sizeLine < 2 ^ 63:=by decide
  exact nv Bf ⟨_,x,rfl⟩ PySem.F.entry_list_index (PySem.F.args_list_index_2 _ _) (SeqAt.list_indexAt a E n A h u _ i g (by lia) t p) ⟨x,v,⟨.int i,H,I.tok _,⟨_,rfl⟩,q⟩⟩
theorem y3(hu:X.A.units+64 < cLine)(I:Inv X pins J H s)(px:RP X.K F H (.tup ps) (.ref a))(py:RP X.K F H y vy)(ru:RelV vy u)(e:jx ps y=Y i)(q:Q (.int i) H) :
  wx X (call (.builtin "tuple.index") [.ref a,u]) (EP X pins J Q) X.xe s:=by
 have ho:=Hl e;obtain⟨as,ra⟩:=jo I 20 px (show RelV (.ref a) (.ref a) from rfl) (by simpa[d9] using ho);rw[pd]at ra;cases ra with
 | @tuple l o vs n _ as' h1 h2 h3 h4=>obtain⟨hi,e1,e2,hz,eq⟩:=Hm hu I py ru e h4;obtain⟨oc,od,odt,osl⟩:=o;dsimp only at h2 h3;subst h2 h3;exact nv Bg ⟨_,h1,rfl⟩ PySem.F.entry_tuple_index (PySem.F.args_tuple_index_2 _ _) (D0 a vs n od osl u _ i hi e1 e2) ⟨h1,eq,⟨.int i,H,I.tok _,⟨_,rfl⟩,q⟩⟩
theorem L6(hu:X.A.units+64 < cLine)(ho:PE X o (tV X.K fo))(he:PE X e (tV X.K fe))(hs:starEach [e] X.e=[(Vm,eval e X.e)])
  (w:attributeBase o "index" X.e (eval o X.e)=eval o X.e) (j:(M.endLine == g.line)=Vl):PE X (.Call (.Attribute o "index" M) [e] [] g) (tV X.K (wq fo fe)):=by
 intro pins s J H Q I ⟨F,m,L,S,d,S',r,l,q,k⟩;obtain⟨x,W,e1,q⟩:=ak q;refine E7 w (by rw[hs];rfl) j rfl (dO (ho pins s J H (λv c=>∃f K,Stp F m H f K c/\Rel X.K f c K W/\RP X.K f c x v) I ⟨F,m,L,S,x,W,r,l,e1,λv f K c Z r1 B=>⟨f,K,Z,r1,B⟩⟩) λu Z hz=>?_);obtain⟨v,c,I1,ru,f,K,uC,r1,B⟩:=hz;have t:∀(id:String)(ps:List P),cg (fe L W) (λy S2=>(jx ps y).map λ(i:Nat)=>((.int (i:Int):P),S2))=Y (d,S') ->
   (∀(s:Shared)(h:Hp)(n:Aa)(y:P)(vy:V)(C:Value)(i:Nat),Inv X pins J h s->(∀p,RP X.K f c p v->RP X.K n h p v)->RP X.K n h y vy->RelV vy C->jx ps y=Y i->Q (.int i) h->wx X (call (.builtin id) [u,C]) (EP X pins J Q) X.xe s) ->
   wx X (callWith g (.builtin id) [u] (backTo g (starEach [e] X.e)) []) (EP X pins J Q) X.xe Z:=by
  intro id ps q hc;obtain⟨y,S2,e2,q⟩:=ak q;obtain⟨i,E,q⟩:=eE.mp q;cases q;rw[hs];refine nW rfl (nV (iy (dO (he pins Z J c (λvy h=>∃n A,Stp f K c n A h/\Rel X.K n h A S'/\RP X.K n h y vy) I1 ⟨f,K,L,W,y,S',r1,l.mono uC,e2,λv n A h s2 r2 G=>⟨n,A,s2,r2,G⟩⟩) λC s2 ⟨vy,h,D,ruy,n,A,T,r2,G⟩=>kR ?_)));exact hc s2 h n y vy C i D (λp R=>RP.mono T R) G ruy E (k _ n A h (uC.trans T) r2 rfl)
 cases x with
 |lst ps=>obtain⟨a,xs,rfl,hq,rp⟩:=id B;cases (show u=Value.ref a from ru);obtain⟨z,its,n',rr,hl,N⟩:=I1.lstM hq.2;exact⟨"list","list.index",vn,Bf,PySem.F.type_list_index,⟨_,N,rfl⟩,λb eb=>by cases eb;exact⟨_,N,rfl⟩,t _ ps q λs h n y vy C i D R py ry E q=>AU hu D (R _ B) py ry E q⟩
 |tup ps=>obtain⟨a,xs,rfl,hq,rp⟩:=id B;cases (show u=Value.ref a from ru);obtain⟨its,rr,o,N,⟨ec,n',ed⟩,en⟩:=I1.tupleN hq.sq;exact⟨"tuple","tuple.index",PySem.F.plainAttrs_tuple,Bg,PySem.F.type_tuple_index,⟨_,N,ec⟩,λb eb=>by cases eb;exact⟨_,N,en⟩,t _ ps q λs h n y vy C i D R py ry E q=>y3 hu D (R _ B) py ry E q⟩
 |_=>cases q
end
variable{L:Type}
noncomputable def cB[DecidableEq L](k:L):List L->List D->Option D
 |h::s,v::x=>if h=k then Y v else cB k s x
 |_,_=>Vk
noncomputable def ee[DecidableEq L](k:L)(v:D):List L->List D->List L×List D
 |h::s,w::x=>if h=k then (h::s,v::x) else (h::(ee k v s x).1,w::(ee k v s x).2)
 |_,_=>([k],[v])
def d7:List P->Option (List ci)
 | []=>Y []
 |p::r=>(dH p).bind λk=>(d7 r).map λs=>k::s
noncomputable def D_(d:D)(S:aM):Option (Nat×List (List ci)×List D):=match d with
 | .ref i=>match S[i]? with
  |some (.dtt k v)=>Y (i,k,v)
  |_=>Vk
 |_=>Vk
theorem Kb(h:D_ d S=Y (i,k,n)):d=.ref i/\S[i]? = Y (.dtt k n):=by
 unfold D_ at h;split at h
 .split at h
  .rename_i e;cases h;exact⟨rfl,e⟩
  .cases h
 .cases h
section
variable{K:FG}{F:Aa}{H:Hp}{m:List Addr}
theorem kt:∀{ps:List P}{s:List ci}{a:List V},d7 ps=Y s->cN K F H ps a->a=s.map kV
 | [],s,a,h,r=>by cases h;exact r
 |p::ps,s,a,h,r=>by
  obtain⟨x,m,rfl,b,c⟩:=r;unfold d7 at h;cases e:dH p with
  |none=>rw[e]at h;cases h
  |some k=>
   rw[e]at h;cases n:d7 ps with
   |none=>rw[n]at h;cases h
   |some f=>rw[n]at h;cases h;rw[aC,ju e b,kt n c]
theorem k9[DecidableEq L]:∀{B:List (L×V)}{s:List D},dR K F H m s (B.map (·.2)) ->
  match cB k (B.map (·.1)) s with|some d=>∃v,iG B k=Y v/\RD K F H m d v|none=>iG B k=Vk
 | [],s,r=>by have:s=[]:=kY r.length;subst this;rfl
 |(h,v)::B,[],r=>by have:=r.length;simp at this
 |(h,v)::B,d::s,r=>by
  obtain⟨x,b,e,p,a⟩:=r;rw[aC]at e;injection e with n f;rw[<- f]at a;simp only[aC,cB];by_cases hk:h=k
  .rw [ac hk];exact⟨v,jn (p:=(h,v)) hk,by rw[show v=x from n];exact p⟩
  .rw [ae hk,iF (p:=(h,v)) hk];exact k9 a
theorem pD[DecidableEq L](f:RD K F H m y u):∀{B:List (L×V)}{s:List D},(B.map (·.1)).Nodup->dR K F H m s (B.map (·.2)) ->
  (L2.putK B k u).map (·.1)=(ee k y (B.map (·.1)) s).1/\dR K F H m (ee k y (B.map (·.1)) s).2 ((L2.putK B k u).map (·.2))
 | [],s,_,r=>by have:s=[]:=kY r.length;subst this;exact⟨rfl,u,[],rfl,f,rfl⟩
 |(h,w)::B,[],_,r=>by have:=r.length;simp at this
 |(h,w)::B,d::s,p,r=>by
  obtain⟨x,C,e,A,G⟩:=r;rw[aC]at e p;injection e with g i;subst g;subst i;obtain⟨b,t⟩:=cA.mp p;simp only[aC,ee];by_cases hk:h=k
  .subst hk;rw[ac rfl];have same:∀l:List (L×V),h ∉ l.map (·.1)->l.map (λv=>if v.1=h then (v.1,u) else v)=l:=by
    intro l;induction l with
    |nil=>intro _;rfl
    |cons q l P=>
     intro n;rw[aC]at n;have j:¬q.1=h:=λz=>n (by rw[<- z];exact aK)
     rw[aC,ae j,P λz=>n (aL _ z)]
   have a:L2.putK ((h,w)::B) h u=(h,u)::B:=by unfold L2.putK;rw[ac (by simp),aC,ac rfl,same B b]
   rw[a];exact⟨rfl,u,_,rfl,f,G⟩
  .rw [ae hk];obtain⟨o,S⟩:=pD (k:=k) f t G;have a:L2.putK ((h,w)::B) k u=(h,w)::L2.putK B k u:=by
    unfold L2.putK;rw[eY,bA (show ¬(h,w).1=k from hk),mS];by_cases c:(B.any λv=>decide (v.1=k))=Vl
    .rw [ac c,ac c,aC,ae (show ¬(h,w).1=k from hk)]
    .rw [ae c,ae c];rfl
   rw[a,aC,aC,o];exact⟨rfl,w,_,rfl,A,S⟩
end
noncomputable def qz(d:D)(S:aM):Option (List (List ci)×List D):=match d with
 | .ref i=>match S[i]? with
  |some (.dtt k v)=>Y (k,v)
  |_=>Vk
 | .p (.dtt k v)=>Y (k,v.map .p)
 |_=>Vk
theorem w4{K:FG}{F:Aa}{H:Hp}{m:List Addr}{S:aM}{d:D}{v:V}{k:List (List ci)}{n:List D}(r:Rel K F H m S)(p:RD K F H m d v)(h:qz d S=Y (k,n)):∃a B,v=.ref a/\H a=Y (.dT B)/\B.map (·.1)=k/\dR K F H m n (B.map (·.2)):=by
 unfold qz at h;split at h
 .split at h
  .rename_i e;cases h;obtain⟨a,rfl,f⟩:=p;obtain⟨B,x,hk,s⟩:=r.obj _ a _ f e;exact⟨a,B,rfl,x,hk,s⟩
  .cases h
 .cases h;obtain⟨a,B,rfl,_,x,hk,s⟩:=(show RP K F H (.dtt _ _) v from p);exact⟨a,B,rfl,x,hk,Af s⟩
 .cases h
section
variable{X:Cx}{pos G:Pos}{o T:Expr}{c:Ab}{fo:EE}{fs:lC}{fv:EV}
@[simp] def tw(_L:Lc)(S:aM):xF:=Y (.ref S.length,S++[.dtt [] []])
theorem Fx:PE X (.Dict [] [] pos) (tE X.K tw):=Gz.imp' λJ H Q z=>by obtain⟨F,m,L,S,d,x,r,l,q,k⟩:=z;cases q;intro p h;refine k (.ref p) F (m++[p]) _ (fJ h) (r.own h ⟨[],aV,rfl,rfl⟩) ⟨p,rfl,?_⟩;rw[<- r.len,c_ (az _)];simp
@[simp] def ug(o:EE)(k:lC)(L:Lc)(S:aM):xF:=cg (o L S) λd x=>cg (k L x) λps h=>match qz d h,d7 ps with
 |some (s,v),Y C=>if few ps=Vl then (cB C s v).map λz=>(z,h) else Vk
 |_,_=>Vk
theorem Kv(b:X.A.units+1 < cLine):EN X (λx y H Q=>∃a v,x=.ref a/\lD H a y (Y v)/\(∃B,H a=Y (.dT B))/\Q v H):=by intro T l pins s J H x y v u Q I c m h f;obtain⟨a,w,rfl,g,⟨B,hk⟩,q⟩:=h;cases c;obtain⟨_,_,_,_,o,_,_,e,k,_⟩:=I.h a _ hk;exact nT ⟨o,e,k.1⟩ zv.lookup (uX b I g m λp t n r=>⟨w,H,n,r,q⟩) f
theorem Sh {N} (hu:X.A.units+1 < cLine) (ho:PE X o (tE X.K fo)) (hk:PA X c (tT X.K fs)) (hs:mX (.Tuple c N G)):PE X (.Subscript o (.Tuple c N G) pos) (tE X.K (ug fo fs)):=
 (C6 (Kv hu) ho (wI hk) hs).imp' λJ H Q hz=>by
  obtain⟨F,m,L,S,d,S',r,l,q,k⟩:=hz;obtain⟨x,i,R,q⟩:=ak q;obtain⟨ps,j,T,q⟩:=ak q;refine⟨F,m,L,S,x,i,r,l,R,λv I m1 H1 A r1 p1=>?_⟩;refine⟨I,m1,L,i,ps,j,r1,l.mono A,T,λE u m2 M D P G=>?_⟩;cases s:qz x j with
  |none=>rw[s]at q;cases q
  |some t=>
   obtain⟨ks,vs⟩:=t;rw[s]at q;cases h:d7 ps with
   |none=>rw[h]at q;cases q
   |some C=>
    rw[h]at q;dsimp only at q;split at q
    .rename_i Z;obtain⟨z,V,q⟩:=eE.mp q;cases q;obtain⟨a,B,rfl,n,rfl,rs⟩:=w4 P (RD.mono D p1) s;have y:=k9 (k:=C) rs;rw[V]at y;obtain⟨w,W,p⟩:=y;refine⟨by rw[<- G.length];exact mj Z,λb K=>?_⟩;have f:a≠b:=λz=>by rw[z,K]at n;cases n
     have e:cG M b (.tup E) a=Y (.dT B):=by rw[aJ f];exact n
     have g:=cK (F:=u) (o:=.tup E) K;rw[kt h G]at e g ⊢;refine⟨a,w,rfl,by rw[<- W];exact lD.t e aV,⟨B,e⟩,?_⟩;exact k w u m2 _ (A.trans (D.trans g.stp)) (P.grow g) (RD.mono g.stp p)
    .cases q
@[simp] def tt(o:EE)(k:lC)(L:Lc)(S:aM):xF:=cg (o L S) λd h=>match qz d h with
 |none=>Vk
 |some _=>cg (k L h) λps x=>match qz d x,d7 ps with
  |some (s,v),Y C=>if few ps=Vl then Y ((cB C s v).getD (.p .non),x) else Vk
  |_,_=>Vk
theorem O2 {N}{ap cp:Pos} (hu:X.A.units+1 < cLine) (ho:PE X o (tE X.K fo)) (hk:PA X c (tT X.K fs)) (K:M1 X o "get" ap (.Tuple c N G) cp) :
  PE X (.Call (.Attribute o "get" ap) [.Tuple c N G] [] cp) (tE X.K (tt fo fs)):=
 (GD hu ho (wI hk) K).imp' λJ H Q hz=>by
  obtain⟨F,m,L,S,d,S',r,l,q,k⟩:=hz;obtain⟨x,f,e1,q⟩:=ak q;refine⟨F,m,L,S,x,f,r,l,e1,λv F1 m1 H1 D Z W=>?_⟩;cases e:qz x f with
  |none=>rw[e]at q;cases q
  |some t1=>
   obtain⟨ks1,vs1⟩:=t1;rw[e]at q;dsimp only at q;obtain⟨ps,I,e2,q⟩:=ak q;obtain⟨a,s,rfl,j,_,_⟩:=w4 Z W e;refine⟨a,rfl,.inr ⟨s,.inl j⟩,?_⟩;refine⟨F1,m1,L,f,ps,I,Z,l.mono D,e2,λus n V H2 E P G=>?_⟩;cases u:qz x I with
   |none=>rw[u]at q;cases q
   |some t=>
    obtain⟨ks,vs⟩:=t;rw[u]at q;cases p:d7 ps with
    |none=>rw[p]at q;cases q
    |some C=>
     rw[p]at q;dsimp only at q;split at q
     .rename_i hf;cases q;obtain⟨a',B,e4,i,rfl,rs⟩:=w4 P (RD.mono E W) u;cases e4;have h:=k9 (k:=C) rs;refine⟨by rw[<- G.length];exact mj hf,λb T=>?_⟩;have y:a≠b:=λz=>by rw[z,T]at i;cases i
      have M:cG H2 b (.tup us) a=Y (.dT B):=by rw[aJ y];exact i
      have g:=cK (F:=n) (o:=.tup us) T;rw[kt p G]at M g ⊢;refine⟨iG B C,lD.t M aV,?_⟩;cases R:cB C (B.map (·.1)) vs with
      |none=>rw[R]at h k;rw[show iG B C=Vk from h];exact k .non n V _ (D.trans (E.trans g.stp)) (P.grow g) rfl
      |some z=>rw[R]at h k;obtain⟨w,ev,A⟩:=h;rw[ev];exact k w n V _ (D.trans (E.trans g.stp)) (P.grow g) (RD.mono g.stp A)
     .cases q
@[simp] def CY(o:EE)(k:lC)(v:EV)(L:Lc)(S:aM):CO:=cg (v L S) λy a=>cg (o L a) λd e=>cg (k L e) λps h=>match D_ d h,d7 ps with
 |some (i,s,x),Y C=>if (s.Nodup/\few s=Vl/\few ps=Vl) then Y (.nx,L,h.set i (.dtt (ee C (.p y) s x).1 (ee C (.p y) s x).2)) else Vk
 |_,_=>Vk
theorem OK {N} (hu:X.A.units+1 < cLine) (ho:PE X o (tE X.K fo)) (hk:PA X c (tT X.K fs)) (hv:PE X T (tV X.K fv)) (hs:swapsWith T (Y (.Subscript o (.Tuple c N G) h)) pos.line X.e=pure Vm) :
  PS X (.Assign [.Subscript o (.Tuple c N G) h] T pos) (pa X.K (CY fo fs fv)):=(C4 hu ho (wI hk) hv hs).imp' λD J H hz=>by
 obtain⟨F,m,L,S,fl,L',S',r,l,q,k⟩:=hz;obtain⟨y,A,e1,q⟩:=ak q;obtain⟨d,E,e2,q⟩:=ak q;obtain⟨ps,I,e3,q⟩:=ak q;refine⟨F,m,L,S,y,A,r,l,e1,λv K V H1 s r1 p1=>?_⟩;refine⟨K,V,L,A,d,E,r1,l.mono s,e2,λx F2 m2 H2 e r2 G=>?_⟩;refine⟨F2,m2,L,E,ps,I,r2,(l.mono s).mono e,e3,λus P W H3 n r3 p3=>?_⟩;cases w:D_ d I with
 |none=>rw[w]at q;cases q
 |some t=>
  obtain⟨j,ks,vs⟩:=t;rw[w]at q;cases p:d7 ps with
  |none=>rw[p]at q;cases q
  |some C=>
   rw[p]at q;dsimp only at q;split at q
   .rename_i u;cases q;obtain⟨rfl,c⟩:=Kb w;refine⟨by rw[<- p3.length];exact mj u.2.2,λb hb=>?_⟩;have M:=cK (F:=P) (o:=.tup us) hb;have i:=r3.grow M;have f:=M.stp (m:=W);obtain⟨a,rfl,g⟩:=RD.mono f (RD.mono n G);obtain⟨B,R,hk,rs⟩:=i.obj j a _ g c;subst hk;have pv:=RD.mono f (RD.mono n (RD.mono e (show RD X.K K H1 V (.p y) v from p1)));obtain⟨h1,h2⟩:=pD (k:=C) pv u.1 rs;have Z:∀zs,cG H3 b (.tup us) a≠Y (.tup zs):=λzs z=>by rw[R]at z;cases z
    have st:=gZ (o:=.dT (L2.putK B C v)) i g c trivial Z;have hl:B.length < sizeLine:=by have Q:(B.map (·.1)).length≤1000000:=aR u.2.1;rw[aH]at Q;exact kS Q (by decide)
    refine⟨a,_,rfl,y7.t (k:=C) R ?_ hl,?_⟩
    .rw [kt p p3];exact aV
    .exact k J P W _ (s.trans (e.trans (n.trans (f.trans st)))) (i.set g c trivial Z ⟨_,aV,h1,dR.mono st h2⟩) ((((l.mono s).mono e).mono n).mono (f.trans st))
   .cases q
end
section
variable{X:Cx}{pins:PN}{J:L2.St}{H:Hp}{s:Shared}{a:Addr}{B:List (ci×V)}{C:ci}{u r:Value}{x:V}{A:Around}{E:VP}
theorem HN(I:Inv X pins J H s)(e:H a=Y (.dK B))(K:B.length < sizeLine)(S:RelV (kV C) u)(o:RelV x r)
  (t:∀v w n,iG B C=Y v->RelV v w->Inv X pins J H n->Q w n) (p:iG B C=Vk->∀n,Inv X pins J (cG H a (.dK (L2.putK B C x))) n->Q r n) :
  wpAny (model X.p X.w) A (call (.builtin "dict.setdefault") [.ref a,u,r]) Q E s:=by
 obtain⟨z,hd,F,l,k⟩:=LK I.h e;have h:=l.val C;refine pb Bh k.typeIs PySem.F.entry_dict_setdefault (PySem.F.args_dict_setdefault_3 _ _ _) (kt_meets_setdefault (cH X.p X.w) a (p9 S) hd r)
  ⟨F,k,by rw[<- l.length];exact z,λv f=>?_,λc m d j=>?_⟩
 .cases q:iG B C with
  |none=>rw[q,f]at h;cases h
  |some b=>rw[q,f]at h;exact t b v _ q h (I.tok _)
 .have q:iG B C=Vk:=by
   cases q:iG B C with
   |none=>rfl
   |some b=>rw[q,c]at h;cases h
  refine p q _ ?_;have g:∃q,m.get? a=Y q:=let ⟨q,_,_,i,_⟩:=d;⟨q,i⟩
  have y:(L2.putK B C x).length≤sizeLine:=by have:=l_ B C x;lia
  exact rL I (by rw[e];exact True.intro) j g (HJ y hd (l.put C o) d)
end
section
variable{X:Cx}{o e f:Expr}{ap cp:Pos}{fo fd:EE}{fk:EV}
@[simp] def oX(o:EE)(k:EV)(d:EE)(L:Lc)(S:aM):xF:=cg (o L S) λx a=>match nB x a with
 |none=>Vk
 |some _=>cg (k L a) λz e=>cg (d L e) λy h=>match nB x h,dH z with
  |some (i,s,v),Y C=>if (s.Nodup/\few s=Vl) then match cB C s v with
    |some w=>Y (w,h)
    |none=>Y (y,h.set i (.dct (ee C y s v).1 (ee C y s v).2))
   else Vk
  |_,_=>Vk
theorem Jl(ho:PE X o (tE X.K fo))(he:PE X e (tV X.K fk))(hf:PE X f (tE X.K fd))(n:M2 X o "setdefault" ap e f cp):PE X (.Call (.Attribute o "setdefault" ap) [e,f] [] cp) (tE X.K (oX fo fk fd)):=by
 intro pins s J H Q I ⟨F,m,L,S,d,S',r,l,q,k⟩;obtain⟨x,S1,e1,q⟩:=ak q;refine zw n.base n.few n.line vm Bh PySem.F.type_dict_setdefault
  (dO (ho pins s J H (λv P=>∃b i,Stp F m H b i P/\Rel X.K b P i S1/\RD X.K b P i x v) I ⟨F,m,L,S,x,S1,r,l,e1,λv b i P s1 r1 p1=>⟨b,i,s1,r1,p1⟩⟩) λu s1 ⟨v,P,I1,ru,b,i,uC,r1,p1⟩=>?_)
 cases D:nB x S1 with
 |none=>rw[D]at q;cases q
 |some t1=>
  obtain⟨j,ks1,vs1⟩:=t1;rw [D] at q;dsimp only at q;obtain⟨z,S2,e2,q⟩:=ak q;obtain⟨y,S3,e3,q⟩:=ak q;obtain⟨rfl,es1⟩:=wM D;obtain⟨a,rfl,hm⟩:=id p1;obtain⟨kvs1,hH1,_,_⟩:=r1.obj j a _ hm es1;cases (show u=Value.ref a from ru);obtain⟨t1,t2,_⟩:=AB I1 (.inl ⟨kvs1,.inl hH1⟩);refine⟨t1,t2,?_⟩;rw [n.trees];refine nW rfl (nV (iy (dO (he pins s1 J P (fun vz A=>∃c N,Stp b i P c N A/\Rel X.K c A N S2/\RP X.K c A z vz) I1 ⟨b,i,L,S1,z,S2,r1,l.mono uC,e2,fun v c N A s2 r2 G=>⟨c,N,s2,r2,G⟩⟩) fun uz s2 ⟨vz,A,I2,rz,c,N,R,r2,G⟩=>
   iy (dO (hf pins s2 J A (λvy g=>∃p K,Stp c N A p K g/\Rel X.K p g K S3/\RD X.K p g K y vy) I2 ⟨c,N,L,S2,y,S3,r2,(l.mono uC).mono R,e3,λv p K g s3 V p3=>⟨p,K,s3,V,p3⟩⟩) λuy s3 ⟨vy,g,I3,ry,p,K,zX,V,p3⟩=>kR ?_))))
  cases eo:nB (.ref j) S3 with
  |none=>rw[eo]at q;cases q
  |some t=>
   obtain⟨j2,ks,vs⟩:=t;rw[eo]at q;cases ek:dH z with
   |none=>rw[ek]at q;cases q
   |some C=>
    rw[ek]at q;dsimp only at q;split at q
    .rename_i hc;obtain⟨e4,E⟩:=wM eo;cases e4;obtain⟨a',e5,M⟩:=RD.mono (R.trans zX) p1;cases e5;obtain⟨B,hH,hk,rs⟩:=V.obj j a _ M E;subst hk;have T:=k9 (k:=C) rs;have pz:=RP.mono zX G;have ez:=ju ek pz;subst ez;have hl:B.length < sizeLine:=by
      have h9:(B.map (·.1)).length≤1000000:=aR hc.2;rw[aH]at h9;exact kS h9 (by decide)
     have stA:=uC.trans (R.trans zX);refine HN I3 hH hl rz ry (λv w s' Z rv I'=>?_) λZ s' I'=>?_
     .cases W:cB C (B.map (·.1)) vs with
      |none=>rw[W]at T;rw[show iG B C=Vk from T]at Z;cases Z
      |some w'=>rw[W]at T q;dsimp only at q;cases q;obtain⟨v',h,rd⟩:=T;rw[Z]at h;cases h;exact⟨v,g,I',rv,k v p K g stA V rd⟩
     .cases W:cB C (B.map (·.1)) vs with
      |some w'=>rw[W]at T;obtain⟨v',h,_⟩:=T;rw[Z]at h;cases h
      |none=>
       rw[W]at q;dsimp only at q;cases q;obtain⟨h1,h2⟩:=pD (k:=C) p3 hc.1 rs;have nt:∀zs,g a≠Y (.tup zs):=λzs z=>by rw[hH]at z;cases z
       have st:=gZ (o:=.dK (L2.putK B C vy)) V M E trivial nt;exact⟨vy,_,I',ry,k vy p K _ (stA.trans st) (V.set M E trivial nt ⟨_,aV,h1,dR.mono st h2⟩) (RD.mono st p3)⟩
    .cases q
end
end Ev
set_option tactic.hygienic false
namespace PySem
open PySem PyProof.Rows
section
variable{prog:Program}{w:World}{A:Around}{E:VP}{s:Shared}
theorem xU(t:s.heap.IsTupleIter k h i)(f:s.heap.IsTuple h n)(b:n[i]? = Y x)
  (e:∀a,a.IsTupleIter k h (i+1)->gm k s.heap a->Q x { s with heap:=a }):wpAny (model prog w) A (gj (.ref k)) Q E s:=by
 have hT:=t.typeIs;obtain⟨⟨q,v,m,r⟩,o,c,hd⟩:=id t;obtain⟨u,l,_,p,d⟩:=f;dsimp only at c hd;subst c hd;unfold gj;apply af;apply pf (name:=Str.ofString "__next__") hT qL;refine pc qL hT A' ?_ (Bc _);repeat first|with_reducible refine af (eC o rfl (x:=.ref h) rfl ?_)|wp_step
 rw[d];apply aq;simp only[fG,b];apply af;apply Cm o rfl (by simp);refine aq ⟨x,rfl,aq (e _ ⟨_,vG _ o rfl,rfl,?_⟩ (nQ ..))⟩;simp[A1,rawInt]
theorem ww(m:A.handled=Vk)(t:s.heap.IsTupleIter k h i)(p:s.heap.IsTuple h n)(q:n[i]? = Vk)
  (b:∀a e,qR k s.heap a->(∃o,a.get? e=Y o/\o.cls=.type "StopIteration")->E (.ref e) { s with heap:=a }):wpAny (model prog w) A (gj (.ref k)) Q E s:=by
 have hT:=t.typeIs;obtain⟨⟨j,y,v,u⟩,r,c,hd⟩:=id t;obtain⟨z,l,_,g,d⟩:=p;dsimp only at c hd;subst c hd;unfold gj;apply af;apply pf (name:=Str.ofString "__next__") hT qL;refine pc qL hT A' ?_ (Bc _);repeat first|with_reducible refine af (eC r rfl (x:=.ref h) rfl ?_)|wp_step
 rw[d];apply aq;simp only[fG,q];have f:A.in1.handled=Vk:=m;repeat first|assumption|wp_step
 unfold raiseNew;apply af;apply wpAny_handled;rw[f];apply wpAny_throw;exact b _ _ (((nQ ..).extBut.push _).push _) ⟨_,bJ _ rfl,rfl⟩
def zc(t:Bool)(h:Heap)(i l:Addr)(k:Nat):Prop:=if t=Vl then h.IsTupleIter i l k else h.IsListIter i l k
def EG(t:Bool)(h:Heap)(l:Addr)(y:Array Value):Prop:=if t=Vl then h.IsTuple l y else h.IsList l y
theorem zc.extBut(x:zc n h a l i)(s:qR b h k)(e:a≠b):zc n k a l i:=by
 cases n
 .exact Heap.IsListIter.extBut x s e
 .exact Heap.IsTupleIter.extBut x s e
theorem EG.extBut(x:EG n h a q)(s:qR b h k)(e:a≠b):EG n k a q:=by
 cases n
 .exact Heap.IsList.extBut x s e
 .exact Heap.IsTuple.extBut x s e
theorem zc.obj(x:zc k h a l i):∃o,h.get? a=Y o/\(∃v,o.data=.fields v)/\∀s,s.get? a=Y o->zc k s a l i:=by
 cases k
 .obtain⟨o,e,c,d⟩:=x;exact⟨o,e,⟨_,d⟩,λs n=>⟨o,n,c,d⟩⟩
 .obtain⟨o,e,c,d⟩:=x;exact⟨o,e,⟨_,d⟩,λs n=>⟨o,n,c,d⟩⟩
theorem yq(t:zc q s.heap k h i)(f:EG q s.heap h n)(b:n[i]? = Y x)
  (e:∀a,zc q a k h (i+1)->gm k s.heap a->Q x { s with heap:=a }):wpAny (model prog w) A (gj (.ref k)) Q E s:=by
 cases q
 .exact zy t f b e
 .exact xU t f b e
def iK(h:Heap)(z TI TO:Addr)(f x:Value):Prop:=h.get? z=Y { cls:=.type "zip",data:=.fields #[f,x,.bool Vm,.ref TI,.ref TO] }
def gb(h:Heap)(T:Addr)(a b:Value):Prop:=h.get? T=Y { cls:=.type "tuple",data:=.seq #[a,b] }
theorem Fm (l y:Addr) (xs ys:Array Value):Meets (Builtin.«zip.__new__» ⟨[.type "zip",.ref l,.ref y],[]⟩) (fun _ R s=>s.heap.IsList l xs/\s.heap.IsTuple y ys /\
  ∀v S F TI TO z,(∀b o,s.heap.get? b=Y o->v.get? b=Y o)->s.heap.objs.size≤S->S < F->F < TI->TI < TO->TO < z->v.IsListIter S l 0->v.IsTupleIter F y 0->gb v TI (.ref S) (.ref F)->gb v TO .none .none ->
   iK v z TI TO .none (.bool Vm)->R (.ok (.ret (.ref z))) { s with heap:=v }):=
 .of_wp λprog w A R s h=>by
  obtain⟨i,g,d,Z,os⟩:=s;obtain⟨B,C,h⟩:=h;have X:=sub_zip;have L:Heap.IsList (Shared.heap ⟨i,g,d,Z,os⟩) l xs:=B;have P:BK (Shared.heap ⟨i.push { cls:=.type "list_iterator",data:=.fields #[.ref l,.int 0 0] },g,d,Z,os⟩) y ys:=C.push _
  wp_walk using CB L,vd P
  have j:∀(u n x a f c:Heap)(r t p q m:Obj),n=u.push r->x=n.push t->a=x.push p->f=a.push q->c=f.push m->r.isFreed=Vm->t.isFreed=Vm->p.isFreed=Vm->q.isFreed=Vm->m.isFreed=Vm ->
    (∀b o,u.get? b=Y o->c.get? b=Y o)/\u.objs.size < n.objs.size/\n.objs.size < x.objs.size/\x.objs.size < a.objs.size/\a.objs.size < f.objs.size /\
    c.get? u.objs.size=Y r/\c.get? n.objs.size=Y t/\c.get? x.objs.size=Y p/\c.get? a.objs.size=Y q/\c.get? f.objs.size=Y m:=by
   intro u n x a f c r t p q m E G I M N f1 f2 f3 f4 f5;have Q:n.get? u.objs.size=Y r:=by rw[E];exact bJ _ f1
   have T:x.get? n.objs.size=Y t:=by rw[G];exact bJ _ f2
   have V:a.get? x.objs.size=Y p:=by rw[I];exact bJ _ f3
   have W:f.get? a.objs.size=Y q:=by rw[M];exact bJ _ f4
   have g5:c.get? f.objs.size=Y m:=by rw[N];exact bJ _ f5
   have u2:∀b o,n.get? b=Y o->x.get? b=Y o:=λb o e=>by rw[G];exact aW _ e
   have D:∀b o,x.get? b=Y o->a.get? b=Y o:=λb o e=>by rw[I];exact aW _ e
   have K:∀b o,a.get? b=Y o->f.get? b=Y o:=λb o e=>by rw[M];exact aW _ e
   have H:∀b o,f.get? b=Y o->c.get? b=Y o:=λb o e=>by rw[N];exact aW _ e
   exact⟨λb o e=>H _ _ (K _ _ (D _ _ (u2 _ _ (by rw[E];exact aW _ e)))),aN Q,aN T,aN V,aN W,H _ _ (K _ _ (D _ _ (u2 _ _ Q))),H _ _ (K _ _ (D _ _ T)),H _ _ (K _ _ V),H _ _ W,g5⟩
  let r:Obj:={ cls:=.type "list_iterator",data:=.fields #[.ref l,.int 0 0] }
  let n:=i.push r
  let t:Obj:={ cls:=.type "tuple_iterator",data:=.fields #[.ref y,.int 0 0] }
  let x:=n.push t
  let p:Obj:={ cls:=.type "tuple",data:=.seq #[.ref i.objs.size,.ref n.objs.size] }
  let a:=x.push p
  let q:Obj:={ cls:=.type "tuple",data:=.seq #[.none,.none] }
  let f:=a.push q
  let m:Obj:={ cls:=.type "zip",data:=.fields #[.none,.bool Vm,.bool Vm,.ref x.objs.size,.ref a.objs.size] }
  obtain⟨k,s1,s2,s3,s4,a1,a2,a3,a4,a5⟩:=j i n x a f (f.push m) r t p q m rfl rfl rfl rfl rfl rfl rfl rfl rfl rfl;exact⟨_,rfl,h (f.push m) i.objs.size n.objs.size x.objs.size a.objs.size f.objs.size k (az _) s1 s2 s3 s4 ⟨_,a1,rfl,rfl⟩ ⟨_,a2,rfl,rfl⟩ a3 a4 a5⟩
end
section
variable{prog:Program}{w:World}{A:Around}{E:VP}{s:Shared}
theorem EF(h:Q (s.heap.get? a) s):wpAny M A (loadIfAlive a) Q E s:=λx p _=>by unfold loadIfAlive;rw[Sem.wp_loadIfAlive];exact(Sem.wp_pure ..).mpr h
theorem sV{z TI TO T:Addr}{f:Bool}{o:Obj}{Q:Bool->Shared->Prop}(a:iK s.heap z TI TO (rawInt T) (.bool f))(hT:s.heap.get? T=Y o)
  (h:∀e,iK e z TI TO (rawInt T) (.bool Vl)->gm z s.heap e->Q Vm { s with heap:=e }):wpAny (model prog w) A (qH (.ref z)) Q E s:=by
 unfold qH;apply af;refine eC (show s.heap.get? z=Y _ from a) rfl (x:=rawInt T) rfl ?_;unfold rawInt;dsimp only;apply af;refine EF ?_;rw[fG,hT];rw[ae (by simp)];apply af;refine eC (show s.heap.get? z=Y _ from a) rfl (x:=.bool f) rfl ?_;cases f with
 |true=>rw[ae (by decide)];exact aq (h s.heap a ⟨rfl,λ_ _=>rfl⟩)
 |false=>rw[ac (by decide)];apply af;refine Cm (show s.heap.get? z=Y _ from a) rfl (by simp) (aq (h _ ?_ (nQ ..)));unfold iK;rw[vG _ (show s.heap.get? z=Y _ from a) rfl];simp[A1]
theorem DS{z TI TO i a l r T:Addr}{P:Bool}{k:Nat}{S F:Array Value}{x y:Value}{oT:Obj}{Q:VP}(d:iK s.heap z TI TO (rawInt T) (.bool P))(I:gb s.heap TI (.ref i) (.ref a))(hT:s.heap.get? T=Y oT)
  (B:s.heap.IsListIter i l k) (C:s.heap.IsTupleIter a r k) (p:s.heap.IsList l S) (q:s.heap.IsTuple r F) (L:S[k]? = Y x) (M:F[k]? = Y y)
  (g:i≠z) (j:a≠z) (W:l≠z) (X:r≠z) (H:a≠i) (Z:r≠i) (n7:l≠a) (n8:l≠i) (n9:r≠a)
  (D:∀m:Heap,iK m z TI TO (rawInt T) (.bool Vl)->m.IsListIter i l (k+1)->m.IsTupleIter a r (k+1)->(∀c o,c≠z->c≠i->c≠a->s.heap.get? c=Y o->m.get? c=Y o) ->
   Q (.ref m.objs.size) { s with heap:=m.push { cls:=.type "tuple",data:=.seq #[x,y] } }) :
  wpAny (model prog w) A (Builtin.«zip.__next__» ⟨[.ref z],[]⟩) (λt s'=>∃h,t=.done (.ret h)/\Q h s') E s:=by
 unfold Builtin.«zip.__next__»;apply af;apply aq;apply af;refine eC (show s.heap.get? z=Y _ from d) rfl (x:=.bool Vm) rfl ?_;apply af;refine eC (show s.heap.get? z=Y _ from d) rfl (x:=.ref TI) rfl ?_;apply af;refine kP (show s.heap.get? TI=Y _ from I) rfl ?_;dsimp only;rw[ae (by simp)];apply af;refine sV d hT λh0 u b=>?_
 rw[ae (by simp)];apply af;rw[<- re];show wpAny _ _ (forIn [Value.ref i,Value.ref a] _ _) _ _ _;rw[jM];apply af;apply af;apply gR;show wpAny _ _ (gj (.ref i) >>= _) _ _ _;apply af;refine zy (B.extBut b.extBut g) (p.extBut b.extBut W) L λha R n=>aq ?_;dsimp only;apply aq;dsimp only;rw[jM];apply af;apply af;apply gR;show wpAny _ _ (gj (.ref a) >>= _) _ _ _;apply af;refine xU ((C.extBut b.extBut j).extBut n.extBut H) ((q.extBut b.extBut X).extBut n.extBut Z) M λG V f=>aq ?_;dsimp only;apply aq;dsimp only;rw[BU];apply aq;dsimp only;apply af;refine zp (hsz:=by show 2≤sizeLine;decide) (aq ⟨_,rfl,D G ?_ ?_ V ?_⟩)
 .exact f.extBut _ _ (aZ j) (n.extBut _ _ (aZ g) u)
 .exact R.extBut f.extBut (aZ H)
 .exact λc o N v K e=>f.extBut _ _ K (n.extBut _ _ v (b.extBut _ _ N e))
theorem Fo{z TI TO i f n T:Addr}{t:Bool}{k:Nat}{m:Array Value}{H:Obj}{Q:Fin->Shared->Prop}(d:A.handled=Vk)(a:iK s.heap z TI TO (rawInt T) (.bool t))(I:gb s.heap TI (.ref i) (.ref f))(hT:s.heap.get? T=Y H)
  (p:s.heap.IsListIter i n k) (l:s.heap.IsList n m) (u:m[k]? = Vk) (j:i≠z) (y:n≠z)
  (q:∀h e,(∀c o,c≠z->c≠i->s.heap.get? c=Y o->h.get? c=Y o)->(∃o,h.get? e=Y o/\o.cls=.type "StopIteration")->E (.ref e) { s with heap:=h }) :
  wpAny (model prog w) A (Builtin.«zip.__next__» ⟨[.ref z],[]⟩) Q E s:=by
 unfold Builtin.«zip.__next__»;apply af;apply aq;apply af;refine eC (show s.heap.get? z=Y _ from a) rfl (x:=.bool Vm) rfl ?_;apply af;refine eC (show s.heap.get? z=Y _ from a) rfl (x:=.ref TI) rfl ?_;apply af;refine kP (show s.heap.get? TI=Y _ from I) rfl ?_;dsimp only;rw[ae (by simp)];apply af;refine sV a hT λS g b=>?_
 rw[ae (by simp)];apply af;rw[<- re];show wpAny _ _ (forIn [Value.ref i,Value.ref f] _ _) _ _ _;rw[jM];apply af;apply af;apply gR;show wpAny _ _ (gj (.ref i) >>= _) _ _ _;apply af;exact zx d (p.extBut b.extBut j) (l.extBut b.extBut y) u λh e x o=>q h e (λc F N v r=>x _ _ v (b.extBut _ _ N r)) o
end
section
variable{prog:Program}{w:World}{A:Around}{E:VP}{s:Shared}
theorem DT{tp:Bool}{k:Nat}{z TI TO i d D l:Addr}{xs ys:Array Value}{x y p q:Value}{Q:VP}(H:iK s.heap z TI TO .none (.bool Vm))(L:gb s.heap TI (.ref i) (.ref d))(M:gb s.heap TO p q)
  (h1:s.heap.IsListIter i D k) (h2:zc tp s.heap d l k) (R:s.heap.IsList D xs) (V:EG tp s.heap l ys) (hx:xs[k]? = Y x) (hy:ys[k]? = Y y)
  (n1:i≠z) (n2:d≠z) (n3:D≠z) (n4:l≠z) (n5:d≠i) (n6:l≠i) (G:TO≠z) (n8:TO≠i) (n9:TO≠d) (n10:l≠TO)
  (hQ:∀(g:Heap) (T:Addr),iK g z TI TO (rawInt T) (.bool Vm)->g.IsListIter i D (k+1)->zc tp g d l (k+1)->gb g TO x y->gb g T x y->T=s.heap.objs.size->(∀c o,c≠z->c≠i->c≠d->c≠TO->s.heap.get? c=Y o->g.get? c=Y o) ->
   Q (.ref T) { s with heap:=g }) :
  wpAny (model prog w) A (Builtin.«zip.__next__» ⟨[.ref z],[]⟩) (λI s'=>∃h,I=.done (.ret h)/\Q h s') E s:=by
 unfold Builtin.«zip.__next__»;apply af;apply aq;apply af;refine eC (show s.heap.get? z=Y _ from H) rfl (x:=.bool Vm) rfl ?_;apply af;refine eC (show s.heap.get? z=Y _ from H) rfl (x:=.ref TI) rfl ?_;apply af;refine kP (show s.heap.get? TI=Y _ from L) rfl ?_;dsimp only;rw[ae (by simp)];apply af;unfold qH;apply af;refine eC (show s.heap.get? z=Y _ from H) rfl (x:=.none) rfl (aq ?_);rw[ac rfl];apply af;apply u_;apply af;refine eC (show s.heap.get? z=Y _ from H) rfl (x:=.ref TO) rfl ?_;dsimp only;apply af;refine rX (show s.heap.get? z=Y _ from H) (by simp) λh0 W b=>?_
 apply af;show wpAny _ _ (forIn [(Value.ref i,0),(Value.ref d,1)] _ _) _ _ _;rw[jM];apply af;apply af;apply zn;show wpAny _ _ (gj (.ref i) >>= _) _ _ _;apply af;refine zy (h1.extBut b.extBut n1) (R.extBut b.extBut n3) hx λha ia n=>aq ?_;dsimp only;have P:ha.get? TO=Y { cls:=.type "tuple",data:=.seq #[p,q] }:=n.extBut _ _ n8 (b.extBut _ _ G M);apply af;refine kP P rfl ?_;dsimp only;apply af;refine E4 (s:={ s with heap:=ha }) P λhb j f=>?_;replace j:hb.get? TO=Y { cls:=.type "tuple",data:=.seq #[x,q] }:=j;apply af;apply zf;apply aq;dsimp only;rw[jM];apply af;apply af;apply zn;show wpAny _ _ (gj (.ref d) >>= _) _ _ _;apply af;refine yq (((h2.extBut b.extBut n2).extBut n.extBut n5).extBut f.extBut (aZ n9)) (((V.extBut b.extBut n4).extBut n.extBut n6).extBut f.extBut n10) hy λhc ic m=>aq ?_;dsimp only;have B:hc.get? TO=Y { cls:=.type "tuple",data:=.seq #[x,q] }:=m.extBut _ _ n9 j;apply af;refine kP B rfl ?_;dsimp only;apply af;refine E4 (s:={ s with heap:=hc }) B λhd u t=>?_;replace u:hd.get? TO=Y { cls:=.type "tuple",data:=.seq #[x,y] }:=u;apply af;apply zf;apply aq;dsimp only;rw[BU];apply aq;dsimp only;apply af;refine kP u rfl ?_;dsimp only;apply af;refine zp (hsz:=by show 2≤sizeLine;decide) ?_;have S:hd.get? z=Y { cls:=.type "zip",data:=.fields #[.ellipsis,.bool Vm,.bool Vm,.ref TI,.ref TO] }:=t.extBut _ _ (aZ G) (m.extBut _ _ (aZ n2) (f.extBut _ _ (aZ G) (n.extBut _ _ (aZ n1) W)));have C:=aN S;have X:(hd.push { cls:=.type "tuple",data:=.seq #[x,y] }).get? z=Y { cls:=.type "zip",data:=.fields #[.ellipsis,.bool Vm,.bool Vm,.ref TI,.ref TO] }:=aW _ S;apply af;unfold IA;dsimp only;apply af;refine rX X (by simp) λhe Z F=>?_;refine rX Z (by simp) λhf hz7 K=>?_;have a:∀c o,c≠z->hd.get? c=Y o->hf.get? c=Y o:=λc o N e=>K.extBut _ _ N (F.extBut _ _ N (aW _ e));refine aq ⟨_,rfl,hQ hf hd.objs.size hz7 ?_ ?_ (a _ _ G u) ?_ ?_ ?_⟩
 .exact (((ia.extBut f.extBut (aZ n8)).extBut m.extBut (aZ n5)).extBut t.extBut (aZ n8)).at λo e=>a _ o n1 e
 .obtain⟨o,e,_,r⟩:=(ic.extBut t.extBut (aZ n9)).obj;exact r _ (a _ o n2 e)
 .exact K.extBut _ _ (cD C) (F.extBut _ _ (cD C) (bJ _ rfl))
 .show hd.objs.size=s.heap.objs.size;rw[t.1,m.1,f.1,n.1,b.1]
 .exact λc o N v c3 c4 e=>a c o N (t.extBut _ _ c4 (m.extBut _ _ c3 (f.extBut _ _ c4 (n.extBut _ _ v (b.extBut _ _ N e)))))
theorem Fp(H:A.handled=Vk)(a:iK s.heap z TI TO .none (.bool Vm))(T:gb s.heap TI (.ref d) (.ref I))
  (i:s.heap.IsListIter d g k) (l:s.heap.IsList g M) (S:M[k]? = Vk) (t:d≠z) (K:g≠z)
  (y:∀h e,(∀c o,c≠z->c≠d->s.heap.get? c=Y o->h.get? c=Y o)->(∃o,h.get? e=Y o/\o.cls=.type "StopIteration")->E (.ref e) { s with heap:=h }) :
  wpAny (model prog w) A (Builtin.«zip.__next__» ⟨[.ref z],[]⟩) Q E s:=by
 unfold Builtin.«zip.__next__»;apply af;apply aq;apply af;refine eC (show s.heap.get? z=Y _ from a) rfl (x:=.bool Vm) rfl ?_;apply af;refine eC (show s.heap.get? z=Y _ from a) rfl (x:=.ref TI) rfl ?_;apply af;refine kP (show s.heap.get? TI=Y _ from T) rfl ?_;dsimp only;rw[ae (by simp)];apply af;unfold qH;apply af;refine eC (show s.heap.get? z=Y _ from a) rfl (x:=.none) rfl (aq ?_);rw[ac rfl];apply af;apply u_;apply af;refine eC (show s.heap.get? z=Y _ from a) rfl (x:=.ref TO) rfl ?_;dsimp only;apply af;refine rX (show s.heap.get? z=Y _ from a) (by simp) λB r b=>?_
 apply af;show wpAny _ _ (forIn [(Value.ref d,0),(Value.ref I,1)] _ _) _ _ _;rw[jM];apply af;apply af;apply zn;show wpAny _ _ (gj (.ref d) >>= _) _ _ _;apply af;refine zx H (i.extBut b.extBut t) (l.extBut b.extBut K) S λh e x o=>?_;have n:=x _ _ (aZ t) r;refine rX (s:={ s with heap:=h }) n (by simp) λj F f=>y j e (λc p N v u=>f.extBut _ _ N (x _ _ v (b.extBut _ _ N u))) ?_;obtain⟨p,m,c⟩:=o;have P:e≠z:=λq=>by rw[q,n]at m;cases m;exact absurd (show Value.type "zip"=Value.type "StopIteration" from c) (by decide)
 exact⟨p,f.extBut _ _ P m,c⟩
end
theorem xK:typeLookup (.type "zip") "keys"=pure Vk:=by rw[Co,E5];kernel_rfl
theorem sh:typeLookup (.type "zip") "__getattr__"=pure Vk:=by rw[Co,E5];kernel_rfl
theorem pj:entryFor table "zip.__getattribute__"=Y Builtin.«object.__getattribute__»:=
 entryFor_alias (id':="object.__getattribute__") (by kernel_rfl) (by decide +kernel) (by decide +kernel) (by kernel_rfl)
section
variable{prog:Program}{w:World}{A:Around}{E:VP}{s:Shared}
theorem Fk(z TI TO:Addr)(f0 f1:Value)(u:Tok):Meets (Builtin.«object.__getattribute__» ⟨[.ref z,.str "keys" u],[]⟩) (λA R s=>iK s.heap z TI TO f0 f1/\raisesAttr (.ref z) "keys" A R s):=
 .of_wp λprog w A R s hs=>by
  obtain⟨hp,g,d,tk,os⟩:=s;obtain⟨hx,hs⟩:=hs;unfold iK at hx;have hT:(⟨hp,g,d,tk,os⟩:Shared).TypeIs (.ref z) "zip":=⟨_,hx,rfl⟩;have nk:=xK;unfold Builtin.«object.__getattribute__»;repeat any_goals first|assumption|wp_step
  exact wpAny_raiseAttrError hs.1 hs.2 (attrMsg_fits (by decide +kernel) (by size_fits))
theorem DR(r:iK s.heap z TI TO l j)(v:A.handled=Vk)
  (h:∀x q,(∀b o,s.heap.get? b=Y o->x.get? b=Y o)->Q Vk { s with heap:=x,toks:=q }):wpAny (model prog w) A (getAttr? (.ref z) "keys") Q E s:=by
 obtain⟨p,g,d,q,os⟩:=s;have hT:∀t,(⟨p,g,d,t,os⟩:Shared).TypeIs (.ref z) "zip":=λ_=>⟨_,r,rfl⟩;have j:=sub_AttributeError;have i:=vj.lookup;have y:=vj.bind (.ref z);have H:=sh;have step:∀(xG:Nat)(u:Tok)(c:VP)(n:VP),(∀x f e,Heap.NewAttrErr p x e (.ref z) "keys"->n (.ref e) ⟨x,g,d,f,os⟩) ->
   wpAny (model prog w) A (call (Value.builtin "zip.__getattribute__") ([Value.ref z]++[Value.str "keys" u]) []) c n ⟨p,g,d,xG,os⟩:=λxG u c n k=>
  nv vj (hT _) pj (F.args_zip_getattribute_2 _ _) (Fk z TI TO _ _ u) ⟨r,v,k⟩
 unfold getAttr?;unfold getAttrBy?;unfold getAttrBy;repeat any_goals first|assumption|exact hT _|(with_reducible refine step _ _ _ _ λx t e a=>?_)|wp_step
 have m:=a.there;obtain⟨S,K,m⟩:=m;repeat any_goals first|assumption|wp_step
 exact h _ _ a.keeps
end
section
variable{prog:Program}{w:World}{A:Around}{E:VP}{s:Shared}
theorem Fj(hT:s.TypeIs (.ref z) "zip")
  (h:wpAny (model prog w) A.in1 (Builtin.«zip.__next__» ⟨[.ref z],[]⟩) (λf x=>∃v,f=.done (.ret v)/\Q (Y v) x) (λe x=>∃a o,e=.ref a/\x.heap.get? a=Y o/\o.cls=.type "StopIteration"/\Q Vk x) s) :
  wpAny (model prog w) A (pyNext (.ref z)) Q E s:=by
 unfold pyNext;apply af;apply wpAny_attempt;refine pf (name:=Str.ofString "__next__") hT A7 (pc A7 hT F.entry_zip_next (dg h (λf x ⟨v,e,q⟩=>⟨v,e,aq q⟩) λe x ⟨a,o,n,k,c,q⟩=>?_) (F.args_zip_next_1 _));subst n;apply af;exact Cu (T:="StopIteration") (b:=Vl) ⟨_,k,c⟩ isSubtype_stop (aq q)
def K8(d:Addr)(h:Heap)(z TI TO i x l a:Addr)(k:Nat):Prop:=gb h TI (.ref i) (.ref x)/\h.IsListIter i l k/\h.IsTupleIter x a k /\
 ((k=0/\iK h z TI TO .none (.bool Vm)/\gb h TO .none .none)\/∃(T:Addr)(o:Obj)(f:Bool),iK h z TI TO (rawInt T) (.bool f)/\h.get? T=Y o/\T≠z/\T≠i/\T≠x/\T≠d)
structure ZAp(d z TI TO i1 i2 l1 l2:Addr):Prop where
 nd:[d,z,TI,TO,i1,i2].Nodup
 l1n:l1 ∉ [d,z,TI,TO,i1,i2]
 l2n:l2 ∉ [d,z,TI,TO,i1,i2]
theorem K8.typeIs(x:K8 d s.heap z TI TO n q l g k):s.TypeIs (.ref z) "zip":=by
 obtain⟨_,_,_,⟨_,h,_⟩|⟨T,o,f,h,_⟩⟩:=x
 .exact⟨_,h,rfl⟩
 .exact⟨_,h,rfl⟩
theorem K8.but(x:K8 d h z TI TO q g l j k)(p:ZAp d z TI TO q g l j)(s:gm d h I):K8 d I z TI TO q g l j k:=by
 have n:=p.nd;simp only[cA,bc,fg,eX,mJ]at n;obtain⟨b,c,m,r⟩:=x;refine⟨s.extBut _ _ (aZ n.1.2.1) b,c.extBut s.extBut (aZ n.1.2.2.2.1),m.extBut s.extBut (aZ n.1.2.2.2.2),?_⟩;rcases r with ⟨e,a,t⟩|⟨T,o,v,a,t,w,u,i,f⟩
 .exact .inl ⟨e,s.extBut _ _ (aZ n.1.1) a,s.extBut _ _ (aZ n.1.2.2.1) t⟩
 .exact .inr ⟨T,o,v,s.extBut _ _ (aZ n.1.1) a,s.extBut _ _ f t,w,u,i,f⟩
theorem Ft(p:ZAp d z TI TO I M l1 l2)(a:K8 d s.heap z TI TO I M l1 l2 k)(hd:s.heap.get? d=Y od)(l:s.heap.IsList l1 xs)(b:s.heap.IsTuple l2 ys)(B:xs[k]? = Y x)(C:ys[k]? = Y y)
  (P:∀h T,K8 d h z TI TO I M l1 l2 (k+1)->gb h T x y->T≠d->(∀c o,c ∉ [z,TO,I,M]->s.heap.get? c=Y o->h.get? c=Y o)->Q (Y (.ref T)) { s with heap:=h }) :
  wpAny (model prog w) A (pyNext (.ref z)) Q E s:=by
 have X:=p.nd;have V:=p.l1n;have W:=p.l2n;simp only[cA,bc,fg,eX,mJ]at X V W;refine Fj a.typeIs ?_;obtain⟨m,g,i,R⟩:=a;rcases R with ⟨e,v,t⟩|⟨T,Z,f1,v,t,G,L,N,t4⟩
 .subst e;refine DT (tp:=Vl) v m t g i l b B C (by grind) (by grind) (by grind) (by grind) (by grind) (by grind) (by grind) (by grind) (by grind) (by grind) λh T S F K _ D q5 q=>?_
  have fresh:∀c o,s.heap.get? c=Y o->T≠c:=λc o f z=>absurd (aN f) (by rw[<- z,q5];exact i9 _);obtain⟨oi1,j,_⟩:=g;obtain⟨oi2,H,_⟩:=i;exact P h T ⟨q _ _ (by grind) (by grind) (by grind) (by grind) m,F,K,.inr ⟨T,_,Vm,S,D,fresh _ _ v,fresh _ _ j,fresh _ _ H,fresh _ _ hd⟩⟩ D (fresh _ _ hd) λc o n f=>q c o (λz=>n (by simp[z])) (λz=>n (by simp[z])) (λz=>n (by simp[z])) (λz=>n (by simp[z])) f
 .refine DS v m t g i l b B C (by grind) (by grind) (by grind) (by grind) (by grind) (by grind) (by grind) (by grind) (by grind) λh S F K q=>?_;have dl:d < h.objs.size:=aN (q _ _ (by grind) (by grind) (by grind) hd);have u:∀c o,h.get? c=Y o->(h.push { cls:=.type "tuple",data:=.seq #[x,y] }).get? c=Y o:=λc o e=>aW _ e;refine P _ _ ⟨u _ _ (q _ _ (by grind) (by grind) (by grind) m),?_,?_,.inr ⟨T,Z,Vl,u _ _ S,u _ _ (q _ _ G L N t),G,L,N,t4⟩⟩ (bJ _ rfl) (cD dl) λc o n f=>u _ _ (q c o (λz=>n (by simp[z])) (λz=>n (by simp[z])) (λz=>n (by simp[z])) f)
  .obtain⟨o,e,r⟩:=F;exact⟨o,u _ _ e,r⟩
  .obtain⟨o,e,r⟩:=K;exact⟨o,u _ _ e,r⟩
theorem Jg(u:A.handled=Vk)(p:ZAp d z TI TO j I M l2)(a:K8 d s.heap z TI TO j I M l2 k)(l:s.heap.IsList M xs)(i:xs[k]? = Vk)
  (v:∀h,(∀c o,c ∉ [z,TO,j,I]->s.heap.get? c=Y o->h.get? c=Y o)->Q Vk { s with heap:=h }):wpAny (model prog w) A (pyNext (.ref z)) Q E s:=by
 have S:=p.nd;have H:=p.l1n;simp only[cA,bc,fg,eX,mJ]at S H;refine Fj a.typeIs ?_;obtain⟨r,t,F,y⟩:=a;rcases y with ⟨e,n,g⟩|⟨T,P,K,n,g,B,C,D,G⟩
 .subst e;exact Fp u n r t l i (by grind) (by grind) λh e q n=>by obtain⟨o,b,m⟩:=n;exact⟨e,o,rfl,b,m,v h λc o x f=>q c o (λz=>x (by simp[z])) (λz=>x (by simp[z])) f⟩
 .exact Fo u n r g t l i (by grind) (by grind) λh e q ⟨o,b,m⟩=>⟨e,o,rfl,b,m,v h λc o x f=>q c o (λz=>x (by simp[z])) (λz=>x (by simp[z])) f⟩
end
section
variable{prog:Program}{w:World}{K:Type}[DecidableEq K]{t:KeyKind prog w K}{A:Around}{E:VP}{R:Result->Shared->Prop}
inductive ZipsAt(knd:KeyKind prog w K):LV->LV->List (K×Value)->Prop
 |nil {vs:LV}:ZipsAt knd [] vs []
 |cons {key v:Value}{k:K}{us vs:LV}{kvs:List (K×Value)}:knd.is k key=Vl->ZipsAt knd us vs kvs->ZipsAt knd (key::us) (v::vs) ((k,v)::kvs)
set_option tactic.hygienic true in
theorem AO(hh:A.handled=Vk){u:Heap}(p:ZAp d z TI TO i1 i2 l1 l2)(fr:∀a ∈ [d,z,TI,TO,i1,i2],u.get? a=Vk)(L:u.IsList l1 j)(hl2:u.IsTuple l2 ys) :
  ∀(n:List (K×Value))(i:Nat)(f:List (K×Value))(s:Shared),(∀b o,u.get? b=Y o->s.heap.get? b=Y o)->K8 d s.heap z TI TO i1 i2 l1 l2 i->s.heap.DictOf t d f->ZipsAt t (j.toList.drop i) (ys.toList.drop i) n ->
   ((f++n).map (·.1)).Nodup->(f++n).length≤sizeLine->i+n.length=j.size ->
   (∀l t',(∀b o,u.get? b=Y o->l.get? b=Y o)->l.DictOf t d (f++n)->R (.ok (.ret .none)) { s with heap:=l,toks:=t' }) ->
   codeAny (model prog w) A (.builtin "dict.update.loop" ⟨[.ref d,.ref z,rawInt i,.none],[]⟩) R s:=by
 have nd:=p.nd;simp only[cA,bc,fg,eX,mJ]at nd;have P:∀b o,u.get? b=Y o->b ∉ [d,z,TI,TO,i1,i2]:=λb o e m=>by rw[fr b m]at e;cases e
 have dz:d ∉ [z,TO,i1,i2]:=by simp only[bc,fg,eX,mJ];grind
 intro n;induction n with
 |nil=>
  intro i f s B y hd X N Z hi h;have I:j[i]? = Vk:=by simp at hi ⊢;lia
  have H:s.heap.IsList l1 j:=by obtain⟨o,S,r⟩:=L;exact⟨o,B _ _ S,r⟩
  refine vc F.entry_dict_update_loop ?_;rw[rc F.plain_dict_update_loop _];unfold Builtin.«dict.update.loop»;show wpAny _ A.in1 (pyNext (.ref z) >>= _) _ _ s;refine af (Jg hh p y H I λl D=>?_);show wpAny _ A.in1 (Iw d [] >>= _) _ _ _;rw[eZ]at h;apply af;apply aq;apply aq;refine h l s.toks (λb o e=>D b o (λm=>P b o e (by simp only[bc,fg,eX]at m ⊢;grind)) (B b o e)) ?_;obtain⟨o,c,ep,S,r⟩:=hd;exact⟨o,c,ep,D _ _ dz S,r⟩
 |cons kv n ih=>
  intro i f s B y hd X N Z hi h;have H:s.heap.IsList l1 j:=by obtain⟨o,S,r⟩:=L;exact⟨o,B _ _ S,r⟩
  have M:s.heap.IsTuple l2 ys:=by obtain⟨o,S,r⟩:=hl2;exact⟨o,B _ _ S,r⟩
  generalize er:j.toList.drop i=us at X;generalize c:ys.toList.drop i=vs at X;cases X with
  |cons hk hps=>
   rename_i C v k us' vs';have hx:j[i]? = Y C:=by have:=cE (·[0]?) er;simpa using this
   have hy:ys[i]? = Y v:=by have:=cE (·[0]?) c;simpa using this
   have er':j.toList.drop (i+1)=us':=by rw[<- BS,er];rfl
   have es':ys.toList.drop (i+1)=vs':=by rw[<- BS,c];rfl
   obtain⟨od,ed1,ed2,Q,hdr⟩:=id hd;refine vc F.entry_dict_update_loop ?_;rw[rc F.plain_dict_update_loop _];unfold Builtin.«dict.update.loop»;show wpAny _ A.in1 (pyNext (.ref z) >>= _) _ _ s;refine af (Ft p y Q H M hx hy λW T za g hTd D=>?_);have kp1:∀b o,u.get? b=Y o->W.get? b=Y o:=λb o e=>D b o (λm=>P b o e (by simp only[bc,fg,eX]at m ⊢;grind)) (B b o e);have hd1:W.DictOf t d f:=⟨od,ed1,ed2,D _ _ dz Q,hdr⟩;show wpAny _ A.in1 (holding [Value.ref T] _ >>= _) _ _ _;apply af;apply gR;apply af;apply wpAny_tryCatch;unfold Ix;refine af (rS (T:="tuple") ⟨_,g,rfl⟩ ?_);rw[ac (by decide)];refine af (kP (show W.get? T=Y _ from g) rfl (aq ?_));show wpAny _ A.in1 (holding [C,v] (dictSet d C v)) _ _ _;refine gR ?_;refine wpAny_dictSet_pairs (s:={ s with heap:=W }) hk hd1 (λh2 G V=>?_) (by simp at Z;lia);have hnk:k ∉ f.map (·.1):=by intro hm;rw[ja,BZ]at N;exact N.2.2 _ hm _ (by simp) rfl
   have est:stored f k v=f++[(k,v)]:=by unfold stored;rw[ae];intro E;obtain⟨x,hx1,hx2⟩:=og.mp E;exact hnk (aO.mpr ⟨x,hx1,aR hx2⟩)
   rw[est]at G;refine aq ⟨zj F.plain_dict_update_loop _,?_⟩;have kp2:∀b o,u.get? b=Y o->h2.get? b=Y o:=λb o e=>V.extBut _ _ (λq=>P b o e (by simp[q])) (kp1 b o e);have e1:f++(k,v)::n=(f++[(k,v)])++n:=by simp
   rw[e1]at N Z h;exact ih (i+1) (f++[(k,v)]) { s with heap:=h2,toks:=s.toks+1 } kp2 (za.but p V) G (er' ▸ es' ▸ hps) N Z (by simp at hi;lia) λl t' k1 k2=>h l t' k1 k2
end
section
variable{prog:Program}{w:World}{K:Type}[DecidableEq K]{t:KeyKind prog w K}{A:Around}{E:VP}{s:Shared}
theorem y2(l:s.heap.IsList n I)(e:s.heap.IsTuple q M)
  (h:∀x i a TI TO z,(∀b o,s.heap.get? b=Y o->x.get? b=Y o)->s.heap.objs.size≤i->i < a->a < TI->TI < TO->TO < z->x.IsListIter i n 0->x.IsTupleIter a q 0->gb x TI (.ref i) (.ref a)->gb x TO .none .none ->
   iK x z TI TO .none (.bool Vm)->Q (.ref z) { s with heap:=x }):wpAny (model prog w) A (call (.type "zip") [.ref n,.ref q]) Q E s:=by
 refine callType_new F.called_zip (by decide) (F.typeCall_zip_2 _ _) (F.newCall_zip_2 _ _) (λj=>F.args_object_init_3 j _ _) F.entry_zip_new (Fm n q I M) ⟨l,e,λx i a TI TO z k c m r t p v d u g f=>?_⟩;show _/\_;exact⟨⟨_,f,rfl⟩,h x i a TI TO z k c m r t p v d u g f⟩
theorem ui{k:Heap}(hh:A.handled=Vk)(k0:∀b o,k.get? b=Y o->s.heap.get? b=Y o)(H:k.IsList l1 xs)(S:k.IsTuple l2 ys)
  (i:k.objs.size≤I) (D:I < M) (G:M < TI) (P:TI < TO) (j:TO < z) (b1:s.heap.IsListIter I l1 0) (b2:s.heap.IsTupleIter M l2 0) (b3:gb s.heap TI (.ref I) (.ref M)) (b4:gb s.heap TO .none .none) (y:iK s.heap z TI TO .none (.bool Vm))
  (hp:ZipsAt t xs.toList ys.toList B) (hn:(B.map (·.1)).Nodup) (hz:B.length≤sizeLine) (hi:B.length=xs.size)
  (h:∀d X,(∀b o,k.get? b=Y o->d.get? b=Y o)->d.DictOf t s.heap.objs.size B->Q (.ref s.heap.objs.size) { s with heap:=d,toks:=X }) :
  wpAny (model prog w) A (call (.type "dict") [.ref z]) Q E s:=by
 have fresh:(s.heap.push { cls:=.type "dict",data:=.dict #[] }).DictOf t s.heap.objs.size []:=.new s.heap;have u:∀b o,s.heap.get? b=Y o->(s.heap.push { cls:=.type "dict",data:=.dict #[] }).get? b=Y o:=λb o=>aW _;have q:z < s.heap.objs.size:=aN y;have K:=kt_code_dict_new (prog:=prog) (w:=w) (A:=A.in1) (E:=E) (s:=s) (Value.ref z) (Q₁:=λx z=>x=.ref s.heap.objs.size/\z={ s with heap:=s.heap.push { cls:=.type "dict",data:=.dict #[] } }) ⟨rfl,rfl⟩;apply callType_codes F.kt_called_dict (F.kt_typeCall_dict_1 (.ref z)) F.entry_dict_init K;rintro _ _ ⟨e,e'⟩;subst e e';generalize s.heap.push { cls:=.type "dict",data:=.dict #[] }=h1 at fresh u;refine⟨fresh.typeIs,F.args_dict_init_2 (.ref s.heap.objs.size) (.ref z),?_⟩;unfold Builtin.«dict.__init__» Iz;apply af;apply af;apply wpAny_notOrdered_dict fresh.typeIs;apply aq;show wpAny _ _ (A0 "dict.__init__" s.heap.objs.size (.ref z) [] .none) _ _ _;unfold A0;refine af (rS (T:="zip") ⟨_,u _ _ y,rfl⟩ ?_);rw[ac (by decide)];refine af (DR (u _ _ y) hh λh2 tk k2=>?_);rw[ac (by rfl)];refine af (u_ ?_);have g:∀b o,s.heap.get? b=Y o->h2.get? b=Y o:=λb o e=>k2 b o (u b o e);have R:h2.DictOf t s.heap.objs.size []:=by obtain⟨o,c,ep,ho,r⟩:=fresh;exact⟨o,c,ep,k2 _ _ ho,r⟩
 refine af (wpAny_pyIter_zip (z:=z) (TI:=TI) (TO:=TO) (f0:=.none) (g _ _ y) ?_);refine aq ⟨zj F.plain_dict_update_loop _,?_⟩;have V:l1 < k.objs.size:=by obtain⟨o,e,_⟩:=H;exact aN e
 have W:l2 < k.objs.size:=by obtain⟨o,e,_⟩:=S;exact aN e
 have f:∀{a b n:Nat},a < b->b < n->a < n:=λh d=>mG h d;have N:=f D G;have v:=f N P;have L:=f v j;have Z:=f L q;have c5:=f G P;have c6:=f c5 j;have c7:=f c6 q;have c8:=f P j;have c9:=f c8 q;have ca:=f j q;have low:∀{l n:Nat},l < k.objs.size->k.objs.size≤n->l≠n:=λh d=>bG (bZ h d);have ge:∀n ∈ [s.heap.objs.size,z,TI,TO,I,M],k.objs.size≤n:=λn C=>by
  simp only[bc,fg,eX]at C;rcases C with rfl|rfl|rfl|rfl|rfl|rfl
  .exact bf i (i8 Z)
  .exact bf i (i8 L)
  .exact bf i (i8 N)
  .exact bf i (i8 v)
  .exact i
  .exact bf i (i8 D)
 have p:ZAp s.heap.objs.size z TI TO I M l1 l2:=by refine⟨?_,λm=>low V (ge _ m) rfl,λm=>low W (ge _ m) rfl⟩;simp only[cA,bc,fg,eX,mJ,vM,not_false_eq_true,and_true];exact⟨⟨cD q,cD c9,cD ca,cD Z,cD c7⟩,⟨cD c8,cD j,cD L,cD c6⟩,⟨bG P,cD N,cD G⟩,⟨cD v,cD c5⟩,bG D⟩
 refine AO (A:=A.in1) (t:=t) (u:=k) hh p (λn C=>?_) H S B 0 [] _ (λb o e=>g b o (k0 b o e)) ⟨g _ _ b3,?_,?_,.inl ⟨rfl,g _ _ y,g _ _ b4⟩⟩ R (by simpa using hp) (by simpa using hn) (by simpa using hz) (by lia) λd X q1 q2=>?_
 .cases e:k.get? n with
  |none=>rfl
  |some o=>exact absurd rfl (low (aN e) (ge n C))
 .obtain⟨o,e,r⟩:=b1;exact⟨o,g _ _ e,r⟩
 .obtain⟨o,e,r⟩:=b2;exact⟨o,g _ _ e,r⟩
 .exact⟨rfl,h d X q1 q2⟩
end
end PySem
set_option tactic.hygienic true
namespace Ev
open PySem PySem.Spec PyProof.Rows L2
@[simp] def AM(fa fb:EV)(L:Lc)(S:aM):xF:=cg (fa L S) λx a=>cg (fb L a) λy h=>match x,y with
 | .lst k,.tup v=>match d7 k with
  |some C=>if (C.Nodup/\few k=Vl/\C.length≤v.length) then Y (.ref h.length,h++[.dct C ((v.take C.length).map .p)]) else Vk
  |none=>Vk
 |_,_=>Vk
theorem CC:∀{C:List ci}{s i:LV}{x:List V},bo (C.map kV) s->bo x i->C.length≤x.length->ZipsAt (cH g w) s i (C.zip i)/\L2.KV (C.zip x) (C.zip i)
 | [],_,i,x,h,_,_=>by cases h;exact⟨.nil,.nil⟩
 |k::C,_,_,[],h,_,l=>absurd l (by simp)
 |k::C,_,_,y::x,h,e,l=>by
  cases h with
  |cons r t=>
   cases e with
   |cons n f=>obtain⟨a,b⟩:=CC (g:=g) (w:=w) t f (by simpa using l);exact⟨.cons (p9 r) a,.cons ⟨rfl,n⟩ b⟩
theorem pi:∀{xs:List L}{ys:List n},xs.length≤ys.length->(xs.zip ys).map (·.1)=xs/\(xs.zip ys).map (·.2)=ys.take xs.length
 | [],ys,_=>by simp
 |x::xs,[],h=>absurd h (by simp)
 |x::xs,y::ys,h=>by obtain⟨a,b⟩:=pi (xs:=xs) (ys:=ys) (by simpa using h);simp[a,b]
section
variable{X:Cx}{a b:Expr}{fa fb:EV}{p G N v:Pos}
theorem L7(hc:X.c=Vl)(gd:Gl X "dict")(md:X.g "dict"=Vk)(gz:Gl X "zip")(mz:X.g "zip"=Vk)(ha:PE X a (tV X.K fa))(hb:PE X b (tV X.K fb))(hs:starEach [a,b] X.e=[(Vm,eval a X.e),(Vm,eval b X.e)])(W:starEach [b] X.e=[(Vm,eval b X.e)])(hz:bootBuiltins "zip"=Y (.type "zip")) :
  PE X (.Call (.Name "dict" p) [.Call (.Name "zip" G) [a,b] [] v] [] N) (tE X.K (AM fa fb)):=by
 intro pins s J H Q I ⟨F,m,L,S,d,S',r,l,q,k⟩;obtain⟨x,S1,e1,q⟩:=ak q;obtain⟨y,S2,e2,q⟩:=ak q;have hh:X.A.handled=Vk:=I.o.hd hc;refine nw (nD I gd md I_ ?_ (by decide) (by decide));refine nU (iy ?_) rfl rfl;refine nw (nD I gz mz hz ?_ (by decide) (by decide));refine nU ?_ (by rw [hs,W]) (by rw [W];rfl);rw [hs];refine iy (dO (ha pins s J H (fun h g=>∃n P,Stp F m H n P g/\Rel X.K n g P S1/\RP X.K n g x h) I ⟨F,m,L,S,x,S1,r,l,e1,fun h n P g s1 r1 p1=>⟨n,P,s1,r1,p1⟩⟩) fun u s1 ⟨h,g,I1,ru,n,P,uC,r1,p1⟩=>
  iy (dO (hb pins s1 J g (λh B=>∃f D,Stp n P g f D B/\Rel X.K f B D S2/\RP X.K f B y h) I1 ⟨n,P,L,S1,y,S2,r1,l.mono uC,e2,λh f D B E r2 G=>⟨f,D,E,r2,G⟩⟩) λu2 E ⟨v2,B,M,ru2,f,D,st2,r2,G⟩=>kR ?_))
 cases x with
 |lst ks=>
  cases y with
  |tup vs=>
   dsimp only at q;cases ek:d7 ks with
   |none=>rw[ek]at q;cases q
   |some C=>
    rw[ek]at q;dsimp only at q;split at q
    .rename_i c;cases q;obtain⟨ax,xs,rfl,hq,rp⟩:=RP.mono st2 p1;obtain⟨ay,ys,rfl,ta,rq⟩:=G;cases (show u=Value.ref ax from ru);cases (show u2=Value.ref ay from ru2);obtain⟨z1,Z,n1,rx,V,ex⟩:=M.lstM hq.2;obtain⟨i,ry,ity,hzy⟩:=M.tuple ta.sq;have exs:=kt ek rp;subst exs;have K:C.length≤ys.length:=by rw[<- rq.length];exact c.2.2
     obtain⟨za,zk⟩:=CC (g:=X.p) (w:=X.w) rx ry K;have hl2:C.length≤i.length:=by rw[<- ry.length];exact K
     obtain⟨zf1,zf2⟩:=pi (xs:=C) (ys:=ys) K;obtain⟨A,_⟩:=pi (xs:=C) (ys:=i) hl2;have R:(C.zip i).length=Z.toArray.size:=by have:=cE oe A;rw[aH]at this;rw[this,bv,<- V,aH]
     have hkz:(C.zip i).length≤sizeLine:=by rw[R,bv,<- V];exact z1
     have T:E.heap.IsList ax Z.toArray:=⟨_,ex,rfl,n1,rfl⟩;refine y2 T ity λe i1 i2 TI TO z k0 a1 a2 a3 a4 a5 b1 b2 b3 b4 b5=>kR ?_;refine ui (t:=cH X.p X.w) (s:={ E with heap:=e }) (k:=E.heap) hh k0 T ity a1 a2 a3 a4 a5 b1 b2 b3 b4 b5 (by simpa using za) (by rw[A];exact c.1) hkz R λh'' t' k1 dd=>?_;have j:E.heap.objs.size≤e.objs.size:=i8 (kS a1 (mG a2 (mG a3 (mG a4 (mG a5 (aN b5))))));have hf:B e.objs.size=Vk:=M.h.fresh j;have hsm:(e.objs.size == sysModules)=Vm:=by have:=M.big;simp only[jL];exact cD (bZ this j)
     have hkv:(C.zip ys).length≤sizeLine:=by have e1:=cE oe zf1;have e2:=cE oe A;rw[aH]at e1 e2;lia
     have I3:=M.laid (a:=e.objs.size) (o:=.dK (C.zip ys)) (t':=t') k1 j ⟨hkv,hsm,_,zk,dd⟩;refine⟨.ref e.objs.size,_,I3,rfl,k (.ref e.objs.size) f (D++[e.objs.size]) _ (uC.trans (st2.trans (fJ hf))) (r2.own hf ⟨_,aV,zf1,?_⟩) ⟨e.objs.size,rfl,?_⟩⟩
     .rw [zf2,qS];exact(dR.mono (fJ hf) (dR.ofP rq)).take _
     .rw [<- r2.len,c_ (az _)];simp
    .cases q
  |_=>cases q
 |_=>cases y<;>cases q
end
end Ev
namespace Ev
open PySem PySem.Spec PyProof.Rows L2
noncomputable def NG:P->Bool
 | .tup _=>Vl
 |_=>Vm
def eP(k:P):Bool:=NG k && (d9 8 k && Nk.kd (pd k))
noncomputable def pH(d:D)(S:aM):Option (Nat×List P×List D):=match d with
 | .ref i=>match S[i]? with
  |some (.dtn k v)=>Y (i,k,v)
  |_=>Vk
 |_=>Vk
theorem rD(h:pH d S=Y (i,k,r)):d=.ref i/\S[i]? = Y (.dtn k r):=by
 unfold pH at h;split at h
 .split at h
  .cases h;exact⟨rfl,by assumption⟩
  .cases h
 .cases h
def sW(k:P)(s:List P):Bool:=s.any λq=>de (pd q) (pd k)
def RC(d c:D)(S:aM):Option Bool:=match d,pH c S with
 | .p k,Y (_,s,_)=>if (eP k && s.all eP)=Vl then Y (sW k s) else Vk
 |_,_=>Vk
def lj(d c:D)(S:aM):Option P:=(RC d c S).map λb=>.bl (!b)
section
variable{X:Cx}{pins:PN}{J:L2.St}{H:Hp}{s:Shared}{F:Aa}
theorem wV(I:Inv X pins J H s)(g:eP k=Vl)(r:RP X.K F H k y):pW s.heap (pd k) y:=by
 unfold eP at g;simp only[ar]at g;obtain⟨t,o,h⟩:=g;cases k with
 |tup e=>obtain⟨b,z,rfl,x⟩:=r;obtain⟨a,d⟩:=jo I 8 (p:=.tup e) (v:=.ref b) (u:=.ref b) ⟨b,z,rfl,x⟩ rfl o;exact⟨b,rfl,h,(fM 8 _ o).2,a,d⟩
 |_=>cases t
theorem rH(I:Inv X pins J H s):∀{kvs:List (PyData×V×V)}{h:List P},h.all eP=Vl->kvs.map (·.1)=jG h->cN X.K F H h (kvs.map (·.2.1))->∀p ∈ kvs,pW s.heap p.1 p.2.1
 | [],_,_,_,_,_,a=>nomatch a
 |q::kvs,h,g,e,r,p,a=>by
  cases h with
  |nil=>cases r
  |cons k h=>
   rw[mL,ar]at g;rw[aC,jG]at e;injection e with n f;obtain⟨x,v,b,c,m⟩:=r;injection b with z t;subst z t;rcases bc.mp a with rfl|a
   .rw [n];exact wV I g.1 c
   .exact rH I g.2 f m p a
theorem kA(g:eP k=Vl):Nk.kd (pd k)=Vl:=by unfold eP at g;simp only[ar]at g;exact g.2.2
theorem AG(g:eP k=Vl):∀{kvs:List (PyData×V×V)}{ks:List P},ks.all eP=Vl->kvs.map (·.1)=jG ks->AH kvs (pd k)=sW k ks
 | [],ks,_,e=>by
  cases ks with
  |nil=>rfl
  |cons _ _=>cases e
 |q::kvs,ks,h,e=>by
  cases ks with
  |nil=>cases e
  |cons p ks=>rw[mL,ar]at h;rw[aC,jG]at e;injection e with e1 e2;have ih:=AG g h.2 e2;unfold AH sW at ih ⊢;rw[eY,eY,ih,e1];congr 1;rw[k5,Nk.eqv_kd _ _ (kA h.1) (kA g),vI]
theorem NI(h:RC d r S=Y b):∃k i s v,d=.p k/\pH r S=Y (i,s,v)/\eP k=Vl/\s.all eP=Vl/\b=sW k s:=by
 unfold RC at h;split at h
 .split at h
  .rename_i e c;rw[ar]at c;cases h;exact⟨_,_,_,_,rfl,e,c.1,c.2,rfl⟩
  .cases h
 .cases h
end
section
variable{X:Cx}
theorem GN(B:X.A.units+64 < cLine):jZ X (compareOp .NotIn) (rE X.K lj):=by
 intro pins s J H x y v u Q I P A h;obtain⟨F,m,S,d,e,r,K,px,py,q,k⟩:=h;unfold lj at q;obtain⟨b,w,rfl⟩:=eE.mp q;obtain⟨l,i,C,E,rfl,o,g,f,rfl⟩:=NI w;obtain⟨rfl,t⟩:=rD o;obtain⟨a,rfl,j⟩:=py;obtain⟨kvs,p,n,z,_⟩:=K.obj i a _ j t;cases A;refine Kl (by lia) I p (rH I f n z) (wV I g px) P λD c=>⟨.bl _,H,c,rfl,?_⟩
 rw[AG g f n];exact k _ F H .refl rfl
end
section
variable{X:Cx}{f c:Pos}{o i n:Expr}{B:EE}{C M:EV}{j G L:TE}
def PL(X:Cx)(j G L:TE):TS:=λD J H=>L J H λv e=>j J e λx n=>G J n λy h=>∃a kvs d,x=.ref a/\h a=Y (.dN kvs)/\(∀pins s,Inv X pins J h s->pW s.heap d y/\∀p ∈ kvs,pW s.heap p.1 p.2.1)/\AH kvs d=Vm/\kvs.length < sizeLine/\D.nx J (cG h a (.dN (kvs++[(d,y,v)])))
theorem JV(A:X.A.units+9 < cLine)(K:PE X o j)(S:PE X i G)(B:PE X n L)(P:swapsWith n (Y (.Subscript o i c)) f.line X.e=pure Vm):PS X (.Assign [.Subscript o i c] n f) (PL X j G L):=by intro pins s J H D I h;refine E6 (dO (B pins s J H _ I h) λr W ⟨v,b,t,R,M⟩=>dO (K pins W J b _ t M) λu Z ⟨x,m,p,T,N⟩=>dO (S pins Z J m _ p N) λiv s3 C=>?_) P;obtain⟨y,H3,k,V,a,kvs,d,w,e,g,E,F,Q⟩:=C;subst w;obtain rfl:u=Value.ref a:=T;obtain⟨l,z⟩:=g pins s3 k;exact Qr A k e z l V R E F λs4 q=>⟨J,_,q,Q⟩
def x2(o:EE)(k v:EV):ES:=λL S=>cg (v L S) λy x=>cg (o L x) λd a=>cg (k L a) λe h=>match pH d h with
 |some (i,s,n)=>if (eP e && (s.all eP && (few s && !sW e s)))=Vl then Y (.nx,L,h.set i (.dtn (s++[e]) (n++[.p y]))) else Vk
 |none=>Vk
theorem yb(k:P):∀s:List P,jG (s++[k])=jG s++[pd k]
 | []=>rfl
 |x::s=>by rw[mM,jG,jG,yb k s,mM]
theorem OL(hu:X.A.units+9 < cLine)(ho:PE X o (tE X.K B))(hk:PE X i (tV X.K C))(hv:PE X n (tV X.K M))(hs:swapsWith n (Y (.Subscript o i c)) f.line X.e=pure Vm) :
  PS X (.Assign [.Subscript o i c] n f) (pa X.K (x2 B C M)):=(JV hu ho hk hv hs).imp' λD J H hz=>by
 obtain⟨F,m,L,S,fl,L',S',r,l,q,k⟩:=hz;obtain⟨y,R,e1,q⟩:=ak q;obtain⟨d,T,e2,q⟩:=ak q;obtain⟨e,V,e3,q⟩:=ak q;refine⟨F,m,L,S,y,R,r,l,e1,λv G m1 H1 h r1 p1=>?_⟩;refine⟨G,m1,L,R,d,T,r1,l.mono h,e2,λx F2 m2 H2 b r2 p2=>?_⟩;refine⟨F2,m2,L,T,e,V,r2,(l.mono h).mono b,e3,λP N m3 Q p A p3=>?_⟩;cases u:pH d V with
 |none=>rw[u]at q;cases q
 |some t=>
  obtain⟨j,ks,vs⟩:=t;rw[u]at q;dsimp only at q;split at q
  .rename_i hc;simp only[ar,k6]at hc;obtain⟨W,Z,g3,g4⟩:=hc;cases q;obtain⟨rfl,g⟩:=rD u;obtain⟨a,rfl,K⟩:=RD.mono p p2;obtain⟨kvs,hH,w,E,rs⟩:=A.obj j a _ K g;have nt:∀zs,Q a≠Y (.tup zs):=λzs z=>by rw[hH]at z;cases z
   have st:=gZ (o:=.dN (kvs++[(pd e,P,v)])) A K g trivial nt;have pv:=RD.mono st (RD.mono p (RD.mono b (show RD X.K G H1 m1 (.p y) v from p1)));have pk:RP X.K N (cG Q a (.dN (kvs++[(pd e,P,v)]))) e P:=RP.kp st.kp p3;have hl:kvs.length < sizeLine:=by have h9:ks.length≤1000000:=aR g3;have h8:=E.length;rw[aH]at h8;exact kS (by lia) (show(1000000:Nat) < sizeLine by decide)
   refine⟨a,kvs,pd e,rfl,hH,λpins s I=>⟨wV I W p3,rH I Z w E⟩,(AG W Z w).trans g4,hl,?_⟩;refine k J N m3 _ (h.trans (b.trans (p.trans st))) (A.set K g trivial nt ⟨_,aV,?_,?_,?_⟩) ((((l.mono h).mono b).mono p).mono st)
   .rw [ja,w,yb];rfl
   .rw [ja];exact cN.append (cN.kp st.kp E) ⟨_,_,rfl,pk,rfl⟩
   .rw [ja];exact dR.append (dR.mono st rs) ⟨_,_,rfl,pv,rfl⟩
  .cases q
end
def TC(x c:P):Option Bool:=match c with
 | .lst s=>if (s.all (d9 19) && d9 19 x)=Vl then Y (s.any λy=>de (pd y) (pd x)) else Vk
 | .tup s=>if (s.all (d9 19) && d9 19 x)=Vl then Y (s.any λy=>de (pd y) (pd x)) else Vk
 |_=>Vk
def Qv(d c:D)(S:aM):Option Bool:=(g6 S 9 d).bind λx=>(g6 S 9 c).bind λy=>TC x y
def yE(d c:D)(S:aM):Option P:=(nh c S).elim ((Qv d c S).map .bl) λ_=>NP d c S
def w5(d c:D)(S:aM):Option P:=(Qv d c S).map λb=>.bl (!b)
section
variable{X:Cx}{pins:PN}{J:L2.St}{H:Hp}{s:Shared}{F:Aa}{m:List Addr}{S:aM}{d e:D}{x y:V}{v u:Value}{b:Bool}{Q:VK}
theorem Hk(o:X.A.units+64 < cLine)(I:Inv X pins J H s)(p:RelV x v)(w:RelV y u)(t:Rel X.K F H m S)(px:RD X.K F H m d x)(py:RD X.K F H m e y)(q:Qv d e S=Y b) :
  (Q (.bl b) H->wx X (compareOp .In v u) (EP X pins J Q) X.xe s)/\(Q (.bl (!b)) H->wx X (compareOp .NotIn v u) (EP X pins J Q) X.xe s):=by
 unfold Qv at q;cases f:g6 S 9 d with
 |none=>rw[f]at q;cases q
 |some K=>
  rw[f]at q;cases c:g6 S 9 e with
  |none=>rw[c]at q;cases q
  |some j=>
   rw[c]at q;simp only[eD]at q;cases j with
   |lst z=>
    simp only[TC]at q;split at q
    .rename_i h;rw[ar]at h;cases q;obtain⟨g,r⟩:=fA I t 9 20 py w c (by simpa[d9] using h.1);obtain⟨i,n⟩:=fA I t 9 19 px p f h.2;have l:=GQ h.1;have a:=fM 19 _ h.2;rw[pd]at r;exact⟨λk=>SeqAt.in_list_reads r n l.1 a.1 (by lia) ⟨.bl _,H,I,rfl,by rw[oG];exact k⟩,λk=>SeqAt.notIn_list_reads r n l.1 a.1 (by lia) ⟨.bl _,H,I,rfl,by rw[oG];exact k⟩⟩
    .cases q
   |tup z=>
    simp only[TC]at q;split at q
    .rename_i h;rw[ar]at h;cases q;obtain⟨g,r⟩:=fA I t 9 20 py w c (by simpa[d9] using h.1);obtain⟨i,n⟩:=fA I t 9 19 px p f h.2;have l:=GQ h.1;have a:=fM 19 _ h.2;rw[pd]at r;exact⟨λk=>SeqAt.in_tuple_reads r n l.1 a.1 (by lia) ⟨.bl _,H,I,rfl,by rw[oG];exact k⟩,λk=>SeqAt.notIn_tuple_reads r n l.1 a.1 (by lia) ⟨.bl _,H,I,rfl,by rw[oG];exact k⟩⟩
    .cases q
   |_=>cases q
end
section
variable{X:Cx}
theorem Qi(n:X.A.units+64 < cLine):jZ X (compareOp .In) (rE X.K yE):=by
 intro pins s J H x y v u Q I f c h;obtain⟨F,m,S,d,e,r,l,px,py,q,k⟩:=h;unfold yE at q;cases a:nh e S with
 |some p=>rw[a]at q;exact Qh n pins s J H x y v u Q I f c ⟨F,m,S,d,e,r,l,px,py,q,k⟩
 |none=>rw[a]at q;obtain⟨b,t,rfl⟩:=eE.mp (show(Qv d e S).map P.bl=Y r from q);exact(Hk n I f c l px py t).1 (k _ F H .refl rfl)
theorem GO(n:X.A.units+64 < cLine):jZ X (compareOp .NotIn) (rE X.K w5):=by intro pins s J H x y v u Q I f c h;obtain⟨F,m,S,d,e,r,l,px,py,q,k⟩:=h;unfold w5 at q;obtain⟨b,a,rfl⟩:=eE.mp q;exact(Hk n I f c l px py a).2 (k _ F H .refl rfl)
end
end Ev
namespace L2
open PySem PySem.Spec PyProof.Rows
noncomputable def Ov(kvs:List (PyData×V×V))(d:PyData):Option V:=(kvs.find? λp=>decide (p.1=d)).map (·.2.2)
theorem KN.look(r:KN kvs k)(h:Ov kvs d=Y v):∃p,atKey k d=Y p/\RelV v p.2:=by
 induction r with
 |nil=>cases h
 | @cons p q f qs a t i=>
  unfold Ov at h;by_cases e:p.1=d
  .have x:q.1=d:=a.1.symm.trans e;rw[B7 (by simpa using e)]at h;cases h;exact⟨q.2,by simp[atKey,iC,x],a.2.2⟩
  .have x:¬q.1=d:=λz=>e (a.1.trans z);rw[v9 (by simpa using e)]at h;obtain⟨z,s,n⟩:=i h;exact⟨z,by rw[<- s];simp[atKey,iC,x],n⟩
section
variable{X:Cx}{pins:PN}{J:St}{H:Hp}{s:Shared}{a:Addr}{d:PyData}{y v:V}{u:Value}{A:Around}{E:VP}{kvs:List (PyData×V×V)}
theorem Qs(hu:A.units+9 < cLine)(I:Inv X pins J H s)(e:H a=Y (.dN kvs))(ks:∀p ∈ kvs,pW s.heap p.1 p.2.1)(ky:pW s.heap d y)(ry:RelV y u)(hl:Ov kvs d=Y v)
  (h:∀w s',Inv X pins J H s'->RelV v w->Q w s'):wpAny (model X.p X.w) A (getItem (.ref a) u) Q E s:=by
 obtain⟨b,rfl,k⟩:=ky;cases (show u=Value.ref b from ry);obtain⟨z,hd,xs,rel,dd⟩:=HH I.h e ks;obtain⟨p,e1,e2⟩:=rel.look hl;exact EU (knd:=Nk.nest X.p X.w) (show(A.in1).units+8 < cLine by rw[q_];lia) k dd e1 (h _ _ (I.tok _) e2)
theorem Kw(t:X.A.units+9 < cLine):EN X (λx y H Q=>∃a kvs d v,x=.ref a/\H a=Y (.dN kvs)/\(∀pins J s,Inv X pins J H s->pW s.heap d y/\∀p ∈ kvs,pW s.heap p.1 p.2.1)/\Ov kvs d=Y v/\Q v H):=by intro n l pins s J H x y v u Q I j z h r;obtain⟨a,kvs,d,w,rfl,hk,g,m,q⟩:=h;cases j;obtain⟨b,c⟩:=g pins J s I;obtain⟨_,_,_,_,o,_,_,e,f,_⟩:=I.h a _ hk;exact nT ⟨o,e,f.1⟩ zv.lookup (Qs t I hk c b z m λF S k i=>⟨w,H,k,i,q⟩) r
def Ms:TE:=λ_ H Q=>∀p,H p=Vk->Q (.ref p) (cG H p (.dN []))
end
end L2
namespace Ev
open PySem PySem.Spec PyProof.Rows L2
def sO(k:P):List P->List D->Option D
 |q::s,v::h=>if de (pd q) (pd k)=Vl then Y v else sO k s h
 |_,_=>Vk
@[simp] def yP(o:EE)(k:EV)(L:Lc)(S:aM):xF:=cg (o L S) λd x=>cg (k L x) λe h=>(pH d h).elim Vk λz=>if (eP e && z.2.1.all eP)=Vl then (sO e z.2.1 z.2.2).map λv=>(v,h) else Vk
theorem Di{K:FG}{F:Aa}{H:Hp}{m:List Addr}{k:P}{v:D}(g:eP k=Vl):∀{kvs:List (PyData×V×V)}{ks:List P}{vs:List D},ks.all eP=Vl->kvs.map (·.1)=jG ks->dR K F H m vs (kvs.map (·.2.2))->sO k ks vs=Y v->∃w,Ov kvs (pd k)=Y w/\RD K F H m v w
 | [],ks,vs,_,e,r,h=>by
  cases ks with
  |nil=>cases h
  |cons _ _=>cases e
 |q::kvs,ks,vs,gs,e,r,h=>by
  cases ks with
  |nil=>cases e
  |cons p ks=>
   cases vs with
   |nil=>cases h
   |cons d vs=>
    rw[mL,ar]at gs;rw[aC,jG]at e;injection e with e1 e2;obtain⟨x,r',er,r1,r2⟩:=r;injection er with z1 z2;subst z1 z2;have iff:de (pd p) (pd k)=decide (q.1=pd k):=by rw[e1,k5,Nk.eqv_kd _ _ (kA gs.1) (kA g),vI]
    unfold sO at h;unfold Ov;rw[iff]at h;by_cases hq:q.1=pd k
    .rw [ac (eF hq)]at h;cases h;rw[B7 (by simpa using hq)];exact⟨_,rfl,r1⟩
    .rw [ae (by simpa using hq)]at h;rw[v9 (by simpa using hq)];exact Di g gs.2 e2 r2 h
section
variable{X:Cx}{f:Pos}{o i:Expr}{B:EE}{C:EV}
theorem Si(hu:X.A.units+9 < cLine)(ho:PE X o (tE X.K B))(hk:PE X i (tV X.K C))(hs:mX i):PE X (.Subscript o i f) (tE X.K (yP B C)):=
 (C6 (Kw hu) ho hk hs).imp' λJ H Q hz=>by
  obtain⟨F,m,L,S,d,N,r,l,q,k⟩:=hz;obtain⟨x,u,R,q⟩:=ak q;obtain⟨e,n,T,q⟩:=ak q;refine⟨F,m,L,S,x,u,r,l,R,λv E m1 H1 A r1 p1=>?_⟩;refine⟨E,m1,L,u,e,n,r1,l.mono A,T,λy G m2 M D P p2=>?_⟩;cases b:pH x n with
  |none=>rw[b]at q;cases q
  |some t=>
   obtain⟨j,K,vs⟩:=t;rw[b]at q;replace q:(if (eP e && K.all eP)=Vl then (sO e K vs).map λv=>(v,n) else Vk)=Y (d,N):=q;split at q
   .rename_i h;rw[ar]at h;obtain⟨z,V,q⟩:=eE.mp q;cases q;obtain⟨rfl,c⟩:=rD b;obtain⟨a,rfl,hm⟩:=RD.mono D p1;obtain⟨kvs,Z,g,rk,rs⟩:=P.obj j a _ hm c;obtain⟨w,W,p⟩:=Di h.1 h.2 g rs V;exact⟨a,kvs,pd e,w,rfl,Z,λpins J s I=>⟨wV I h.1 p2,rH I h.2 g rk⟩,W,k w G m2 M (A.trans D) P p⟩
   .cases q
end
theorem GA:PE X (.Dict [] [] f) Ms:=λpins s J H Q I h=>
 zu ⟨.ref s.heap.objs.size,_,I.laid (a:=s.heap.objs.size) (o:=.dN []) (t':=s.toks) (λ_ _ q=>aW _ q) (az _) (HI s.heap I.big),rfl,h _ (I.h.fresh (az _))⟩
@[simp] def AN(_L:Lc)(S:aM):xF:=Y (.ref S.length,S++[.dtn [] []])
theorem L8:PE X (.Dict [] [] f) (tE X.K AN):=GA.imp' λJ H Q z=>by obtain⟨F,m,L,S,d,x,r,l,q,k⟩:=z;cases q;intro p h;refine k (.ref p) F (m++[p]) _ (fJ h) (r.own h ⟨[],aV,rfl,rfl,rfl⟩) ⟨p,rfl,?_⟩;rw[<- r.len,c_ (az _)];simp
noncomputable def LO:P->Option (List P)
 | .lst x=>Y x
 | .tup x=>Y x
 |_=>Vk
@[simp] def HF(a:EV)(L:Lc)(S:aM):xF:=cg (a L S) λv h=>(LO v).map λx=>(.ref h.length,h++[.lst (x.map .p)])
section
variable{X:Cx}
theorem L4{a:Expr}{t:EV}{p f:Pos}(C:Gl X "list")(D:X.g "list"=Vk)(B:PE X a (tV X.K t))(i:starEach [a] X.e=[(Vm,eval a X.e)]):PE X (.Call (.Name "list" p) [a] [] f) (tE X.K (HF t)):=
 (kn lu C D vr (fK B ie (by rw[i];rfl)) (by decide) (by decide) (by rw[i];rfl) rfl).imp' λJ H Q z=>by
  obtain⟨F,m,L,S,d,E,r,l,q,k⟩:=z;obtain⟨x,K,A,q⟩:=ak q;obtain⟨G,u,q⟩:=eE.mp q;cases q;refine⟨F,m,L,S,x,K,r,l,A,λv h e c o w j=>?_⟩;cases x with
  |lst P=>cases u;obtain⟨a,y,rfl,ta,g⟩:=j;refine⟨a,y,rfl,.inl ta.sq,λb s=>?_⟩;have n:Stp h e c h (e++[b]) (cG c b (.lst y)):=fJ s;refine k (.ref b) h (e++[b]) _ (o.trans n) (w.own s ⟨y,aV,dR.ofP (cN.mono n g)⟩) ⟨b,rfl,?_⟩;rw[<- w.len,c_ (az _)];simp
  |tup P=>cases u;obtain⟨a,y,rfl,ta,g⟩:=j;refine⟨a,y,rfl,.inr ta.sq,λb s=>?_⟩;have n:Stp h e c h (e++[b]) (cG c b (.lst y)):=fJ s;refine k (.ref b) h (e++[b]) _ (o.trans n) (w.own s ⟨y,aV,dR.ofP (cN.mono n g)⟩) ⟨b,rfl,?_⟩;rw[<- w.len,c_ (az _)];simp
  |_=>cases u
end
section
variable{X:Cx}{a:Expr}{t:EE}{p f:Pos}
end
end Ev
namespace PySem
open PySem PyProof.Rows
section
variable{l:Program}{w:World}{A:Around}{E:VP}{s:Shared}
theorem EG.obj(x:EG k h a q):∃o,h.get? a=Y o/\(o.cls=.type "tuple"\/o.cls=.type "list")/\∀s,s.get? a=Y o->EG k s a q:=by
 cases k
 .obtain⟨o,e,c,r⟩:=x;exact⟨o,e,.inr c,λs n=>⟨o,n,c,r⟩⟩
 .obtain⟨o,e,c,r⟩:=x;exact⟨o,e,.inl c,λs n=>⟨o,n,c,r⟩⟩
theorem Ds(n:A.handled=Vk)(t:zc q s.heap r h i)(f:EG q s.heap h k)(b:k[i]? = Vk)
  (a:∀x e,qR r s.heap x->(∃o,x.get? e=Y o/\o.cls=.type "StopIteration")->E (.ref e) { s with heap:=x }):wpAny (model l w) A (gj (.ref r)) Q E s:=by
 cases q
 .exact zx n t f b a
 .exact ww n t f b a
theorem NU(u:A.handled=Vk)(a t:Addr)(n:t≠a)(e:Array Value):Draws l w A a [a,t] e.size (λi v=>e[i]? = Y v) (λi h=>zc z h a t i/\EG z h t e) where
 live:=λ_ _ st=>by obtain⟨o,k,_⟩:=st.1.obj;exact⟨o,k⟩
 frame:=λ_ _ _ st hk=>by obtain⟨o,k,_,r⟩:=st.1.obj;obtain⟨g,f,_,j⟩:=st.2.obj;exact⟨r _ (hk a (by simp) o k),j _ (hk t (by simp) g f)⟩
 item:=λi s Q E b st d=>yq st.1 st.2 (x:=e[i]) (by simp[b]) λp c m=>d _ p s.toks (by simp[b]) ⟨c,st.2.extBut m.extBut n⟩ m
 done:=λs Q E st q=>Ds u st.1 st.2 (by simp) q
theorem Et(n:A.handled=Vk)(b:g[k]? = Vk):Draws l w A z [z,q] k (λ_ _=>True) (λj h=>j=k/\zc I h z q k/\EG I h q g) where
 live:=λ_ _ st=>by obtain⟨o,x,_⟩:=st.2.1.obj;exact⟨o,x⟩
 frame:=λ_ _ _ st hk=>by obtain⟨o,x,_,r⟩:=st.2.1.obj;obtain⟨c,a,_,m⟩:=st.2.2.obj;exact⟨st.1,r _ (hk z (by simp) o x),m _ (hk q (by simp) c a)⟩
 item:=λi s Q E f st _=>absurd st.1 (bG f)
 done:=λs Q E st e=>Ds n st.2.1 st.2.2 b e
theorem FT(t:EG r h a k)(e:h.get? b=Y o)(n:o.cls≠.type "tuple")(s:o.cls≠.type "list"):b≠a:=λz=>by obtain⟨f,x,c,_⟩:=t.obj;rw[<- z,e]at x;cases x;exact c.elim n s
theorem Ky(x:zc q h r k i):∃o,h.get? r=Y o/\o.cls≠.type "tuple"/\o.cls≠.type "list":=by
 cases q
 .obtain⟨o,e,c,_⟩:=x;exact⟨o,e,by rw[c];decide,by rw[c];decide⟩
 .obtain⟨o,e,c,_⟩:=x;exact⟨o,e,by rw[c];decide,by rw[c];decide⟩
theorem Es (t:Addr) (q:Array Value):Meets (Builtin.«enumerate.__new__» ⟨[.type "enumerate",.ref t],[]⟩) (fun _ R s=>s.heap.IsTuple t q /\
  ∀e,IsEnum e (s.heap.objs.size+1) s.heap.objs.size 0 .none->e.IsTupleIter s.heap.objs.size t 0->e.objs.size=s.heap.objs.size+2->(∀b o,s.heap.get? b=Y o->e.get? b=Y o)->R (.ok (.ret (.ref (s.heap.objs.size+1)))) { s with heap:=e }):=
 .of_wp λl w A R s h=>by
  obtain⟨p,g,d,S,os⟩:=s;obtain⟨r,h⟩:=h;have u:=sub_enumerate;obtain⟨⟨F,j,y,H⟩,a,k,n,hd⟩:=id r;dsimp only at k hd;subst k hd;have hT:BK (Shared.heap ⟨p,g,d,S,os⟩) t q:=r
  wp_walk using ve a
  let m:Obj:={ cls:=.type "tuple_iterator",data:=.fields #[.ref t,.int 0 0] }
  let i:Obj:={ cls:=.type "enumerate",data:=.fields #[.none,.bool Vm,.ref p.objs.size,rawInt 0,.none,.none] }
  have z:(p.push m).objs.size=p.objs.size+1:=nY ..;have v:IsEnum ((p.push m).push i) (p.objs.size+1) p.objs.size 0 .none:=by rw[<- z];exact bJ _ rfl
  have f:=h _ v ⟨_,aW _ (bJ _ rfl),rfl,rfl⟩ ((nY ..).trans (by rw[z])) λb o x=>aW _ (aW _ x);rw[show Array.size p.objs+1=(p.push m).objs.size from z.symm]at f;apply wpAny_stack_any;intro st;apply aq;split
  .rename_i c _ _ _ _ _;rcases c == Value.type "enumerate" with _|_;all_goals
    wp_walk using ve a,vd hT
    exact⟨_,rfl,f⟩
  .wp_walk using ve a,vd hT
   exact⟨_,rfl,f⟩
theorem AV(t:s.heap.IsTuple k r)
  (h:∀x,IsEnum x (s.heap.objs.size+1) s.heap.objs.size 0 .none->x.IsTupleIter s.heap.objs.size k 0->x.objs.size=s.heap.objs.size+2->(∀b o,s.heap.get? b=Y o->x.get? b=Y o)->Q (.ref (s.heap.objs.size+1)) { s with heap:=x }) :
  wpAny (model l w) A (call (.type "enumerate") [.ref k]) Q E s:=callType_new F.called_enumerate (by decide) (F.typeCall_enumerate_1 _) (F.newCall_enumerate_1 _) (λj=>F.args_object_init_2 j _) F.entry_enumerate_new (Es k r) ⟨t,λx e i z hk=>⟨⟨_,e,rfl⟩,h x e i z hk⟩⟩
end
end PySem
namespace Ev
open PySem PySem.Spec PyProof.Rows L2
section
variable{X:Cx}{f:Pos}
def OH(t:Bool)(K:FG)(H:Hp)(a:Addr)(x:List V):Prop:=if t=Vl then nu K H a x else lB K H a x
theorem Ub(I:Inv X pins J H s)(h:OH k X.K H a q):(∃i,bo q i/\EG k s.heap a i.toArray)/\∀y,OH k X.K H a y->y=q:=by
 cases k
 .obtain⟨i,r,p,_⟩:=I.list h;exact⟨⟨i,r,p.isList⟩,λy x=>I.list_inj x h⟩
 .obtain⟨i,r,p,_⟩:=I.tuple h;exact⟨⟨i,r,p⟩,λy x=>I.tuple_inj x h⟩
def Ol(t:Bool)(K:FG)(a:Addr):It:=
 ⟨λi H=>∃s x,OH t K H a s/\s[i]? = Y x,λi H x h=>∃p y,x=.ref p/\H p=Vk/\h=cG H p (.tup [.int i,y])/\∀s,OH t K H a s->s[i]? = Y y,λi H=>∃s,OH t K H a s/\s.length≤i⟩
theorem zM{tp:Bool}{P:Program}{w:World}{K:FG}{es:Ab}{n:Nat}(a e g:Addr)(N:e≠g):Turn P w K (.Tuple es n f) (Ol tp K a) [e,g] e (λi h=>(∃y,IsEnum h e g i y)/\zc tp h g a i) where
 mem:=by simp
 obj:=λi h st b S=>by
  obtain⟨⟨y,C⟩,j⟩:=st;obtain⟨o,Q,⟨vs,d⟩,_⟩:=j.obj;have:b=e\/b=g:=by simpa using S
  rcases this with rfl|rfl
  .exact⟨_,C,λv z=>by have z':Data.fields _=Data.cell v:=z;cases z'⟩
  .exact⟨o,Q,λv z=>by rw[d]at z;cases z⟩
 keep:=λi h h' st k=>by obtain⟨⟨y,C⟩,j⟩:=st;obtain⟨o,Q,_,r⟩:=j.obj;exact⟨⟨y,k e (by simp) _ C⟩,r _ (k g (by simp) o Q)⟩
 item:=by
  intro X hP hw hK p i pins s J H E I hf st hg;subst hP hw hK;obtain⟨xs,x,hq,hx⟩:=hg;obtain⟨⟨R,rv,pT⟩,inj⟩:=Ub I hq;obtain⟨u,hu,ru⟩:=rv.get hx;obtain⟨⟨y,C⟩,j⟩:=st;obtain⟨f0,f1,f2,f3,f4,f5⟩:=hf e (by simp);obtain⟨g0,g1,g2,g3,g4,g5⟩:=hf g (by simp);obtain⟨oi,W,n1,n2⟩:=Ky j;have hai:=(FT pT W n1 n2).symm;have hae:=FT pT (show s.heap.get? e=_ from C) (show Value.type "enumerate"≠.type "tuple" by decide) (show Value.type "enumerate"≠.type "list" by decide);have D:=NU (l:=X.p) (w:=X.w) (A:=X.A.in1) (z:=tp) (I.o.hd p) g a hai R.toArray;refine wpAny_pyNext_enum_itemD D C ⟨j,pT⟩ (by simpa using (aX.mp hu).1) N (by simp[N,hae]) λu2 h1 tk Z ho1 G ht1 hz1 hk1=>?_
  obtain⟨G,_⟩:=G;have hu3:u2=u:=by simp[hu]at Z;exact Z.symm
  subst hu3;refine⟨_,rfl,wpAny_letOwnedTupleGo_enum (s:={ s with heap:=h1,toks:=tk+1 }) ho1 λh2 he2 M=>?_⟩;replace M:gm e h1 h2:=M;have T:e < s.heap.objs.size:=aN C;have L:∀b o,b≠e->b≠g->s.heap.get? b=Y o->h2.get? b=Y o:=λb o b1 b2 q=>(M.2 b b1).trans (hk1 b o b1 b2 q)
  have V:h2.get? s.heap.objs.size=Y { cls:=.type "tuple",data:=.seq #[.int i tk,u2] }:=(M.2 _ (cD T)).trans ht1;have B:H s.heap.objs.size=Vk:=I.h.fresh (az _);have ne:∀{b:Addr}{o:HO},H b=Y o->b≠e/\b≠g:=λ{b o} q=>⟨λz=>(by rw[z,f0]at q;cases q),λz=>(by rw[z,g0]at q;cases q)⟩;have F:∀b,b ∉ [e,g]->b≠e/\b≠g:=λb S=>⟨λz=>S (by simp[z]),λz=>S (by simp[z])⟩;have I':Inv X pins J (cG H s.heap.objs.size (.tup [.int i,x])) { s with heap:=h2,gens:=s.gens,drawn:=s.drawn,toks:=tk+1 }:=by
   refine I.step (ch:=[e,g]) (λb S=>?_) (λb o _ _ p q _=>L b o (F b p).1 (F b p).2 q) (λb o _ _ p q _=>⟨o.slots,L b o (F b p).1 (F b p).2 q⟩) (λb o _ q n=>?_) (λb o p q=>⟨o,L b o (F b p).1 (F b p).2 q⟩)
    (λb ys q=>?_) (λb o ys q=>?_) (λb q=>?_) (λm hm=>?_) (λb u' q=>?_) I.bare
   .have:b=e\/b=g:=by simpa using S
    rcases this with rfl|rfl
    .exact⟨f3,f1,f4,f5⟩
    .exact⟨g3,g1,g4,g5⟩
   .rw [aJ (bG (aN q))];exact n
   .rw [aJ (cC q B)];exact q
   .rw [aJ (cC q B)];exact q
   .rw [aJ (cC q B)];exact q
   .obtain⟨o,es,ep,Q,r⟩:=hm;exact⟨o,es,ep,L _ o (aZ f1) (aZ g1) Q,r⟩
   .by_cases S:b=s.heap.objs.size
    .subst S;rw[aV]at q;cases q;exact⟨by show 2≤sizeLine;decide,[.int i tk,u2],.cons ⟨_,rfl⟩ (.cons ru .nil),⟨_,V,⟨rfl,_,rfl⟩,rfl⟩⟩
    .rw [aJ S]at q;refine(I.h b u' q).stay (λc v p z=>L c v ?_ ?_ z) (λc z=>by rw[aJ (cC z B)];exact z) λc ys z=>by rw[aJ (cC z B)];exact z
     .rcases p with rfl|p
      .exact (ne q).1
      .exact (ne p).1
     .rcases p with rfl|p
      .exact (ne q).2
      .exact (ne p).2
  refine⟨.ref s.heap.objs.size,_,I',rfl,⟨s.heap.objs.size,x,rfl,B,rfl,λys hy=>by rw[inj ys hy];exact hx⟩,⟨⟨u2,by simpa using he2⟩,?_⟩,λb S=>?_⟩
  .obtain⟨o,Q,_,r⟩:=G.obj;exact r _ ((M.2 g (aZ N)).trans Q)
  have hb':b=e\/b=g:=by simpa using S
  rcases hb' with rfl|rfl
  .rw [aJ (bG T)];exact f0
  .rw [aJ (bG (aN W))];exact g0
 done:=by intro X hP hw hK p i pins s J H E I hf st hg;subst hP hw hK;obtain⟨xs,hq,hx⟩:=hg;obtain⟨⟨R,rv,pT⟩,_⟩:=Ub I hq;obtain⟨⟨y,C⟩,j⟩:=st;obtain⟨g0,g1,g2,g3,g4,g5⟩:=hf g (by simp);have hl:=rv.length;exact wpAny_pyNext_enum_endD (Et (I:=tp) (l:=X.p) (w:=X.w) (A:=X.A.in1) (I.o.hd p) (z:=g) (q:=a) (g:=R.toArray) (k:=i) (by simp;lia)) C ⟨rfl,j,pT⟩ λh' eb=>⟨rfl,I.turned (t':=s.toks) (λb o S e=>eb b o S e) g0 g1 g3 g4 g5⟩
 self:=λ_ _ _ _ _ st h=>by obtain⟨⟨y,C⟩,_⟩:=st;exact CA C h
theorem wX{t:Bool}{K:FG}{F:Aa}{m:List Addr}{H:Hp}{a:Addr}{c:List P}{s:List V}(u:∀h k n,Stp F m H h k n->OH t K n a s)(r:cN K F H c s):OI K (Ol t K a) (bE 0 c) F m H:=by
 intro h k n st;have q:=u h k n st;have l:=r.length;refine⟨λi v e=>?_,⟨s,q,by rw[dB,l];exact az _⟩⟩;obtain⟨d,w,rfl⟩:=pK e;obtain⟨x,f,p⟩:=r.get w;refine⟨⟨s,x,q,f⟩,λz j y=>?_⟩;obtain⟨o,y,rfl,b,rfl,g⟩:=y;have:y=x:=by have:=g s q;rw[f]at this;cases this;rfl
 subst this;refine⟨h,cK b,RP.newTup b ⟨_,_,rfl,?_,_,_,rfl,RP.mono st p,rfl⟩⟩;show V.int (i:Int)=V.int (0+(i:Int));rw[dD]
@[simp] def fN(a:EV)(L:Lc)(S:aM):Jr:=cg (a L S) λv h=>match v with
 | .lst x=>Y (bE 0 x,h)
 | .ro x=>Y (bE 0 x,h)
 | .tup x=>Y (bE 0 x,h)
 |_=>Vk
theorem U4{es:Ab}{n:Nat}{a:Expr}{t:EV}{p d:Pos}(hg:Gl X "enumerate")(hm:X.g "enumerate"=Vk)(ha:PE X a (tV X.K t))(hs:starEach [a] X.e=[(Vm,eval a X.e)]):PI X (.Tuple es n f) (.Call (.Name "enumerate" p) [a] [] d) (tI X.K (fN t)):=by
 intro pins s J H R I ⟨F,m,L,S,vs,S',r,l,q,k⟩;obtain⟨v,Z,e1,q⟩:=ak q;have hA:PA X [a] (tT X.K (aB t aU)):=LQ ha Og (by rw[hs];rfl);refine Call_ (nD I hg hm boot_enumerate (nU (dO (hA d pins s J H (λK x=>∃c g,Stp F m H c g x/\Rel X.K c x g Z/\cN X.K c x [v] K) I ⟨F,m,L,S,[v],Z,r,l,?_,λK c g x h C N=>⟨c,g,h,C,N⟩⟩) λus h ⟨K,x,j,E,c,g,st,C,N⟩=>?_) (by rw[hs];rfl) rfl))
 .simp only[aB,aU,e1,al]
 obtain⟨x1,rfl,px⟩:=D4 N;obtain⟨u,rfl,Q⟩:=vals1 E;have P:∀b,h.heap.objs.size≤b->x b=Vk:=λb G=>j.h.fresh G;have y:∀(T:Bool)(b:Addr),R (Ol T X.K b) x->∀e:Heap,IsEnum e (h.heap.objs.size+1) h.heap.objs.size 0 .none->zc T e h.heap.objs.size b 0->(∀b o,h.heap.get? b=Y o->e.get? b=Y o)->wx X (pyIter (.ref (h.heap.objs.size+1))) (RU X pins J (.Tuple es n f) R) X.xe { h with heap:=e }:=λT b kk e w i hk=>by
  refine CA w ?_;refine⟨h.heap.objs.size+1,[h.heap.objs.size+1,h.heap.objs.size],_,_,x,rfl,j.kept (t':=h.toks) hk,zM b _ _ (cD (nX _)),⟨⟨_,w⟩,i⟩,λb G=>?_,kk⟩;have M:b=h.heap.objs.size+1\/b=h.heap.objs.size:=by simpa using G
  rcases M with rfl|rfl
  .exact j.fpOk (qQ _) (P _ (qQ _))
  .exact j.fpOk (az _) (P _ (az _))
 cases v with
 |lst ds=>cases q;obtain⟨b,K,rfl,ta,D⟩:=px;cases Q;obtain⟨z,E,B,hz⟩:=j.list ta.sq;exact EX B.isList λe w i A hk=>y Vm b (k _ c g x st C (wX (t:=Vm) (λV m2 W s=>(ta.kp s.kp).sq) D)) e w i hk
 |ro ds=>cases q;obtain⟨b,K,rfl,ta,D⟩:=px;cases Q;obtain⟨z,E,B,hz⟩:=j.list ta.sq;exact EX B.isList λe w i A hk=>y Vm b (k _ c g x st C (wX (t:=Vm) (λV m2 W s=>(ta.kp s.kp).sq) D)) e w i hk
 |tup ds=>cases q;obtain⟨b,K,rfl,ta,D⟩:=px;cases Q;obtain⟨z,E,B,hz⟩:=j.tuple ta.sq;exact AV (show h.heap.IsTuple b z.toArray from B) λe w i A hk=>y Vl b (k _ c g x st C (wX (t:=Vl) (λV m2 W s=>(ta.kp s.kp).sq) D)) e w i hk
 |_=>cases q
end
end Ev
set_option tactic.hygienic false
namespace Ev
open PySem PySem.Spec PyProof.Rows L2
section
variable{p:Program}{w:World}{A:Around}{E:VP}{s:Shared}
theorem yZ{Q:LV->Shared->Prop}{r:Addr}{a b c:Int}{t u v:Tok}{n:Nat}(y:A.handled=Vk)(H:IsRange s.heap r a b c t u v)(h:Bu a b c=Vl)(z:qM a b c=n)(l:n≤2 ^ 24)
  (j:∀q d x,(∀b o,s.heap.get? b=Y o->q.get? b=Y o)->ItemsOf (λi v=>∃t,v=.int (a+i * c) t) x n->Q x.toList { s with heap:=q,toks:=d }) :
  wpAny (model p w) A (collect (.ref r)) Q E s:=by
 unfold collect;refine af (wpAny_runValue (vc F.entry_proto_collect ?_));rw [rc F.plain_proto_collect _];refine af (m:=newList []) (pe (aq ⟨zj A8 _,vc F.entry_list_iadd ?_⟩));rw [rc A8 _];refine wpAny_extend_range (R:=fun r g=>match r with
  | .ok (.ret v)=>wpAny (model p w) A (match v with
   | .ref a=>do
    let o <- load a
    match o.data with
    | .seq K _=>pure K.toList
    |_=>unsupported "internal:collect"
   |_=>unsupported "internal:collect") Q E g
  | .ok _=>False
  | .error e=>E e g) (s:={ s with heap:=s.heap.push { cls:=.type "list",data:=.seq ([]:LV).toArray } }) (A:=A) y (aW _ H) h z l s.heap.objs.size (.ref s.heap.objs.size) 0 (bJ _ rfl) λq d k P hk S f=>?_
 exact af (m:=load s.heap.objs.size) (wpAny_load S (aq (j q d k (λb o e=>hk b o (bG (aN e)) (aW _ e)) f)))
theorem Px{a:Heap}{L r q:Addr}{m:SV}{f:PN}{t u v:Tok}{n:Nat}{I:List Int}{G:VP}(F:Fr a L s.heap m)(N:News a L s.heap f)(hh:A.handled=Vk)(hr:IsRange s.heap r 0 n 1 t u v)(hn:n < 64)(hl:I.length=n)
  (C:∀(i:Nat) (k:Int) (Z:Tok),i < n->I[i]? = Y k->∀(h:Heap) (S:Nat) (H:PN),Fr a L h m->News a L h (f++H) ->
   wpAny (model p w) A.in1.in1 (call (.ref q) [.int i Z]) (KskEnd a L m (f++H) k { s with heap:=h,toks:=S }) (λ_ _=>False) { s with heap:=h,toks:=S })
  (h:∀D P S vs y c,s.heap.get? D=Vk->Fr a L P m->News a L P ((D,seqObj "list" y c)::f)->ItemsOf (λi v=>∃t,v=.int i t) (BR vs) n->KskOut Vm I vs y.toList->G (.ref D) { s with heap:=P,toks:=S }) :
  wpAny (model p w) A (call (.builtin "sorted") [.ref r] [(Str.ofString "key",.ref q)]) G E s:=by
 have hz:qM 0 n 1=(n:Int):=by unfold qM;simp;try lia
 have R:Bu 0 n 1=Vl:=wn (by decide) (by decide) (by lia) (by lia);refine call_function_entry_kw kind_sorted plain_sorted entry_sorted (ksk_s1 _ _) ?_;unfold Builtin.«sorted»;refine af (m:=checkCount "sorted" 1 1 _) (aq (af (yZ (by exact hh) hr R hz (by lia) λl xG d k1 T=>?_)));have X:d.toList.length=n:=by rw[k8];exact T.1
 have B:ItemsOf (λi v=>∃t,v=.int i t) (BR d.toList) n:=by refine⟨by simpa using T.1,λj x e=>?_⟩;obtain⟨t,e⟩:=T.2 j x (by simpa using e);exact⟨t,by rw[e];simp⟩
 refine af (zm ?_ (by rw[X,kO];lia));have o:∀b,b=l.objs.size->s.heap.get? b=Vk:=λb hb=>by
  cases q:s.heap.get? b with
  |none=>rfl
  |some u=>exact absurd (aN (k1 b u q)) (by rw[hb];exact i9 _)
 have k2:∀b u,s.heap.get? b=Y u->(l.push { cls:=.type "list",data:=.seq d.toList.toArray }).get? b=Y u:=λb u e=>aW _ (k1 b u e);have K:(l.push { cls:=.type "list",data:=.seq d.toList.toArray }).get? l.objs.size=Y (seqObj "list" d.toList.toArray 0):=bJ _ rfl;have V:l.objs.size≠L:=λz=>by obtain⟨u,_,_,e,_⟩:=F.ns;rw[o L z.symm]at e;cases e
 have W:a.get? l.objs.size=Vk:=by
  rcases q:a.get? l.objs.size with _|u
  .rfl
  .have:=F.keep _ _ q;rw[o _ rfl]at this;cases this
 have neN:∀q ∈ f,q.1≠l.objs.size:=λq hq z=>by have:=(N q hq).1;rw[o _ z]at this;cases this
 refine af (gR (wpAny_call_entry_kw Bm ⟨_,K,rfl⟩ Bn ?_ (ksk_l1 _ _)));show wpAny (model p w) A.in1.in1 (Builtin.«list.sort» ⟨[.ref l.objs.size],[(Str.ofString "key",.ref q)]⟩) _ _ _;rw[ksk_t1];refine ksk_sort (kz:=I) (s:={ s with heap:=l.push { cls:=.type "list",data:=.seq d.toList.toArray },toks:=xG }) (F.keeps k2) (N.keeps k2) K V W neN (by rw[X];exact hl) (by lia) (λi x k hx hk g S H M Q=>?_) λP S y c M Q ko=>⟨_,rfl,aq ⟨_,rfl,h _ P S _ y c (o _ rfl) M Q B ko⟩⟩;obtain⟨Z,rfl⟩:=B.2 i x (by simpa using hx);have hi:i < n:=by rw[<- X];exact(aX.mp hx).1
 exact C i k Z hi hk g S H M Q
end
noncomputable abbrev Ee(p:Pos):Arguments:={ posonlyargs:=[],args:=[{ arg:="hand",annotation:=Vk,pos:=p }],vararg:=Vk,kwonlyargs:=[],kw_defaults:=[],kwarg:=Vk,defaults:=[] }
noncomputable abbrev As(p q r:Pos):Expr:=.Subscript (.Name "renaming" p) (.Name "hand" q) r
noncomputable abbrev tY:Scope:={ kind:=.function,names:=[(Str.ofString "hand",.local),(Str.ofString "renaming",.free)],isGenerator:=Vm,isCoroutine:=Vm,more:=[] }
abbrev G8(p x a e:Pos)(c:Addr)(m:Value)(h:Addr)(t:Value):Obj:=PySem.W.kla_obj "<lambda>" sP (Ee p) (As x a e) tY [(Str.ofString "renaming",c)] m h t
section
variable{p:Program}{w:World}{A:Around}{E:VP}{s:Shared}
theorem G7{f a c g:Addr}{C S F K:Pos}{D v:Value}{t:Array Value}{i:Nat}{k:Int}{u G:Tok}{Q:VP}(r:A.depth < recursionLimit)(N:s.heap.NoLimit)
  (L:s.heap.get? f=Y (G8 C S F K c D g v)) (y:s.heap.CodeRec (.ref g) sP) (I:s.heap.IsCell c (Y (.ref a))) (M:IsTup s.heap a t) (T:i < 1000) (B:t[i]? = Y (.int k G))
  (h:∀P R,(∀b o,s.heap.get? b=Y o->P.get? b=Y o)->Q (.int k G) { s with heap:=P,toks:=R }) :
  wpAny (model p w) A (call (.ref f) [.int i u]) Q E s:=by
 refine ze (PySem.W.kla_callFunE (body:=As S F K) r L rfl rfl rfl rfl y ?_);rw[show bindArgs (PySem.W.kla_fn "<lambda>" sP (Ee C) (As S F K) tY [(Str.ofString "renaming",c)] D (.ref g) v) ⟨[.int i u],[]⟩=pure [(Str.ofString "hand",.int i u)] from rfl];refine aq (E3 (show ∀x ∈ tY.names,x.2≠.cell by decide) (show ∀x ∈ [(Str.ofString "hand",Value.int i u)],tY.names.lookup x.1=Y .local by simp) (λn z m=>⟨N.fresh _ m,?_⟩) rfl);have H:∀b o,s.heap.get? b=Y o->n.get? b=Y o:=λb o e=>m.extBut b o (bG (aN e)) (aW _ e);have l:n.IsCell c (Y (.ref a)):=let ⟨o,e,d⟩:=I;⟨o,H _ _ e,d⟩
 have q:IsTup n a t:=M.keeps H;refine PySem.W.kla_codeExpr (Subscript_Name (rR (EY rfl rfl rfl l (rR (E2 rfl rfl z rfl ⟨"tuple",_,jI.lookup,q.typeIs,?_⟩)))));exact Bi (j:=i) q (by lia) (by lia) (by rw[va (by lia) (by have:=(wm.mp B).1;lia)];simp) B (h _ _ H)
end
section
variable{X:Cx}{j:PN}{J:L2.St}{H:Hp}{s:Shared}{E:VP}
theorem G6{Q:VP}{c P F:Addr}{T V W Z:Pos}(I:Inv X j J H s)(w:X.e.code=.ref c)(C:rZ X.b c P)(hP:P ∈ cy X.K)(hq:X.e.qual++Str.ofString "<lambda>"=sP)(cl:X.e.cells.lookup (Str.ofString "renaming")=Y F)
  (k:∀f h pm a i D H',Inv X j J H' { s with heap:=i,toks:=D }->(H'=H\/H h=Vk/\H'=cG H h (.own P))->i.get? f=Y (G8 T V W Z F pm h a)->i.CodeRec (.ref h) sP->H' h=Y (.own P)->Q (.ref f) { s with heap:=i,toks:=D }) :
  wx X (eval (.Lambda (Ee T) (As V W Z) tY Ar) X.e) Q E s:=by
 have l:H P=Y .tbl:=I.base.tbls P (I.o.tab P hP);obtain⟨ps,e0,z⟩:=(show tJ H s.heap P from I.h P _ l);have C':=C.keeps I.bk;obtain⟨bm,ob,b1,b2,b3,b4,b5,b6⟩:=I.mod.bmain;have A:s.heap.Ns mainGlobals X.g:=I.mod.glob.keeps I.bk;have hgP:mainGlobals≠P:=λq=>by obtain⟨o,es,ep,e,hd,_⟩:=A;rw[q,e0]at e;cases e;cases hd
 have y:bm≠P:=λq=>by have e:=I.bk _ _ b3;rw[q,e0]at e;cases e;cases b4
 have hbG:bm≠mainGlobals:=λq=>by obtain⟨o,es,ep,e,hd,_⟩:=I.mod.glob;rw[q,e]at b3;cases b3;rw[hd]at b6;cases b6
 have hB:s.heap.BuiltinsAt X.g P:=⟨bm,ob,b1,b2,hbG,y,I.bk _ _ b3,b4,b5,b6⟩;have L:closureFor tY X.e=pure [(Str.ofString "renaming",F)]:=by
  have:cellOf X.e (Str.ofString "renaming")=pure F:=by unfold cellOf;rw[cl]
  simp[closureFor,this]
 refine PySem.W.kla_eval rfl ?_;rw[hq];rcases z with rfl|⟨h,rfl,h1,h2⟩
 .refine PySem.W.kla_makeFunction (mg:=X.g) L I.o.glob A w C' e0 trivial rfl hgP hB λh a i D hx M hlt N R=>?_;have G:H h=Vk:=I.h.fresh M;have p:(i.push (G8 T V W Z F ((X.g "__name__").getD .none) h a)).CodeRec (.ref h) sP:=N.keeps λb o e=>aW _ e;have S:∀b o,b≠P->s.heap.get? b=Y o->(i.push (G8 T V W Z F ((X.g "__name__").getD .none) h a)).get? b=Y o:=λb o K e=>aW _ (hx b o K e);have B:∀b,H b=Vk->b≠P:=λb n q=>by rw[q,l]at n;cases n
  have g:∀b o,H b=Y o->b≠h:=λb o e q=>by rw[q,G]at e;cases e
  refine k _ h _ a _ D (cG H h (.own P)) ?_ (.inr ⟨G,rfl⟩) (bJ _ rfl) p aV;refine I.step (g':=s.gens) (d':=s.drawn) (ch:=[]) (λ_ z=>nomatch z) (λb o _ _ _ e n=>S b o (B b n) e) (λb o _ _ _ e n=>⟨o.slots,S b o (B b n) e⟩) (λb o _ e n=>?_) (λb o _ e=>?_) (λb xs q=>(aJ (g b _ q)).trans q) (λb o u q=>(aJ (g b _ q)).trans q) (λb q=>(aJ (g b _ q)).trans q) (λm hm=>?_) (λb u q=>?_) I.bare
  .rw [aJ (bG (bZ (aN e) M))];exact n
  .by_cases K:b=P
   .subst K;exact⟨_,aW _ R⟩
   .exact⟨o,S b o K e⟩
  .obtain⟨o,es,ep,ho,r⟩:=hm;exact⟨o,es,ep,S _ o (B _ I.free) ho,r⟩
  .by_cases K:b=h
   .subst K;rw[aV]at q;cases q;obtain⟨x,oc,vs,t,e1,e2,_⟩:=p;cases e1;exact⟨oc,e2⟩
   .rw [aJ K]at q;by_cases y:b=P
    .subst y;rw[l]at q;cases q;exact⟨_,aW _ R,.inr ⟨h,by simp,aV,p⟩⟩
    .refine (I.h b u q).stay (λd v hd e=>S d v (λz=>?_) e) (λd e=>(aJ (g d _ e)).trans e) λd xs e=>(aJ (g d _ e)).trans e;rcases hd with hd|hd
     .exact y (hd ▸ z)
     .rw [z,l]at hd;cases hd
 .refine PySem.W.kla_makeFunctionHit (mg:=X.g) (cv:=.ref h) L I.o.glob A w C' e0 ?_ ?_ hB λa i D hk hsz=>?_
  .exact trivial
  .simp [codeAmong,rawInt]
  .have S:∀b o,s.heap.get? b=Y o->(i.push (G8 T V W Z F ((X.g "__name__").getD .none) h a)).get? b=Y o:=λb o e=>aW _ (hk b o e);exact k _ h _ a _ D H (I.kept S) (.inl rfl) (bJ _ rfl) (h2.keeps S) h1
end
theorem l0:∀(n:Nat)(z:List Int),z.length=n->(∀k:Nat,k < n->(k:Int) ∈ z)->z.Perm ((List.range n).map λ(i:Nat)=>(i:Int))
 |0,z,h,_=>by rw[List.length_eq_zero_iff.mp h];exact .refl _
 |n+1,z,h,hk=>by have m:=hk n (nX n);have a:=l0 n (z.erase n) (by rw[List.length_erase_of_mem m,h];rfl) λk x=>(List.mem_erase_of_ne (by lia)).mpr (hk k (by lia));refine(List.perm_cons_erase m).trans ((a.cons _).trans ?_);rw[BV,ja];exact List.perm_append_comm (l₁:=[(n:Int)])
noncomputable def du(z:List Int):List Nat:=(List.range z.length).map λ(k:Nat)=>z.idxOf (k:Int)
noncomputable def gh(z:List Int):Bool:=decide (z.length < 64) && (List.range z.length).all λ(k:Nat)=>z.contains (k:Int)
theorem fL(h:gh z=Vl):z.length < 64/\∀k:Nat,k < z.length->(k:Int) ∈ z:=by unfold gh at h;rw[ar,bi]at h;exact⟨aR h.1,λk hk=>by simpa using h.2 k (bM.mpr hk)⟩
theorem z_(n:Nat):((List.range n).map λ(i:Nat)=>(i:Int)).Pairwise (·≤·):=by rw[eJ];exact List.pairwise_lt_range.imp λh=>by lia
theorem GH(u:ItemsOf (λi v=>∃t,v=.int i t) B.toArray z.length)(D:∀k:Nat,k < z.length->(k:Int) ∈ z)(G:KskOut Vm z B o):bo ((du z).map λ(i:Nat)=>V.int (i:Int)) o:=by
 obtain⟨f,g,rfl,M⟩:=G;have N:B.length=z.length:=by simpa using u.1
 have P:=l0 _ z rfl D;have L:z.Nodup:=P.nodup_iff.mpr (List.Pairwise.map _ (λa b h e=>h (by lia)) jc);have Q:(f.map Prod.fst).Perm z:=by have:=g.map Prod.fst;rwa [List.map_fst_zip (by lia)]at this
 have q:f.map Prod.fst=(List.range z.length).map λ(i:Nat)=>(i:Int):=
  List.Perm.eq_of_pairwise (le:=(·≤·)) (λa b _ _ K A=>Int.le_antisymm K A) (eJ.mpr (M.imp λh=>by simpa using h)) (z_ _) (Q.trans P)
 have l:f.length=z.length:=by have:=cE oe q;simpa using this
 refine pF (by simp[du,l]) λi x y w n=>?_;rw[bq]at n;cases s:f[i]? with
 |none=>rw[s]at n;cases n
 |some p=>
  rw[s]at n;cases n;have d:i < z.length:=by rw[<- l];exact(aX.mp s).1
  have H:p.1=(i:Int):=by have:=cE (·[i]?) q;simp only[bq,s,iA]at this;rw[vW d]at this;simpa using this
  have I:=g.mem_iff.mp (bg s);obtain⟨j,r⟩:=v7.mp I;rw[List.getElem?_zip_eq_some]at r;obtain⟨c,F⟩:=r;obtain⟨t,S⟩:=u.2 j p.2 (by simpa using F);obtain⟨C,c⟩:=aX.mp c;have E:z.idxOf (i:Int)=j:=by rw[<- H,<- c];exact L.idxOf_getElem j C
  have m:x=V.int ((z.idxOf (i:Int):Nat):Int):=by simp only[du,bq,vW d,iA]at w;exact(b0 w).symm
  rw[m,E];exact⟨t,S⟩
section
variable{X:Cx}
theorem nu.own{K:FG}{H:Hp}{a b:Addr}{o:HO}{s:List V}(x:H b=Vk)(h:nu K H a s):nu K (cG H b o) a s:=by
 rcases h with h|h
 .rcases h with h|⟨e,h⟩
  .exact .inl (.inl ((aJ (cC h x)).trans h))
  .exact .inl (.inr ⟨e,(aJ (cC h x)).trans h⟩)
 .exact .inr h
theorem Gu{p c1 E p1 p2 p3 p4:Pos}{e:Expr}{ta:TA}{c P:Addr}{i:Nat}(S:X.c=Vl)(hdp:X.A.depth < recursionLimit)(F:X.e.code=.ref c)(C:se X.K c P=Vl)(hP:P ∈ cy X.K)(hq:X.e.qual++Str.ofString "<lambda>"=sP)
  (hN:X.N[i]? = Y (Str.ofString "renaming")) (hK:X.e.kindOf (Str.ofString "renaming")=Y .cell) (hg:Gl X "sorted") (hm:X.g "sorted"=Vk) (ha:PA X [e] ta) (hs:starEach [e] X.e=[(Vm,eval e X.e)]:=by rfl) :
  PE X (.Call (.Name "sorted" p) [e] [⟨Y (Str.ofString "key"),.Lambda (Ee p1) (As p2 p3 p4) tY Ar,E⟩] c1) (fun J H Q=>ta J H fun xs B=>∃r a y,xs=[.ref r]/\B r=Y (.rng 0 (y.length:Int))/\J[i]? = Y (Y (.ref a))/\nu X.K B a (y.map V.int)/\gh y=Vl /\
   ∀T l,(T=B\/∃b,B b=Vk/\T=cG B b (.own P))->T l=Vk->Q (.ref l) (cG T l (.lst ((du y).map λ(i:Nat)=>V.int (i:Int))))):=by
 intro j s J H Q I h;refine nw (nD I hg hm Bt ?_);refine callWith_kw ?_ (by rw[hs];rfl) (by rw[hs];rfl);refine dO (ha c1 j s J H _ I h) λus s1 hz=>?_
 obtain⟨vs,B,I1,rv,r,a,y,e1,hr,hJ,hT,hok,q⟩:=hz;subst e1;obtain⟨u,rfl,ru⟩:=vals1 rv;cases ru;obtain⟨h64,M⟩:=fL hok;have cellAt:∀{A:Hp}{s':Shared},Inv X j J A s'->∃L,X.e.cells.lookup (Str.ofString "renaming")=Y L/\s'.heap.IsCell L (Y (.ref a)):=λ{A s'} I'=>by
  obtain⟨m,_,hl⟩:=I'.loc;obtain⟨u,ru,lk⟩:=hl i _ _ hN hJ (.inr (.inl hK));cases ru;rcases lk with ⟨z,_⟩|⟨_,L,z1,z2⟩
  .rw [hK]at z;cases z
  .exact⟨L,z1,z2⟩
 obtain⟨L,cl,_⟩:=cellAt I1;refine kws_cons (G6 I1 F (Fe I1.mod.kin C) hP hq cl λf c' pm ctv h' tk A v hH hf hcr hown=>kws_nil ?_);have hT2:nu X.K A a (y.map V.int):=by
  rcases hH with rfl|⟨hn,rfl⟩
  .exact hT
  .exact nu.own hn hT
 have hr2:A r=Y (.rng 0 (y.length:Int)):=by
  rcases hH with rfl|⟨hn,rfl⟩
  .exact hr
  .exact (aJ (cC hr hn)).trans hr
 obtain⟨cr',G,hc2⟩:=cellAt v;rw[cl]at G;cases G;obtain⟨its,rvs,tu,hz⟩:=v.tuple hT2;obtain⟨t1,t2,t3,hrg⟩:=v.h r _ hr2;obtain⟨m,Z⟩:=v.fr;have hL:∀b o,h'.get? b=Y o->(∀es ep,o.data≠.dict es ep)->b≠X.e.locals:=λb o e d z=>by obtain⟨o2,es,ep,W,d2,_⟩:=Z.ns;rw[z]at e;rw[show h'.get? X.e.locals=Y o2 from W]at e;cases e;exact d es ep d2
 show wpAny _ _ (call (.builtin "sorted") [.ref r] [(Str.ofString "key",.ref f)]) _ _ _;refine Px (I:=y) (n:=y.length) Z (yh (g:=X.b)) (v.o.hd S) hrg h64 rfl (λi k tv hi hk g R own K N=>?_) λD h2 R ws out cc hD K N it ko=>?_
 .have E:∀b o,b≠X.e.locals->h'.get? b=Y o->g.get? b=Y o:=oP v.bk K λp M=>N p (om _ M);obtain⟨x,oc,ws,t,e1,W,e3,e4⟩:=hcr;cases e1;obtain⟨ot,f1,f2⟩:=tu;obtain⟨w,ew,rw'⟩:=rvs.get (show(y.map V.int)[i]? = Y (.int k) by rw[bq,hk];rfl);obtain⟨t0,rfl⟩:=rw';refine G7 (a:=a) (t:=its.toArray) (G:=t0) (k:=k) (show X.A.depth < recursionLimit from hdp) (v.mod.nolimit.keeps K.keep) (E _ _ (hL _ _ hf (λ_ _ z=>nomatch z)) hf)
   ⟨c',oc,ws,t,rfl,E _ _ (hL _ _ W (λ_ _ z=>by rw[e3]at z;cases z)) W,e3,e4⟩ ?_ ?_ (by lia) (by simpa using ew) λh3 tk3 k3=>KskEnd.intro (K.keeps k3) (N.keeps k3) λ_ z=>z
  .obtain⟨o,d1,d2⟩:=hc2;exact⟨o,E _ _ (v.cne _ _ cl) d1,d2⟩
  .refine⟨ot,E _ _ (hL _ _ f1 (λ_ _ z=>?_)) f1,f2⟩;obtain⟨_,_,d⟩:=f2;rw[d]at z;cases z
 .have vz:=GH it M ko;exact⟨.ref D,_,uR (S:=R) v Z.ns K.ns (oP v.bk K λp M=>N p (.tail _ M)) hD (show dj X.p X.w _ h2 _ (.lst _) from ⟨by rw[aH];unfold du;rw[aH,vU,kO];lia,out.toList,cc,vz,by simpa using (N _ (.head _)).1⟩),rfl,q A D (hH.imp id λz=>⟨c',z⟩) (AD v hD)⟩
end
noncomputable def pX:List P->Option (List Int)
 | []=>Y []
 | .int i::r=>(pX r).map (i::·)
 |_=>Vk
theorem xT:∀{s:List P}{k:List Int},pX s=Y k->s=k.map .int
 | [],_,h=>by cases h;rfl
 |d::r,k,h=>by
  cases d with
  |int i=>
   cases e:pX r with
   |none=>simp only[pX,e]at h;cases h
   |some w=>simp only[pX,e]at h;cases h;rw[xT e];rfl
  |_=>cases h
theorem x5{K:FG}{F:Aa}{H:Hp}:∀{k:List Int}{y:List V},cN K F H (k.map .int) y->y=k.map V.int
 | [],_,h=>h
 |i::r,_,h=>by obtain⟨x,y,rfl,a,e⟩:=h;rw[x5 e,show x=V.int i from a];rfl
def EC(w:Option (Option D))(v:P):Option P:=match w,v with
 |some (Y (.p (.tup d))),.int j=>(pX d).bind λk=>if decide (j=(k.length:Int)) && gh k then Y (.lst ((du k).map λ(i:Nat)=>.int (i:Int))) else Vk
 |_,_=>Vk
@[simp] def xR(i:Nat)(a:EV)(L:Lc)(S:aM):tyV:=cg (a L S) λv h=>(EC L[i]? v).map λu=>(u,h)
set_option tactic.hygienic true in
theorem K3{w:Option (Option D)}{v u:P}(h:EC w v=Y u):∃k:List Int,w=Y (Y (.p (.tup (k.map .int))))/\v=.int k.length/\gh k=Vl/\u=.lst ((du k).map λ(i:Nat)=>.int (i:Int)):=by
 unfold EC at h;split at h
 .rename_i d j;obtain⟨k,e,h⟩:=qO.mp h;split at h
  .rename_i c;rw[ar]at c;cases h;exact⟨k,by rw[xT e],by rw[aR c.1],c.2,rfl⟩
  .cases h
 .cases h
theorem sB{K:FG}{F:Aa}{H:Hp}:∀s:List Nat,cN K F H (s.map λ(i:Nat)=>P.int (i:Int)) (s.map λ(i:Nat)=>V.int (i:Int))
 | []=>rfl
 |_::s=>⟨_,_,rfl,rfl,sB s⟩
section
variable{X:Cx}
theorem Ji{p V kp B p2 p3 p4 pr W:Pos}{a:Expr}{E:EV}{c P:Addr}{i:Nat}(e:X.c=Vl)(j:X.A.depth < recursionLimit)(s:X.e.code=.ref c)(C:se X.K c P=Vl)(hP:P ∈ cy X.K)(hq:X.e.qual++Str.ofString "<lambda>"=sP)
  (hN:X.N[i]? = Y (Str.ofString "renaming")) (hK:X.e.kindOf (Str.ofString "renaming")=Y .cell) (hg:Gl X "sorted") (hm:X.g "sorted"=Vk) (y:Gl X "range") (K:X.g "range"=Vk) (ha:PE X a (tV X.K E)) (I:starEach [a] X.e=[(Vm,eval a X.e)]) :
  PE X (.Call (.Name "sorted" p) [.Call (.Name "range" pr) [a] [] W] [⟨Y (Str.ofString "key"),.Lambda (Ee B) (As p2 p3 p4) tY Ar,kp⟩] V) (tV X.K (xR i E)):=
 (Gu e j s C hP hq hN hK hg hm (fK (kn tG y K vp (fK ha ie (by rw[I];rfl)) (by decide) (by decide) (by rw[I];rfl) rfl) ie rfl) rfl).imp' λJ H Q h=>by
  obtain⟨F,m,L,S,d,S',r,l,q,M⟩:=h;obtain⟨x,S1,Z,q⟩:=ak q;obtain⟨u,e2,q⟩:=eE.mp q;cases q;obtain⟨f,hw,rfl,A,rfl⟩:=K3 e2;refine⟨F,m,L,S,_,_,r,l,Z,λv k N t D T B=>?_⟩;cases (show v=.int f.length from B);obtain⟨b,hJ,rd⟩:=(l.mono D).at' i _ hw;obtain⟨b,ys,rfl,tb,rs⟩:=(show RP X.K k t (.tup (f.map .int)) b from rd);cases x5 rs;refine⟨_,rfl,λR n=>⟨R,b,f,rfl,aV,hJ,nu.own n tb.sq,A,λH2 z hH h=>?_⟩⟩;have g:Grow k t k (cG t R (.rng 0 f.length)):=cK n;rcases hH with rfl|⟨b',w,rfl⟩
  .exact M _ _ N _ (D.trans (g.stp.trans (cn h).stp)) ((T.grow g).grow (cn h)) (.newLst h (sB _))
  .have G:=cK (F:=k) (o:=.own P) w;exact M _ _ N _ (D.trans (g.stp.trans (G.stp.trans (cn h).stp))) (((T.grow g).grow G).grow (cn h)) (.newLst h (sB _))
end
def Ri(X:Cx):Prop:=X.A.depth < recursionLimit/\X.e.qual++Str.ofString "<lambda>"=sP/\∃c P,X.e.code=.ref c/\se X.K c P=Vl/\P ∈ cy X.K
def G_(k:List Keyword):Bool:=match k with
 | [⟨Y a,.Lambda ⟨[],[⟨x,Vk,_⟩],Vk,[],[],Vk,[]⟩ (.Subscript (.Name r _) (.Name y _) _) sc p,_⟩]=>decide (a=Str.ofString "key") && decide (x=Str.ofString "hand") && decide (r=Str.ofString "renaming") && decide (y=Str.ofString "hand") && decide (sc=tY) && decide (p=Ar)
 |_=>Vm
theorem G9(h:G_ x=Vl):∃p a e s k,x=[⟨Y (Str.ofString "key"),.Lambda (Ee p) (As a e s) tY Ar,k⟩]:=by
 unfold G_ at h;split at h
 .simp only[ar,jK]at h;obtain⟨⟨⟨⟨⟨rfl,rfl⟩,rfl⟩,rfl⟩,rfl⟩,rfl⟩:=h;exact⟨_,_,_,_,_,rfl⟩
 .cases h
end Ev
set_option tactic.hygienic true
namespace L2
open PySem PySem.Spec PyProof.Rows
theorem Km(d:Addr)(hd:(d == sysModules)=Vm) :
  MeetsIn p w (Builtin.«dict.__len__» ⟨[.ref d],[]⟩) (λ_ R s=>∃o e x,s.heap.get? d=Y o/\o.data=.dict e x/\R (.ok (.ret (.int e.size s.toks))) { s with toks:=s.toks+1 }):=
 .of_wp λA R s z=>by obtain⟨o,e,x,n,a,h⟩:=z;show wpAny _ _ (dictSize d >>= _) _ _ s;unfold dictSize;refine af (af (wpAny_dictEntries n a (aq ?_)));show wpAny _ _ (Iy d >>= _) _ _ s;refine af (wpAny_pendingCount_other hd ?_);refine wpAny_ret_mkInt ?_;rw[Nat.add_zero];exact h
section
variable{X:Cx}
theorem Ez:fZ X (.builtin "len") (λn H Q=>∃a k,n=[V.ref a]/\H a=Y (.dN k)/\Q (.int k.length) H):=by
 intro j s J H n g Q I r h;obtain⟨a,k,rfl,b,q⟩:=h;obtain⟨u,rfl,v⟩:=vals1 r;cases v;obtain⟨z,hd,n,l,o,e,p,x,f,d,c,_⟩:=(show dj X.p X.w H s.heap a (.dN k) from I.h a _ b);have t:e.size=k.length:=by rw[<- k8,c,aH,Paired.length l]
 have w:sizeLine=16777216:=kO;refine Bv kind_len plain_len entry_len (args_len1 _) ?_;unfold Builtin.«len»;refine af (m:=oneArg "len" _) (aq ?_);refine af (m:=callSpecial? (.ref a) (Str.ofString "__len__")) (pf (name:=Str.ofString "__len__") ⟨o,x,f.1⟩ Ba
  (pb Ba ⟨o,x,f.1⟩ PySem.F.entry_dict_len (PySem.F.args_dict_len_1 _) (Km a hd) ⟨o,e,p,x,d,?_⟩))
 show wpAny _ _ _ _ _ { s with toks:=s.toks+1 };refine af (gR (aq ?_));refine af (zf ?_);show wpAny _ _ (if ((e.size:Nat):Int) < 0 then _ else _) _ _ _;rw[ae (by lia)];show wpAny _ _ (if ((e.size:Nat):Int) ≥ 2 ^ 63 then _ else _) _ _ _;rw[ae (by lia)];exact af (zg (aq ⟨_,rfl,.int k.length,H,I.tok _,⟨_,by rw[t]⟩,q⟩))
end
end L2
namespace Ev
open PySem PySem.Spec PyProof.Rows L2
@[simp] def FD(o:EE)(L:Lc)(S:aM):tyV:=cg (o L S) λd h=>(pH d h).map λz=>(.int z.2.1.length,h)
section
variable{X:Cx}
theorem O0(K:Gl X "len")(s:X.g "len"=Vk)(z:PE X e (tE X.K y))(c:starEach [e] X.e=[(Vm,eval e X.e)]:=by rfl):PE X (.Call (.Name "len" h) [e] [] C) (tV X.K (FD y)):=
 (oF Ez K s EZ (fK z ie (by rw[c];rfl)) (by decide) (by decide) (by rw[c];rfl) rfl).imp' λJ H Q P=>by obtain⟨F,m,L,S,d,G,r,l,q,k⟩:=P;obtain⟨x,u,f,q⟩:=ak q;refine⟨F,m,L,S,x,u,r,l,f,λv p A w E t B=>?_⟩;obtain⟨⟨i,I,M⟩,o,q⟩:=eE.mp q;cases q;obtain⟨rfl,g⟩:=rD o;obtain⟨a,rfl,s⟩:=B;obtain⟨n,j,f,D,_⟩:=t.obj i a _ s g;refine⟨a,n,rfl,j,?_⟩;have b:=D.length;rw[aH]at b;rw[<- b];exact k _ p A w E t rfl
end
end Ev
namespace Ev
open PySem PySem.Spec PyProof.Rows L2
def cm(g:GF)(p:List P):Option P:=match g (p.map .p) [] with
 |some (d,S)=>(toP 9 d S).map (·.1)
 |none=>Vk
@[simp] noncomputable def sI:Option (Fl×Lc×aM)->Option (D×aM)
 |some (.rt d,_,S)=>Y (d,S)
 |some (.nx,_,S)=>Y (.p .non,S)
 |_=>Vk
def zb(p n:Nat)(b:ES):GF:=λd S=>if d.length=p then sI (b (d.map Y++List.replicate (n-d.length) Vk) S) else Vk
theorem Rel.nil{K:FG}{F:Aa}{H:Hp}(f:∀a,F a->H a≠Vk):Rel K F H [] []:=⟨rfl,by simp,by simp,by simp,by simp,f⟩
variable{K:FG}{H:Hp}
theorem ss(h:Rp K (cm g) l H Q a):tM K g l H Q a:=by
 obtain⟨F,n,d,t,r,q,k⟩:=h;unfold cm at q;cases e:g (n.map .p) [] with
 |none=>rw[e]at q;cases q
 |some z=>
  obtain⟨s,S⟩:=z;rw[e]at q;dsimp only at q;cases x:toP 9 s S with
  |none=>rw[x]at q;cases q
  |some y=>obtain⟨p,P⟩:=y;rw[x]at q;cases q;refine⟨F,[],n.map .p,[],s,S,.nil t,dR.ofP r,e,λv o A b i m u=>?_⟩;obtain⟨f,j,w,_,c⟩:=nz 9 x m u;exact k v f b ((i.trans j).toGrow w.ft) c
theorem FnOk.pure(G:FnOk a w K m base u9 k f d s (tM K g)):FnOk a w K m base u9 k f d s (Rp K (cm g)):=
 FnOk.imp G λ_ _ _ _ h=>ss h
theorem dR.toSt(r:dR K F H m s k):RL K F H m (L2.start N k) (s.map Y++List.replicate (N.length-s.length) Vk):=by
 have l:=r.length;refine⟨by unfold L2.start;simp[l],λi d e=>?_⟩;by_cases h:i < s.length
 .rw [ce (by simpa using h),bq]at e;cases q:s[i]? with
  |none=>rw[q]at e;cases e
  |some v=>rw[q]at e;cases e;obtain⟨x,a,p⟩:=r.get q;refine⟨x,?_,p⟩;unfold L2.start;rw[ce (by simpa[<- l] using h),bq,a];rfl
 .rw [c_ (by simpa using h),wc]at e;split at e<;>cases e
theorem KH{P:Program}{w:World}{K:FG}{m:SV}{base:Heap}{x u:Str}{st:Stmt}{f:Addr}{n:FuncData}{N a:LS}{k:Nat}{e:Sp}(F:Fun K x u st f n)(S:FnScope N a (bz st))(len:∀v H Q E,e v H Q E->v.length=a.length)
  (b:∀(c:Value),j3 K c u=Vl->∀(A:Around) (o:List Env) (s:Shared) (H:Hp) (v:List V) (Q:VK) (E:XK),Room k (A.deeper (envOfC u (bz st) s.heap.objs.size f c))->e v H Q E ->
   ∃t,qF (yR u9 P w K m base N u (bz st) f c A o s H E).nox (hU st) t/\t { nx:=λ_ r=>Q .non r,rt:=Q } (start N v) H):FnOk P w K m base u9 (k+1) f n a e:=by
 obtain⟨B,C,z,kV,g,D,j,c,y,l,rfl,lk,d⟩:=F.ex;refine QM lk d S len λA o s H v Q E i p=>?_;obtain⟨t,h,q⟩:=b c d A o s H v Q E i p;exact⟨t,h.nox,q⟩
theorem NQ{P:Program}{w:World}{K:FG}{y:SV}{base:Heap}{x u:Str}{st:Stmt}{f:Addr}{i:FuncData}{N p:LS}{k:Nat}{b:ES}(F:Fun K x u st f i)(S:FnScope N p (bz st))
  (M:∀(c:Value),j3 K c u=Vl->∀(A:Around) (o:List Env) (s:Shared) (H:Hp) (E:XK),Room k (A.deeper (envOfC u (bz st) s.heap.objs.size f c)) ->
   qF (yR u9 P w K y base N u (bz st) f c A o s H E).nox (hU st) (pa K b)):FnOk P w K y base u9 (k+1) f i p (tM K (zb p.length N.length b)):=by
 refine KH F S (λV H Q E h=>?_) (λc n A o s H V Q E R h=>⟨_,M c n A o s H E R,?_⟩)
 .obtain⟨F,m,a,S,d,G,C,r,q,k⟩:=h;rw[<- r.length];unfold zb at q;split at q
  .assumption
  .cases q
 .obtain⟨F,m,a,S,d,G,C,r,q,k⟩:=h;unfold zb at q;split at q
  .cases e:b (a.map Y++List.replicate (N.length-a.length) Vk) S with
   |none=>rw[e]at q;cases q
   |some z=>
    obtain⟨l,L,I⟩:=z;rw[e]at q;refine⟨F,m,_,S,l,L,I,C,r.toSt,e,λW t j g D B Z=>?_⟩;cases l with
    |nx=>cases q;exact k .non t j g D B rfl
    |bk=>cases q
    |ct=>cases q
    |rt X=>intro v T;cases q;exact k v t j g D B T
  .cases q
theorem HB{P:Program}{w:World}{K:FG}{g:SV}{base:Heap}{f:Addr}{x:FuncData}{p:LS}{k:Nat}:FnOk P w K g base u9 k f x p (tM K λ_ _=>Vk):=by
 have n:∀v H Q E,¬tM K (λ_ _=>Vk) v H Q E:=λv H Q E h=>by obtain⟨F,m,b,S,d,e,_,_,q,_⟩:=h;cases q
 exact⟨λv H Q E h=>absurd h (n v H Q E),λA o s H a u v Q E _ _ _ _ h=>absurd h (n v H Q E)⟩
structure Tr where
 v:Option EV:=Vk
 e:Option EE:=Vk
 b:Option EB:=Vk
 w:Option EB:=Vk
def Tr.ofV(f:Option EV):Tr:=⟨f,f.map O,f.map λg=>bT (O g),f.map bV⟩
def Tr.ofC(f:Option EV):Tr:=⟨f,f.map O,f.map bV,f.map bV⟩
def Tr.ofE(f:Option EE):Tr:=⟨f.map vE,f,f.map bT,f.map λg=>bV (vE g)⟩
def Tr.ofB(b w:Option EB):Tr:=⟨w.map vB,w.map λg=>O (vB g),b,w⟩
structure Cn where
 N:LS
 own:LS
 deep:LS
 ks:List (Str×NameKind)
 F:Str->Option GF
 G:Str->Option P
 A:Str->Str->Bool
 M:Str->Str->Option GF
 I:Str->Option GF
noncomputable def nE:LS->Str->Option Nat
 | [],_=>Vk
 |y::r,x=>if y=x then Y 0 else (nE r x).map (·+1)
theorem sQ:∀{N:LS}{x:Str}{i:Nat},nE N x=Y i->N[i]? = Y x
 | [],_,_,h=>by cases h
 |y::r,x,i,h=>by
  unfold nE at h;split at h
  .rename_i e;cases h;simp[e]
  .cases q:nE r x with
   |none=>rw[q]at h;cases h
   |some j=>rw[q]at h;cases h;simpa using sQ q
theorem p_:∀{N:LS}{x:Str}{i:Nat},N.Nodup->N[i]? = Y x->nE N x=Y i
 | [],_,_,_,h=>by simp at h
 |y::r,x,0,_,h=>by
  have:y=x:=by simpa using h
  unfold nE;rw[ac this]
 |y::r,x,i+1,d,h=>by
  have a:r[i]? = Y x:=by simpa using h
  have n:¬y=x:=λe=>by subst e;exact(cA.mp d).1 (bg a)
  unfold nE;rw[ae n,p_ (cA.mp d).2 a];rfl
noncomputable def eO(s:List (Str×NameKind))(x:Str)(l:List NameKind):Bool:=match s.lookup x with
 |some k=>l.contains k
 |none=>Vm
noncomputable def lc(x:Str):Bool:=!(x == ("__debug__":Str)) && !(x == ("__classdict__":Str))
noncomputable def Uf:LS:=["_law_due"]
def Ut:Operator->Option (P->P->Option P)
 | .Add=>Y lI
 | .Sub=>Y NY
 | .Mult=>Y xl
 | .FloorDiv=>Y AQ
 | .Mod=>Y N4
 | .Pow=>Y N0
 |_=>Vk
def OC:CmpOp->Option (P->P->Option P)
 | .Lt=>Y TQ
 | .LtE=>Y QY
 | .Gt=>Y TU
 | .GtE=>Y TV
 |_=>Vk
def Q2:CmpOp->Option (D->D->aM->Option P)
 | .Eq=>Y Hy
 | .NotEq=>Y LA
 | .In=>Y yE
 | .NotIn=>Y w5
 | .Is=>Y yD
 | .IsNot=>Y dw
 |_=>Vk
def HR (n:Bool) (o:CmpOp):Option (D->D->aM->Option P):=if n=Vl then (match o with
 | .NotIn=>Y lj
 |_=>Vk) else Q2 o
def tS:List (Option EV)->Option lC
 | []=>Y aU
 |a::r=>a.bind λf=>(tS r).map λg=>aB f g
def zP:List (Option EE)->Option uk
 | []=>Y h_
 |a::r=>a.bind λf=>(zP r).map λg=>cM f g
def xP(o:BoolOp):List (Option EB)->Option EB
 | []=>Vk
 | [a]=>a
 |a::r=>a.bind λf=>(xP o r).map λg=>match o with | .And=>lz f g | .Or=>EM f g
def Ss(o:Option (Option EV)):Option EO:=match o with
 |none=>Y l7
 |some a=>a.map lE
def HZ(f:Str):Option (List P->Option P):=
 if f=("int":Str) then Y da else if f=("list":Str) then Y pU else if f=("tuple":Str) then Y a_ else if f=("abs":Str) then Y tH else Vk
noncomputable def K4:LS:=["len","isinstance","int","bool","tuple","list","str","max","min","dict","range","abs","enumerate","sorted","all","any","sum","set","zip"]
noncomputable def uE(a s:List (Str×NameKind)):List (Str×NameKind):=a.map λ(n,k)=>if (k == .free && s.lookup n == Y .cell) then (n,.cell) else (n,k)
def AW(j:Cn)(E:Scope)(u:LS)(o:List Nat)(n:Nat):Bool:=
 decide (E.kind=.function) && E.names.all (λx=>x.2 != .cell) && E.names.all (λx=>x.2 != .local ||E.names.lookup x.1 == Y .local)
  && E.names.all (λx=>x.2 != .free ||(E.names.lookup x.1 == Y .free && (j.ks.lookup x.1 == Y .cell ||j.ks.lookup x.1 == Y .free)))
  && decide (j.N=u.take j.N.length) && decide (u.length=j.N.length+n)
  && E.names.all (λx=>x.2 != .local ||match nE j.N x.1 with|some i=>o.contains i|none=>Vl)
def sS(j:Cn)(f g:Str):Bool:=decide (f=g) && eO j.ks f [.globalImplicit]
variable{p:Type}
noncomputable def oI:List p->Option p
 | [a]=>Y a
 |_=>Vk
noncomputable def wv{p:Type}:List p->Option (p×p)
 | [a,b]=>Y (a,b)
 |_=>Vk
theorem gx{p:Type}{l:List p}{a:p}(h:oI l=Y a):l=[a]:=by
 unfold oI at h;split at h
 .cases h;rfl
 .cases h
theorem oy{p:Type}{l:List p}{a b:p}(h:wv l=Y (a,b)):l=[a,b]:=by
 unfold wv at h;split at h
 .cases h;rfl
 .cases h
theorem av{p e:Type}{x:Option p}{f:p->Option e}{r:e}(h:x.bind f=Y r):∃a,x=Y a/\f a=Y r:=by
 cases x with
 |none=>cases h
 |some a=>exact⟨a,rfl,h⟩
theorem aI{p e:Type}{x:Option p}{f:p->e}{r:e}(h:x.map f=Y r):∃a,x=Y a/\r=f a:=by
 cases x with
 |none=>cases h
 |some a=>cases h;exact⟨a,rfl,rfl⟩
theorem LM{p:Type}{c:Prop}[Decidable c]{f:c->Option p}{x:p}(h:(if q:c then f q else Vk)=Y x):c:=by
 by_cases q:c
 .exact q
 .rw [dif_neg q]at h;cases h
section
variable{e:Expr}
noncomputable def Kk(e:Expr):Option Str:=if h:e.ctorIdx=23 then Expr.Name.elim e h λx _=>Y x else Vk
theorem sK{x:Str}(h:Kk e=Y x):∃p,e=.Name x p:=by have c:=LM h;revert h;exact Expr.Name.elim e c λ_ p h=>by cases h;exact⟨p,rfl⟩
noncomputable def m_(e:Expr):Option (Ab):=if h:e.ctorIdx=25 then Expr.Tuple.elim e h λs _ _=>Y s else Vk
theorem kg{s:Ab}(h:m_ e=Y s):∃c p,e=.Tuple s c p:=by have c:=LM h;revert h;exact Expr.Tuple.elim e c λ_ c p h=>by cases h;exact⟨c,p,rfl⟩
noncomputable def Dt(e:Expr):Option (Ab):=if h:e.ctorIdx=24 then Expr.List.elim e h λs _=>Y s else Vk
theorem sR{s:Ab}(h:Dt e=Y s):∃p,e=.List s p:=by have c:=LM h;revert h;exact Expr.List.elim e c λ_ p h=>by cases h;exact⟨p,rfl⟩
noncomputable def Q9(e:Expr):Option (Expr×Str×Pos):=if h:e.ctorIdx=20 then Expr.Attribute.elim e h λo m p=>Y (o,m,p) else Vk
theorem Ic{o:Expr}{m:Str}{p:Pos}(h:Q9 e=Y (o,m,p)):e=.Attribute o m p:=by have c:=LM h;revert h;exact Expr.Attribute.elim e c λ_ _ _ h=>by cases h;rfl
noncomputable def SW(e:Expr):Option (Expr×Expr):=if h:e.ctorIdx=21 then Expr.Subscript.elim e h λo i _=>Y (o,i) else Vk
theorem MG{o i:Expr}(h:SW e=Y (o,i)):∃p,e=.Subscript o i p:=by have c:=LM h;revert h;exact Expr.Subscript.elim e c λ_ _ p h=>by cases h;exact⟨p,rfl⟩
noncomputable def Uc(e:Expr):Option (Option Expr×Option Expr×Option Expr):=if h:e.ctorIdx=26 then Expr.Slice.elim e h λi j k _=>Y (i,j,k) else Vk
theorem ME{i j k:Option Expr}(h:Uc e=Y (i,j,k)):∃p,e=.Slice i j k p:=by have c:=LM h;revert h;exact Expr.Slice.elim e c λ_ _ _ p h=>by cases h;exact⟨p,rfl⟩
noncomputable def TX(e:Expr):Option (Expr×Ab×Pos):=if h:e.ctorIdx=16 then Expr.Call.elim e h λf a k p=>if k.isEmpty=Vl then Y (f,a,p) else Vk else Vk
theorem N8{f:Expr}{a:Ab}{p:Pos}(h:TX e=Y (f,a,p)):e=.Call f a [] p:=by
 have c:=LM h;revert h;exact Expr.Call.elim e c λ_ _ k _ h=>by
  cases k with
  |nil=>cases h;rfl
  |cons _ _=>cases h
end
def qh(e:Expr):Option (Str×Ab):=(TX e).bind λz=>(Kk z.1).map λr=>(r,z.2.1)
theorem jB{e:Expr}{r:Str}{a:Ab}(h:qh e=Y (r,a)):∃p c,e=.Call (.Name r p) a [] c:=by obtain⟨⟨f,s,c⟩,x,n⟩:=av h;obtain⟨m,k,b⟩:=aI n;obtain⟨p,rfl⟩:=sK k;cases b;exact⟨p,c,N8 x⟩
def Uv(e:Expr):Option ((Expr×Str×Pos)×Ab×Pos):=(TX e).bind λz=>(Q9 z.1).map λr=>(r,z.2)
def Ls(j:Cn)(f:Str)(a:Expr):Option Expr:=(qh a).bind λz=>(oI z.2).bind λb=>if (decide (f=("list":Str)) && sS j z.1 "range")=Vl then Y b else Vk
def Fq(j:Cn)(f:Str)(a:Expr):Option (Expr×Expr):=(qh a).bind λz=>(wv z.2).bind λb=>if (decide (f=("dict":Str)) && sS j z.1 "zip")=Vl then Y b else Vk
def Jv(j:Cn)(T:Expr->Tr)(t e:Expr):Option lC:=(qh e).elim ((T e).v.map eR) λz=>if sS j z.1 "range"=Vl then (oI z.2).bind λa=>(T a).v.map ji
  else if sS j z.1 "enumerate"=Vl then (oI z.2).bind λa=>if (m_ t).isSome=Vl then (T a).v.map fN else Vk
  else (T e).v.map eR
def Mg(N:LS)(s:List (Str×NameKind))(k:List NameKind)(e:Expr):Option lM:=(Kk e).bind λx=>if eO s x k=Vl then (nE N x).map ah else Vk
def FM(N:LS)(s:List (Str×NameKind))(k:List NameKind):Ab->Option (List lM)
 | []=>Y []
 |e::r=>(Mg N s k e).bind λg=>(FM N s k r).map λh=>g::h
def Ju(N:LS)(s:List (Str×NameKind))(k:List NameKind)(e:Expr):Option lM:=(m_ e).elim (Mg N s k e) λh=>(FM N s k h).map be
def jr(e:Expr):LS:=((m_ e).getD [e]).filterMap Kk
noncomputable def qC(N:LS):LS->LS
 | []=>[]
 |t::r=>if (N.contains t ||(qC N r).contains t)=Vl then qC N r else t::qC N r
def TY(N:LS)(o:LS):List Nat:=o.filterMap λt=>nE N t
def pC(j:Cn)(T:Cn->Expr->Tr)(l t iter:Expr)(i:Ab)(E:Scope):Option EV:=
 if (AW j E (j.N++qC j.N (jr t)) (TY j.N (jr t)) (qC j.N (jr t)).length && decide (j.N++qC j.N (jr t)).Nodup)=Vl then
  (Ju (j.N++qC j.N (jr t)) (uE E.names j.ks) [.local] t).bind λg=>
   (match i with | []=>Y eA | [c]=>(T ⟨j.N++qC j.N (jr t),j.own.filter (λx=>!(jr t).contains x),[],uE E.names j.ks,j.F,j.G,j.A,j.M,j.I⟩ c).b|_=>Vk).bind λc=>
   (T ⟨j.N++qC j.N (jr t),j.own.filter (λx=>!(jr t).contains x),[],uE E.names j.ks,j.F,j.G,j.A,j.M,j.I⟩ l).v.bind λe=>
   (Jv j (T j) t iter).map λh=>bp h (TY j.N (jr t)) (qC j.N (jr t)).length g c e
 else Vk
def yt(j:Cn):Nat->Expr->Bool
 |0,_=>Vm
 |n+1,e=>(Kk e).any (j.own.contains ·) ||(SW e).any (λz=>yt j n z.1) ||(Q9 e).any (λz=>yt j n z.1) ||(Uv e).any λz=>decide (z.1.2.1=("setdefault":Str)) && yt j n z.1.1
def Ll(a:Ab):Option Expr:=(wv a).bind λz=>(Dt z.2).bind λe=>if e.isEmpty=Vl then Y z.1 else Vk
def Az(e:Expr):Bool:=[20,21,23].contains e.ctorIdx ||(Uv e).isSome ||(qh e).any λz=>!z.2.isEmpty
def Hg(e:Expr):Bool:=(Kk e).any (Uf.contains ·)
noncomputable def jv(e:Expr):Bool:=e.ctorIdx == 8
def Ot(j:Cn)(o:Option EE)(os:Expr)(m:Str)(s:List (Option EE))(p c:Pos):Tr:=
 if (Az os && (p.endLine == c.line) && decide (s.length < 29))=Vl then .ofE (o.bind λx=>(zP s).map λa=>cL j.M x m a) else {}
def Ou(j:Cn)(o:Expr)(m:Str)(n:Str)(a c:Pos):Bool:=decide (m=n) && yt j 4 o && Az o && (a.endLine == c.line)
def RN(s:List Comprehension):Option (Expr×Expr×Ab):=(oI s).bind λg=>if g.is_async=0 then Y (g.target,g.iter,g.ifs) else Vk
def T9(j:Cn)(T:Expr->Tr)(f:Str)(s:Ab):Tr:=if (eO j.ks f [.globalImplicit] && lc f && !s.isEmpty)=Vl then
  (j.I f).elim ((j.F f).elim
   ((oI s).elim
    {}
    λa=>if f=("len":Str) then .ofV (if Hg a=Vl then (T a).e.map FD else (T a).e.map d5) else if f=("sorted":Str) then .ofV ((T a).e.map uv) else
     (Ls j f a).elim ((Fq j f a).elim (.ofV ((HZ f).bind λg=>(tS [(T a).v]).map λx=>bj g x)) λz=>.ofE ((T z.1).v.bind λx=>(T z.2).v.map λy=>AM x y)) λb=>.ofV ((T b).v.map Rk))
   λg=>.ofV ((tS (s.map λx=>(T x).v)).map λa=>bj (cm g) a))
  λg=>.ofE ((zP (s.map λx=>(T x).e)).map λa=>ml g f a)
 else {}
def T_(j:Cn)(T:Expr->Tr)(o:Expr)(m:Str)(p:Pos)(s:Ab)(c:Pos):Tr:=(oI s).elim
  (if (decide (m=("get":Str)) && Az o && (p.endLine == c.line))=Vl then (wv s).elim {} (fun z=>.ofV ((T o).v.bind fun x=>(T z.1).v.bind fun y=>(T z.2).v.map fun z=>FE x y z)) else
   (Ll s).elim (Ot j (T o).e o m (s.map λx=>(T x).e) p c) λa=>if Ou j o m "setdefault" p c=Vl then .ofE ((T o).e.bind λx=>(T a).v.map λy=>oX x y (di aU)) else Ot j (T o).e o m (s.map λx=>(T x).e) p c)
  λa=>if Ou j o m "append" p c=Vl then .ofE ((T o).e.bind λx=>(T a).e.map λy=>bC x y) else
   if Ou j o m "extend" p c=Vl then .ofE ((T o).e.bind λx=>(T a).v.map λy=>gA x y) else
   if (decide (m=("index":Str)) && Az o && (p.endLine == c.line))=Vl then .ofV ((T o).v.bind λx=>(T a).v.map λy=>wq x y) else
   (m_ a).elim (Ot j (T o).e o m (s.map λx=>(T x).e) p c) λe=>if Ou j o m "get" p c=Vl then .ofE ((T o).e.bind λx=>(tS (e.map λz=>(T z).v)).map λy=>tt x y) else Ot j (T o).e o m (s.map λx=>(T x).e) p c
def FS(j:Cn)(f:Str)(a:Ab)(k:List Keyword):Option Expr:=if (sS j f "sorted" && j.deep.contains (Str.ofString "<lambda>") && eO j.ks (Str.ofString "renaming") [.cell] && G_ k)=Vl then
 (oI a).bind λe=>(qh e).bind λz=>if sS j z.1 "range"=Vl then oI z.2 else Vk else Vk
def UK(j:Cn)(T:Expr->Tr)(t:Cn->Expr->Tr)(e:Expr):Tr:=match e with
  | .Constant c _ _=>match c with
   | .int i=>.ofV (Y (vC (.int i)))
   | .bool i=>.ofV (Y (vC (.bl i)))
   | .none=>.ofV (Y (vC .non))
   | .str i=>.ofV (Y (vC (.str i)))
   |_=>{}
  | .Name x _=>if (eO j.ks x [.local,.cell,.free] && lc x)=Vl then .ofE ((nE j.N x).map aj) else
    if (eO j.ks x [.globalImplicit] && lc x)=Vl then .ofV ((j.G x).map vC) else {}
  | .BinOp a p b _=>.ofV ((Ut p).bind λg=>(T a).v.bind λx=>(T b).v.map λy=>gQ g x y)
  | .UnaryOp p a _=>match p with
   | .USub=>.ofV ((T a).v.map (Jq uh))
   | .Not=>.ofB ((T a).b.map ED) ((T a).w.map ED)
   |_=>{}
  | .BoolOp p s _=>.ofB (xP p (s.map λx=>(T x).b)) (xP p (s.map λx=>(T x).w))
  | .Compare a h r _=>(oI h).elim (.ofC ((wv h).bind λo=>(wv r).bind λz=>(OC o.1).bind λg=>(OC o.2).bind λw=>(T a).v.bind λx=>(T z.1).v.bind λy=>(T z.2).v.map λz=>pB g w x y z))
    λp=>(oI r).elim {} λb=>(OC p).elim (.ofC ((HR (Hg b) p).bind λg=>(T a).e.bind λx=>(T b).e.map λy=>fx g x y)) λg=>.ofC ((T a).v.bind λx=>(T b).v.map λy=>gQ g x y)
  | .IfExp c a b _=>{ Tr.ofV ((T c).b.bind λq=>(T a).v.bind λx=>(T b).v.map λy=>Rl q x y) with b:=Vk }
  | .Tuple s _ _=>.ofV ((tS (s.map λx=>(T x).v)).map aQ)
  | .List s _=>.ofV ((tS (s.map λx=>(T x).v)).map bP)
  | .Dict k H _=>if (k.isEmpty && H.isEmpty)=Vl then { e:=Y qd,v:=Y (vE qd) } else {}
  | .Subscript a i _=>(Uc i).elim (if Hg a=Vl then .ofE ((T a).e.bind λx=>(T i).v.map λy=>yP x y) else if yt j 4 a=Vl then (m_ i).elim (.ofE ((T a).e.bind λx=>(T i).v.map λy=>kF x y)) λs=>.ofE ((T a).e.bind λx=>(tS (s.map λz=>(T z).v)).map λy=>ug x y) else .ofV ((T a).v.bind λx=>(T i).v.map λy=>gQ iM x y))
    λz=>if z.2.2.isSome=Vl then {} else .ofV ((T a).v.bind λx=>(Ss (z.1.map λy=>(T y).v)).bind λy=>(Ss (z.2.1.map λz=>(T z).v)).map λz=>tR x y z)
  | .Call m n k d=>if k.isEmpty=Vl then (Kk m).elim ((Q9 m).elim {} λz=>T_ j T z.1 z.2.1 z.2.2 n d) (λf=>T9 j T f n) else (Kk m).elim {} λf=>(FS j f n k).elim {} λa=>.ofV ((nE j.N (Str.ofString "renaming")).bind λi=>(T a).v.map λx=>xR i x)
  | .Attribute o f _=>if Az o=Vl then .ofE ((T o).e.map λx=>bR j.A x f) else {}
  | .ListComp l u E _=>(RN u).elim {} λz=>.ofV (pC j t l z.1 z.2.1 z.2.2 E)
  |_=>{}
def tr(j:Cn):Nat->Expr->Tr
 |0,_=>{}
 |n+1,e=>UK j (λx=>tr j n x) (λh x=>tr h n x) e
def Jw(j:Cn)(n _k:Nat)(e:Expr):Option EE:=(qh e).elim (tr j n e).e λz=>if (eO j.ks z.1 [.globalImplicit] && lc z.1 && !z.2.isEmpty && j.deep.contains z.1)=Vl then
   (j.F z.1).elim (tr j n e).e λg=>(zP (z.2.map λx=>(tr j n x).e)).map λa=>xi g a
  else (tr j n e).e
def Rn(j:Cn)(n k:Nat)(e:Expr):Option EE:=(Dt e).elim (Jw j n k e) λs=>(zP (s.map λx=>Jw j n k x)).map LJ
structure XOk(Γ:Cn)(X:Cx):Prop where
 hN:X.N=Γ.N
 nd:X.N.Nodup
 ks:X.e.scope.names=Γ.ks
 kd:X.e.scope.kind=.function
 calm:X.c=Vl
 hu:X.A.units+64 < cLine
 fns:∀x g,Γ.F x=Y g->∃k f fd ps,FnOk X.p X.w X.K X.g X.b u9 k f fd ps (tM X.K g)/\Room k X.A/\X.g x=Y (.ref f)/\iN X.K (.ref f)=Vl/\Binds X.K fd ps []
 blt:∀x ∈ K4,X.g x=Vk
 glb:∀x v,Γ.G x=Y v->xB X.K X.g x v
 attrs:RY X.K Γ.A
 meths:RV X Γ.M
 mks:∀c g,Γ.I c=Y g->∃C k f fd ps,j0 X.K c C/\X.g c=Y (.ref C)/\Mk X.K C f/\FnOk X.p X.w X.K X.g X.b u9 k f fd ps (tM X.K g)/\Room (k+1) X.A/\Binds X.K fd ps []
 lam:Γ.deep.contains (Str.ofString "<lambda>")=Vl->Ri X
structure Good(X:Cx)(ex:Expr)(t:Tr):Prop where
 v:∀f,t.v=Y f->PE X ex (tV X.K f)
 e:∀f,t.e=Y f->PE X ex (tE X.K f)
 b:∀f,t.b=Y f->PT X ex (tQ X.K f)
 w:∀f,t.w=Y f->PE X ex (tV X.K (vB f))
section
variable{X:Cx}{e:Expr}
theorem Good.no:Good X e {}:=⟨λ_ h=>(by cases h),λ_ h=>(by cases h),λ_ h=>(by cases h),λ_ h=>(by cases h)⟩
theorem Good.el{p:Type}{o:Option p}{b:Tr}{f:p->Tr}(h:∀a,o=Y a->Good X e (f a))(x:o=Vk->Good X e b):Good X e (o.elim b f):=by
 cases o with
 |none=>exact x rfl
 |some a=>exact h a rfl
theorem Good.ite{c:Prop}[Decidable c]{a b:Tr}(h:c->Good X e a)(x:Good X e b):Good X e (if c then a else b):=by
 by_cases q:c
 .rw [ac q];exact h q
 .rw [ae q];exact x
def Ii(e:Expr):Prop:=∀env w,isTrue e env w=(do let v <- w;standAt e.pos;holding [v] (truthy v))
theorem Good.ofV{t:Option EV}(h:∀f,t=Y f->PE X e (tV X.K f))(p:Ii e):Good X e (.ofV t) where
 v:=h
 e:=λf q=>by
  cases t with
  |none=>cases q
  |some g=>cases q;exact Oo (h _ rfl)
 b:=λf q=>by
  cases t with
  |none=>cases q
  |some g=>cases q;exact yT (Oo (h _ rfl)) (p _)
 w:=λf q=>by
  cases t with
  |none=>cases q
  |some g=>cases q;exact CG (h _ rfl)
theorem Good.ofC{t:Option EV}(h:∀f,t=Y f->PE X e (tV X.K f))(x:∀f,t=Y f->PT X e (tQ X.K (bV f))):Good X e (.ofC t) where
 v:=h
 e:=λf q=>by
  cases t with
  |none=>cases q
  |some g=>cases q;exact Oo (h _ rfl)
 b:=λf q=>by
  cases t with
  |none=>cases q
  |some g=>cases q;exact x _ rfl
 w:=λf q=>by
  cases t with
  |none=>cases q
  |some g=>cases q;exact CG (h _ rfl)
theorem Good.ofE{t:Option EE}(h:∀f,t=Y f->PE X e (tE X.K f))(p:Ii e):Good X e (.ofE t) where
 v:=λf q=>by
  cases t with
  |none=>cases q
  |some g=>cases q;exact R_ (h _ rfl)
 e:=h
 b:=λf q=>by
  cases t with
  |none=>cases q
  |some g=>cases q;exact yT (h _ rfl) (p _)
 w:=λf q=>by
  cases t with
  |none=>cases q
  |some g=>cases q;exact CG (R_ (h _ rfl))
theorem Good.ofB{b w:Option EB}(h:∀f,b=Y f->PT X e (tQ X.K f))(hw:∀f,w=Y f->PE X e (tV X.K (vB f))):Good X e (.ofB b w) where
 v:=λf q=>by
  cases w with
  |none=>cases q
  |some g=>cases q;exact hw _ rfl
 e:=λf q=>by
  cases w with
  |none=>cases q
  |some g=>cases q;exact Oo (hw _ rfl)
 b:=h
 w:=hw
end
theorem lG{p x:Type}{o:Option p}{b r:x}{f:p->x}(h:o.elim b f=r):(∃a,o=Y a/\f a=r)\/(o=Vk/\b=r):=by
 cases o with
 |none=>exact .inr ⟨rfl,h⟩
 |some a=>exact .inl ⟨a,rfl,h⟩
def iw(e:Expr):Prop:=∀s env,starEach (e::s) env=(Vm,eval e env)::starEach s env
structure RdE(e:Expr):Prop where
 st:iw e
 ix:mX e
 mr:∀op,behindInMarks op e=Vm
 ms:∀op op' b,lastMarks [op,op'] [b,e]=Vm
 ps:tL e
 sw:jv e=Vm->∀t l env,swapsWith e t l env=pure Vm
 fs:∀env x,foldedSetIterable e env x=pure x
theorem rd_of{j:Cn}{n:Nat}{e:Expr}(h:(tr j n e).v.isSome=Vl\/(tr j n e).e.isSome=Vl):RdE e:=by
 cases n with
 |zero=>rcases h with h|h<;>cases h
 |succ n=>cases e<;>first|(rcases h with h|h<;>cases h;done)|exact⟨λ_ _=>rfl,λ_ _=>rfl,λ_=>rfl,λ_ _ _=>rfl,λ_ _ _ _=>rfl,λc _ _ _=>(by first|rfl|cases c),λ_ _=>rfl⟩
theorem jh{j:Cn}{n:Nat}{e:Expr}{f:EV}(h:(tr j n e).v=Y f):RdE e:=rd_of (.inl (by rw[h];rfl))
theorem sF{j:Cn}{n:Nat}{e:Expr}{f:EE}(h:(tr j n e).e=Y f):RdE e:=rd_of (.inr (by rw[h];rfl))
variable{env:Env}
theorem lA(h:∀e ∈ s,iw e):(backTo k (starEach s env)).any (·.1)=Vm:=by
 induction s with
 |nil=>rfl
 |cons e s i=>
  rw[h e aK s env];have:=i λx a=>h x (aL _ a)
  unfold backTo at this ⊢;rw[aC,eY,this];rfl
section
variable{j:Cn}{X:Cx}(h:XOk j X)
include h
theorem XOk.gl(q:eO j.ks x [.globalImplicit]=Vl):Gl X x:=by
 unfold Gl Env.kindOf;rw[h.ks];unfold eO at q;cases e:j.ks.lookup x with
 |none=>rw[e]at q;cases q
 |some k=>rw[e]at q;cases k<;>first|rfl|cases q
theorem XOk.vis(q:eO j.ks x [.local,.cell,.free]=Vl):OF X.e.scope x:=by
 unfold OF;rw[h.ks];unfold eO at q;cases e:j.ks.lookup x with
 |none=>rw[e]at q;cases q
 |some k=>rw[e]at q;cases k<;>first|exact .inl rfl|exact .inr (.inl rfl)|exact .inr (.inr rfl)|cases q
theorem XOk.loc(q:eO j.ks x [.local,.cell]=Vl):L2.Loc X.e.scope x:=by
 unfold L2.Loc;rw[h.ks];unfold eO at q;cases e:j.ks.lookup x with
 |none=>rw[e]at q;cases q
 |some k=>rw[e]at q;cases k<;>first|exact .inl rfl|exact .inr rfl|cases q
theorem XOk.local(q:eO j.ks x [.local]=Vl):X.e.scope.names.lookup x=Y .local:=by
 rw[h.ks];unfold eO at q;cases e:j.ks.lookup x with
 |none=>rw[e]at q;cases q
 |some k=>rw[e]at q;cases k<;>first|rfl|cases q
theorem XOk.cellk(q:eO j.ks x [.cell]=Vl):X.e.kindOf x=Y .cell:=by
 show X.e.scope.names.lookup x=Y .cell;rw[h.ks];unfold eO at q;cases e:j.ks.lookup x with
 |none=>rw[e]at q;cases q
 |some k=>rw[e]at q;cases k<;>first|rfl|cases q
omit h in
theorem ig{x:Str}(q:lc x=Vl):(x == ("__debug__":Str))=Vm/\(x == ("__classdict__":Str))=Vm:=by unfold lc at q;rw[ar]at q;exact⟨by simpa using q.1,by simpa using q.2⟩
theorem XOk.get(q:nE j.N x=Y i):X.N[i]? = Y x:=by rw[h.hN];exact sQ q
omit h in
theorem jg{j:Cn}{n:Nat}:∀{s:Ab}{k:lC},(∀e ∈ s,Good X e (tr j n e))->tS (s.map λx=>(tr j n x).v)=Y k->PA X s (tT X.K k)/\∀e ∈ s,iw e
 | [],k,_,q=>by cases q;exact⟨Og,λ_ z=>by cases z⟩
 |e::s,k,g,q=>by
  obtain⟨f,b,p⟩:=av q;obtain⟨r,v,rfl⟩:=aI p;obtain⟨m,t⟩:=jg (λx a=>g x (aL _ a)) v;have b:(tr j n e).v=Y f:=b;have c:iw e:=(jh b).st;refine⟨LQ ((g e aK).v f b) m (c _ _),λx a=>?_⟩;rcases bc.mp a with a|a
  .subst a;exact c
  .exact t x a
omit h in
theorem ri{j:Cn}{n:Nat}:∀{s:Ab}{k:uk},(∀e ∈ s,Good X e (tr j n e))->zP (s.map λx=>(tr j n x).e)=Y k->PA X s (zR X.K k)/\∀e ∈ s,iw e
 | [],k,_,q=>by cases q;exact⟨LN,λ_ z=>by cases z⟩
 |e::s,k,g,q=>by
  obtain⟨f,b,p⟩:=av q;obtain⟨r,v,rfl⟩:=aI p;obtain⟨m,t⟩:=ri (λx a=>g x (aL _ a)) v;have b:(tr j n e).e=Y f:=b;have c:iw e:=(sF b).st;refine⟨HM ((g e aK).e f b) m (c _ _),λx a=>?_⟩;rcases bc.mp a with a|a
  .subst a;exact c
  .exact t x a
omit h in
theorem xN{o:BoolOp}{p:Pos}{j:Cn}{n:Nat}:∀{s:Ab}{f:EB},(∀e ∈ s,Good X e (tr j n e))->xP o (s.map λx=>(tr j n x).b)=Y f->PW X (.BoolOp o s p) (tQ X.K f)
 | [],f,_,q=>by cases q
 | [a],f,g,q=>by
  cases o with
  |And=>exact OT ((g a aK).b f q)
  |Or=>exact R5 ((g a aK).b f q)
 |a::b::s,f,g,q=>by
  obtain⟨x,k,m⟩:=av q;obtain⟨r,t,rfl⟩:=aI m;have i:=xN (s:=b::s) (p:=p) (λx c=>g x (aL _ c)) t;cases o with
  |And=>exact R8 ((g a aK).b x k) i
  |Or=>exact UC ((g a aK).b x k) i
omit h in
theorem xO{o:BoolOp}{p:Pos}{j:Cn}{n:Nat}:∀{s:Ab}{f:EB},(∀e ∈ s,Good X e (tr j n e))->xP o (s.map λx=>(tr j n x).w)=Y f->PE X (.BoolOp o s p) (tV X.K (vB f))
 | [],f,_,q=>by cases q
 | [a],f,g,q=>O6 ((g a aK).w f q)
 |a::b::s,f,g,q=>by
  obtain⟨x,k,m⟩:=av q;obtain⟨r,t,rfl⟩:=aI m;have i:=xO (s:=b::s) (p:=p) (λx c=>g x (aL _ c)) t;cases o with
  |And=>exact Sn ((g a aK).w x k) i
  |Or=>exact UD ((g a aK).w x k) i
omit h in
theorem FK{j:Cn}{n:Nat}{o:Option Expr}{f:EO}(g:∀e,Good X e (tr j n e))(q:Ss (o.map λy=>(tr j n y).v)=Y f):PO X o (tO X.K f):=by
 cases o with
 |none=>cases q;exact Nr
 |some e=>obtain⟨x,a,rfl⟩:=aI (show((tr j n e).v).map lE=Y f from q);exact Nq ((g e).v x a)
theorem N9{o:Operator}{g:P->P->Option P}(q:Ut o=Y g):rQ X (binaryOp o) g:=by cases o<;>first|(cases q;exact Nl)|(cases q;exact Qb)|(cases q;exact Qe)|(cases q;exact Kg)|(cases q;exact Qf)|(cases q;exact Qc)|cases q
omit h in
theorem pQ{o:CmpOp}{g:P->P->Option P}(q:OC o=Y g):rQ X (compareOp o) g:=by cases o<;>first|(cases q;exact Th)|(cases q;exact Ti)|(cases q;exact Tj)|(cases q;exact Tl)|cases q
theorem KU{o:CmpOp}{g:D->D->aM->Option P}(q:Q2 o=Y g):jZ X (compareOp o) (rE X.K g):=by cases o<;>first|(cases q;exact Qk h.hu)|(cases q;exact Qd h.hu)|(cases q;exact Qi h.hu)|(cases q;exact GO h.hu)|(cases q;exact Qg)|(cases q;exact GP)|cases q
theorem yV(q:HR k a=Y g):jZ X (compareOp a) (rE X.K g):=by
 cases k
 .exact KU h q
 .cases a<;>first|(cases q;exact GN h.hu)|cases q
theorem K0{f:Str}{g:GF}{a:Expr}{s:Ab}{x:lC}{b o:Pos}(t:j.F f=Y g)(hk:eO j.ks f [.globalImplicit]=Vl)(v:lc f=Vl)(c:PA X (a::s) (tT X.K x))(n:∀e ∈ a::s,iw e) :
  PE X (.Call (.Name f b) (a::s) [] o) (tV X.K (bj (cm g) x)):=by
 obtain⟨k,w,u,i,G,d,q,p,m⟩:=h.fns f g t;exact O5 (FnOk.pure G) d (h.gl hk) q p m c (ig v).1 (n a aK _ _) (lA λe r=>n e (aL _ r))
theorem HW{f:Str}{g:GF}{a:Expr}{s:Ab}{x:uk}{c o:Pos}(d:j.F f=Y g)(hk:eO j.ks f [.globalImplicit]=Vl)(q:lc f=Vl)(m:PA X (a::s) (zR X.K x))(n:∀e ∈ a::s,iw e) :
  PE X (.Call (.Name f c) (a::s) [] o) (tV X.K (FF g x))/\PE X (.Call (.Name f c) (a::s) [] o) (tE X.K (xi g x)):=by
 obtain⟨k,w,u,i,G,v,t,p,r⟩:=h.fns f g d;exact⟨Jk G v (h.gl hk) t p r m (ig q).1 (n a aK _ _) (lA fun e b=>n e (aL _ b)),
  L_ G v (h.gl hk) t p r m (ig q).1 (n a aK _ _) (lA λe b=>n e (aL _ b))⟩
theorem N_{f:Str}{g:List P->Option P}{a:Expr}{n:Ab}{c:lC}{r p:Pos}(x:HZ f=Y g)(hk:eO j.ks f [.globalImplicit]=Vl)(k:PA X (a::n) (tT X.K c))(m:∀e ∈ a::n,iw e) :
  PE X (.Call (.Name f r) (a::n) [] p) (tV X.K (bj g c)):=by
 have s:=m a aK n X.e;have b:=lA (env:=X.e) (k:=p) λe s=>m e (aL _ s);unfold HZ at x;split at x
 .rename_i e;subst e;cases x;exact L0 (h.gl hk) (h.blt _ (by decide)) k s b
 split at x
 .rename_i e;subst e;cases x;exact LZ (h.gl hk) (h.blt _ (by decide)) k s b
 split at x
 .rename_i e;subst e;cases x;exact Jh (h.gl hk) (h.blt _ (by decide)) k s b
 split at x
 .rename_i e;subst e;cases x;exact OW (h.gl hk) (h.blt _ (by decide)) k s b
 .cases x
omit h in
theorem lh{f g:Str}(q:sS j f g=Vl):f=g/\eO j.ks f [.globalImplicit]=Vl:=by unfold sS at q;rw[ar]at q;exact⟨aR q.1,q.2⟩
theorem Lv{n:Nat}{m e:Expr}{f:lC}(g:∀x,Good X x (tr j n x))(q:Jv j (λx=>tr j n x) m e=Y f):PI X m e (tI X.K f):=by
 have plain:((tr j n e).v.map eR=Y f)->PI X m e (tI X.K f):=λq=>by obtain⟨x,s,rfl⟩:=aI q;exact iS ((g e).v x s)
 have d:=lG q;clear q;rcases d with ⟨⟨u,v⟩,z,q⟩|⟨_,q⟩
 .obtain⟨i,o,rfl⟩:=jB z;dsimp only at q;split at q
  .rename_i r;obtain⟨rfl,r⟩:=lh r;obtain⟨a,b,k⟩:=av q;clear q;cases gx b;obtain⟨x,s,rfl⟩:=aI k;exact U3 (h.gl r) (h.blt ("range":Str) (by decide)) ((g a).v x s) ((jh s).st _ _)
  .split at q
   .rename_i r;obtain⟨rfl,r⟩:=lh r;obtain⟨a,b,k⟩:=av q;clear q;cases gx b;split at k
    .rename_i t;obtain⟨x,s,rfl⟩:=aI k;obtain⟨w,t⟩:=qP.mp t;obtain⟨c,p,rfl⟩:=kg t;exact U4 (h.gl r) (h.blt ("enumerate":Str) (by decide)) ((g a).v x s) ((jh s).st _ _)
    .cases k
   .exact plain q
 .exact plain q
omit h in
theorem DU{f:Str}{a b c:Expr}(q:Fq j f a=Y (b,c)):f="dict"/\∃r p x,a=.Call (.Name r p) [b,c] [] x/\sS j r "zip"=Vl:=by
 obtain⟨⟨r,m⟩,z,n⟩:=av q;obtain⟨⟨t,v⟩,k,s⟩:=av n;clear q n;obtain⟨p,x,rfl⟩:=jB z;cases oy k;split at s
 .rename_i e;cases s;simp only[ar]at e;exact⟨aR e.1,r,p,x,rfl,e.2⟩
 .cases s
omit h in
theorem G2{f:Str}{a b:Expr}(q:Ls j f a=Y b):f="list"/\∃r p c,a=.Call (.Name r p) [b] [] c/\sS j r "range"=Vl:=by
 obtain⟨⟨r,m⟩,z,s⟩:=av q;obtain⟨t,k,e⟩:=av s;clear q s;obtain⟨p,n,rfl⟩:=jB z;cases gx k;split at e
 .rename_i x;cases e;simp only[ar]at x;exact⟨aR x.1,r,p,n,rfl,x.2⟩
 .cases e
omit h in
theorem yp{n:Nat}{t e:Expr}{f:lC}(q:Jv j (λx=>tr j n x) t e=Y f)(env:Env)(x:Value):foldedSetIterable e env x=pure x:=by
 have s:=lG q;clear q;rcases s with ⟨⟨b,a⟩,z,q⟩|⟨_,q⟩
 .obtain⟨c,p,rfl⟩:=jB z;rfl
 .obtain⟨x,k,rfl⟩:=aI q;exact(jh k).fs _ _
theorem H0(q:AW j E u o n=Vl):BlockOk X E u o n:=by
 unfold AW at q;simp only[ar]at q;obtain⟨⟨⟨⟨⟨⟨f,b⟩,c⟩,m⟩,r⟩,p⟩,v⟩:=q;have s:j.N=u.take j.N.length:=aR r;refine⟨aR f,λx a=>?_,λx a l=>?_,λx a l=>?_,?_,?_,λx a l i k=>?_⟩
 .simpa using bi.mp b x a
 .have:=bi.mp c x a;rw[l]at this;simpa using this
 .have:=bi.mp m x a;rw[l]at this;have t:E.names.lookup x.1=Y .free/\(j.ks.lookup x.1=Y .cell\/j.ks.lookup x.1=Y .free):=by simpa using this
  refine⟨t.1,?_⟩;unfold Env.kindOf;rw[h.ks];exact t.2
 .rw [h.hN];exact s
 .rw [h.hN];exact aR p
 .have:=bi.mp v x a;rw[l]at this;have e:nE j.N x.1=Y i:=p_ (by rw[<- h.hN];exact h.nd) (by rw[<- h.hN];exact k);rw[e]at this;simpa using this
end
theorem Lr{X:Cx}{N:LS}{s:List (Str×NameKind)}{k:List NameKind}{e:Expr}{g:lM}(f:X.N=N)(d:X.N.Nodup)(hk:∀x,eO s x k=Vl->L2.Loc X.e.scope x/\(X.fn x=Vl\/X.e.scope.names.lookup x=Y .local))(q:Mg N s k e=Y g):∃x p,e=.Name x p/\PG X (.Name x p) (gT X.K g):=by
 obtain⟨x,b,h⟩:=av q;clear q;obtain⟨p,rfl⟩:=sK b;split at h
 .rename_i c;obtain⟨i,m,rfl⟩:=aI h;obtain⟨a,n⟩:=hk _ c;exact⟨x,p,rfl,NO i d (by rw[f];exact sQ m) a n⟩
 .cases h
theorem tg_ok{X:Cx}{N:LS}{n:List (Str×NameKind)}{k:List NameKind}{e:Expr}{g:lM}(t:X.c=Vl)(b:X.N=N)(d:X.N.Nodup)(hk:∀x,eO n x k=Vl->L2.Loc X.e.scope x/\(X.fn x=Vl\/X.e.scope.names.lookup x=Y .local))(q:Ju N n k e=Y g):PG X e (gT X.K g):=by
 have all:∀{s:Ab}{h:List lM},FM N n k s=Y h->GsOk X s h:=by
  intro s;induction s with
  |nil=>intro h q;cases q;exact .nil
  |cons e s i=>intro h q;obtain⟨g,f,m⟩:=av q;obtain⟨r,w,rfl⟩:=aI m;clear q m;obtain⟨x,p,rfl,a⟩:=Lr b d hk f;exact .cons a (i w)
 have v:=lG q;clear q;rcases v with ⟨s,z,q⟩|⟨_,q⟩
 .obtain⟨c,p,rfl⟩:=kg z;obtain⟨h,f,rfl⟩:=aI q;exact NN t (all f)
 .obtain⟨x,p,rfl,a⟩:=Lr b d hk q;exact a
variable{E:Scope}
theorem Gf(hk:env.scope.kind=.function):(relabel E env).names=uE E.names env.scope.names:=by unfold relabel uE Env.kindOf;rw[hk];simp
variable{j:Cn}{X:Cx}{u:LS}{o:List Nat}{n:Nat}
theorem XOk.inn(h:XOk j X)(B:BlockOk X E u o n)(d:u.Nodup)(s:Shared)(H:Hp)(C:Addr)(f:List Addr) :
  XOk ⟨u,[],[],uE E.names j.ks,j.F,j.G,j.A,j.M,j.I⟩ (Ev.inn X E u s H C f) where
 hN:=rfl
 nd:=d
 ks:=by show(relabel E X.e).names=_;rw[Gf h.kd,h.ks]
 kd:=B.kind
 calm:=h.calm
 hu:=h.hu
 fns:=h.fns
 blt:=h.blt
 glb:=h.glb
 attrs:=h.attrs
 meths:=h.meths
 mks:=h.mks
 lam:=λz=>by simp at z
theorem tF(B:BlockOk X E u o n)(I:Inv X m J H s):closureFor E X.e=pure (pS E X.e):=by
 have all:∀x ∈ E.names,x.2=.free->∃c,X.e.cells.lookup x.1=Y c:=λx v h=>I.o.has x.1 (B.fr x v h).2;unfold closureFor pS;have f:∀(l:List (Str×NameKind))(a:List (Str×Addr)),(∀x ∈ l,x.2=.free->∃c,X.e.cells.lookup x.1=Y c) ->
   (forIn l a fun (x:Str×NameKind) (r:List (Str×Addr))=>(do
    if x.2 == .free then do
     let c <- cellOf X.e x.1
     pure (ForInStep.yield ((x.1,c)::r))
    else pure (ForInStep.yield r):Sem (ForInStep (List (Str×Addr)))))=pure ((((l.filter λx=>x.2 == .free).map λx=>(x.1,(X.e.cells.lookup x.1).getD 0)).reverse)++a):=by
  intro l;induction l with
  |nil=>intro a _;rfl
  |cons x l i=>
   intro a h;rw[jM];by_cases hk:(x.2 == NameKind.free)=Vl
   .obtain⟨c,b⟩:=h x aK (by simpa using hk);rw[ac hk,wb (p:=λ(x:Str×NameKind)=>x.2 == .free) hk,aC,List.reverse_cons,gW];have q:cellOf X.e x.1=pure c:=by unfold cellOf;rw[b]
    rw[q,b];show(forIn l ((x.1,c)::a) _:Sem _)=_;rw[i ((x.1,c)::a) λy e=>h y (aL _ e)];rfl
   .rw [ae hk,wa (p:=λ(x:Str×NameKind)=>x.2 == .free) hk];show(forIn l a _:Sem _)=_;rw[i a λy e=>h y (aL _ e)]
 have k:=f E.names [] all;rw [eZ] at k;show (Bind.bind (forIn E.names [] fun (x:Str×NameKind) (r:List (Str×Addr))=>(do
    if x.2 == .free then do
     let c <- cellOf X.e x.1
     pure (ForInStep.yield ((x.1,c)::r))
    else pure (ForInStep.yield r):Sem (ForInStep (List (Str×Addr))))) λt=>pure t:Sem (List (Str×Addr)))=_
 rw[k];rfl
def xE(n:Nat):Prop:=∀(j:Cn)(X:Cx),XOk j X->∀e,Good X e (tr j n e)
theorem XOk.own(h:XOk j X)(o:LS):XOk ⟨j.N,o,j.deep,j.ks,j.F,j.G,j.A,j.M,j.I⟩ X:=⟨h.hN,h.nd,h.ks,h.kd,h.calm,h.hu,h.fns,h.blt,h.glb,h.attrs,h.meths,h.mks,h.lam⟩
theorem yX{j:Cn}{X:Cx}(h:XOk j X){n:Nat}(G:xE n){l t iter:Expr}{k:Ab}{E:Scope}{f:EV}(q:pC j (λd x=>tr d n x) l t iter k E=Y f) :
  ∃u o m g w y,BlockOk X E u o m/\y8 X t iter f o m g w y/\(∀s H C p,PG (inn X E u s H C p) t (gT X.K g))/\(∀s H C p,PIfs (inn X E u s H C p) k w)/\(∀s H C p,PE (inn X E u s H C p) l (tV X.K y)) /\
   ∀x,foldedSetIterable iter X.e x=pure x:=by
 unfold pC at q;generalize N:j.N++qC j.N (jr t)=u at q;generalize P:TY j.N (jr t)=o at q;generalize I:(qC j.N (jr t)).length=m at q;split at q
 .rename_i b;rw[ar]at b;obtain⟨z,A,q⟩:=av q;obtain⟨c,v,q⟩:=av q;obtain⟨e,D,q⟩:=av q;have B:BlockOk X E u o m:=H0 h b.1;have F:u.Nodup:=aR b.2;have i:=λs H C p=>(h.inn B F s H C p).own (j.own.filter (λx=>!(jr t).contains x))
  have W:y8 X t iter f o m z c e/\∀x,foldedSetIterable iter X.e x=pure x:=by obtain⟨L,K,rfl⟩:=aI q;exact⟨Q3 (Lv h (G j X h) K),λx=>yp K _ x⟩
  refine⟨u,o,m,z,c,e,B,W.1,λs H C p=>?_,λs H C p=>?_,λs H C p=>?_,W.2⟩
  .exact tg_ok h.calm rfl F (λx S=>⟨.inl ((i s H C p).local S),.inr ((i s H C p).local S)⟩) A
  .cases k with
   |nil=>cases v;exact PIfs.none
   |cons a r=>
    cases r with
    |nil=>exact PIfs.one ((G _ _ (i s H C p) a).b c v)
    |cons _ _=>cases v
  .exact (G _ _ (i s H C p) l).v e D
 .cases q
theorem yW{j:Cn}{X:Cx}(h:XOk j X){n:Nat}(G:xE n){e t iter:Expr}{k:Ab}{E:Scope}{b:Pos}{f:EV}(q:pC j (λr x=>tr r n x) e t iter k E=Y f) :
  PE X (.ListComp e [⟨t,iter,k,0⟩] E b) (tV X.K f)/\∀(i:Nat){x:Str}{px a:Pos},X.N.Nodup->swapsWith (.ListComp e [⟨t,iter,k,0⟩] E b) (Y (.Name x px)) a.line X.e=pure Vl->X.N[i]? = Y x->L2.Loc X.e.scope x->(X.fn x=Vl\/X.e.scope.names.lookup x=Y .local) ->
   PS X (.Assign [.Name x px] (.ListComp e [⟨t,iter,k,0⟩] E b) a) (pa X.K (aA i (O f))):=by
 obtain⟨u,o,m,K,S,F,B,W,v,d,w,g⟩:=yX h G q;exact⟨λp s J H Q I q=>O3 B h.calm W v d w (tF B I) g p s J H Q I q,λi x px a N z c y l p s J H D I q=>OR i N B h.calm W v d w (tF B I) z g c y l p s J H D I q⟩
theorem F_{s:Ab}{a:Expr}(h:Ll s=Y a):∃p,s=[a,.List [] p]:=by
 obtain⟨⟨c,b⟩,e,f⟩:=av h;obtain⟨m,n,x⟩:=av f;obtain⟨p,rfl⟩:=sR n;split at x
 .rename_i k;cases x;cases oh.mp k;exact⟨p,oy e⟩
 .cases x
theorem wO{j:Cn}{o:Expr}{m n:Str}{a c:Pos}(h:Ou j o m n a c=Vl):m=n/\Az o=Vl/\(a.endLine == c.line)=Vl:=by unfold Ou at h;simp only[ar]at h;exact⟨aR h.1.1.1,h.1.2,h.2⟩
theorem eB{o:Expr}{x:Str}{env:Env}(h:Az o=Vl):attributeBase o x env (eval o env)=eval o env:=by
 cases o with
 |Call f a k p=>
  cases f with
  |Name x q=>
   cases k with
   |nil=>cases a with
    |nil=>cases h
    |cons _ _=>rfl
   |cons _ _=>cases h
  |_=>rfl
 |_=>rfl
theorem KI(h:∀e ∈ a,iw e)(l:a.length < 29):methodCallForm (a.length+([]:List Keyword).length) (backTo s (starEach a env)) (backToKw s (keywordEach [] env))=Vl:=by
 unfold methodCallForm;have n:=lA (env:=env) (k:=s) h;have k:(backTo s (starEach a env)).all (λx=>!x.1)=Vl:=by
  rw[bi];intro x c;cases b:x.1 with
  |false=>rfl
  |true=>have:(backTo s (starEach a env)).any (·.1)=Vl:=og.mpr ⟨x,c,b⟩;rw[n]at this;cases this
 rw[k];have f:(backToKw s (keywordEach [] env))=[]:=rfl;rw[f];simp;lia
theorem wy{j:Cn}{X:Cx}(h:XOk j X){n:Nat}(g:∀x,Good X x (tr j n x)){o:Expr}{m:Str}{r:Ab}{p k:Pos}:Good X (.Call (.Attribute o m p) r [] k) (Ot j (tr j n o).e o m (r.map λx=>(tr j n x).e) p k):=by
 unfold Ot;split
 .rename_i c;simp only[ar]at c;have l:r.length < 29:=by have:=aR c.2;rwa [aH]at this
  refine .ofE (λf q=>?_) λ_ _=>rfl;obtain⟨x,t,q⟩:=av q;obtain⟨a,v,rfl⟩:=aI q;obtain⟨d,s⟩:=ri (λe _=>g e) v;have b:=Nt (o:=o) (y:=m) (j:=p) (N:=k) (r:=r) (v:=X.e) (eB c.1.1) (KI s l) c.1.2;cases r with
  |nil=>cases v;exact L5 h.meths ((g o).e x t) b
  |cons e u=>exact OX h.meths ((g o).e x t) d (s e aK _ _) (lA λy w=>s y (aL _ w)) b
 .exact .no
theorem Kq{j:Cn}{X:Cx}(h:XOk j X){f:Str}{g:GF}{a:Expr}{s:Ab}{x:uk}{b p:Pos}(q:j.I f=Y g)(hk:eO j.ks f [.globalImplicit]=Vl)(d:lc f=Vl)(m:PA X (a::s) (zR X.K x))(n:∀e ∈ a::s,iw e) :
  PE X (.Call (.Name f b) (a::s) [] p) (tE X.K (ml g f x)):=by
 obtain⟨C,k,u,i,l,c,v,mk,G,w,r⟩:=h.mks f g q;exact OY mk G w (h.gl hk) v c r m (ig d).1 (n a aK _ _) (lA λe t=>n e (aL _ t))
theorem HS{g:List Comprehension}{t iter:Expr}{i:Ab}(h:RN g=Y (t,iter,i)):g=[⟨t,iter,i,0⟩]:=by
 obtain⟨⟨a,b,c,d⟩,x,p⟩:=av h;split at p
 .rename_i hd;cases p;cases (show d=0 from hd);exact gx x
 .cases p
section
variable{j:Cn}{X:Cx}(h:XOk j X){n:Nat}(g:∀x,Good X x (tr j n x))
include h g
theorem Mi{f:Str}{v:Ab}{S H:Pos}:Good X (.Call (.Name f S) v [] H) (T9 j (λx=>tr j n x) f v):=by
 refine .ite (λk=>?_) .no;simp only[ar,k6]at k;cases v with
 |nil=>cases k.2
 |cons a v=>
 refine .el (λF u=>?_) λ_=>.el (λF u=>?_) λ_=>.el (λA K=>?_) λ_=>.no
 .refine .ofE (λf q=>?_) λ_ _=>rfl;obtain⟨x,s,rfl⟩:=aI q;obtain⟨t,p⟩:=ri (λe _=>g e) s;exact Kq h u k.1.1 k.1.2 t p
 .refine .ofV (λf q=>?_) λ_ _=>rfl;obtain⟨x,s,rfl⟩:=aI q;obtain⟨t,p⟩:=jg (λe _=>g e) s;exact K0 h u k.1.1 k.1.2 t p
 .cases gx K;refine .ite (λl=>?_) (.ite (λl=>?_) (.el (λb w=>?_) λ_=>.el (λ⟨b,c⟩ w=>?_) λ_=>?_))
  .subst l;refine .ofV (λf q=>?_) λ_ _=>rfl
   split at q
   .obtain⟨x,s,rfl⟩:=aI q;exact O0 (h.gl k.1.1) (h.blt _ (by decide)) ((g _).e x s) ((sF s).st _ _)
   obtain⟨x,s,rfl⟩:=aI q;exact Sg (h.gl k.1.1) (h.blt _ (by decide)) ((g _).e x s) ((sF s).st _ _)
  .subst l;refine .ofV (λf q=>?_) λ_ _=>rfl
   obtain⟨x,s,rfl⟩:=aI q;exact Fw (h.gl k.1.1) (h.blt _ (by decide)) ((g _).e x s) ((sF s).st _ _)
  .obtain⟨rfl,r,P,z,rfl,m⟩:=G2 w;refine .ofV (λf q=>?_) λ_ _=>rfl;obtain⟨x,s,rfl⟩:=aI q;obtain⟨rfl,m⟩:=lh m;exact Jj h.calm (h.gl k.1.1) (h.blt _ (by decide)) (h.gl m) (h.blt _ (by decide)) ((g _).v x s) ((jh s).st _ _)
  .obtain⟨rfl,r,P,z,rfl,m⟩:=DU w;refine .ofE (λf q=>?_) λ_ _=>rfl;obtain⟨x,s,q⟩:=av q;obtain⟨y,d,rfl⟩:=aI q;obtain⟨rfl,m⟩:=lh m;have i:starEach [c] X.e=[(Vm,eval c X.e)]:=(jh d).st _ _;exact L7 h.calm (h.gl k.1.1) (h.blt _ (by decide)) (h.gl m) (h.blt _ (by decide)) ((g _).v x s) ((g _).v y d) (by rw[(jh s).st,i]) i Jc
  .refine .ofV (λf q=>?_) λ_ _=>rfl;obtain⟨o,s,q⟩:=av q;obtain⟨x,d,rfl⟩:=aI q;obtain⟨t,p⟩:=jg (s:=[a]) (λe _=>g e) d;exact N_ h s k.1.1 t p
theorem Mj{o:Expr}{m:Str}{u:Ab}{w i:Pos}:Good X (.Call (.Attribute o m w) u [] i) (T_ j (λx=>tr j n x) o m w u i):=by
 have l:X.A.units+1 < cLine:=by have:=h.hu;lia
 refine .el (λa d=>?_) λ_=>?_
 .cases gx d;refine .ite (λs=>?_) (.ite (λs=>?_) (.ite (λs=>?_) (.el (λA K=>.ite (λs=>?_) (wy h g)) λ_=>wy h g)))
  .obtain⟨rfl,t,v⟩:=wO s;refine .ofE (λf q=>?_) λ_ _=>rfl;obtain⟨x,r,q⟩:=av q;obtain⟨y,k,rfl⟩:=aI q;exact Jn ((g _).e x r) ((g _).e y k) ((sF k).st _ _) (eB t) v
  .obtain⟨rfl,t,v⟩:=wO s;refine .ofE (λf q=>?_) λ_ _=>rfl;obtain⟨x,r,q⟩:=av q;obtain⟨y,k,rfl⟩:=aI q;exact Jm ((g _).e x r) ((g _).v y k) ((jh k).st _ _) (eB t) v
  .simp only[ar]at s;cases aR s.1.1;refine .ofV (λf q=>?_) λ_ _=>rfl;obtain⟨x,r,q⟩:=av q;obtain⟨y,k,rfl⟩:=aI q;exact L6 h.hu ((g _).v x r) ((g _).v y k) ((jh k).st _ _) (eB s.1.2) s.2
  .obtain⟨c,p,rfl⟩:=kg K;obtain⟨rfl,t,v⟩:=wO s;refine .ofE (λf q=>?_) λ_ _=>rfl;obtain⟨x,r,q⟩:=av q;obtain⟨y,k,rfl⟩:=aI q;exact O2 l ((g _).e x r) (jg (λe _=>g e) k).1 ⟨eB t,rfl,v,rfl⟩
 .refine .ite (λs=>.el (λ⟨a,b⟩ d=>?_) λ_=>.no) (.el (λa d=>.ite (λs=>?_) (wy h g)) λ_=>wy h g)
  .simp only[ar]at s;cases aR s.1.1;cases oy d;refine .ofV (λf q=>?_) λ_ _=>rfl;obtain⟨x,r,q⟩:=av q;obtain⟨y,k,q⟩:=av q;obtain⟨z,S,rfl⟩:=aI q;have P:starEach [b] X.e=[(Vm,eval b X.e)]:=(jh S).st _ _;have F:starEach [a,b] X.e=[(Vm,eval a X.e),(Vm,eval b X.e)]:=by rw[(jh k).st,P]
   exact L3 l ((g _).v x r) ((g _).v y k) ((g _).v z S) ⟨eB s.1.2,by rw[F];rfl,s.2,by rw[F];rfl⟩
  .obtain⟨p,rfl⟩:=F_ d;obtain⟨rfl,t,v⟩:=wO s;refine .ofE (λf q=>?_) λ_ _=>rfl;obtain⟨x,r,q⟩:=av q;obtain⟨y,k,rfl⟩:=aI q;have H:=(jh k).st;exact Jl ((g _).e x r) ((g _).v y k) (Lb Og) ⟨eB t,by rw[H];rfl,v,by rw[H];rfl⟩
end
theorem xV:∀n,xE n
 |0=>λj X h e=>Good.no
 |n+1=>by
  have G:=xV n;intro j X h e;have g:=G j X h;cases e with
  |Constant c k p=>
   cases c with
   |int i=>exact .ofV (λf q=>by cases q;exact Sk) λ_ _=>rfl
   |bool i=>exact .ofV (λf q=>by cases q;exact UH) λ_ _=>rfl
   |none=>exact .ofV (λf q=>by cases q;exact Sd) λ_ _=>rfl
   |str i=>exact .ofV (λf q=>by cases q;exact Sa) λ_ _=>rfl
   |_=>exact .no
  |Name x p=>
   refine .ite (λw=>?_) (.ite (λw=>?_) .no)
   .rw [ar]at w;refine .ofE (λf q=>?_) λ_ _=>rfl;obtain⟨i,s,rfl⟩:=aI q;exact R9 i (h.get s) (h.vis w.1) (ig w.2).1 (ig w.2).2
   .rw [ar]at w;refine .ofV (λf q=>?_) λ_ _=>rfl;obtain⟨v,s,rfl⟩:=aI q;exact O1 (h.gl w.1) (h.glb _ v s) (ig w.2).1
  |BinOp a l b p=>refine .ofV (λf q=>?_) λ_ _=>rfl;obtain⟨o,s,q⟩:=av q;obtain⟨x,t,q⟩:=av q;obtain⟨y,d,rfl⟩:=aI q;exact UE (N9 h s) ((g _).v x t) ((g _).v y d)
  |UnaryOp l a p=>
   cases l with
   |USub=>refine .ofV (λf q=>?_) λ_ _=>rfl;obtain⟨x,s,rfl⟩:=aI q;exact Se ((g _).v x s)
   |Not=>
    refine .ofB (λf q=>?_) λf q=>?_
    .obtain⟨x,s,rfl⟩:=aI q;exact R6 ((g _).b x s)
    .obtain⟨x,s,rfl⟩:=aI q;exact Sc ((g _).w x s)
   |_=>exact .no
  |BoolOp l C p=>exact .ofB (λf q=>(xN (λe _=>g e) q).pt) λf q=>xO (λe _=>g e) q
  |Compare a H A p=>
   refine .el (λl L=>?_) λ_=>?_
   .cases gx L;refine .el (λb F=>?_) λ_=>.no
    cases gx F;refine .el (λD s=>?_) λ_=>?_
    .have u:∀f,((tr j n a).v.bind λx=>(tr j n b).v.map λy=>gQ D x y)=Y f->PE X (.Compare a [l] [b] p) (tV X.K f)/\PT X (.Compare a [l] [b] p) (tQ X.K (bV f)):=λf q=>by
      obtain⟨x,t,q⟩:=av q;obtain⟨y,d,rfl⟩:=aI q;exact⟨Sm (pQ s) ((g _).v x t) ((g _).v y d) ((jh d).mr _),R7 (pQ s) ((g _).v x t) ((g _).v y d) ((jh d).mr _)⟩
     exact .ofC (λf q=>(u f q).1) λf q=>(u f q).2
    .have u:∀f,((HR (Hg b) l).bind λg=>(tr j n a).e.bind λx=>(tr j n b).e.map λy=>fx g x y)=Y f->PE X (.Compare a [l] [b] p) (tV X.K f)/\PT X (.Compare a [l] [b] p) (tQ X.K (bV f)):=λf q=>by
      obtain⟨o,s,q⟩:=av q;obtain⟨x,t,q⟩:=av q;obtain⟨y,d,rfl⟩:=aI q;exact⟨O4 (yV h s) ((g _).e x t) ((g _).e y d) ((sF d).mr _),OS (yV h s) ((g _).e x t) ((g _).e y d) ((sF d).mr _)⟩
     exact .ofC (λf q=>(u f q).1) λf q=>(u f q).2
   .have u:∀f,((wv H).bind λo=>(wv A).bind λz=>(OC o.1).bind λg=>(OC o.2).bind λD=>(tr j n a).v.bind λx=>(tr j n z.1).v.bind λy=>(tr j n z.2).v.map λz=>pB g D x y z)=Y f->PE X (.Compare a H A p) (tV X.K f)/\PT X (.Compare a H A p) (tQ X.K (bV f)):=λf q=>by
     obtain⟨⟨o1,o2⟩,b1,R⟩:=av q;obtain⟨⟨b,c⟩,b2,T⟩:=av R;clear q R;cases oy b1;cases oy b2;obtain⟨o,s,q⟩:=av T;obtain⟨o',t,q⟩:=av q;obtain⟨x,d,q⟩:=av q;obtain⟨y,V,q⟩:=av q;obtain⟨z,K,rfl⟩:=aI q;exact⟨L9 (pQ s) (pQ t) ((g _).v x d) ((g _).v y V) ((g _).v z K) ((jh K).ms _ _ _),LY (pQ s) (pQ t) ((g _).v x d) ((g _).v y V) ((g _).v z K) ((jh K).ms _ _ _)⟩
    exact .ofC (λf q=>(u f q).1) λf q=>(u f q).2
  |IfExp c a b p=>
   have Q:∀f,((tr j n c).b.bind λq=>(tr j n a).v.bind λx=>(tr j n b).v.map λy=>Rl q x y)=Y f->PE X (.IfExp c a b p) (tV X.K f):=λf q=>by obtain⟨o,s,q⟩:=av q;obtain⟨x,t,q⟩:=av q;obtain⟨y,d,rfl⟩:=aI q;exact UG ((g _).b o s) ((g _).v x t) ((g _).v y d)
   refine⟨Q,λf q=>?_,λf q=>(by cases q),λf q=>?_⟩
   .obtain⟨x,s,rfl⟩:=aI (show iz O _=Y f from q);exact Oo (Q _ s)
   .obtain⟨x,s,rfl⟩:=aI (show iz bV _=Y f from q);exact CG (Q _ s)
  |Tuple C c p=>refine .ofV (λf q=>?_) λ_ _=>rfl;obtain⟨x,s,rfl⟩:=aI q;exact R' (jg (λe _=>g e) s).1
  |List C p=>refine .ofV (λf q=>?_) λ_ _=>rfl;obtain⟨x,s,rfl⟩:=aI q;exact Sf (jg (λe _=>g e) s).1
  |Dict ks vs p=>refine .ite (λw=>?_) .no;rw[ar]at w;cases oh.mp w.1;cases oh.mp w.2;exact⟨λf q=>(by cases q;exact R_ Fy),λf q=>(by cases q;exact Fy),λf q=>(by cases q),λf q=>(by cases q)⟩
  |Subscript a i p=>
   have N:X.A.units+1 < cLine:=by have:=h.hu;lia
   refine .el (λ⟨lo,hi,st⟩ hs=>?_) λ_=>.ite (λ_=>?_) (.ite (λ_=>.el (λC et=>?_) λ_=>?_) ?_)
   .obtain⟨p,rfl⟩:=ME hs;cases st with
    |some _=>exact .no
    |none=>
     refine .ite (λ_=>.no) (.ofV (λf q=>?_) λ_ _=>rfl)
     .obtain⟨x,s,q⟩:=av q;obtain⟨y,t,q⟩:=av q;obtain⟨z,d,rfl⟩:=aI q;exact Sb ((g _).v x s) (FK g t) (FK g d)
   .refine .ofE (λf q=>?_) λ_ _=>rfl;obtain⟨x,s,q⟩:=av q;obtain⟨y,t,rfl⟩:=aI q;exact Si (by have:=h.hu;lia) ((g _).e x s) ((g _).v y t) (jh t).ix
   .obtain⟨c,p,rfl⟩:=kg et;refine .ofE (λf q=>?_) λ_ _=>rfl;obtain⟨x,s,q⟩:=av q;obtain⟨y,t,rfl⟩:=aI q;exact Sh N ((g _).e x s) (jg (λe _=>g e) t).1 λ_ _=>rfl
   .refine .ofE (λf q=>?_) λ_ _=>rfl;obtain⟨x,s,q⟩:=av q;obtain⟨y,t,rfl⟩:=aI q;exact Sj N ((g _).e x s) ((g _).v y t) (jh t).ix
   .refine .ofV (λf q=>?_) λ_ _=>rfl;obtain⟨x,s,q⟩:=av q;obtain⟨y,t,rfl⟩:=aI q;exact UF N ((g _).v x s) ((g _).v y t) (jh t).ix
  |Call fn as ks cp=>
   refine .ite (λhk=>?_) (.el (λf I=>.el (λa S=>.ofV (λfv q=>?_) λ_ _=>rfl) λ_=>.no) λ_=>.no)
   .cases oh.mp hk;refine .el (λf I=>?_) λ_=>.el (λ⟨o,m,ap⟩ L=>?_) λ_=>.no
    .obtain⟨fp,rfl⟩:=sK I;exact Mi h g
    .cases Ic L;exact Mj h g
   .obtain⟨fp,rfl⟩:=sK I;obtain⟨i,s,q⟩:=av q;obtain⟨x,t,rfl⟩:=aI q;unfold FS at S;split at S;case isFalse=>cases S
    rename_i w;simp only[ar]at w;obtain⟨⟨⟨B,c2⟩,c3⟩,c4⟩:=w;obtain⟨e,W,F⟩:=qO.mp S;clear S;obtain⟨⟨r,as'⟩,Z,hd⟩:=qO.mp F;clear F;cases gx W;obtain⟨pr,c,rfl⟩:=jB Z;split at hd;case isFalse=>cases hd
    rename_i M;cases gx hd;obtain⟨rfl,B⟩:=lh B;obtain⟨rfl,M⟩:=lh M;obtain⟨T,p2,p3,p4,kp,rfl⟩:=G9 c4;obtain⟨l1,l2,cc,P,l3,l4,l5⟩:=h.lam c2;exact Ji h.calm l1 l3 l4 l5 l2 (h.get s) (h.cellk c3) (h.gl B) (h.blt _ (by decide)) (h.gl M) (h.blt _ (by decide)) ((g _).v x t) ((jh t).st _ _)
  |Attribute o f p=>refine .ite (λw=>?_) .no;refine .ofE (λf q=>?_) λ_ _=>rfl;obtain⟨x,s,rfl⟩:=aI q;exact Sl h.attrs ((g _).e x s) (eB w)
  |ListComp elt gs E p=>refine .el (λ⟨tg,iter,ifs⟩ hz=>?_) λ_=>.no;cases HS hz;exact .ofV (λf q=>(yW h G q).1) λ_ _=>rfl
  |_=>exact .no
theorem wz{j:Cn}{X:Cx}(h:XOk j X){n k:Nat}{e:Expr}{f:EE}(q:Jw j n k e=Y f):PE X e (tE X.K f)/\(jv e=Vm->∀t l env,swapsWith e t l env=pure Vm)/\iw e:=by
 have g:=xV n j X h;have p:∀{e},(tr j n e).e=Y f->PE X e (tE X.K f)/\(jv e=Vm->∀t l env,swapsWith e t l env=pure Vm)/\iw e:=λq=>⟨(g _).e f q,(sF q).sw,(sF q).st⟩;have v:=lG q;clear q;rcases v with ⟨⟨i,r⟩,z,q⟩|⟨_,q⟩
 .obtain⟨y,u,rfl⟩:=jB z;dsimp only at q;split at q
  .rename_i c;simp only[ar,k6]at c;rcases lG q with ⟨o,m,q⟩|⟨_,q⟩
   .refine⟨?_,(λ_ _ _ _=>rfl),λ_ _=>rfl⟩;cases r with
    |nil=>cases c.1.2
    |cons a w=>obtain⟨x,d,rfl⟩:=aI q;obtain⟨s,b⟩:=ri (λe _=>g e) d;exact(HW h m c.1.1.1 c.1.1.2 s b).2
   .exact p q
  .exact p q
 .exact p q
theorem xW(h:XOk j X):∀{a:Ab}{s:uk},zP (a.map λx=>Jw j n k x)=Y s->PA X a (zR X.K s)
 | [],s,q=>by cases q;exact LN
 |e::a,s,q=>by obtain⟨f,c,m⟩:=av q;obtain⟨r,t,rfl⟩:=aI m;obtain⟨p,_,b⟩:=wz h c;exact HM p (xW h t) (b _ _)
theorem sk{j:Cn}{X:Cx}(h:XOk j X){n k:Nat}{e:Expr}{f:EE}(q:Rn j n k e=Y f):PE X e (tE X.K f)/\(jv e=Vm->∀t l env,swapsWith e t l env=pure Vm):=by
 have a:=lG q;clear q;rcases a with ⟨b,x,q⟩|⟨_,q⟩
 .obtain⟨p,rfl⟩:=sR x;obtain⟨c,s,rfl⟩:=aI q;exact⟨OZ (xW h s),λ_ _ _ _=>rfl⟩
 .exact⟨(wz h q).1,(wz h q).2.1⟩
def zO(T:Stmt->Option ES):List Stmt->Option ES
 | []=>Y gf
 | [s]=>T s
 |s::r=>(T s).bind λf=>(zO T r).map λg=>ai f g
noncomputable def NH(e:Expr):Option Unit:=if h:e.ctorIdx=6 then Expr.Dict.elim e h λk v _=>if (k.isEmpty && v.isEmpty)=Vl then Y () else Vk else Vk
theorem Du{e:Expr}{u:Unit}(h:NH e=Y u):∃p,e=.Dict [] [] p:=by
 have c:=LM h;revert h;exact Expr.Dict.elim e c λk v p h=>by
  cases k with
  |cons _ _=>cases h
  |nil=>
   cases v with
   |cons _ _=>cases h
   |nil=>exact⟨p,rfl⟩
def TW(j:Cn)(e:Expr):Option Expr:=(qh e).bind λz=>(oI z.2).bind λa=>if sS j z.1 "list"=Vl then Y a else Vk
def T8(j:Cn)(n:Nat)(t v:Expr):Option ES:=
 (Kk t).elim ((SW t).elim ((Q9 t).elim (if jv v=Vl then Vk else (m_ t).bind fun _=>if (m_ v).isSome=Vl then Vk else (Ju j.N j.ks [.local,.cell] t).bind fun g=>(tr j n v).v.map fun z=>xZ g z)
   λz=>if ((NH v).isSome && j.deep.contains z.2.1)=Vl then (tr j n z.1).e.map λx=>jS j.A x z.2.1 tw else (tr j n z.1).e.bind λx=>(Rn j n 5 v).map λy=>jS j.A x z.2.1 y)
  λz=>if jv v=Vl then Vk else (tr j n z.1).e.bind λx=>(tr j n v).v.bind λw=>if Hg z.1=Vl then (tr j n z.2).v.map λy=>x2 x y w else (m_ z.2).elim ((tr j n z.2).v.map λy=>jR x y w) λe=>(tS (e.map λz=>(tr j n z).v)).map λy=>CY x y w)
 λx=>if eO j.ks x [.local,.cell]=Vl then (nE j.N x).bind λi=>if (j.deep.contains x && (NH v).isSome)=Vl then Y (aA i (if Uf.contains x=Vl then AN else tw)) else if (j.deep.contains x && !jv v)=Vl then (Rn j n 5 v).map (aA i) else (if j.own.contains x=Vl then TW j v else Vk).elim ((if j.own.contains x=Vl then Dt v else Vk).elim ((tr j n v).e.map (aA i)) λe=>(tS (e.map λy=>(tr j n y).v)).map λa=>aA i (di a)) λa=>(tr j n a).v.map λf=>aA i (HF f)
  else Vk
def Oq(j:Cn):Nat->Stmt->Option ES
 |0,_=>Vk
 |n+1,st=>match st with
  | .Assign o v _=>(oI o).bind λt=>T8 j n t v
  | .Return r _=>r.bind λe=>if j.own.contains ("return":Str)=Vl then (Rn j n 5 e).map bh else (tr j n e).e.map bh
  | .Expr e _=>if jv e=Vl then Vk else (tr j n e).e.map bW
  | .If c a b _=>(tr j n c).b.bind λq=>(zO (Oq j n) a).bind λx=>(zO (Oq j n) b).map λy=>fm q x y
  | .For h iter d l _=>if l.isEmpty=Vm then Vk else (Ju j.N j.ks [.local,.cell] h).bind λg=>(Jv j (λy=>tr j n y) h iter).bind λi=>(zO (Oq j n) d).map λb=>bD i g b
  |_=>Vk
theorem GR{e:Ab}{c:Nat}{p:Pos}{v:Expr}{env:Env}(h:¬(m_ v).isSome=Vl):swappedStores [.Tuple e c p] v env=pure Vk:=by cases v<;>first|rfl|exact absurd rfl h
theorem Jt{j:Cn}{n:Nat}{l:Expr}{g:List Comprehension}{E:Scope}{p:Pos}{f:EE}(h:(tr j n (.ListComp l g E p)).e=Y f) :
  ∃k t iter i s,n=k+1/\g=[⟨t,iter,i,0⟩]/\pC j (λa x=>tr a k x) l t iter i E=Y s/\f=O s:=by
 cases n with
 |zero=>cases h
 |succ n=>
  replace h:((RN g).elim {} λz=>Tr.ofV (pC j (λa x=>tr a n x) l z.1 z.2.1 z.2.2 E)).e=Y f:=h;cases e:RN g with
  |none=>rw[e]at h;cases h
  |some z=>rw[e]at h;obtain⟨x,q,rfl⟩:=aI (show iz O _=Y f from h);exact⟨n,_,_,_,x,rfl,HS e,q,rfl⟩
theorem oz{X:Cx}{T:Stmt->Option ES}(h:∀st f,T st=Y f->PS X st (pa X.K f)):∀{a:List Stmt}{f:ES},zO T a=Y f->qF X a (pa X.K f)
 | [],f,q=>by cases q;exact R3
 | [s],f,q=>R1 (h s f q)
 |s::t::r,f,q=>by obtain⟨x,e,q⟩:=av q;obtain⟨y,n,rfl⟩:=aI q;exact OQ (h s x e) (oz h n)
theorem Mh{j:Cn}{X:Cx}(h:XOk j X)(m:∀x,X.fn x=Vl){n:Nat}{t l:Expr}{M:Pos}{f:ES}(q:T8 j n t l=Y f):PS X (.Assign [t] l M) (pa X.K f):=by
 have g:=xV n j X h;have L:X.A.units+1 < cLine:=by have:=h.hu;lia
 rcases lG q with ⟨x,V,P⟩|⟨_,P⟩
 .clear q;obtain⟨px,rfl⟩:=sK V;split at P
  .rename_i hk;obtain⟨i,qi,q⟩:=av P;split at q
   .rename_i hd;rw[ar]at hd;obtain⟨u,T⟩:=qP.mp hd.2;obtain⟨p,rfl⟩:=Du T;cases q;split
    .exact zH i h.nd L8 (h.get qi) (h.loc hk) rfl (.inl (m x))
    .exact zH i h.nd Fx (h.get qi) (h.loc hk) rfl (.inl (m x))
   split at q
   .rename_i hd;rw[ar]at hd;obtain⟨fe,s,rfl⟩:=aI q;exact zH i h.nd (sk h s).1 (h.get qi) (h.loc hk) ((sk h s).2 (by simpa using hd.2) _ _ _) (.inl (m x))
   .have qq:=lG q;clear q P;rcases qq with ⟨a,I,q⟩|⟨_,q⟩
    .split at I
     .obtain⟨⟨r,as⟩,b1,H⟩:=av I;obtain⟨a',b2,H⟩:=av H;clear I;obtain⟨fp,cp,rfl⟩:=jB b1;cases gx b2;split at H
      .rename_i Q;cases H;obtain⟨rfl,Q⟩:=lh Q;obtain⟨z,s,rfl⟩:=aI q;exact zH i h.nd (L4 (h.gl Q) (h.blt ("list":Str) (by decide)) ((g _).v z s) ((jh s).st _ _)) (h.get qi) (h.loc hk) rfl (.inl (m x))
      .cases H
     .cases I
    rcases lG q with ⟨N,K,q⟩|⟨_,q⟩
    .split at K
     .obtain⟨a,s,rfl⟩:=aI q;obtain⟨p,rfl⟩:=sR K;exact zH i h.nd (Lb (jg (λe _=>g e) s).1) (h.get qi) (h.loc hk) rfl (.inl (m x))
     .cases K
    .obtain⟨fe,s,rfl⟩:=aI q;cases C:jv l with
     |false=>exact zH i h.nd ((g l).e fe s) (h.get qi) (h.loc hk) ((sF s).sw C _ _ _) (.inl (m x))
     |true=>
      have c:l.ctorIdx=8:=eq_of_beq C;clear q C;revert s;refine Expr.ListComp.elim l c fun a gs c d s=>?_;obtain⟨k,Z,iter,E,f',rfl,rfl,F,rfl⟩:=Jt s;have cu:=yW (b:=d) h (xV k) F;have B:swapsWith (.ListComp a [⟨Z,iter,E,0⟩] c d) (Y (.Name x px)) M.line X.e=pure (X.e.blockKind == .function && X.e.kindOf x == Y .local && px.line == (Expr.ListComp a [⟨Z,iter,E,0⟩] c d).pos.line
       && !(c.names.any λ(n,k)=>n == x && (k == .local ||k == .cell))):=rfl
      revert B;generalize (X.e.blockKind == .function && X.e.kindOf x == Y .local && px.line == (Expr.ListComp a [⟨Z,iter,E,0⟩] c d).pos.line && !(c.names.any λ(n,k)=>n == x && (k == .local ||k == .cell)))=b;intro B;cases b with
      |true=>exact cu.2 i h.nd B (h.get qi) (h.loc hk) (.inl (m x))
      |false=>exact zH i h.nd (Oo cu.1) (h.get qi) (h.loc hk) B (.inl (m x))
  .cases P
 rcases lG P with ⟨⟨o,i⟩,W,H⟩|⟨_,H⟩
 .clear q P;obtain⟨p,rfl⟩:=MG W;split at H
  .cases H
  rename_i D;obtain⟨x,s,S⟩:=av H;obtain⟨w,G,A⟩:=av S;have B:=(jh G).sw (by simpa using D);clear H S;split at A
  .obtain⟨y,F,rfl⟩:=aI A;exact OL (by have:=h.hu;lia) ((g o).e x s) ((g i).v y F) ((g l).v w G) (B _ _ _)
  have q0:=lG A;clear A;rcases q0 with ⟨N,et,q⟩|⟨_,q⟩
  .obtain⟨c,p,rfl⟩:=kg et;obtain⟨y,F,rfl⟩:=aI q;exact OK L ((g o).e x s) (jg (λe _=>g e) F).1 ((g l).v w G) (B _ _ _)
  .obtain⟨y,F,rfl⟩:=aI q;exact ON L ((g o).e x s) ((g i).v y F) ((g l).v w G) (B _ _ _) rfl (jh F).ps
 rcases lG H with ⟨⟨o,f,ap⟩,W,S⟩|⟨_,S⟩
 .clear q P H;cases Ic W;split at S
  .rename_i hd;rw[ar]at hd;obtain⟨u,L⟩:=qP.mp hd.1;obtain⟨p,rfl⟩:=Du L;obtain⟨x,s,rfl⟩:=aI S;exact OO h.attrs ((g o).e x s) Fx rfl
  obtain⟨x,s,q⟩:=av S;obtain⟨z,F,rfl⟩:=aI q;refine OO h.attrs ((g o).e x s) (sk h F).1 ?_;cases C:jv l with
  |false=>exact(sk h F).2 C _ _ _
  |true=>have c:l.ctorIdx=8:=eq_of_beq C;clear q F S C;exact Expr.ListComp.elim (motive_1:=λv=>swapsWith v (Y (.Attribute o f ap)) M.line X.e=pure Vm) l c λ_ _ _ _=>rfl
 .clear q P H;split at S
  .cases S
  rename_i D;obtain⟨N,K,A⟩:=av S;clear S;obtain⟨c,p,rfl⟩:=kg K;split at A
  .cases A
  .rename_i R;obtain⟨gg,s,q⟩:=av A;obtain⟨z,G,rfl⟩:=aI q;exact RZ ((g l).v z G) (tg_ok h.calm h.hN h.nd (λx V=>⟨h.loc V,.inl (m x)⟩) s) (show swapsWith l (Y (.Tuple N c p)) M.line X.e=pure Vm from(jh G).sw (by simpa using D) _ _ _) (GR R) rfl
theorem FJ{j:Cn}{X:Cx}(h:XOk j X)(k:∀x,X.fn x=Vl)(H:PassesOwn (model X.p X.w) X.A X.e X.xe):∀n (st:Stmt) (f:ES),Oq j n st=Y f->PS X st (pa X.K f)
 |0,st,f,q=>by cases q
 |n+1,st,f,q=>by
  have i:=FJ h k H n;have g:=xV n j X h;cases st with
  |Assign o u B=>obtain⟨t,v,m⟩:=av q;clear q;cases gx v;exact Mh h k m
  |Return r p=>
   obtain⟨e,v,m⟩:=av q;cases (show r=Y e from v);clear q v;split at m
   .obtain⟨x,s,rfl⟩:=aI m;exact OJ (sk h s).1
   .obtain⟨x,s,rfl⟩:=aI m;exact OJ ((g _).e x s)
  |Expr e p=>
   replace q:(if jv e=Vl then Vk else (tr j n e).e.map bW)=Y f:=q;split at q
   .cases q
   .rename_i d;obtain⟨x,s,rfl⟩:=aI q;exact OP ((g _).e x s) ((sF s).sw (by simpa using d) _ _ _)
  |If c a b p=>obtain⟨c,s,q⟩:=av q;obtain⟨x,w,q⟩:=av q;obtain⟨y,K,rfl⟩:=aI q;exact UB ((g _).b c s) (oz i w) (oz i K)
  |For C iter z l p=>
   cases l with
   |cons _ _=>cases q
   |nil=>obtain⟨P,F,q⟩:=av q;obtain⟨A,s,q⟩:=av q;obtain⟨b,w,rfl⟩:=aI q;exact R4 H h.calm (Lv h g s) (tg_ok h.calm h.hN h.nd (λx S=>⟨h.loc S,.inl (k x)⟩) F) (oz i w) λx=>yp s _ x
  |_=>cases q
structure Df where
 name:Str
 short:Str
 cls:Str
 st:Stmt
 N:LS
 ps:LS
 own:LS
 deep:LS
noncomputable abbrev At:=List (Str×LS)
noncomputable def aT(T:At)(c f:Str):Bool:=T.any λx=>decide (x.1=c) && x.2.contains f
noncomputable def fT(D:List Df)(h:Str->GF)(x:Str):Option GF:=if (D.any λd=>decide (d.name=x) && d.cls.cps.isEmpty)=Vl then Y (h x) else Vk
noncomputable def RB(c m:Str)(d:Df):Bool:=decide (d.cls=c) && decide (d.short=m) && !d.cls.cps.isEmpty
def mT(D:List Df)(h:Str->GF)(c m:Str):Option GF:=if m=("__init__":Str) then Vk else (D.find? (RB c m)).map λd=>h d.name
def TB(D:List Df)(h:Str->GF)(c:Str):Option GF:=(D.find? (RB c "__init__")).map λd=>h d.name
noncomputable abbrev P3:=(Str->GF)×(Str->Option GF)
def TF(G:Str->Option P)(T:At)(D:List Df)(p:P3)(d:Df):Cn:=⟨d.N,d.own,d.deep,(bz d.st).names,fT D p.1,G,aT T,mT D p.1,p.2⟩
def xu(G:Str->Option P)(T:At)(D:List Df)(p:P3)(d:Df):ES:=(zO (Oq (TF G T D p d) 60) (hU d.st)).getD MH
def xA(G:Str->Option P)(T:At)(D:List Df):Nat->P3
 |0=>(λ_ _ _=>Vk,λ_=>Vk)
 | n+1=>(fun x=>match D.find? fun d=>decide (d.name=x) with
  |some d=>zb d.ps.length d.N.length (xu G T D (xA G T D n) d)
  |none=>λ_ _=>Vk,TB D (xA G T D n).1)
noncomputable def Rb(G:Str->Option P)(T:At)(D:List Df)(n:Nat):Str->GF:=(xA G T D n).1
def Rr(d:Df):Bool:=decide ((bz d.st).kind=.function) && !(bz d.st).isCoroutine && !(bz d.st).isGenerator && decide d.N.Nodup && decide (d.N.take d.ps.length=d.ps)
 && d.ps.all (λx=>(bz d.st).names.lookup x == Y .local ||(bz d.st).names.lookup x == Y .cell) && (bz d.st).names.all (λy=>y.2 != .free)
theorem MF{d:Df}(h:Rr d=Vl):FnScope d.N d.ps (bz d.st):=by
 unfold Rr at h;simp only[ar]at h;obtain⟨⟨⟨⟨⟨⟨a,e⟩,s⟩,n⟩,k⟩,f⟩,b⟩:=h;refine⟨aR a,by simpa using e,by simpa using s,aR n,aR k,λx c=>?_,λy m=>?_⟩
 .have:=bi.mp f x c;simpa using this
 .have:=bi.mp b y m;simpa using this
structure DOk(K:FG)(mg:SV)(d:Df)(f:Addr)(fd:FuncData):Prop where
 fn:Fun K d.short d.name d.st f fd
 bd:Binds K fd d.ps []
 pl:d.cls.cps.isEmpty=Vl->∃kV doc pm an cdv ct,fd=kZ d.short d.name (jX d.st) (hU d.st) (bz d.st) .none kV doc pm an cdv ct
 gl:d.cls.cps.isEmpty=Vl->mg d.name=Y (.ref f)
 cl:d.cls.cps.isEmpty=Vm->∃C,j0 K d.cls C/\mg d.cls=Y (.ref C)/\Cls K C/\(d.short=("__init__":Str)->Mk K C f)/\(d.short≠("__init__":Str)->Meth K C d.short f)
def wY(o:Obj):Bool:=match o.data with
 | .fields v=>(match v.toList with|_::.str n _::_=>n == Ha|_=>Vm)
 |_=>Vm
def Do(K:FG):Bool:=K.all λp=>!wY p.2 ||(match FN p with|some P=>se K p.1 P|none=>Vm)
theorem G'(h:Do K=Vl)(x:j3 K d Ha=Vl):∃c P,d=.ref c/\se K c P=Vl/\P ∈ cy K:=by
 unfold j3 at x;split at x
 .rename_i c;split at x
  .rename_i l i v n hk;have m:=Fi hk;have a:=bi.mp h _ m;have e:wY ⟨l,i,.fields v,n⟩=Vl:=x;rw[e]at a;simp only[ov,mS]at a;split at a
   .rename_i P s;exact⟨c,P,rfl,a,mP.mpr ⟨_,m,s⟩⟩
   .cases a
  .cases x
 .cases x
structure TOk(w:World)(G:Str->Option P)(T:At)(D:List Df)(K:FG)(mg:SV):Prop where
 fn:∀d ∈ D,∃f fd,DOk K mg d f fd
 sc:D.all Rr=Vl
 un:(D.map (·.name)).Nodup
 z:∀x ∈ K4,mg x=Vk
 gl:∀x v,G x=Y v->xB K mg x v
 at':RY K (aT T)
 lam:Do K=Vl
 lm:∀d ∈ D,d.deep.contains (Str.ofString "<lambda>")=Vl->d.name=Ha
theorem s_:∀{D:List Df}{d:Df},(D.map (·.name)).Nodup->d ∈ D->(D.find? λe=>decide (e.name=d.name))=Y d
 | [],_,_,h=>by cases h
 |a::r,d,x,h=>by
  rw[aC,cA]at x;rcases bc.mp h with h|h
  .subst h;simp
  .have n:¬a.name=d.name:=λz=>x.1 (by rw[z];exact aO.mpr ⟨d,h,rfl⟩);rw[v9 (by simpa using n)];exact s_ x.2 h
theorem Ie{D:List Df}{x:Str}{a:Str->GF}{g:GF}(h:fT D a x=Y g):∃d ∈ D,d.name=x/\d.cls.cps.isEmpty=Vl/\g=a x:=by
 unfold fT at h;split at h
 .rename_i c;cases h;obtain⟨d,hd,e⟩:=og.mp c;rw[ar]at e;exact⟨d,hd,aR e.1,e.2,rfl⟩
 .cases h
theorem Hh(h:RB c m d=Vl):d.cls=c/\d.short=m/\d.cls.cps.isEmpty=Vm:=by unfold RB at h;simp only[ar]at h;exact⟨aR h.1.1,aR h.1.2,by simpa using h.2⟩
theorem Ig{D:List Df}{x:Str->GF}{c m:Str}{g:GF}(h:mT D x c m=Y g):m≠("__init__":Str)/\∃d ∈ D,d.cls=c/\d.short=m/\d.cls.cps.isEmpty=Vm/\g=x d.name:=by
 unfold mT at h;split at h
 .cases h
 .rename_i n;obtain⟨d,q,rfl⟩:=aI h;obtain⟨a,e,s⟩:=Hh (vO q);exact⟨n,d,we q,a,e,s,rfl⟩
theorem Ih{D:List Df}{x:Str->GF}{c:Str}{g:GF}(h:TB D x c=Y g):∃d ∈ D,d.cls=c/\d.short=("__init__":Str)/\d.cls.cps.isEmpty=Vm/\g=x d.name:=by unfold TB at h;obtain⟨d,q,rfl⟩:=aI h;obtain⟨a,e,s⟩:=Hh (vO q);exact⟨d,we q,a,e,s,rfl⟩
theorem DF {G:Str->Option P}{T:At}{D:List Df}{Pg:Program}{w:World}{K:FG}{mg:SV}{base:Heap} (Tk:TOk w G T D K mg):∀n,(∀d ∈ D,
  ∀f fd,Fun K d.short d.name d.st f fd->FnOk Pg w K mg base u9 n f fd d.ps (tM K (Rb G T D n d.name))) /\
  ∀c g,(xA G T D n).2 c=Y g->∃m,n=m+1/\∃C f fd ps,j0 K c C/\mg c=Y (.ref C)/\Mk K C f/\FnOk Pg w K mg base u9 m f fd ps (tM K g)/\Binds K fd ps []
 |0=>⟨λd hd f fd hF=>HB,λc g h=>(by cases (show(Vk:Option GF)=Y g from h))⟩
 |n+1=>by
  have ih:=DF (Pg:=Pg) (w:=w) (base:=base) Tk n;refine⟨λd hd f fd hF=>?_,λc g h=>?_⟩
  .have e:Rb G T D (n+1) d.name=zb d.ps.length d.N.length (xu G T D (xA G T D n) d):=by
    show(match D.find? λd'=>decide (d'.name=d.name) with|some d=>zb d.ps.length d.N.length (xu G T D (xA G T D n) d)|none=>λ_ _=>Vk)=_;rw[s_ Tk.un hd]
   rw[e];have hsc:=MF (bi.mp Tk.sc d hd);have XO:∀(cdv:Value),j3 K cdv d.name=Vl->∀(A:Around)(outer:List Env)(s:Shared)(H:Hp)(E':XK),Room n (A.deeper (envOfC d.name (bz d.st) s.heap.objs.size f cdv)) ->
     XOk (TF G T D (xA G T D n) d) (yR u9 Pg w K mg base d.N d.name (bz d.st) f cdv A outer s H E').nox:=fun cdv hcd A outer s H E' hr=>{
    hN:=rfl
    nd:=hsc.nd
    ks:=rfl
    kd:=hsc.kind
    calm:=rfl
    hu:=by have:=hr.un;show(A.deeper (envOfC d.name (bz d.st) s.heap.objs.size f cdv)).units+64 < _;lia
    fns:=λx g hg=>by obtain⟨d',hd',hn,hc,rfl⟩:=Ie hg;obtain⟨f',fd',h1⟩:=Tk.fn d' hd';subst hn;exact⟨n,f',fd',d'.ps,(ih.1 d' hd' f' fd' h1.fn),hr,h1.gl hc,h1.fn.kp,h1.bd⟩
    blt:=Tk.z
    glb:=Tk.gl
    attrs:=Tk.at'
    meths:=λc m g hg=>by obtain⟨hm,d',hd',rfl,rfl,hc,rfl⟩:=Ig hg;obtain⟨f',fd',h1⟩:=Tk.fn d' hd';obtain⟨C,c1,c2,c3,c4,c5⟩:=h1.cl hc;exact⟨C,n,f',fd',d'.ps,c1,c3,c5 hm,(ih.1 d' hd' f' fd' h1.fn),hr,h1.bd⟩
    mks:=λc g hg=>by obtain⟨m,rfl,C,f',fd',ps,c1,c2,c3,c4,c5⟩:=ih.2 c g hg;exact⟨C,m,f',fd',ps,c1,c2,c3,c4,hr,c5⟩
    lam:=λz=>by
     have hn:=Tk.lm d hd z;rw[hn]at hcd;obtain⟨c,P,e1,e2,e3⟩:=G' Tk.lam hcd;have:=hr.dp
     exact⟨by show(A.deeper (envOfC d.name (bz d.st) s.heap.objs.size f cdv)).depth < _;lia,by show d.name++Str.ofString ".<locals>."++Str.ofString "<lambda>"=sP;rw[hn];decide,c,P,e1,e2,e3⟩ }
   refine NQ (N:=d.N) hF hsc λcdv hcd A outer s H E' hr=>?_;have X:=XO cdv hcd A outer s H E' hr;unfold xu;cases q:zO (Oq (TF G T D (xA G T D n) d) 60) (hU d.st) with
   |none=>exact D6.imp' λD J H hz=>by obtain⟨F,m,L,S,fl,L',S',r,l,q,k⟩:=hz;cases q
   |some b=>exact oz (λst f q=>FJ X (λ_=>rfl) PassesOwn.never 60 st f q) q
  .obtain⟨d,hd,rfl,hs,hc,rfl⟩:=Ih (x:=(xA G T D n).1) h;obtain⟨f,fd,h1⟩:=Tk.fn d hd;obtain⟨C,c1,c2,c3,c4,c5⟩:=h1.cl hc;exact⟨n,rfl,C,f,fd,d.ps,c1,c2,c4 hs,(ih.1 d hd f fd h1.fn),h1.bd⟩
theorem yu:∀s:List Int,cN K F H (s.map .int) (s.map V.int)
 | []=>rfl
 |n::r=>⟨_,_,rfl,rfl,yu r⟩
theorem Nx{K:FG}{H:Hp}{a:Addr}{n:List Int}{g:GF}{E:XK}(e:EI H)(S:lB K H a (n.map V.int))(h:cm g [.ro (n.map .int)]=Y (.bl Vl)):tM K g [.ref a] H (λv _=>v=.bl Vl) E:=by
 refine ss ⟨λb=>b=a/\H a≠Vk,[.ro (n.map .int)],.bl Vl,λb x=>(by rw[x.1];exact x.2),⟨_,_,rfl,⟨a,_,rfl,?_,yu n⟩,rfl⟩,h,λv F k _ r=>r⟩;rcases S with S|S
 .rcases e a with z|z|⟨o,f,z⟩
  .rcases S with S|⟨o,S⟩<;>rw[z]at S<;>cases S
  .rcases S with S|⟨o,S⟩<;>rw[z]at S<;>cases S
  .rcases S with S|⟨s,S⟩
   .rw [z]at S;cases S
   .exact .inl ⟨⟨rfl,by rw[z];exact λq=>nomatch q⟩,s,S⟩
 .exact .inr (.inr S)
open PySem L2
section
variable(L:Lc)(S:aM)
@[simp] theorem rK(i:Nat):aj i L S=match L[i]? with|some (Y d)=>Y (d,S)|_=>Vk:=rfl
@[simp] theorem Rj(r:EE):d5 r L S=cg (r L S) λd h=>match d_ d h with|some n=>Y (.int (n:Int),h)|none=>Vk:=by
 unfold d5;cases r L S with
 |none=>rfl
 |some z=>obtain⟨d,h⟩:=z;rw[al,al];cases d_ d h<;>rfl
@[simp] theorem KG(i:Nat)(v:P):ah i v L=Y (L.set i (Y (.p v))):=rfl
end
@[simp] theorem iR(x:List p):(few x=Vl)=(x.length≤1000000):=by unfold few;simp
@[simp] theorem rO(n:Nat):(lr n=Vl)=(n≤1000000):=by unfold lr;simp
theorem bn{p:Type}{s:List p}{i:Int}{x:p}(a:0≤i)(h:s[i.toNat]? = Y x):L2.atI s i=Y x:=by have l:=(aX.mp h).1;unfold L2.atI L2.Aw;rw[ac a,ac (by lia)];exact h
@[simp] theorem Q8(x:p)(s:List p):L2.atI (x::s) 0=Y x:=bn (by lia) rfl
@[simp] theorem RS(x y:p)(s:List p):L2.atI (x::y::s) 1=Y y:=bn (by lia) rfl
@[simp] theorem RR(x y z:p)(s:List p):L2.atI (x::y::z::s) 2=Y z:=bn (by lia) rfl
@[simp] theorem OD(x y z w:p)(s:List p):L2.atI (x::y::z::w::s) 3=Y w:=bn (by lia) rfl
@[simp] theorem KQ(x:List P)(i:Int):iM (.tup x) (.int i)=L2.atI x i:=rfl
@[simp] theorem DJ(x:List P)(i:Int):iM (.lst x) (.int i)=L2.atI x i:=rfl
@[simp] theorem TR(x:List P)(i:Int):iM (.ro x) (.int i)=L2.atI x i:=rfl
@[simp] theorem RK(k:List ci)(v:List P)(x:Str):iM (.dct k v) (.str x)=cT (.inr x) k v:=rfl
@[simp] theorem Q0(i j:Int):AS (.int i) (.int j)=Y (.bl (decide (i=j))):=rfl
@[simp] theorem QZ(i j:Str):AS (.str i) (.str j)=Y (.bl (decide (i=j))):=rfl
@[simp] theorem RM(i j:Bool):AS (.bl i) (.bl j)=Y (.bl (decide (i=j))):=rfl
@[simp] theorem RJ(i j:Int):N3 (.int i) (.int j)=Y (.bl (!decide (i=j))):=rfl
@[simp] theorem RI(i j:Str):N3 (.str i) (.str j)=Y (.bl (!decide (i=j))):=rfl
@[simp] theorem TN(i j:Bool):N3 (.bl i) (.bl j)=Y (.bl (!decide (i=j))):=rfl
@[simp] theorem Q1(i j:Int):tB (.int i) (.int j)=Y (.int (i+j)):=rfl
@[simp] theorem QX(i j:Int):xl (.int i) (.int j)=if iH i j=Vl then Y (.int (i * j)) else Vk:=rfl
@[simp] theorem QV(i:Int):uh (.int i)=Y (.int (-i)):=rfl
theorem aD(a n:Nat)(b:ES)(s:List P):cm (zb a n b) s=if s.length=a then match b (s.map (λp=>Y (.p p))++List.replicate (n-s.length) Vk) [] with
 |some (.rt d,_,S)=>(toP 9 d S).map (·.1)
 |some (.nx,_,_)=>Y .non
 |_=>Vk else Vk:=by
 unfold cm zb;rw[aH,cQ];by_cases h:s.length=a
 .rw [ac h,ac h];show (match sI (b (s.map (fun p=>Y (D.p p))++List.replicate (n-s.length) Vk) []) with
   |some (d,S)=>(toP 9 d S).map (λ(x:P×aM)=>x.1)
   |none=>Vk)=_
  cases b (s.map (λp=>Y (D.p p))++List.replicate (n-s.length) Vk) [] with
  |none=>rfl
  |some z=>obtain⟨f,L,S⟩:=z;cases f<;>simp[sI]
 .rw [ae h,ae h]
theorem cq{g:lM}{b:ES}{v:P}{r:List P}{L h L2:Lc}{S x:aM}(a:g v L=Y h)(e:b h S=Y (.nx,L2,x)):bx g b (v::r) L S=bx g b r L2 x:=by simp[bx,a,e]
theorem yH{g:lM}{b:ES}{v:P}{r:List P}{L h L2:Lc}{S x:aM}{d:D}(a:g v L=Y h)(e:b h S=Y (.rt d,L2,x)):bx g b (v::r) L S=Y (.rt d,L2,x):=by simp[bx,a,e]
section
variable(L:Lc)(S:aM)
@[simp] theorem Dr(a:EV):ji a L S=cg (a L S) λx h=>match x with | .int n=>if (decide (n.natAbs < 1000000))=Vl then Y (intsFrom 0 n.toNat,h) else Vk|_=>Vk:=by
 unfold ji;cases a L S with
 |none=>rfl
 |some z=>obtain⟨x,h⟩:=z;cases x<;>first|rfl|simp
@[simp] theorem QJ(g:List lM)(v:List P):be g (.tup v) L=sX g v L:=rfl
@[simp] theorem QH:sX [] [] L=Y L:=rfl
@[simp] theorem Ox(g:lM)(s:List lM)(v:P)(h:List P):sX (g::s) (v::h) L=match g v L with|some a=>sX s h a|none=>Vk:=rfl
@[simp] theorem Sr(v:P):Js (.p v) S=zN v:=rfl
@[simp] theorem Rm(b:Bool):zN (.bl b)=Y b:=rfl
@[simp] theorem Pa(i:Int):zN (.int i)=Y (i != 0):=rfl
@[simp] theorem Uq(x y:P):Hy (.p x) (.p y) S=(DC x y).map .bl:=rfl
@[simp] theorem Up(x y:P):LA (.p x) (.p y) S=(GS x y).map .bl:=rfl
end
@[simp] theorem RG(i j:Int):DC (.int i) (.int j)=Y (decide (i=j)):=rfl
@[simp] theorem RF(i j:Str):DC (.str i) (.str j)=Y (decide (i=j)):=rfl
@[simp] theorem TL(i j:Bool):DC (.bl i) (.bl j)=Y (decide (i=j)):=rfl
@[simp] theorem Rx(i j:Int):GS (.int i) (.int j)=Y (!decide (i=j)):=rfl
@[simp] theorem Rw(i j:Str):GS (.str i) (.str j)=Y (!decide (i=j)):=rfl
@[simp] theorem Tq(i j:Bool):GS (.bl i) (.bl j)=Y (!decide (i=j)):=rfl
@[simp] theorem OB(i j:Int):lI (.int i) (.int j)=Y (.int (i+j)):=rfl
@[simp] theorem Oz(x y:Str):lI (.str x) (.str y)=tB (.str x) (.str y):=rfl
@[simp] theorem OA(x y:List P):lI (.lst x) (.lst y)=if lr (x.length+y.length)=Vl then Y (.lst (x++y)) else Vk:=rfl
@[simp] theorem QW(x:List P)(n:Int):xl (.lst x) (.int n)=if (lr (x.length * n.toNat) && decide (n.natAbs < 1000000))=Vl then Y (.lst (List.replicate n.toNat x).flatten) else Vk:=rfl
theorem yL(h:d9 20 v=Vl):DC v v=Y Vl:=by
 unfold DC;have e:de (pd v) (pd v)=Vl:=vH _ (fM 20 v h).1;cases q:AS v v with
 |none=>simp[h,e]
 |some z=>
  cases v with
  |int i=>cases q;simp
  |str i=>cases q;simp
  |bl i=>cases q;simp
  |non=>cases q
  |tup _=>cases q
  |lst _=>cases q
  |ro _=>cases q
  |dct _ _=>cases h
  |obj _ _ _=>cases h
  |dtt _ _=>cases h
theorem oJ(h:d9 20 v=Vl):GS v v=Y Vm:=by
 unfold GS;have e:de (pd v) (pd v)=Vl:=vH _ (fM 20 v h).1;cases q:N3 v v with
 |none=>simp[h,e]
 |some z=>
  cases v with
  |int i=>cases q;simp
  |str i=>cases q;simp
  |bl i=>cases q;simp
  |non=>cases q
  |tup _=>cases q
  |lst _=>cases q
  |ro _=>cases q
  |dct _ _=>cases h
  |obj _ _ _=>cases h
  |dtt _ _=>cases h
theorem DB(h:d9 20 (.lst s)=Vl):DC (.lst s) (.lst [])=Y s.isEmpty:=by unfold DC;have e:d9 20 (.lst [])=Vl:=rfl;show(if (d9 20 (.lst s) && d9 20 (.lst []))=Vl then Y (de (pd (.lst s)) (pd (.lst []))) else Vk)=_;rw[h,e];cases s<;>rfl
theorem oK(h:d9 20 (.lst s)=Vl):GS (.lst s) (.lst [])=Y (!s.isEmpty):=by unfold GS;have e:d9 20 (.lst [])=Vl:=rfl;show(if (d9 20 (.lst s) && d9 20 (.lst []))=Vl then Y (!PyData.eqv (pd (.lst s)) (pd (.lst []))) else Vk)=_;rw[h,e];cases s<;>rfl
section
variable{L:Lc}{S:aM}
@[simp high] theorem Vf(d:D):aj 0 (Y d::L) S=Y (d,S):=rfl
@[simp high] theorem Ve(a:Option D)(i:Nat):aj (i+1) (a::L) S=aj i L S:=rfl
@[simp ↓ high] theorem Vb(x y:a):(if few ([]:List p)=Vl then x else y)=x:=rfl
@[simp ↓ high] theorem Va(a:p)(x y:s):(if few ([a]:List p)=Vl then x else y)=x:=rfl
@[simp ↓ high] theorem U'(a h:p)(x y:s):(if few ([a,h]:List p)=Vl then x else y)=x:=rfl
@[simp ↓ high] theorem U_(a h e:p)(x y:s):(if few ([a,h,e]:List p)=Vl then x else y)=x:=rfl
@[simp ↓ high] theorem U9(a h e s:p)(x y:k):(if few ([a,h,e,s]:List p)=Vl then x else y)=x:=rfl
@[simp ↓ high] theorem U8(a h e s n:p)(x y:k):(if few ([a,h,e,s,n]:List p)=Vl then x else y)=x:=rfl
@[simp ↓ high] theorem U7(a h e s n k:p)(x y:f):(if few ([a,h,e,s,n,k]:List p)=Vl then x else y)=x:=rfl
@[simp ↓ high] theorem U6(a h e s n k f:p)(x y:b):(if few ([a,h,e,s,n,k,f]:List p)=Vl then x else y)=x:=rfl
@[simp high] theorem Vi(v:P)(S:aM):toP 9 (.p v) S=Y (v,S):=rfl
@[simp ↓ high] theorem Uu(x:Option (p×aM))(f:p->aM->Option s):cg x f=match x with|some (a,S)=>f a S|none=>Vk:=rfl
@[simp ↓ high] theorem U1(x y:a):(if Vl=Vl then x else y)=x:=rfl
@[simp ↓ high] theorem U2(x y:a):(if Vm=Vl then x else y)=y:=rfl
end
@[simp] theorem Tf(a b:String):(Str.ofString a=Str.ofString b)=(a=b):=by rw[A2,A2];exact propext ⟨λh=>String.toList_inj.mp ((List.map_inj_right λ_ _=>Char.toNat_inj.mp).mp (by simpa using h)),λh=>by rw[h]⟩
end Ev
set_option tactic.hygienic false
namespace My
open PySem L2 Ev
noncomputable abbrev U(x:P):Option D:=Y (.p x)
noncomputable abbrev qi(x:Int):Option D:=Y (.p (.int x))
noncomputable abbrev qs(x:Str):Option D:=Y (.p (.str x))
noncomputable abbrev ql(x:List P):Option D:=Y (.p (.lst x))
noncomputable abbrev qt(x:List P):Option D:=Y (.p (.tup x))
noncomputable abbrev qr(x:Nat):Option D:=Y (.ref x)
@[simp] abbrev vv(k:Nat):EV:=vE (aj k)
@[simp] abbrev vi(i:Int):EV:=vC (.int i)
@[simp] abbrev vt(x:Str):EV:=vC (.str x)
@[simp] abbrev v1(a:EV):lC:=aB a aU
@[simp] abbrev v2(a b:EV):lC:=aB a (aB b aU)
@[simp] abbrev v3(a b c:EV):lC:=aB a (aB b (aB c aU))
@[simp] abbrev v4(a b c d:EV):lC:=aB a (aB b (aB c (aB d aU)))
@[simp] abbrev v5(a b c d e:EV):lC:=aB a (aB b (aB c (aB d (aB e aU))))
@[simp] abbrev v6(a b c d e f:EV):lC:=aB a (aB b (aB c (aB d (aB e (aB f aU)))))
@[simp] abbrev v8(a b c d e f g h:EV):lC:=aB a (aB b (aB c (aB d (aB e (aB f (aB g (aB h aU)))))))
@[simp] abbrev CF(a:EE):uk:=cM a h_
@[simp] abbrev Om(a b:EE):uk:=cM a (cM b h_)
@[simp] abbrev bw(a b:EE):EB:=bV (fx Hy a b)
@[simp] abbrev fh(a b:EE):EB:=bV (fx LA a b)
@[simp] abbrev um:EV->EV->EV:=gQ TQ
@[simp] abbrev ab:EV->EV->EV:=gQ iM
@[simp] abbrev aP:EV->EV->EV:=gQ AQ
@[simp] abbrev CD:EV->EV->EV:=gQ TV
@[simp] abbrev Fv:EV->EV->EV:=gQ N0
@[simp] abbrev ny:EV->EV->EV:=gQ NY
@[simp] abbrev aE:EV->EV->EV:=gQ N4
@[simp] abbrev gY:EV->EV->EV:=gQ xl
@[simp] abbrev au:EV->EV->EV:=gQ lI
@[simp] abbrev xM:EV->EV->EV:=gQ TU
@[simp] abbrev OU:EV->EV->EV:=gQ QY
@[simp] abbrev cf(g:GF):lC->EV:=bj (cm g)
@[simp] abbrev cw:EV:=vE (aj 1)
@[simp] abbrev bX:EV:=vE (aj 0)
@[simp] abbrev fV:EV:=vE (aj 3)
@[simp] abbrev iL:EV:=vE (aj 4)
@[simp] abbrev iO:EV:=vE (aj 6)
@[simp] abbrev kN:EV:=vE (aj 8)
@[simp] abbrev j4:EV:=vE (aj 5)
@[simp] abbrev lO:EV:=vE (aj 7)
@[simp] abbrev jf:EV:=vE (aj 9)
@[simp] abbrev dq:EV:=vE (aj 2)
@[simp] abbrev kf:EV:=vE (aj 11)
@[simp] abbrev iP:EV:=vE (aj 10)
@[simp] abbrev lT:EV:=vE (aj 12)
@[simp] abbrev lL:EV:=vE (aj 13)
@[simp] abbrev eU:EV:=vC (.int 0)
@[simp] abbrev df:EV:=vC (.int 1)
@[simp] abbrev gc:EV:=vC (.int 2)
@[simp] abbrev nP:EV:=vC (.int 4)
@[simp] abbrev jF:EV:=vC (.int 3)
@[simp] abbrev tP:EV:=vC (.int 5)
@[simp] abbrev gL:EE:=aj 0
@[simp] abbrev rg:EE:=aj 3
@[simp] abbrev pq:EE:=aj 1
@[simp] abbrev lU:EE:=aj 2
@[simp] abbrev qm:EE:=aj 7
@[simp] abbrev rf:EE:=aj 4
noncomputable def CQ(i:Nat):Stmt:=PySem.Challenge.pw_roadsall_k36_whole_renamed_goes_renamed.main.body.getD i (.Pass ⟨0,0,0,0⟩)
noncomputable def Gv(x:Str):Option P:=if x=("HIGHEST_LETTER":Str) then Y (.int 999) else if x=("NOBODY":Str) then Y (.int (-1)) else Vk
def Tv(st:Stmt):LS:=((bz st).names.filter λx=>[NameKind.local,.cell].contains x.2).map (·.1)
def Ry(x:Str)(t k:Nat)(N o d:LS):Df:=⟨x,x,"",CQ t,N,N.take k,o,d⟩
def ke(x:Str)(t k:Nat)(o d:LS:=[]):Df:=Ry x t k (Tv (CQ t)) o d
def rM:Df:=ke "law" 50 1 ["_law_due"] ["_law_due"]
noncomputable def Att:At:=[("Board",["families","homes","members","pairs","places"]),("Renamer",["becomes","renaming","road_sources","sources"])]
def OG:List Df:=[ke "_law_cell_at" 33 2,ke "_law_mix" 34 2,ke "_law_roads" 39 3 ["_law_roads_here"],ke "_law_name" 35 2,ke "_law_cells" 36 3 ["_law_cells_here"],ke "_law_sum" 37 2,ke "_law_sends" 40 6 ["_law_sends_here"],ke "_law_condition" 38 2,ke "_law_step" 41 6 ["_law_changes"],Ry "_law_family" 42 6 ["_law_script","_law_k","_law_name_here","_law_crew_here","_law_wide","_law_roads_here","_law_cells_here","_law_drawn","_law_rooms","_law_whos","_law_steps","_law_j","_law_first"] ["_law_steps"] [],Ry "_law_plan" 43 2 ["_law_script","_law_most","_law_total","_law_wide","_law_many","_law_names","_law_roads_here","_law_families_here","_law_k","_law_name_here","_law_crew_here","_law_wishes","_law_drawn","_law_family_here"] ["_law_families_here","_law_wishes"] [],ke "_law_families" 44 1,ke "_law_crew" 45 2,ke "_law_pairs" 46 1 ["_law_found"],ke "_law_standing" 47 2 ["_law_cells_here","_law_hands","_law_letters","_law_roads_here","_law_whos"],ke "families_of" 8 1 ["homes"],ke "renamings" 29 1 ["longer"],ke "pairs_of" 9 1 ["pairs"],ke "renamed" 30 3,ke "has_flaw" 23 3,ke "unlike_spots" 15 2,ke "replaced" 26 3,ke "without" 25 2,ke "flawed" 24 3,ke "flaw_ends" 22 3 ["board","ends"],ke "values_of" 13 2,ke "compared" 3 3,ke "value_of" 1 2,ke "holds" 2 2,ke "takeable" 14 4 ["board","found"],ke "cells_behind" 17 4 ["given","numbers"],ke "whos_behind" 18 4,ke "targets_of" 20 5 ["board"],ke "posted" 21 5 ["board"],ke "sendings" 19 6 ["board","further"],ke "step_ends" 16 5 ["board","ends","values"] ["values","values_of"],ke "hand_ends" 12 3 ["board","ends"],ke "ends_on" 11 2 ["board","ends"],ke "ends_from" 10 2,ke "_law_renamed" 48 3 ["_law_hands","_law_roads_here"],ke "renamed_deed" 31 2,ke "_law_renamed_deed" 49 2,rM]
def Uw:List Df:=[⟨"Renamer.whos_at","whos_at","Renamer",(L2.gy (CQ 28) 1),["self","standing","place"],["self","standing","place"],["self"],[]⟩,⟨"Renamer.standing_behind","standing_behind","Renamer",(L2.gy (CQ 28) 2),["self","standing","hands","place","source","room","cells","whos"],["self","standing"],["hands","self"],[]⟩,⟨"Renamer.__init__","__init__","Renamer",(L2.gy (CQ 28) 0),["self","pairs","renaming","places","place","pair"],["self","pairs","renaming"],["places","self"],["<lambda>","places"]⟩,⟨"Board.family_of","family_of","Board",(L2.gy (CQ 7) 1),["self","hand"],["self","hand"],["self"],[]⟩,⟨"Board.hands_beside","hands_beside","Board",(L2.gy (CQ 7) 2),["self","hand","name"],["self","hand","name"],["self"],[]⟩,⟨"Board.__init__","__init__","Board",(L2.gy (CQ 7) 0),["self","plan","place","pair","hand"],["self","plan"],["self"],["places","self"]⟩]
noncomputable def Tb:List Df:=OG++Uw
noncomputable def Ph(n:Nat):Str->GF:=Rb Gv Att Tb n
abbrev EQ(x:Str)(a b:Nat)(f:(Str->GF)->ES):Prop:=∀n,Ph (n+2) x=zb a b (f (Ph (n+1)))
def iY (h:Str->GF):ES:=(ai (fm (bV (um cw (d5 gL))) (bh (O (ab bX cw))) gf)
  (bh (O eU)))
theorem lH:EQ "_law_cell_at" 2 2 iY:=λ_=>by kernel_rfl
def jC(h:Str->GF):ES:=(aA 0 (O (aP bX (vi 2147483648))))
def mx (h:Str->GF):ES:=(ai (fm (bV (CD bX (Fv (vi 10) (vi 12)))) (ai (aA 0 (O (ny (aP bX (Fv (vi 10) (vi 12))) df)))
  (ai (bD (ji (aE cw (vi 61))) (ah 2) (jC h))
  (bh (O (aE bX (vi 2147483648)))))) gf)
  (ai (aA 3 (O (aE (gY (au (au (aE bX (vi 1000003)) (gY (gY cw cw) (vi 7919))) cw) (vi 48271)) (vi 2147483629))))
  (ai (aA 3 (O (aE (gY fV fV) (vi 2147483587))))
  (bh (O (aP (aE (gY fV (au fV gc)) (vi 2147483579)) (vi 7)))))))
theorem qc:EQ "_law_mix" 2 4 mx:=λ_=>by kernel_rfl
def d8 (h:Str->GF):ES:=(ai (aA 8 (O (cf (h "_law_mix") (v2 (cf (h "_law_cell_at") (v2 bX nP)) (au (au (vi 30) (gY nP iL)) iO)))))
  (fm (lz (bV (xM (aE kN nP) eU)) (bV (um (d5 rg) (vi 8)))) (ai (aA 9 (O (ab (bP (v2 (vt "row") (vt "heap"))) (aE (aP kN nP) gc))))
  (bW (bC rg (O (aQ (v6 j4 lO jf (au df (aE (aP kN (vi 8)) dq)) (fx Hy (O (aE (aP kN (vi 24)) jF)) (O df)) (fx Hy (O (aE (aP kN (vi 72)) jF)) (O df)))))))) gf))
def im(h:Str->GF):ES:=(bD (fN cw) (be [ah 6,ah 7]) (d8 h))
def np (h:Str->GF):ES:=(ai (aA 3 (di aU))
  (ai (bD (fN cw) (be [ah 4,ah 5]) (im h))
  (bh rg)))
theorem ua:EQ "_law_roads" 3 10 np:=λ_=>by kernel_rfl
def o5 (h:Str->GF):ES:=(ai (aA 2 (O (cf (h "_law_mix") (v2 (cf (h "_law_cell_at") (v2 bX df)) cw))))
  (bh (O (au (gY (ab (vt "abcdefghijklmnop") cw) (au df (aE dq nP))) (ab (vt "xyz") (aE (aP dq nP) jF))))))
theorem xf:EQ "_law_name" 2 3 o5:=λ_=>by kernel_rfl
def io (h:Str->GF):ES:=(ai (aA 5 (O (cf (h "_law_mix") (v2 (cf (h "_law_cell_at") (v2 bX (au gc cw))) (au gc iL)))))
  (ai (aA 6 (O (ab (bP (v4 eU eU (Jq uh df) tP)) (aE j4 nP))))
  (ai (aA 7 (O (au iO (ab (bP (v4 df gc eU df)) (aE (aP j4 nP) nP)))))
  (bW (bC rg (O (aQ (v4 (cf (h "_law_name") (v2 bX (au gc iL))) iO lO (au iO (aE (aP j4 (vi 16)) (au (ny lO iO) df)))))))))))
def nr (h:Str->GF):ES:=(ai (aA 3 (di aU))
  (ai (bD (ji (aE (cf (h "_law_mix") (v2 (cf (h "_law_cell_at") (v2 bX (au gc cw))) df)) (au dq df))) (ah 4) (io h))
  (bh rg)))
theorem uc:EQ "_law_cells" 3 8 nr:=λ_=>by kernel_rfl
def fE (h:Str->GF):ES:=(ai (fm (EM (bw pq (O (bP aU))) (bw (O (aE bX tP)) (O eU))) (bh (O (aQ (v2 (vt "number") (aE (aP bX tP) jF))))) gf)
  (ai (aA 2 (O (aQ (v2 (vt "name") (ab cw (aE (aP bX tP) (d5 pq)))))))
  (ai (fm (bw (O (aE bX tP)) (O df)) (bh lU) gf)
  (ai (fm (bw (O (aE bX tP)) (O gc)) (bh (O (aQ (v3 (vt "plus") dq (aQ (v2 (vt "number") (aE (aP bX (vi 20)) jF))))))) gf)
  (ai (fm (bw (O (aE bX tP)) (O jF)) (bh (O (aQ (v3 (vt "minus") (aQ (v3 (vt "times") dq (aQ (v2 (vt "number") (aE (aP bX (vi 20)) jF))))) (aQ (v2 (vt "number") (aE (aP bX (vi 60)) gc))))))) gf)
  (bh (O (aQ (v3 (vt "minus") (aQ (v2 (vt "number") df)) dq)))))))))
theorem gO:EQ "_law_sum" 2 3 fE:=λ_=>by kernel_rfl
def fR (h:Str->GF):ES:=(ai (aA 9 (O (aP bX (ab (bP (v3 nP (vi 1000) (vi 100000))) kN))))
  (ai (aA 10 (O (cf (h "_law_sum") (v2 (aE (aP jf (vi 12)) (vi 300)) dq))))
  (ai (aA 11 (O (ab (bP (v2 (vt "ma") (vt "mb"))) (aE jf gc))))
  (fm (lz (fh rg (O (bP aU))) (bw (O (aE (aP jf gc) jF)) (O df))) (bW (bC qm (O (aQ (v4 kf iP (vt "who") (ab fV (aE (aP jf (vi 50)) (d5 rg)))))))) (fm (fh (aj 6) (O (bP aU))) (bW (bC qm (O (aQ (v4 kf iP (ab (bP (v2 (vt "all") (vt "any"))) (gY (aE (aP jf (vi 6)) gc) (bj da (v1 (um kN gc))))) (ab iO (aE (aP jf jF) (d5 (aj 6))))))))) gf)))))
def nl (h:Str->GF):ES:=(ai (aA 6 (O (bp (eR iL) [] 1 (ah 12) (bw (O (ab lT eU)) pq) (ab lT df))))
  (ai (aA 7 (di aU))
  (ai (bD (ji (aE bX (au j4 df))) (ah 8) (fR h))
  (bh qm))))
theorem t_:EQ "_law_sends" 6 12 nl:=λ_=>by kernel_rfl
def cU (h:Str->GF):ES:=(ai (fm (EM (bw pq (O (bP aU))) (bV (um (aE bX tP) gc))) (bh (O (aQ (v1 (vt "true"))))) gf)
  (ai (aA 2 (O (ab (bP (v6 (vt "=") (vt "!=") (vt "<") (vt "<=") (vt ">") (vt ">="))) (aE (aP bX tP) (vi 6)))))
  (ai (aA 3 (O (aQ (v4 (vt "is") dq (aQ (v2 (vt "name") (ab cw (aE (aP bX (vi 30)) (d5 pq))))) (cf (h "_law_sum") (v2 (aP bX (vi 90)) cw))))))
  (ai (fm (bw (O (aE bX tP)) (O gc)) (bh (O (aQ (v2 (vt "not") fV)))) gf)
  (ai (fm (bw (O (aE bX tP)) (O jF)) (bh (O (aQ (v3 (vt "or") fV (aQ (v3 (vt "and") (aQ (v1 (vt "true"))) (aQ (v4 (vt "is") (vt "=") (aQ (v2 (vt "number") df)) (aQ (v2 (vt "name") (ab cw eU))))))))))) gf)
  (bh rg))))))
theorem dJ:EQ "_law_condition" 2 4 cU:=λ_=>by kernel_rfl
def gH (h:Str->GF):ES:=(fm (lz (fh qm (O (bP aU))) (bw (O (aE (ab bX eU) jF)) (O df))) (ai (aA 11 (O (vt "")))
  (ai (fm (lz (fh (aj 6) (O (bP aU))) (bw (O (aE (aP (ab bX eU) jF) gc)) (O df))) (ai (aA 11 (O (ab iO (Jq uh df))))
  (aA 9 (O (tR iO l7 (lE (Jq uh df)))))) gf)
  (ai (aA 12 (O (vt "")))
  (ai (fm (lz (fh rf (O (bP aU))) (bw (O (aE (aP (ab bX eU) (vi 6)) gc)) (O df))) (aA 12 (O (ab iL (aE (aP (ab bX eU) (vi 200)) (d5 rf))))) gf)
  (ai (aA 8 (O (aQ (v4 (ab (bP (v2 (vt "ma") (vt "mb"))) (aE (aP (ab bX eU) (vi 12)) gc)) (ab lO (aE (aP (ab bX eU) (vi 24)) (d5 qm))) kf lT))))
  (aA 10 (O (bP (v1 (vt "it")))))))))) gf)
def gG(h:Str->GF):ES:=(fm (bw (O (aE (aP (ab bX df) (ab (bP (v3 df (vi 1000) (vi 1000000))) (vv 14))) gc)) (O df)) (bW (bC (aj 13) (O (aQ (v2 (vv 15) (cf (h "_law_sum") (v2 (aE (aP (ab bX df) (ab (bP (v3 gc (vi 2000) (vi 2000000))) (vv 14))) (vi 300)) (au iO iP)))))))) gf)
def o4 (h:Str->GF):ES:=(ai (aA 6 (O (bp (eR fV) [] 1 (ah 18) eA (ab (vv 18) eU))))
  (ai (aA 7 (O (bp (eR j4) [] 1 (ah 18) (bw (O (ab (vv 18) df)) pq) (ab (vv 18) eU))))
  (ai (aA 8 (O (vC (.non))))
  (ai (aA 9 (O (bj pU (v1 iO))))
  (ai (aA 10 (O (bP aU)))
  (ai (gH h)
  (ai (aA 13 (di aU))
  (ai (bD (fN jf) (be [ah 14,ah 15]) (gG h))
  (ai (aA 16 (O (cf (h "_law_sends") (v6 (ab bX gc) cw (au iO iP) iL j4 (au gc (bj da (v1 (xM (d5 lU) jF))))))))
  (ai (aA 17 (O (cf (h "_law_condition") (v2 (aE (ab bX jF) (vi 27000)) iO))))
  (bh (O (aQ (v6 (ab dq (aE (aP (ab bX jF) (vi 27000)) (d5 lU))) (vv 17) kN lL (vv 16) (ab dq (aE (aP (ab bX jF) (vi 216000)) (d5 lU)))))))))))))))))
theorem xb:EQ "_law_step" 6 18 o4:=λ_=>by kernel_rfl
def hY (h:Str->GF):ES:=(ai (aA 12 (O (gY nP (au (gY (vi 8) cw) kf))))
  (ai (aA 7 (O (bp (ji nP) [] 1 (ah 13) eA (cf (h "_law_mix") (v2 (cf (h "_law_cell_at") (v2 bX (au tP (aE (au lT lL) (vi 24))))) (au (au (vi 11) lT) lL))))))
  (bW (bC (aj 10) (O (au (aQ (v1 (cf (h "_law_name") (v2 bX (au (vi 8) kf))))) (cf (h "_law_step") (v6 lO dq kN iO jf j4))))))))
def my (h:Str->GF):ES:=(ai (aA 6 (O (cf (h "_law_cells") (v3 bX cw (au gc (bj da (v1 iL)))))))
  (ai (aA 7 (O (cf (h "_law_mix") (v2 (cf (h "_law_cell_at") (v2 bX (au gc cw))) (vi 9)))))
  (ai (aA 8 (O (bp (ji (au df (aE lO (ab (bP (v2 jF (vi 8))) (bj da (v1 iL)))))) [11] 0 (ah 11) eA (cf (h "_law_name") (v2 bX (au nP kf))))))
  (ai (aA 7 (O (cf (h "_law_mix") (v2 (cf (h "_law_cell_at") (v2 bX (au gc cw))) (vi 8)))))
  (ai (aA 9 (O (bp (ji (aE lO (au gc (bj da (v1 iL))))) [11] 0 (ah 11) eA (cf (h "_law_name") (v2 bX (au (vi 10) kf))))))
  (ai (aA 10 (di aU))
  (ai (bD (ji (au df (aE (cf (h "_law_mix") (v2 (cf (h "_law_cell_at") (v2 bX (au gc cw))) (vi 7))) (ab (bP (v2 jF (vi 8))) (bj da (v1 iL)))))) (ah 11) (hY h))
  (bh (O (aQ (v6 dq fV kN iO jf iP)))))))))))
theorem tj:EQ "_law_family" 6 13 my:=λ_=>by kernel_rfl
def iX (h:Str->GF):ES:=(ai (aA 10 (O (au df (aE (aP dq (ab (bP (v4 nP (vi 12) (vi 16) (vi 16))) kN)) (ab (bP (v4 (au cw (bj da (v1 fV))) gc df df)) (ny iL df))))))
  (bW (bC qm (O (cf (h "_law_family") (v6 bX kN jf iP fV iO))))))
def iW (h:Str->GF):ES:=(ai (aA 12 (O (cf (h "_law_mix") (v2 (cf (h "_law_cell_at") (v2 bX nP)) (au (vi 20) kN)))))
  (ai (aA 13 (kF qm (aE lT iL)))
  (bW (bC (aj 11) (O (aQ (v3 (ab (bP (v2 (vt "weak") (vt "strong"))) (aE (aP lT nP) gc)) (ab lL eU) (ab (ab (ab lL tP) (aE (aP lT (vi 8)) (d5 (O (ab lL tP))))) eU))))))))
def lw (h:Str->GF):ES:=(ai (aA 2 (O (cf (h "_law_cell_at") (v2 bX eU))))
  (ai (aA 3 (O (fx Hy (O (aE (aP dq (vi 64)) (vi 8))) (O df))))
  (ai (aA 4 (O (au df (aE dq (ab (bP (v2 gc nP)) (bj da (v1 fV)))))))
  (ai (aA 5 (O (bp (ji iL) [8] 0 (ah 8) eA (cf (h "_law_name") (v2 bX kN)))))
  (ai (aA 6 (O (cf (h "_law_roads") (v3 bX j4 (au gc (bj da (v1 fV)))))))
  (ai (aA 7 (di aU))
  (ai (bD (fN j4) (be [ah 8,ah 9]) (iX h))
  (ai (aA 11 (di aU))
  (ai (bD (ji (au (aE (aP dq (vi 48)) jF) (gY nP (bj da (v1 (vB (lz (bV fV) (bw (O (aE dq jF)) (O df))))))))) (ah 8) (iW h))
  (bh (O (aQ (v3 lO iO kf)))))))))))))
theorem xc:EQ "_law_plan" 2 14 lw:=λ_=>by kernel_rfl
def f8(h:Str->GF):ES:=(aA 1 (O (au cw (gY (bP (v1 dq)) (ab dq df)))))
def kL (h:Str->GF):ES:=(ai (aA 1 (O (bP aU)))
  (ai (bD (eR (ab bX eU)) (ah 2) (f8 h))
  (bh pq)))
theorem pN:EQ "_law_families" 1 3 kL:=λ_=>by kernel_rfl
def o6(h:Str->GF):ES:=(bh (O (bp (fN (cf (h "_law_families") (v1 bX))) [] 2 (be [ah 2,ah 3]) (bw (O (ab fV eU)) pq) dq)))
theorem xg:EQ "_law_crew" 2 2 o6:=λ_=>by kernel_rfl
def fS(h:Str->GF):ES:=(fm (fh rg rf) (bW (bC pq (O (aQ (v3 dq fV iL))))) gf)
def kK(h:Str->GF):ES:=(bD (eR (cf (h "_law_crew") (v2 bX (ab dq df)))) (ah 4) (fS h))
def kJ(h:Str->GF):ES:=(bD (eR (cf (h "_law_crew") (v2 bX (ab dq eU)))) (ah 3) (kK h))
def nq (h:Str->GF):ES:=(ai (aA 1 (di aU))
  (ai (bD (eR (ab bX df)) (ah 2) (kJ h))
  (bh pq)))
theorem ub:EQ "_law_pairs" 1 5 nq:=λ_=>by kernel_rfl
def dZ(h:Str->GF):ES:=(bW (bC qm (O (au (ab jf df) (aE (aP iO (ab (bP (v3 (vi 8) (vi 32) (vi 128))) kN)) (au (ny (ab jf gc) (ab jf df)) df))))))
def dY(h:Str->GF):ES:=(bW (bC (aj 10) (O (ny (aE (aP iO (ab (bP (v2 (vi 512) (vi 4096))) kN)) (au (d5 rg) df)) df))))
def dX (h:Str->GF):ES:=(ai (aA 6 (O (cf (h "_law_mix") (v2 (cf (h "_law_cell_at") (v2 bX (au (vi 29) iL))) (vi 31)))))
  (ai (aA 7 (di aU))
  (ai (bD (fN (ab j4 jF)) (be [ah 8,ah 9]) (dZ h))
  (ai (aA 10 (di aU))
  (ai (bD (ji (d5 (O (ab j4 nP)))) (ah 8) (dY h))
  (bW (bC lU (O (aQ (v3 (aE iO (d5 (O (ab j4 gc)))) (bj a_ (v1 lO)) (bj a_ (v1 iP))))))))))))
def dW (h:Str->GF):ES:=(ai (aA 15 (O (au (ny (aE (aP iO (ab (bP (v3 (vi 8) (vi 800) (vi 80000))) kN)) nP) df) (ab (bP (v4 eU (vi 997) eU (Jq uh (vi 998)))) (aE (aP iO (vi 8000000)) nP)))))
  (bW (bC (aj 14) (O (aQ (v2 (ab (bP (v2 (vt "ma") (vt "mb"))) (aE (aP iO (ab (bP (v3 nP (vi 400) (vi 40000))) kN)) gc)) (vv 15)))))))
def dU (h:Str->GF):ES:=(ai (aA 6 (O (cf (h "_law_mix") (v2 (cf (h "_law_cell_at") (v2 bX (au (vi 34) (aE lT (vi 20))))) (au (vi 33) (aP lT (vi 20)))))))
  (ai (aA 14 (di aU))
  (ai (bD (ji (aE iO (au (ab (ab lL eU) jF) df))) (ah 8) (dW h))
  (ai (fm (bw (O (ab (ab lL eU) gc)) (O (vt "heap"))) (aA 14 (O (uv (aj 14)))) gf)
  (bW (bC (aj 11) (O (bj a_ (v1 (vv 14))))))))))
def il (h:Str->GF):ES:=(ai (aA 2 (di aU))
  (ai (aA 3 (O (cf (h "_law_families") (v1 cw))))
  (ai (bD (fN fV) (be [ah 4,ah 5]) (dX h))
  (ai (aA 11 (di aU))
  (ai (bD (fN (cf (h "_law_pairs") (v1 cw))) (be [ah 12,ah 13]) (dU h))
  (bh (O (aQ (v2 (bj a_ (v1 dq)) (bj a_ (v1 kf)))))))))))
theorem pM:EQ "_law_standing" 2 16 il:=λ_=>by kernel_rfl
def gK(h:Str->GF):ES:=(bW (gA pq (gY (bP (v1 dq)) (ab fV df))))
def lK (h:Str->GF):ES:=(ai (aA 1 (di aU))
  (ai (bD (fN (ab bX eU)) (be [ah 2,ah 3]) (gK h))
  (bh pq)))
theorem qB:EQ "families_of" 1 4 lK:=λ_=>by kernel_rfl
def pV(h:Str->GF):ES:=(bW (gA (aj 5) (bp (eR (vE (aj 4))) [] 1 (ah 7) (bV (fx w5 (aj 7) (aj 6))) (gQ lI (vE (aj 6)) (aQ (aB (vE (aj 7)) aU))))))
def kI (h:Str->GF):ES:=(ai (aA 4 (O (bp (ji (d5 (aj 1))) [] 1 (ah 7) (bV (fx Hy (O (gQ iM (vE (aj 1)) (vE (aj 7)))) (aj 3))) (vE (aj 7)))))
  (ai (aA 5 (di aU))
  (ai (bD (eR (vE (aj 2))) (ah 6) (pV h))
  (aA 2 (aj 5)))))
def j_ (h:Str->GF):ES:=(ai (aA 1 (O (bj (cm (h "families_of")) (aB (vE (aj 0)) aU))))
  (ai (aA 2 (O (bP (aB (aQ aU) aU))))
  (ai (bD (eR (vE (aj 1))) (ah 3) (kI h))
  (bh (aj 2)))))
theorem t8:EQ "renamings" 1 7 j_:=λ_=>by kernel_rfl
def f_(h:Str->GF):ES:=(bh (O (bj a_ (aB (bp (eR (gQ iM (gQ iM (gQ iM (vE (aj 1)) (vC (.int 0))) (vE (kF (bR (aT Att) (aj 0) "sources") (vE (aj 2))))) (vC (.int 2)))) [] 1 (ah 3) eA (vE (kF (bR (aT Att) (aj 0) "becomes") (vE (aj 3))))) aU))))
theorem m5:EQ "Renamer.whos_at" 3 3 f_:=λ_=>by kernel_rfl
def bO (h:Str->GF):ES:=(ai (xZ (be [ah 5,ah 6,ah 7]) (gQ iM (gQ iM (vE (aj 1)) (vC (.int 0))) (vE (aj 4))))
  (bW (bC (aj 2) (O (aQ (aB (vE (aj 5)) (aB (vE (aj 6)) (aB (vE (cL (mT Tb h) (aj 0) "whos_at" (cM (aj 1) (cM (aj 3) h_)))) aU))))))))
def db (h:Str->GF):ES:=(ai (aA 2 (di aU))
  (ai (bD (fN (vE (bR (aT Att) (aj 0) "sources"))) (be [ah 3,ah 4]) (bO h))
  (bh (O (aQ (aB (bj a_ (aB (vE (aj 2)) aU)) (aB (bj a_ (aB (bp (eR (vE (bR (aT Att) (aj 0) "road_sources"))) [4] 0 (ah 4) eA (gQ iM (gQ iM (vE (aj 1)) (vC (.int 1))) (vE (aj 4)))) aU)) aU)))))))
theorem jj:EQ "Renamer.standing_behind" 2 8 db:=λ_=>by kernel_rfl
def ga(h:Str->GF):ES:=(CY (aj 3) (aB (gQ iM (vE (aj 2)) (gQ iM (vE (aj 5)) (vC (.int 1)))) (aB (gQ iM (vE (aj 2)) (gQ iM (vE (aj 5)) (vC (.int 2)))) aU)) (vE (aj 4)))
def iu (h:Str->GF):ES:=(ai (jS (aT Att) (aj 0) "renaming" (aj 2))
  (ai (jS (aT Att) (aj 0) "becomes" (O (gQ lI (vE (aj 2)) (aQ (aB (vC (.int (-1))) aU)))))
  (ai (jS (aT Att) (aj 0) "sources" (O (xR 2 (d5 (aj 2)))))
  (ai (aA 3 tw)
  (ai (bD (fN (vE (aj 1))) (be [ah 4,ah 5]) (ga h))
  (jS (aT Att) (aj 0) "road_sources" (O (bp (eR (vE (aj 1))) [5] 0 (ah 5) eA (vE (ug (aj 3) (aB (gQ iM (vE (aj 5)) (vC (.int 1))) (aB (gQ iM (vE (aj 5)) (vC (.int 2))) aU))))))))))))
theorem pO:EQ "Renamer.__init__" 3 6 iu:=λ_=>by kernel_rfl
def gF (h:Str->GF):ES:=(fm (bw (aj 5) (O (ab fV eU))) (ai (aA 6 (O (bp (ji (d5 pq)) [] 1 (ah 7) (lz (fh qm rf) (bw (O (ab cw lO)) (O (ab fV df)))) lO)))
  (bW (gA lU (bp (eR iO) [] 1 (ah 7) eA (aQ (v3 fV iL lO)))))) gf)
def lJ(h:Str->GF):ES:=(bD (fN cw) (be [ah 4,ah 5]) (gF h))
def o3 (h:Str->GF):ES:=(ai (aA 1 (O (bp (eR (cf (h "families_of") (v1 bX))) [] 1 (ah 7) eA (ab (ab (ab bX eU) lO) eU))))
  (ai (aA 2 (di aU))
  (ai (bD (eR (ab bX df)) (ah 3) (lJ h))
  (bh lU))))
theorem xa:EQ "pairs_of" 1 7 o3:=λ_=>by kernel_rfl
def mw(h x:Str->GF):ES:=(bh (cL (mT Tb h) (ml (x "Renamer.__init__") "Renamer" (cM (O (bj (cm (h "pairs_of")) (aB (vE (aj 0)) aU))) (cM (aj 2) h_))) "standing_behind" (cM (aj 1) h_)))
theorem yN(n:Nat):Ph (n+2) "renamed"=zb 3 3 (mw (Ph (n+1)) (Ph n)):=by kernel_rfl
def ly (h:Str->GF):ES:=(ai (fm (bw pq (O (vt "lose"))) (bh (O (ab bX nP))) gf)
  (bh (O (vB (lz (bV (ab bX tP)) (bV (um (d5 lU) (ab bX jF))))))))
theorem oW:EQ "has_flaw" 3 3 ly:=λ_=>by kernel_rfl
def ik (h:Str->GF):ES:=(ai (aA 2 (O (Rk (d5 pq))))
  (ai (fm (bw gL (O (vt "row"))) (bh lU) gf)
  (bh (O (bp (eR dq) [] 1 (ah 3) (bw (O (wq cw (ab cw fV))) rg) fV)))))
theorem kB:EQ "unlike_spots" 2 3 ik:=λ_=>by kernel_rfl
def o0(h:Str->GF):ES:=(bh (O (au (au (tR bX l7 (lE cw)) (aQ (v1 dq))) (tR bX (lE (au cw df)) l7))))
theorem w_:EQ "replaced" 3 3 o0:=λ_=>by kernel_rfl
def qj(h:Str->GF):ES:=(bh (O (au (tR bX l7 (lE cw)) (tR bX (lE (au cw df)) l7))))
theorem yM:EQ "without" 2 2 qj:=λ_=>by kernel_rfl
def nK (h:Str->GF):ES:=(ai (fm (bw gL (O (vt "lose"))) (bh (O (cf (h "without") (v2 cw dq)))) gf)
  (bh (O (au (tR cw l7 (lE (au dq df))) (tR cw (lE dq) l7)))))
theorem tm:EQ "flawed" 3 3 nK:=λ_=>by kernel_rfl
def fU (h:Str->GF):ES:=(ai (aA 11 (O (cf (h "replaced") (v3 (ab cw df) iL (cf (h "flawed") (v3 dq jf iP))))))
  (bW (bC rg (O (aQ (v2 (aQ (v4 dq lO kN iP)) (aQ (v2 (ab cw eU) kf))))))))
def iq (h:Str->GF):ES:=(ai (xZ (be [ah 6,ah 7,ah 8]) j4)
  (ai (aA 9 (O (ab (ab cw df) iL)))
  (fm (bT (O (cf (h "has_flaw") (v3 iO dq jf)))) (bD (eR (cf (h "unlike_spots") (v2 (ab iO gc) jf))) (ah 10) (fU h)) gf)))
def ka (h:Str->GF):ES:=(ai (aA 3 (di aU))
  (ai (bD (fN (vE (bR (aT Att) gL "pairs"))) (be [ah 4,ah 5]) (iq h))
  (bh rg)))
theorem ue:EQ "flaw_ends" 3 12 ka:=λ_=>by kernel_rfl
def i7(h:Str->GF):ES:=(bh (kF (bR (aT Att) gL "families") (vE (kF (bR (aT Att) gL "homes") cw))))
theorem i5:EQ "Board.family_of" 2 2 i7:=λ_=>by kernel_rfl
def nj(h:Str->GF):ES:=(bh (AM (bp (eR (ab bX jF)) [] 1 (ah 2) eA (ab dq eU)) cw))
theorem t5:EQ "values_of" 2 2 nj:=λ_=>by kernel_rfl
def dM (h:Str->GF):ES:=(ai (fm (bw gL (O (vt "="))) (bh (O (fx Hy pq lU))) gf)
  (ai (fm (bw gL (O (vt "!="))) (bh (O (fx LA pq lU))) gf)
  (ai (fm (bw gL (O (vt "<"))) (bh (O (um cw dq))) gf)
  (ai (fm (bw gL (O (vt "<="))) (bh (O (OU cw dq))) gf)
  (ai (fm (bw gL (O (vt ">"))) (bh (O (xM cw dq))) gf)
  (bh (O (CD cw dq))))))))
theorem xh:EQ "compared" 3 3 dM:=λ_=>by kernel_rfl
def fP (h:Str->GF):ES:=(ai (aA 2 (O (ab bX eU)))
  (ai (fm (bw lU (O (vt "number"))) (bh (O (ab bX df))) gf)
  (ai (fm (bw lU (O (vt "name"))) (bh (O (ab cw (ab bX df)))) gf)
  (ai (aA 3 (O (cf (h "value_of") (v2 (ab bX df) cw))))
  (ai (aA 4 (O (cf (h "value_of") (v2 (ab bX gc) cw))))
  (ai (fm (bw lU (O (vt "plus"))) (bh (O (au fV iL))) gf)
  (ai (fm (bw lU (O (vt "minus"))) (bh (O (ny fV iL))) gf)
  (bh (O (gY fV iL))))))))))
theorem g_:EQ "value_of" 2 5 fP:=λ_=>by kernel_rfl
def jl (h:Str->GF):ES:=(ai (aA 2 (O (ab bX eU)))
  (ai (fm (bw lU (O (vt "true"))) (bh (O (vC (.bl Vl)))) gf)
  (ai (fm (bw lU (O (vt "not"))) (bh (O (vB (ED (bV (cf (h "holds") (v2 (ab bX df) cw))))))) gf)
  (ai (fm (bw lU (O (vt "and"))) (bh (O (vB (lz (bV (cf (h "holds") (v2 (ab bX df) cw))) (bV (cf (h "holds") (v2 (ab bX gc) cw))))))) gf)
  (ai (fm (bw lU (O (vt "or"))) (bh (O (vB (EM (bV (cf (h "holds") (v2 (ab bX df) cw))) (bV (cf (h "holds") (v2 (ab bX gc) cw))))))) gf)
  (bh (O (cf (h "compared") (v3 (ab bX df) (cf (h "value_of") (v2 (ab bX gc) cw)) (cf (h "value_of") (v2 (ab bX jF) cw)))))))))))
theorem kD:EQ "holds" 2 3 jl:=λ_=>by kernel_rfl
def eN(h:Str->GF):ES:=(bh (O (bp (eR (vE (kF (bR (aT Att) gL "members") dq))) [] 1 (ah 3) (fh rg pq) fV)))
theorem ll:EQ "Board.hands_beside" 3 3 eN:=λ_=>by kernel_rfl
def gC (h:Str->GF):ES:=(ai (aA 6 (ug (bR (aT Att) gL "places") (v2 j4 dq)))
  (ai (aA 7 (kF (kF (kF (bR (aT Att) gL "pairs") iO) eU) gc))
  (ai (aA 8 (O (ab cw iO)))
  (ai (aA 9 (O (Rl (bw qm (O (vt "row"))) (tR (Rk (d5 (aj 8))) l7 (lE df)) (cf (h "unlike_spots") (v2 lO kN)))))
  (bW (gA rf (bp (eR jf) [] 1 (ah 10) (bw (O (ab (ab kN iP) eU)) (O (ab fV eU))) (aQ (v2 j4 iP)))))))))
def lv (h:Str->GF):ES:=(ai (fm (bV (fx yD rg (O (vC (.non))))) (bh (O (bP (v1 (vC (.non)))))) gf)
  (ai (aA 4 (di aU))
  (ai (bD (eR (vE (cL (mT Tb h) gL "hands_beside" (Om lU (O (ab fV df)))))) (ah 5) (gC h))
  (bh rf))))
theorem oV:EQ "takeable" 4 10 lv:=λ_=>by kernel_rfl
def i6(h:Str->GF):ES:=(jR rf j4 (cf (h "value_of") (v2 iO fV)))
def br (h:Str->GF):ES:=(ai (aA 10 (O (FE iL (ab jf eU) (ab cw kN))))
  (ai (fm (lz (bV (fx yE (O (ab jf eU)) rf)) (ED (bV (pB QY QY (ab jf df) iP (ab jf gc))))) (bh (O (vC (.non)))) gf)
  (bW (bC qm (aj 10)))))
def ir (h:Str->GF):ES:=(ai (aA 4 qd)
  (ai (bD (eR (ab dq nP)) (be [ah 5,ah 6]) (i6 h))
  (ai (fm (lz (bV (fx dw (O (ab dq jF)) (O (vC (.non))))) (fh (O (ab (ab dq jF) gc)) (O (vt "")))) (jR rf (ab (ab dq jF) gc) (ab fV (vt "it"))) gf)
  (ai (aA 7 (di aU))
  (ai (bD (fN (ab bX jF)) (be [ah 8,ah 9]) (br h))
  (bh (O (bj a_ (v1 lO)))))))))
theorem kE:EQ "cells_behind" 4 11 ir:=λ_=>by kernel_rfl
def gB (h:Str->GF):ES:=(ai (fm (EM (bV (fx yD lU (O (vC (.non))))) (bw (O (ab dq jF)) (O (vt "")))) (bh pq) gf)
  (bh (O (cf (h "replaced") (v3 cw (wq (ab bX nP) (ab dq jF)) (ab fV eU))))))
theorem iT:EQ "whos_behind" 4 4 gB:=λ_=>by kernel_rfl
def hV (h:Str->GF):ES:=(ai (fm (bw lU (O (vt "who"))) (bh (O (bP (v1 (aQ (v2 (aQ aU) (bP (v1 (ab iL (wq (ab (vE (cL (mT Tb h) gL "family_of" (CF pq))) nP) fV)))))))))) gf)
  (ai (aA 5 (cL (mT Tb h) gL "hands_beside" (Om pq rg)))
  (ai (fm (bw lU (O (vt "all"))) (bh (O (bP (v1 (aQ (v2 (aQ aU) j4)))))) gf)
  (bh (O (bp (eR j4) [] 1 (ah 6) eA (aQ (v2 (aQ (v1 iO)) (bP (v1 iO))))))))))
theorem jy:EQ "targets_of" 5 6 hV:=λ_=>by kernel_rfl
def eT (h:Str->GF):ES:=(ai (aA 6 (tt (bR (aT Att) gL "places") (v2 dq j4)))
  (ai (fm (EM (bV (fx yD (aj 6) (O (vC (.non))))) (bV (xM (bj tH (v1 (ab iL df))) (vi 999)))) (bh (O (vC (.non)))) gf)
  (ai (aA 7 (kF (kF (bR (aT Att) gL "pairs") iO) eU))
  (ai (fm (bV (CD (d5 (O (ab cw iO))) (ab lO jF))) (bh (O (vC (.non)))) gf)
  (ai (aA 8 (O (au (ab cw iO) (aQ (v1 iL)))))
  (ai (fm (bw (O (ab lO gc)) (O (vt "heap"))) (aA 8 (O (bj a_ (v1 (uv (aj 8)))))) gf)
  (aA 1 (O (cf (h "replaced") (v3 cw iO kN))))))))))
def nI (h:Str->GF):ES:=(ai (bD (eR fV) (ah 5) (eT h))
  (bh pq))
theorem ti:EQ "posted" 5 9 nI:=λ_=>by kernel_rfl
def gE (h:Str->GF):ES:=(ai (aA 17 (O (cf (h "posted") (v5 bX (vv 14) cw (vv 16) kf))))
  (fm (bV (fx dw (aj 17) (O (vC (.non))))) (bW (bC (aj 12) (O (aQ (v2 (au lL (vv 15)) (vv 17)))))) gf))
def gD(h:Str->GF):ES:=(bD (eR (cf (h "targets_of") (v5 bX cw jf iP j4))) (be [ah 15,ah 16]) (gE h))
def iU (h:Str->GF):ES:=(ai (aA 11 (O (aQ (v2 lO (cf (h "value_of") (v2 kN fV))))))
  (ai (aA 12 (di aU))
  (ai (bD (eR iO) (be [ah 13,ah 14]) (gD h))
  (aA 6 (aj 12)))))
def oZ (h:Str->GF):ES:=(ai (aA 6 (O (bP (v1 (aQ (v2 (aQ aU) iL))))))
  (ai (bD (eR dq) (be [ah 7,ah 8,ah 9,ah 10]) (iU h))
  (bh (aj 6))))
theorem w9:EQ "sendings" 6 18 oZ:=λ_=>by kernel_rfl
def kH(h:Str->GF):ES:=(bW (bC (aj 13) (O (aQ (v2 (aQ (v5 (vt "step") dq (ab fV eU) iL (vv 14))) (aQ (v2 lT (vv 15))))))))
def j9 (h:Str->GF):ES:=(ai (aA 5 (cL (mT Tb h) gL "family_of" (CF lU)))
  (ai (xZ (be [ah 6,ah 7,ah 8]) (ab (ab cw eU) dq))
  (ai (aA 9 (O (ab cw df)))
  (ai (aA 10 (xi (h "values_of") (Om (aj 5) qm)))
  (ai (fm (bV (fx dw rf (O (vC (.non))))) (ai (aA 11 (ug (bR (aT Att) gL "places") (v2 (ab iL eU) dq)))
  (ai (jR (aj 10) (vt "it") (ab (ab (ab jf kf) (ab iL df)) df))
  (aA 9 (O (cf (h "replaced") (v3 jf kf (cf (h "without") (v2 (ab jf kf) (ab iL df))))))))) gf)
  (ai (aA 7 (O (cf (h "cells_behind") (v4 j4 lO fV iP))))
  (ai (fm (bV (fx yD qm (O (vC (.non))))) (bh (O (bP aU))) gf)
  (ai (aA 8 (O (cf (h "whos_behind") (v4 j4 kN (ab fV jF) iL))))
  (ai (aA 12 (O (cf (h "replaced") (v3 (ab cw eU) dq (aQ (v3 (wq (ab j4 gc) (ab fV (vi 6))) lO kN))))))
  (ai (aA 13 (di aU))
  (ai (bD (eR (cf (h "sendings") (v6 bX dq (ab fV tP) iP jf kN))) (be [ah 14,ah 15]) (kH h))
  (bh (aj 13)))))))))))))
theorem t6:EQ "step_ends" 5 16 j9:=λ_=>by kernel_rfl
def kM(h:Str->GF):ES:=(bW (gA (aj 8) (cf (h "step_ends") (v5 bX cw dq jf iP))))
def ip(h:Str->GF):ES:=(fm (lz (bw (O (ab jf df)) (O (ab (ab fV gc) iL))) (bT (O (cf (h "holds") (v2 (ab jf gc) lO))))) (bD (eR (cf (h "takeable") (v4 bX (ab cw df) dq (ab jf jF)))) (ah 10) (kM h)) gf)
def j' (h:Str->GF):ES:=(ai (aA 3 (cL (mT Tb h) gL "family_of" (CF lU)))
  (ai (xZ (be [ah 4,ah 5,ah 6]) (ab (ab cw eU) dq))
  (ai (aA 7 (O (cf (h "values_of") (v2 fV j4))))
  (ai (aA 8 (di aU))
  (ai (bD (eR (ab fV tP)) (ah 9) (ip h))
  (bh (aj 8)))))))
theorem ud:EQ "hand_ends" 3 11 j':=λ_=>by kernel_rfl
def mB(h:Str->GF):ES:=(bW (gA lU (cf (h "hand_ends") (v3 bX cw fV))))
def mD (h:Str->GF):ES:=(ai (aA 2 (di aU))
  (ai (bD (ji (d5 (bR (aT Att) gL "homes"))) (ah 3) (mB h))
  (ai (bW (gA lU (cf (h "flaw_ends") (v3 bX cw (vt "lose")))))
  (ai (bW (gA lU (cf (h "flaw_ends") (v3 bX cw (vt "double")))))
  (bh lU)))))
theorem yO:EQ "ends_on" 2 4 mD:=λ_=>by kernel_rfl
def cV(h:Str->GF):ES:=(bW (bC (oX (bR (aT Att) gL "members") (ab (vE (cL (mT Tb h) gL "family_of" (CF rf))) eU) (di aU)) rf))
def hZ(h:Str->GF):ES:=(CY (bR (aT Att) gL "places") (v2 (ab fV df) (ab fV gc)) dq)
def jD (h:Str->GF):ES:=(ai (jS (aT Att) gL "families" (O (ab cw eU)))
  (ai (jS (aT Att) gL "homes" (O (cf (h "families_of") (v1 cw))))
  (ai (jS (aT Att) gL "pairs" (O (cf (h "pairs_of") (v1 cw))))
  (ai (jS (aT Att) gL "places" tw)
  (ai (bD (fN (vE (bR (aT Att) gL "pairs"))) (be [ah 2,ah 3]) (hZ h))
  (ai (jS (aT Att) gL "members" qd)
  (bD (ji (d5 (bR (aT Att) gL "homes"))) (ah 4) (cV h))))))))
theorem tq:EQ "Board.__init__" 2 5 jD:=λ_=>by kernel_rfl
def kc(x h:Str->GF):ES:=(bh (O (cf (x "ends_on") (v2 (vE (ml (h "Board.__init__") "Board" (CF gL))) cw))))
theorem uf(n:Nat):Ph (n+2) "ends_from"=zb 2 2 (kc (Ph (n+1)) (Ph n)):=by kernel_rfl
def eL (h:Str->GF):ES:=(ai (aA 6 (O (bj a_ (v1 (bp (eR (ab j4 gc)) [] 1 (ah 15) eA (ab (au dq (aQ (v1 (Jq uh df)))) (vv 15)))))))
  (jR rg (ab dq iL) (aQ (v3 (ab j4 eU) (ab j4 df) iO))))
def gJ (h:Str->GF):ES:=(ai (aA 14 (O (aQ (v3 (ab lL eU) (ab dq (ab lL df)) (ab dq (ab lL gc))))))
  (fm (bw (aj 14) (O (aQ (v3 jf iP kf)))) (bW (bC (aj 8) (O (ab (ab cw df) lT)))) gf))
def eK(h:Str->GF):ES:=(bD (fN lO) (be [ah 12,ah 13]) (gJ h))
def iV (h:Str->GF):ES:=(ai (aA 3 (HF (ab cw eU)))
  (ai (bD (fN (ab cw eU)) (be [ah 4,ah 5]) (eL h))
  (ai (aA 7 (O (cf (h "_law_pairs") (v1 bX))))
  (ai (aA 8 (di aU))
  (ai (bD (eR lO) (be [ah 9,ah 10,ah 11]) (eK h))
  (bh (O (aQ (v2 (bj a_ (v1 fV)) (bj a_ (v1 kN)))))))))))
theorem qA:EQ "_law_renamed" 3 15 iV:=λ_=>by kernel_rfl
def fQ (h:Str->GF):ES:=(ai (fm (fh (O (ab bX eU)) (O (vt "step"))) (ai (xZ (be [ah 2,ah 3,ah 4,ah 5]) bX)
  (bh (O (aQ (v4 dq (ab cw fV) (ab cw iL) j4))))) gf)
  (ai (xZ (be [ah 2,ah 6,ah 7,ah 8,ah 9]) bX)
  (ai (fm (bV (fx dw (aj 8) (O (vC (.non))))) (aA 8 (O (aQ (v2 (ab cw (ab kN eU)) (ab kN df))))) gf)
  (bh (O (aQ (v5 dq (ab cw iO) lO kN (bj a_ (v1 (bp (eR jf) [] 1 (ah 10) eA (ab cw iP)))))))))))
theorem kC:EQ "renamed_deed" 2 10 fQ:=λ_=>by kernel_rfl
def dL (h:Str->GF):ES:=(ai (fm (fh (O (ab bX eU)) (O (vt "step"))) (bh (O (aQ (v4 (ab bX eU) (ab cw (ab bX df)) (ab cw (ab bX gc)) (ab bX jF))))) gf)
  (ai (aA 2 (O (ab bX jF)))
  (ai (fm (bV (fx dw lU (O (vC (.non))))) (aA 2 (O (aQ (v2 (ab cw (ab dq eU)) (ab dq df))))) gf)
  (bh (O (aQ (v5 (vt "step") (ab cw (ab bX df)) (ab bX gc) dq (bj a_ (v1 (bp (eR (ab bX nP)) [] 1 (ah 3) eA (ab cw fV)))))))))))
theorem iJ:EQ "_law_renamed_deed" 2 3 dL:=λ_=>by kernel_rfl
def lx (h:Str->GF):ES:=(ai (aA 10 (O (cf (h "renamed_deed") (v2 kN iL))))
  (ai (fm (fh (aj 10) (O (cf (h "_law_renamed_deed") (v2 kN iL)))) (bh (O (vC (.bl Vm)))) gf)
  (x2 qm iP (cf (h "renamed") (v3 cw jf iL)))))
def nJ(h:Str->GF):ES:=(fm (EM (bV (fx lj (aj 8) qm)) (fh (yP qm kN) (aj 9))) (bh (O (vC (.bl Vm)))) gf)
def xw (h:Str->GF):ES:=(ai (aA 1 (O (cf (h "_law_plan") (v2 bX jF))))
  (ai (aA 2 (O (cf (h "_law_standing") (v2 bX cw))))
  (ai (aA 3 (O (cf (h "renamings") (v1 cw))))
  (ai (aA 4 (O (ab fV (aE (cf (h "_law_mix") (v2 (cf (h "_law_cell_at") (v2 bX (vi 54))) (vi 54))) (d5 rg)))))
  (ai (aA 5 (O (ab fV (aE (cf (h "_law_mix") (v2 (cf (h "_law_cell_at") (v2 bX (vi 55))) (vi 55))) (d5 rg)))))
  (ai (aA 6 (O (cf (h "renamed") (v3 cw dq iL))))
  (ai (fm (fh (aj 6) (O (cf (h "_law_renamed") (v3 cw dq iL)))) (bh (O (vC (.bl Vm)))) gf)
  (ai (aA 7 AN)
  (ai (bD (eR (cf (h "ends_from") (v2 cw dq))) (be [ah 8,ah 9]) (lx h))
  (ai (aA 11 (O (cf (h "ends_from") (v2 cw iO))))
  (ai (fm (fh (O (d5 (aj 11))) (O (FD qm))) (bh (O (vC (.bl Vm)))) gf)
  (ai (bD (eR kf) (be [ah 8,ah 9]) (nJ h))
  (ai (aA 12 (O (bj a_ (v1 (bp (eR iL) [] 1 (ah 14) eA (ab j4 (vv 14)))))))
  (ai (fm (fh (O (cf (h "renamed") (v3 cw iO j4))) (O (cf (h "renamed") (v3 cw dq lT)))) (bh (O (vC (.bl Vm)))) gf)
  (ai (aA 13 (O (bj a_ (v1 (bp (ji (d5 rf)) [] 1 (ah 14) eA (wq iL (vv 14)))))))
  (bh (O (fx Hy (O (cf (h "renamed") (v3 cw iO lL))) lU))))))))))))))))))
theorem KP:EQ "law" 1 14 xw:=λ_=>by kernel_rfl
variable{e:Type}{n:Nat}
theorem Tw(h:u.length=n+1):∃a r,u=a::r/\r.length=n:=by
 cases u with
 |nil=>cases h
 |cons a r=>exact⟨a,r,rfl,Nat.succ.inj h⟩
theorem UZ(h:u.length=1):∃a,u=[a]:=by obtain⟨a,r,rfl,x⟩:=Tw h;exact⟨a,by rw[kY x]⟩
theorem Rz{e:Type}{u:List e}(h:u.length=2):∃a b,u=[a,b]:=by obtain⟨a,r,rfl,x⟩:=Tw h;obtain⟨b,rfl⟩:=UZ x;exact⟨a,b,rfl⟩
theorem Tx{e:Type}{u:List e}(h:u.length=3):∃a b c,u=[a,b,c]:=by obtain⟨a,r,rfl,x⟩:=Tw h;obtain⟨b,c,rfl⟩:=Rz x;exact⟨a,b,c,rfl⟩
theorem xL:∀{s:LS}{x:LV},s.Nodup->x.length=s.length->(s.filterMap λn=>((s.zip x).lookup n).map (n,·))=s.zip x/\∀n ∈ s,((s.zip x).lookup n).isNone=Vm
 | [],x,_,l=>by cases kY l;simp
 |p::s,[],_,l=>by cases l
 |p::s,u::x,a,l=>by
  obtain⟨f,c⟩:=cA.mp a;obtain⟨i,t⟩:=xL c (Nat.succ.inj l);have k:∀n ∈ s,(n == p)=Vm:=λn h=>beq_false_of_ne λz=>f (z ▸ h);refine⟨?_,λn r=>?_⟩
  .have m:∀{qs:LS},(∀n ∈ qs,(n == p)=Vm)->(qs.filterMap λn=>(((p,u)::s.zip x).lookup n).map (n,·))=qs.filterMap λn=>((s.zip x).lookup n).map (n,·):=λ{qs} h=>by
    induction qs with
    |nil=>rfl
    |cons q qs v=>rw[oj,oj,v λn a=>h n (aL _ a)];simp[gU,h q aK]
   rw[B4,List.filterMap_cons_some (b:=(p,u)) (by simp[List.lookup_cons_self]),m k,i]
  .rw [B4];by_cases e:n=p
   .subst e;simp[gU]
   .simp only[gU,beq_false_of_ne e];exact t n ((bc.mp r).resolve_left e)
noncomputable def Aj(a:Arguments)(p:LS):Bool:=a.posonlyargs.isEmpty && a.kwonlyargs.isEmpty && a.vararg.isNone && a.kwarg.isNone && decide (a.args.map (·.arg)=p) && decide p.Nodup
theorem H_{f:FuncData}{p:LS}(h:Aj f.params p=Vl)(hd:f.defaults=.none){u:LV}(l:u.length=p.length):bindArgs f ⟨u,[]⟩=pure (p.zip u):=by
 simp only[Aj,ar,jK,oh,Option.isNone_iff_eq_none]at h;obtain⟨⟨⟨⟨⟨x,a⟩,e⟩,s⟩,k⟩,b⟩:=h;obtain⟨r,t⟩:=xL b l;have m:(p.filter λn=>((p.zip u).lookup n).isNone)=[]:=B6.mpr λn c=>by simp[t n c]
 have q:p.take p.length=p:=mN;have z:p.drop p.length=[]:=qU;unfold bindArgs;simp only[x,a,e,s,k,hd,gn,cS,eZ,l];simp[seqItems?,m,r,z];rfl
theorem sc:Tb.all Rr=Vl:=by decide +kernel
theorem un:(Tb.map (·.name)).Nodup:=by decide +kernel
inductive Fn(K:FG)(x:Str)(st:Stmt):Prop
 |mk (f:Addr) (oc:Value) (od:Option Addr) (kV dc pm:Value) (an:Option Addr) (cd ct:Value) (sl:Array (OV)):ph K mainGlobals x=Y (Y (.ref f))->K.lookup f=Y ⟨oc,od,.func (kZ x x (jX st) (hU st) (bz st) .none kV dc pm an cd ct),sl⟩->j3 K cd x=Vl->iN K (.ref f)=Vl->Fn K x st
def Nn(d:Df):Bool:=d.cls.cps.isEmpty && decide (d.short=d.name) && Aj (jX d.st) d.ps
theorem Tp:OG.all Nn=Vl:=by decide +kernel
structure Ck(K:FG)(x:Str)(C:Addr):Prop where
 ns:ph K mainGlobals x=Y (Y (.ref C))
 get:sf K C Str.empty=Vl
 dct:wg K C=Vl
 ovr:zE K C=Vl
 set:dt K (.ref C) "__setattr__"=Y (Y (.builtin "object.__setattr__"))
 mak:zB K C=Vl
 kp:iN K (.ref C)=Vl
inductive Mt(K:FG)(C:Addr)(st:Stmt)(m q:Str)(dV:Value):Prop
 |mk (f:Addr) (oc:Value) (od:Option Addr) (kV dc pm:Value) (an:Option Addr) (cd ct:Value) (sl:Array (OV)):dt K (.ref C) m=Y (Y (.ref f))->vK K (.ref f)=Vl->K.lookup f=Y ⟨oc,od,.func (kZ m q (jX st) (hU st) (bz st) dV kV dc pm an cd ct),sl⟩->j3 K cd q=Vl->iN K (.ref f)=Vl->Mt K C st m q dV
section
variable{K:FG}{h:Heap}{b:SV}(X:K.In h)(G:h.Ns mainGlobals b)
include X G
theorem dk{d:Df}(H:Fn K d.name d.st)(p:Nn d=Vl):∃f s,DOk K b d f s:=by obtain⟨x,z,e,st,N,y,i,u⟩:=d;simp only[Nn,ar,k6,jK]at p;obtain⟨⟨n,rfl⟩,m⟩:=p;obtain⟨f,o,g,kV,w,j,t,q,v,S,a,l,c,k⟩:=H;exact⟨_,_,⟨Hz l c k,.all λF r=>H_ m rfl r,λ_=>⟨_,_,_,_,_,_,rfl⟩,λ_=>zz X G a,λ(h:e.cps.isEmpty=Vm)=>absurd h (by rw[n];decide)⟩⟩
theorem dm{C:Addr}{st:Stmt}{x m q:Str}{V:Value}{N s y u:LS}(c:Ck K x C)(M:Mt K C st m q V)(j:x.cps.isEmpty=Vm)
  (i:∀(kV o p:Value)(n:Option Addr)(d t:Value),Binds K (kZ m q (jX st) (hU st) (bz st) V kV o p n d t) s []):∃f g,DOk K b ⟨q,m,x,st,N,s,y,u⟩ f g:=by
 obtain⟨f,H,S,kV,v,p,n,e,t,F,a,w,l,r,k⟩:=M;have h:x.cps.isEmpty=Vl->False:=λz=>by rw[j]at z;cases z
 exact⟨_,_,⟨Hz l r k,i kV v p n e t,λz=>(h z).elim,λz=>(h z).elim,λ_=>⟨C,c.ns,zz X G c.ns,⟨c.get,c.dct,c.ovr,c.set⟩,λz=>⟨c.mak,z ▸ a,w,c.kp⟩,λ_=>⟨a,w,k⟩⟩⟩⟩
end
def Gi(K:FG)(x:Str)(i:Int):Prop:=∃t,ph K mainGlobals x=Y (Y (.int i t))
theorem Ly{K:FG}{h:Heap}{b:SV}(X:K.In h)(G:h.Ns mainGlobals b){x:Str}{i:Int}(H:Gi K x i):xB K b x (.int i):=by obtain⟨t,a⟩:=H;exact⟨_,.int i,zz X G a,⟨_,rfl⟩,λ_ _=>rfl⟩
structure BoardOk(K:FG)(C:Addr):Prop where
 ck:Ck K "Board" C
 a_families:dt K (.ref C) "families"=Y Vk
 a_homes:dt K (.ref C) "homes"=Y Vk
 a_members:dt K (.ref C) "members"=Y Vk
 a_pairs:dt K (.ref C) "pairs"=Y Vk
 a_places:dt K (.ref C) "places"=Y Vk
 m_family_of:Mt K C (L2.gy (CQ 7) 1) "family_of" "Board.family_of" .none
 m_hands_beside:Mt K C (L2.gy (CQ 7) 2) "hands_beside" "Board.hands_beside" .none
 m_init:Mt K C (L2.gy (CQ 7) 0) "__init__" "Board.__init__" .none
structure RenamerOk(K:FG)(C:Addr):Prop where
 ck:Ck K "Renamer" C
 a_becomes:dt K (.ref C) "becomes"=Y Vk
 a_renaming:dt K (.ref C) "renaming"=Y Vk
 a_road_sources:dt K (.ref C) "road_sources"=Y Vk
 a_sources:dt K (.ref C) "sources"=Y Vk
 m_whos_at:Mt K C (L2.gy (CQ 28) 1) "whos_at" "Renamer.whos_at" .none
 m_standing_behind:Mt K C (L2.gy (CQ 28) 2) "standing_behind" "Renamer.standing_behind" .none
 m_init:Mt K C (L2.gy (CQ 28) 0) "__init__" "Renamer.__init__" .none
theorem U0:(Tb.all λd=>!d.deep.contains (Str.ofString "<lambda>") ||decide (d.name=Ha))=Vl:=by decide +kernel
set_option tactic.hygienic true in
theorem Jz(k:(PySem.W.kmHook K i a u).says w h)(l:Do (K w.params)=Vl)(p:((cy (K w.params)).all λP=>u.contains P)=Vl) :
  ∀P ∈ cy (K w.params),h.get? P=Y (r_ #[])/\∃c,rZ h c P:=λP f=>by
 refine⟨PySem.W.km_tabs_of k P (by simpa using bi.mp p P f),?_⟩;obtain⟨⟨c,o⟩,m,x⟩:=mP.mp f;have e:=bi.mp l _ m;have b:wY o=Vl:=by
  unfold FN at x;split at x
  .rename_i v hd;split at x
   .rename_i q t g n j;split at x
    .rename_i r;unfold wY;have d:o.data=.fields v:=hd;rw[d];obtain⟨s⟩:=v;match s,n with
     |_::_::_,n=>cases (show _=_ from b0 n);simpa using r
    .cases x
   .cases x
  .cases x
 rw[b]at e;simp only[ov,mS]at e;rw[x]at e;exact⟨c,Fe (PySem.W.km_in_of k) e⟩
open PySem.W in
theorem Of{w:World}{K:Frag}{h:Heap}{b:SV}(X:K.In h)(G:h.Ns mainGlobals b){C m:Addr}(a:BoardOk K C)(r:RenamerOk K m)
  (i:∀d ∈ OG,Fn K d.name d.st) (l:Do K=Vl)
  (g:Gi K "HIGHEST_LETTER" 999) (p:Gi K "NOBODY" (-1)) (z:∀x ∈ K4,nsIn K mainGlobals x=Y Vk):TOk w Gv Att Tb K b:=by
 refine⟨λd hd=>?_,sc,un,λx k=>mg_none_of X G (z x k),λx v s=>?_,λc f q=>?_,l,λd hd j=>?_⟩
 .rcases cR.mp hd with hd|hd
  .exact dk X G (i d hd) (bi.mp Tp d hd)
  simp only[Uw,bc,fg,eX]at hd;rcases hd with rfl|rfl|rfl|rfl|rfl|rfl;all_goals first
   |exact dm X G a.ck a.m_family_of (by decide +kernel) λ_ _ _ _ _ _=>.all λu l=>by obtain⟨_,_,rfl⟩:=Rz l;rfl
   |exact dm X G a.ck a.m_hands_beside (by decide +kernel) λ_ _ _ _ _ _=>.all λu l=>by obtain⟨_,_,_,rfl⟩:=Tx l;rfl
   |exact dm X G a.ck a.m_init (by decide +kernel) λ_ _ _ _ _ _=>.all λu l=>by obtain⟨_,_,rfl⟩:=Rz l;rfl
   |exact dm X G r.ck r.m_whos_at (by decide +kernel) λ_ _ _ _ _ _=>.all λu l=>by obtain⟨_,_,_,rfl⟩:=Tx l;rfl
   |exact dm X G r.ck r.m_standing_behind (by decide +kernel) λ_ _ _ _ _ _=>.all λu l=>by obtain⟨_,_,rfl⟩:=Rz l;rfl
   |exact dm X G r.ck r.m_init (by decide +kernel) λ_ _ _ _ _ _=>.all λu l=>by obtain⟨_,_,_,rfl⟩:=Tx l;rfl
 .unfold Gv at s;by_cases e:x=("HIGHEST_LETTER":Str)
  .subst e;rw[ac rfl]at s;cases s;exact Ly X G g
  rw[ae e]at s;clear e;by_cases e:x=("NOBODY":Str)
  .subst e;rw[ac rfl]at s;cases s;exact Ly X G p
  .rw [ae e]at s;cases s
 .obtain⟨x,k,e⟩:=og.mp q;rw[ar]at e;have t:=aR e.1;have n:f ∈ x.2:=by simpa using e.2
  subst t;simp only[Att,bc,fg,eX]at k;rcases k with rfl|rfl
  .simp only[bc,fg,eX]at n;rcases n with rfl|rfl|rfl|rfl|rfl
   .exact⟨_,a.ck.ns,⟨a.ck.get,a.ck.dct,a.ck.ovr,a.ck.set⟩,a.a_families⟩
   .exact⟨_,a.ck.ns,⟨a.ck.get,a.ck.dct,a.ck.ovr,a.ck.set⟩,a.a_homes⟩
   .exact⟨_,a.ck.ns,⟨a.ck.get,a.ck.dct,a.ck.ovr,a.ck.set⟩,a.a_members⟩
   .exact⟨_,a.ck.ns,⟨a.ck.get,a.ck.dct,a.ck.ovr,a.ck.set⟩,a.a_pairs⟩
   .exact⟨_,a.ck.ns,⟨a.ck.get,a.ck.dct,a.ck.ovr,a.ck.set⟩,a.a_places⟩
  .simp only[bc,fg,eX]at n;rcases n with rfl|rfl|rfl|rfl
   .exact⟨_,r.ck.ns,⟨r.ck.get,r.ck.dct,r.ck.ovr,r.ck.set⟩,r.a_becomes⟩
   .exact⟨_,r.ck.ns,⟨r.ck.get,r.ck.dct,r.ck.ovr,r.ck.set⟩,r.a_renaming⟩
   .exact⟨_,r.ck.ns,⟨r.ck.get,r.ck.dct,r.ck.ovr,r.ck.set⟩,r.a_road_sources⟩
   .exact⟨_,r.ck.ns,⟨r.ck.get,r.ck.dct,r.ck.ovr,r.ck.set⟩,r.a_sources⟩
 .have:=bi.mp U0 d hd;rw[j]at this;simpa using this
theorem log2_small{i:Int}(h:i.natAbs < 2 ^ 60):i.natAbs.log2 < 60:=by
 by_cases e:i.natAbs=0
 .rw [e];decide
 .exact (BA e).mpr h
theorem cx{i j:Int}(h:i.natAbs < 2 ^ 60)(x:j.natAbs < 2 ^ 60):iH i j=Vl:=by unfold iH;have a:=log2_small h;have b:=log2_small x;exact eF (by lia)
theorem No:∀(n:Nat)(v:P),d9 n v=Vl->d9 (n+1) v=Vl:=by
 intro n;induction n with
 |zero=>intro v h;cases v<;>first|rfl|exact h|cases h
 |succ n i=>
  intro v h;cases v with
  |tup s=>exact bi.mpr λx a=>i x (bi.mp h x a)
  |lst s=>exact bi.mpr λx a=>i x (bi.mp h x a)
  |ro s=>exact bi.mpr λx a=>i x (bi.mp h x a)
  |non=>rfl
  |bl _=>rfl
  |int _=>rfl
  |str _=>exact h
  |dct _ _=>cases h
  |obj _ _ _=>cases h
  |dtt _ _=>cases h
theorem kq(h:d9 n v=Vl)(x:n≤m):d9 m v=Vl:=by
 obtain⟨k,rfl⟩:=Nat.exists_eq_add_of_le x;clear x;induction k with
 |zero=>exact h
 |succ k i=>exact No _ _ i
def strOk(x:Str):Prop:=ba x=Vl
@[simp] theorem Ki(n:Nat)(i:Int):d9 n (.int i)=Vl:=by cases n<;>rfl
@[simp] theorem To(n:Nat)(i:Bool):d9 n (.bl i)=Vl:=by cases n<;>rfl
@[simp] theorem Ru(n:Nat):d9 n .non=Vl:=by cases n<;>rfl
@[simp] theorem Rt(n:Nat)(x:Str):d9 n (.str x)=ba x:=by cases n<;>rfl
@[simp] theorem Db(n:Nat)(s:List P):d9 (n+1) (.tup s)=s.all (d9 n):=rfl
@[simp] theorem Rv(n:Nat)(s:List P):d9 (n+1) (.lst s)=s.all (d9 n):=rfl
theorem UU(h:∀x ∈ s,d9 n x=Vl):d9 (n+1) (.lst s)=Vl:=bi.mpr h
@[simp] theorem Dm(c:Nat):nS ⟨#[c]⟩=1:=rfl
variable{x:Str}
theorem D2(h:strOk x)(a:strOk y):strOk (x++y):=by show(x.cps++y.cps).all (λc=>decide (c < 0x110000))=Vl;rw[Ce,ar];exact⟨h,a⟩
theorem D1(e:strOk x)(n:Nat):strOk (fy x n):=by
 have k:∀(n:Nat)(a:Array Nat),a.all (λc=>decide (c < 0x110000))=Vl->((List.replicate n x.cps).foldl (·++·) a).all (λc=>decide (c < 0x110000))=Vl:=by
  intro n;induction n with
  |zero=>intro a h;exact h
  |succ n i=>intro a h;rw[gq,i_];exact i _ (by rw[Ce,ar];exact⟨h,e⟩)
 exact k n #[] (by simp)
theorem HQ{k:Int}(f:strOk x)(a:0≤k)(s:k < x.length)(n:x.length≤1000000):∃c,strOk ⟨#[c]⟩/\iM (.str x) (.int k)=Y (.str ⟨#[c]⟩):=by
 have l:k.toNat < x.cps.toList.length:=by simp only[k8];unfold nS at s;lia
 have h:k.toNat < x.cps.size:=by simpa using l
 refine⟨x.cps.toList[k.toNat],?_,?_⟩
 .have:=Array.all_eq_true.mp f k.toNat h;show(#[x.cps.toList[k.toNat]].all λc=>decide (c < 0x110000))=Vl;simpa using this
 .have e:L2.atI x.cps.toList k=Y (x.cps.toList[k.toNat]):=bn a (by simp[h]);show(if lr x.length=Vl then (L2.atI x.cps.toList k).map λc=>P.str ⟨#[c]⟩ else Vk)=_;rw[ac (by simp only[rO];exact n),e];rfl
theorem Ex(h:x.length+y.length≤1000000):tB (.str x) (.str y)=Y (.str (x++y)):=by show(if lr (x.length+y.length)=Vl then Y (P.str (x++y)) else Vk)=_;rw[ac (by rw[rO];exact h)]
theorem fF{e:Type}{s:List e}(h:s≠[])(a:Int):∃x ∈ s,L2.atI s (a % (s.length:Int))=Y x:=by
 have l:(0:Int) < (s.length:Int):=by cases s with|nil=>exact absurd rfl h|cons _ _=>simp
 have n:=cY a (Int.ne_of_gt l);have k:=dE a l;have hk:(a % (s.length:Int)).toNat < s.length:=by lia
 exact⟨s[(a % (s.length:Int)).toNat],dn _,bn n (by simp[hk])⟩
variable{s:List e}
theorem AX{k:Int}(h:0≤k)(a:k < (s.length:Int)):∃x ∈ s,L2.atI s k=Y x:=by
 have hk:k.toNat < s.length:=by lia
 exact⟨s[k.toNat],dn _,bn h (by simp[hk])⟩
theorem atI_last(h:s≠[]):∃x ∈ s,L2.atI s (-1)=Y x:=by
 have l:0 < s.length:=vX.mpr h;refine⟨s[s.length-1],dn _,?_⟩;unfold L2.atI L2.Aw;rw[ae (by lia),ac (by lia)];have e:(-1+(s.length:Int)).toNat=s.length-1:=by lia
 simp[e,l]
theorem bN{g:lM}{b:ES}{Inv:Nat->Lc->aM->Prop}:∀{s:List P}{k:Nat}{L:Lc}{S:aM},(∀i v L S,s[i]? = Y v->Inv (k+i) L S->∃f L2 n,g v L=Y f/\b f S=Y (.nx,L2,n)/\Inv (k+i+1) L2 n)->Inv k L S ->
  ∃x a,bx g b s L S=Y (.nx,x,a)/\Inv (k+s.length) x a
 | [],k,L,S,_,h=>⟨L,S,rfl,h⟩
 |v::r,k,L,S,c,h=>by
  obtain⟨f,L2,n,m,t,d⟩:=c 0 v L S rfl h;obtain⟨x,a,p,u⟩:=bN (g:=g) (b:=b) (Inv:=Inv) (s:=r) (k:=k+1) (L:=L2) (S:=n) (λi w L S e q=>by have:=c (i+1) w L S (by simpa using e) (by rw[show k+(i+1)=k+1+i by lia];exact q);rwa [show k+(i+1)+1=k+1+i+1 by lia]at this) d
  exact⟨x,a,by rw[cq m t];exact p,by rw[aS,show k+(r.length+1)=k+1+r.length by lia];exact u⟩
theorem pR{g:lM}{c:EB}{e:EV}{Inv:Lc->Prop}{Q:P->Prop}{S:aM}:∀{s:List P}{L:Lc},(∀v ∈ s,∀L,Inv L->∃x k,g v L=Y x/\Inv x/\c x S=Y (k,S)/\(k=Vl->∃y,e x S=Y (y,S)/\Q y))->Inv L ->
  ∃a,bL g c e s L S=Y (a,S)/\(∀y ∈ a,Q y)/\a.length≤s.length
 | [],L,_,h=>⟨[],rfl,λ_ z=>(by cases z),az _⟩
 |v::r,L,t,h=>by
  obtain⟨x,k,n,i,f,d⟩:=t v aK L h;obtain⟨a,b,m,j⟩:=pR (s:=r) (L:=x) (λw hw=>t w (aL _ hw)) i;cases k with
  |false=>exact⟨a,by simp[bL,n,f,b],m,by simp;lia⟩
  |true=>obtain⟨y,p,q⟩:=d rfl;exact⟨y::a,by simp[bL,n,f,b,p],λz u=>(bc.mp u).elim (λe=>e ▸ q) (m z),by simp;lia⟩
theorem nH{g:lM}{e:EV}{Inv:Lc->Prop}{Q:P->Prop}{S:aM}:∀{s:List P}{L:Lc},(∀v ∈ s,∀L,Inv L->∃x y,g v L=Y x/\Inv x/\e x S=Y (y,S)/\Q y)->Inv L ->
  ∃a,bL g eA e s L S=Y (a,S)/\(∀y ∈ a,Q y)/\a.length=s.length
 | [],L,_,h=>⟨[],rfl,λ_ z=>(by cases z),rfl⟩
 |v::r,L,n,h=>by obtain⟨x,y,k,i,f,q⟩:=n v aK L h;obtain⟨a,b,c,m⟩:=nH (s:=r) (L:=x) (λw hw=>n w (aL _ hw)) i;exact⟨y::a,by simp[bL,k,f,b],λz t=>(bc.mp t).elim (λe=>e ▸ q) (c z),by simp[m]⟩
theorem dC{g:lM}{c:EB}{e:EV}{Inv:Lc->Prop}{S:aM}{p:P->Bool}{f:P->P}:∀{s:List P}{L:Lc},(∀v ∈ s,∀L,Inv L->∃x,g v L=Y x/\Inv x/\c x S=Y (p v,S)/\(p v=Vl->e x S=Y (f v,S)))->Inv L ->
  bL g c e s L S=Y ((s.filter p).map f,S)
 | [],L,_,h=>rfl
 |v::r,L,m,h=>by
  obtain⟨x,n,i,a,t⟩:=m v aK L h;have b:=dC (s:=r) (L:=x) (λw hw=>m w (aL _ hw)) i;cases k:p v with
  |false=>rw[k]at a;simp[bL,n,a,b,k]
  |true=>rw[k]at a;simp[bL,n,a,b,k,t k]
theorem ints_get{lo:Int}{n i:Nat}{v:P}(h:(intsFrom lo n)[i]? = Y v):v=.int (lo+i)/\i < n:=by
 unfold Ev.intsFrom at h;rw[bq]at h;cases e:(List.range n)[i]? with
 |none=>rw[e]at h;cases h
 |some j=>
  rw[e]at h;cases h;have:=aX.mp e
  obtain⟨x,a⟩:=this;simp at x a;subst a;exact⟨rfl,x⟩
theorem ku{lo:Int}{n:Nat}{v:P}(h:v ∈ intsFrom lo n):∃i:Nat,v=.int (lo+i)/\i < n:=by obtain⟨i,x,e⟩:=qY.mp h;exact⟨i,ints_get (by rw[aY x,e])⟩
theorem cW(lo:Int)(n:Nat):(intsFrom lo n).length=n:=by simp[Ev.intsFrom]
theorem GX(n k:Str->GF)(s:List P):∀(a:Int)(p t q:Option D),∃(r:Int)(e:Option D),bx (ah 2) (jC n) s [qi a,p,t,q] []=Y (.nx,[qi r,p,e,q],[]):=by
 induction s with
 |nil=>intro a p t q;exact⟨a,t,rfl⟩
 |cons x s i=>intro a p t q;obtain⟨r,e,h⟩:=i (a / 2147483648) p (U x) q;exact⟨r,e,by simpa[bx,jC] using h⟩
theorem wQ(a:Int){p:Int}(s:0≤p)(k:p < 1000):∃r:Int,0≤r/\cm (Ph (n+2) "_law_mix") [.int a,.int p]=Y (.int r):=by
 by_cases h:(1000000000000:Int)≤a
 .obtain⟨r,i,e⟩:=GX (Ph (n+1)) (Ph n) (intsFrom 0 (p % 61).toNat) (a / 1000000000000-1) (qi p) Vk Vk;refine⟨r % 2147483648,cY _ (by decide),?_⟩;have c:(p % 61).natAbs < 1000000:=by lia
  rw[qc,aD];simp[mx,h,c,e]
 .have m:0≤p * p/\p * p≤1000000:=⟨Int.mul_nonneg s s,Int.le_trans (Int.mul_le_mul (A4 k) (A4 k) s (by decide)) (by decide)⟩;have v:iH p p=Vl:=cx (by lia) (by lia);have d:iH (p * p) 7919=Vl:=cx (by lia) (by decide);have w:iH (a % 1000003+p * p * 7919+p) 48271=Vl:=cx (by lia) (by decide);generalize f:(a % 1000003+p * p * 7919+p) * 48271 % 2147483629=x;have t:0≤x/\x < 2147483629:=by subst f;exact⟨cY _ (by decide),dE _ (by decide)⟩
  have u:iH x x=Vl:=cx (by lia) (by lia);generalize b:x * x % 2147483587=y;have q:0≤y/\y < 2147483587:=by subst b;exact⟨cY _ (by decide),dE _ (by decide)⟩
  have g:iH y (y+2)=Vl:=cx (by lia) (by lia);refine⟨y * (y+2) % 2147483579 / 7,Int.ediv_nonneg (cY _ (by decide)) (by decide),?_⟩;rw[qc,aD];simp[mx,h,v,d,w,f,u,b,g]
noncomputable def fW(n:List Int):P:=.ro (n.map .int)
theorem xn{n:Nat}(s:List Int){k:Int}(x:0≤k):∃r:Int,cm (Ph (n+2) "_law_cell_at") [fW s,.int k]=Y (.int r):=by
 by_cases h:k < (s.length:Int)
 .have hk:k.toNat < s.length:=by lia
  refine⟨s[k.toNat],?_⟩;have e:L2.atI (s.map P.int) k=Y (.int s[k.toNat]):=bn x (by simp[hk]);rw[lH,aD];simp[iY,fW,d_,fD,h,e]
 .refine⟨0,?_⟩;rw[lH,aD];simp[iY,fW,d_,fD,h]
inductive Drw(n:Nat)(ns:List Int)(k p:Int):Prop
 |mk (c r:Int):0≤r->cm (Ph (n+2) "_law_cell_at") [fW ns,.int k]=Y (.int c)->cm (Ph (n+2) "_law_mix") [.int c,.int p]=Y (.int r)->Drw n ns k p
theorem iE{n:Nat}(s:List Int){k p:Int}(x:0≤k)(a:0≤p)(f:p < 1000):Drw n s k p:=by obtain⟨c,e⟩:=xn (n:=n) s x;obtain⟨r,b,h⟩:=wQ (n:=n) c a f;exact⟨c,r,b,e,h⟩
theorem Nm:strOk "xyz":=by unfold strOk;decide +kernel
theorem Dl:("xyz":Str).length=3:=by decide +kernel
theorem Q_:∀k:Nat,k < 16->iM (.str "abcdefghijklmnop") (.int (k:Int))=Y (.str ⟨#[97+k]⟩):=by
 intro k hk;have e:∀k:Nat,k < 16->L2.atI ((("abcdefghijklmnop":Str)).cps.toList) (k:Int)=Y (97+k):=by decide +kernel
 show(if lr (("abcdefghijklmnop":Str)).length=Vl then (L2.atI ((("abcdefghijklmnop":Str)).cps.toList) (k:Int)).map λc=>P.str ⟨#[c]⟩ else Vk)=_;rw[e k hk,ac (by decide +kernel)];rfl
noncomputable def hd(x:Str):Option Nat:=x.cps[0]?
theorem MP(c n:Nat)(x:Str):hd (fy ⟨#[c]⟩ (n+1)++x)=Y c:=by
 have k:∀(n:Nat)(a:Array Nat),a[0]? = Y c->((List.replicate n #[c]).foldl (·++·) a)[0]? = Y c:=by
  intro n;induction n with
  |zero=>intro a h;exact h
  |succ n i=>intro a h;rw[gq,i_];refine i _ ?_;have s:0 < a.size:=(wm.mp h).1;rw[Cg s];exact h
 have h:=k n (#[]++#[c]) (by simp);have s:0 < ((List.replicate n #[c]).foldl (·++·) (#[]++#[c])).size:=(wm.mp h).1;show(((List.replicate (n+1) #[c]).foldl (·++·) #[])++x.cps)[0]? = Y c;rw[gq,i_,Cg s];exact h
theorem rF{n:Nat}(s:List Int){k:Nat}(r:k < 16):∃x:Str,strOk x/\hd x=Y (97+k)/\cm (Ph (n+3) "_law_name") [fW s,.int (k:Int)]=Y (.str x):=by
 obtain⟨c,a,t,e,b⟩:=iE (n:=n) s (k:=1) (p:=(k:Int)) (by lia) (by lia) (by lia);have u:=Q_ k r;obtain⟨d,h,f⟩:=HQ (k:=a / 4 % 3) Nm (by lia) (by rw[Dl];lia) (by rw[Dl];lia);have hk:strOk ⟨#[97+k]⟩:=by show(#[97+k].all λc=>decide (c < 0x110000))=Vl;simp;lia
 have m:xl (.str ⟨#[97+k]⟩) (.int (1+a % 4))=Y (.str (fy ⟨#[97+k]⟩ ((a % 4).toNat+1))):=by show(if (lr ((1+a % 4).toNat * 1) && decide ((1+a % 4).natAbs < 1000000))=Vl then Y (P.str (fy ⟨#[97+k]⟩ (1+a % 4).toNat)) else Vk)=_;rw[ac (by rw[ar,rO];exact⟨by lia,eF (by lia)⟩),show(1+a % 4).toNat=(a % 4).toNat+1 by lia]
 have z:=Ex (x:=fy ⟨#[97+k]⟩ ((a % 4).toNat+1)) (y:=⟨#[d]⟩) (by rw[na,Dm,Dm];lia);refine⟨fy ⟨#[97+k]⟩ ((a % 4).toNat+1)++⟨#[d]⟩,D2 (D1 hk _) h,MP _ _ _,?_⟩;rw[xf,aD];simp[o5,e,b,u,f,m,z]
theorem am{f g:ES}{L x:Lc}{S a:aM}(h:f L S=Y (.nx,x,a)):ai f g L S=g x a:=by rw[ai,h]
theorem jw{c:EB}{x y:ES}{L:Lc}{S:aM}(h:c L S=Y (Vl,S)):fm c x y L S=x L S:=by rw[fm,h];rfl
theorem fO{c:EB}{x y:ES}{L:Lc}{S:aM}(h:c L S=Y (Vm,S)):fm c x y L S=y L S:=by rw[fm,h];rfl
theorem xY{A R:ES}{L:Lc}{S:aM}{p:Lc->Prop}{G:CO->Prop}(h:∃x,p x/\A L S=Y (.nx,x,S))(k:∀x,p x->G (R x S)):G (ai A R L S):=by obtain⟨x,a,e⟩:=h;rw[am e];exact k x a
theorem Tu(a:Int):∃r:Int,-1≤r/\r≤5/\L2.atI [P.int 0,.int 0,.int (-1),.int 5] (a % 4)=Y (.int r):=by
 have h:a % 4=0\/a % 4=1\/a % 4=2\/a % 4=3:=by lia
 rcases h with h|h|h|h<;>rw[h]<;>simp
theorem Qz(a:Int):∃r:Int,0≤r/\r≤2/\L2.atI [P.int 1,.int 2,.int 0,.int 1] (a % 4)=Y (.int r):=by
 have h:a % 4=0\/a % 4=1\/a % 4=2\/a % 4=3:=by lia
 rcases h with h|h|h|h<;>rw[h]<;>simp
inductive isCel(v:P):Prop
 |mk (x:Str) (lo hi at':Int):strOk x->-1≤lo->lo≤at'->at'≤hi->hi≤7->v=.tup [.str x,.int lo,.int hi,.int at']->isCel v
noncomputable def i3:P->List P
 | .tup s=>s
 | .lst s=>s
 |_=>[]
def bI(v:P)(k:Nat):P:=(i3 v)[k]?.getD .non
noncomputable def iv:P->Int
 | .int i=>i
 |_=>0
@[simp] theorem Sq(s:List P):i3 (.tup s)=s:=rfl
@[simp] theorem UI(s:List P):i3 (.lst s)=s:=rfl
@[simp] theorem Qp(s:List P)(k:Nat):bI (.tup s) k=s[k]?.getD .non:=rfl
@[simp] theorem Qu(i:Int):iv (.int i)=i:=rfl
noncomputable def bt:P->Str
 | .tup (.str s::_)=>s
 |_=>""
def DQ(v:List P):Prop:=(∀c ∈ v,isCel c)/\∀i c,v[i]? = Y c->hd (bt c)=Y (99+i)
@[simp] theorem Pb(v:List P):toP 9 (.ref 0) [.lst (v.map .p)]=Y (.lst v,[.fz (.lst v)]):=dS rfl
theorem d6(s:List P)(v:P):s.map D.p++[.p v]=(s++[v]).map .p:=by simp
theorem eQ{Q:P->Prop}{s:List P}{v:P}(h:∀x ∈ s,Q x)(e:Q v):∀x ∈ s++[v],Q x:=λx a=>(cR.mp a).elim (h x) λa=>by rw[cZ.mp a];exact e
theorem yB{Q:Nat->P->Prop}{s:List P}{v:P}(h:∀i x,s[i]? = Y x->Q i x)(n:Q s.length v):∀i x,(s++[v])[i]? = Y x->Q i x:=λi x a=>by
 by_cases e:i < s.length
 .rw [ce e]at a;exact h i x a
 .rw [c_ (by lia)]at a;have:i-s.length=0:=by
   have:=(aX.mp a).1;simp at this;lia
  rw[this]at a;cases a;rw[show i=s.length by lia];exact n
theorem HU{n:Nat}(t:List Int){f m:Int}(h0:0≤f)(h1:0≤m)(h2:m≤3):∃r:List P,r.length≤m.toNat/\DQ r/\cm (Ph (n+4) "_law_cells") [fW t,.int f,.int m]=Y (.lst r):=by
 obtain⟨c,a,ha,G,I⟩:=iE (n:=n+1) t (k:=2+f) (p:=1) (by lia) (by lia) (by lia);have hm:a % (m+1) < m+1:=dE _ (by lia);have W:0≤a % (m+1):=cY _ (by lia);let Inv:Nat->Lc->aM->Prop:=λi L S=>∃(r:List P)(H F K A:Option D),r.length=i/\DQ r/\L=[U (fW t),qi f,qi m,qr 0,H,F,K,A]/\S=[.lst (r.map .p)]
 obtain⟨L',S',e,r,H,F,K,A,j,o,rfl,rfl⟩:=bN (g:=ah 4) (b:=io (Ph (n+3))) (Inv:=Inv) (s:=Ev.intsFrom 0 (a % (m+1)).toNat) (k:=0)
  (L:=[U (fW t),qi f,qi m,qr 0,Vk,Vk,Vk,Vk]) (S:=[.lst []]) (fun i v L S hv R=>by
   obtain⟨rfl,hi⟩:=ints_get hv;obtain⟨r,H,F,K,A,j,o,rfl,rfl⟩:=R;obtain⟨c2,d,hd,C,E⟩:=iE (n:=n+1) t (k:=2+f) (p:=2+(i:Int)) (by lia) (by lia) (by lia);obtain⟨x,hx,y,Q⟩:=rF (n:=n) t (k:=2+i) (by lia);obtain⟨lo,l,V,M⟩:=Tu d;obtain⟨u,Z,B,N⟩:=Qz (d / 4);have z:0 < lo+u-lo+1:=by lia
   have T:r.length≤1000000:=by lia
   generalize hw:d / 16 % (lo+u-lo+1)=w;have hw0:0≤w/\w < lo+u-lo+1:=by subst hw;exact⟨cY _ (by lia),dE _ z⟩
   refine⟨_,[U (fW t),qi f,qi m,qr 0,qi (i:Int),qi d,qi lo,qi (lo+u)],[.lst ((r++[P.tup [.str x,.int lo,.int (lo+u),.int (lo+w)]]).map D.p)],rfl,?_,_,_,_,_,_,by simp;lia,⟨eQ o.1 ⟨x,lo,lo+u,lo+w,hx,l,by lia,by lia,by lia,rfl⟩,yB o.2 ?_⟩,rfl,rfl⟩
   .rw [<- d6];have q:cm (Ph (n+3) "_law_name") [fW t,.int (2+(i:Int))]=Y (.str x):=by rw[<- Q];rfl
    simp[io,C,E,q,M,N,z,fu,T,hw]
   .show My.hd x=_;rw[y,j];congr 1;lia) ⟨[],Vk,Vk,Vk,Vk,rfl,⟨λ_ h=>(by cases h),λ_ _ h=>(by cases h)⟩,rfl,rfl⟩
 refine⟨r,by rw[j,cW];lia,o,?_⟩;have X:(a % (m+1)).natAbs < 1000000:=by lia
 have z:0 < m+1:=by lia
 rw[uc,aD];simp[nr,G,I,X,z,e]
@[simp] theorem Rq:ba "number"=Vl/\ba "name"=Vl/\ba "plus"=Vl/\ba "minus"=Vl/\ba "times"=Vl/\ba "true"=Vl/\ba "not"=Vl/\ba "or"=Vl/\ba "and"=Vl/\ba "is"=Vl/\ba "="=Vl/\ba "!="=Vl/\ba "<"=Vl/\ba "<="=Vl/\ba ">"=Vl/\ba ">="=Vl/\ba "row"=Vl/\ba "heap"=Vl/\ba "ma"=Vl/\ba "mb"=Vl/\ba "who"=Vl/\ba "all"=Vl/\ba "any"=Vl/\ba ""=Vl/\ba "it"=Vl/\ba "weak"=Vl/\ba "strong"=Vl/\ba "step"=Vl/\ba "lose"=Vl/\ba "double"=Vl:=by decide +kernel
def lQ(v:P):Prop:=∃s:Str,ba s=Vl/\v=.str s
theorem lQ.ok(h:lQ v)(n:Nat):d9 n v=Vl:=by obtain⟨s,h,rfl⟩:=h;simpa using h
theorem js{s:List P}(h:∀x ∈ s,lQ x)(n:Nat):d9 (n+1) (.lst s)=Vl:=UU λx a=>(h x a).ok n
theorem dQ(h:s≠[]):s.isEmpty=Vm:=by cases s with|nil=>exact absurd rfl h|cons _ _=>rfl
theorem len_pos(h:s≠[]):0 < s.length:=vX.mpr h
noncomputable abbrev pG(k:Int):P:=.tup [.str "number",.int k]
noncomputable abbrev qw(y:P):P:=.tup [.str "name",y]
def yr(N:List P)(v:P):Prop:=(∃k,v=pG k)\/∃y ∈ N,v=qw y\/(∃k,v=.tup [.str "plus",qw y,pG k])\/(∃k j:Int,0≤k/\k≤2/\v=.tup [.str "minus",.tup [.str "times",qw y,pG k],pG j])\/v=.tup [.str "minus",pG 1,qw y]
theorem zU{n:Nat}(d:Int){s:List P}(c:∀x ∈ s,lQ x):∃v,yr s v/\cm (Ph (n+2) "_law_sum") [.int d,.lst s]=Y v:=by
 have e:=DB (js c 19);by_cases k:s=[]
 .subst k;refine⟨pG (d / 5 % 3),.inl ⟨_,rfl⟩,?_⟩;rw[gO,aD];simp[fE,e]
 rw[dQ k]at e;have l:=len_pos k;obtain⟨y,f,a⟩:=fF k (d / 5);have b:d % 5=0\/d % 5=1\/d % 5=2\/d % 5=3\/d % 5=4:=by lia
 rcases b with h|h|h|h|h
 .refine⟨pG (d / 5 % 3),.inl ⟨_,rfl⟩,?_⟩;rw[gO,aD];simp[fE,e,h]
 .refine⟨qw y,.inr ⟨y,f,.inl rfl⟩,?_⟩;rw[gO,aD];simp[fE,e,h,d_,fD,l,a]
 .refine⟨.tup [.str "plus",qw y,pG (d / 20 % 3)],.inr ⟨y,f,.inr (.inl ⟨_,rfl⟩)⟩,?_⟩;rw[gO,aD];simp[fE,e,h,d_,fD,l,a]
 .refine⟨.tup [.str "minus",.tup [.str "times",qw y,pG (d / 20 % 3)],pG (d / 60 % 2)],.inr ⟨y,f,.inr (.inr (.inl ⟨_,_,by lia,by lia,rfl⟩))⟩,?_⟩;rw[gO,aD];simp[fE,e,h,d_,fD,l,a]
 .refine⟨.tup [.str "minus",pG 1,qw y],.inr ⟨y,f,.inr (.inr (.inr rfl))⟩,?_⟩;rw[gO,aD];simp[fE,e,h,d_,fD,l,a]
def oQ(N:List P)(v:P):Prop:=∃w y s,y ∈ N/\yr N s/\ba w=Vl/\v=.tup [.str "is",.str w,qw y,s]
def AC(N:List P)(v:P):Prop:=v=.tup [.str "true"]\/oQ N v\/(∃p,oQ N p/\v=.tup [.str "not",p])\/∃p z,oQ N p/\z ∈ N/\v=.tup [.str "or",p,.tup [.str "and",.tup [.str "true"],.tup [.str "is",.str "=",pG 1,qw z]]]
theorem w6(a:Int):∃w:Str,ba w=Vl/\L2.atI [P.str "=",.str "!=",.str "<",.str "<=",.str ">",.str ">="] (a % 6)=Y (.str w):=by obtain⟨w,hw,e⟩:=AX (s:=[P.str "=",.str "!=",.str "<",.str "<=",.str ">",.str ">="]) (k:=a % 6) (by lia) (by simp;lia);simp only[bc,fg,eX]at hw;rcases hw with rfl|rfl|rfl|rfl|rfl|rfl<;>exact⟨_,by simp,e⟩
theorem KW{n:Nat}(d:Int){s:List P}(m:∀x ∈ s,lQ x):∃v,AC s v/\cm (Ph (n+3) "_law_condition") [.int d,.lst s]=Y v:=by
 have e:=DB (js m 19);by_cases a:s=[]
 .subst a;refine⟨.tup [.str "true"],.inl rfl,?_⟩;rw[dJ,aD];simp[cU,e]
 rw[dQ a]at e;have l:=len_pos a;obtain⟨y,g,c⟩:=fF a (d / 30);obtain⟨z,i,r⟩:=AX (s:=s) (k:=0) (by lia) (by lia);obtain⟨w,hw,b⟩:=w6 (d / 5);obtain⟨v,u,f⟩:=zU (n:=n) (d / 90) m;have p:oQ s (.tup [.str "is",.str w,qw y,v]):=⟨w,y,v,g,u,hw,rfl⟩;by_cases t:d % 5 < 2
 .refine⟨.tup [.str "true"],.inl rfl,?_⟩;rw[dJ,aD];simp[cU,e,t]
 have q:d % 5=2\/d % 5=3\/d % 5=4:=by lia
 rcases q with h|h|h
 .refine⟨_,.inr (.inr (.inl ⟨_,p,rfl⟩)),?_⟩;rw[dJ,aD];simp[cU,e,h,d_,fD,l,c,b,f]
 .refine⟨_,.inr (.inr (.inr ⟨_,z,p,i,rfl⟩)),?_⟩;rw[dJ,aD];simp[cU,e,h,d_,fD,l,c,r,b,f]
 .refine⟨_,.inr (.inl p),?_⟩;rw[dJ,aD];simp[cU,e,h,d_,fD,l,c,b,f]
inductive isRoad(v:P):Prop
 |mk (a b k:Str) (c:Int) (d e:Bool):ba a=Vl->ba b=Vl->(k="row"\/k="heap")->1≤c->c≤3->v=.tup [.str a,.str b,.str k,.int c,.bl d,.bl e]->isRoad v
noncomputable def rA:P->Str
 | .tup (.str a::_)=>a
 |_=>""
noncomputable def rB:P->Str
 | .tup (_::.str b::_)=>b
 |_=>""
def RD(r h:P):Prop:=¬(rA r=rA h/\rB r=rB h)
def LU(F:List P)(v:List P):Prop:=v.length≤8/\(∀r ∈ v,isRoad r/\.str (rA r) ∈ F/\.str (rB r) ∈ F)/\v.Pairwise RD
def S7(F:List P)(v:List P)(i j:Nat):Prop:=∀r ∈ v,∃h x,F[h]? = Y (.str (rA r))/\F[x]? = Y (.str (rB r))/\(h < i\/(h=i/\x < j))
theorem Lo{a b:P}(d:Int):∃w,(w=a\/w=b)/\L2.atI [a,b] (d % 2)=Y w:=by obtain⟨w,hw,e⟩:=AX (s:=[a,b]) (k:=d % 2) (by lia) (by simp;lia);exact⟨w,by simpa using hw,e⟩
theorem gi{s:List P}{i:Nat}{v:P}(h:(bE 0 s)[i]? = Y v):∃x,s[i]? = Y x/\v=.tup [.int (i:Int),x]:=by obtain⟨x,a,e⟩:=pK h;exact⟨x,a,by rw[e];simp⟩
theorem bB{e:Type}{s:List e}{i:Nat}{x:e}(h:s[i]? = Y x):i < s.length:=(aX.mp h).1
theorem Gc{n:Nat}(A:List Int){s:List P}(hx:∀x ∈ s,lQ x)(W:∀(i j:Nat) x,s[i]? = Y x->s[j]? = Y x->i=j)(hl:s.length≤4){m:Int}(h1:0 < m)(h3:m≤3):∃f:List P,LU s f/\cm (Ph (n+3) "_law_roads") [fW A,.lst s,.int m]=Y (.lst f):=by
 let I:Nat->Option D->Option D->Nat->Lc->aM->Prop:=λii k B j L S=>∃(f:List P)(M N Q C:Option D),(LU s f/\S7 s f ii j)/\L=[U (fW A),ql s,qi m,qr 0,k,B,M,N,Q,C]/\S=[.lst (f.map .p)]
 let Inv:Nat->Lc->aM->Prop:=λi L S=>∃k B,I i k B 0 L S
 obtain⟨L',S',e,k0,one0,f,M,N,Q,C,⟨H,_⟩,rfl,rfl⟩:=bN (g:=be [ah 4,ah 5]) (b:=im (Ph (n+2))) (Inv:=Inv) (s:=bE 0 s) (k:=0)
  (L:=[U (fW A),ql s,qi m,qr 0,Vk,Vk,Vk,Vk,Vk,Vk]) (S:=[.lst []]) (fun i v L S hv hI=>by
   obtain⟨x,q,rfl⟩:=gi hv;have hi:=bB q;have Z:=bg q;obtain⟨a,ha,rfl⟩:=hx x Z;obtain⟨_,_,f,M,N,Q,C,H,rfl,rfl⟩:=hI;rw[cP]at H ⊢;obtain⟨L',S',e,hI2⟩:=bN (g:=be [ah 6,ah 7]) (b:=d8 (Ph (n+2))) (Inv:=I i (qi (i:Int)) (qs a)) (s:=bE 0 s) (k:=0)
    (L:=[U (fW A),ql s,qi m,qr 0,qi (i:Int),qs a,M,N,Q,C]) (S:=[.lst (f.map .p)]) (fun j v L S hv hI=>by
     obtain⟨y,u,rfl⟩:=gi hv;have hj:=bB u;have hym:=bg u;obtain⟨b,hb,rfl⟩:=hx y hym;obtain⟨f,M,N,Q,C,⟨H,t⟩,rfl,rfl⟩:=hI;rw[cP]at t ⊢;obtain⟨c,d,hd,R,T⟩:=iE (n:=n) A (k:=4) (p:=30+4 * (i:Int)+(j:Int)) (by lia) (by lia) (by lia);have m4:iH 4 (i:Int)=Vl:=cx (by decide) (by lia);by_cases hg:0 < d % 4/\f.length < 8
     .obtain⟨w,hw,ew⟩:∃w:Str,(w="row"\/w="heap")/\L2.atI [P.str "row",.str "heap"] (d / 4 % 2)=Y (.str w):=by
       obtain⟨w,hw,ew⟩:=Lo (a:=.str "row") (b:=.str "heap") (d / 4);rcases hw with rfl|rfl
       .exact⟨_,.inl rfl,ew⟩
       .exact⟨_,.inr rfl,ew⟩
      have X:f.length≤1000000:=by lia
      have c0:0≤d / 8 % m:=cY _ (by lia);have c1:d / 8 % m < m:=dE _ h1;refine⟨_,[U (fW A),ql s,qi m,qr 0,qi (i:Int),qs a,qi (j:Int),qs b,qi d,qs w],[.lst ((f++[P.tup [.str a,.str b,.str w,.int (1+d / 8 % m),.bl (decide (d / 24 % 3=1)),.bl (decide (d / 72 % 3=1))]]).map D.p)],rfl,?_,_,_,_,_,_,⟨⟨by simp;lia,eQ H.2.1 ⟨⟨a,b,w,_,_,_,ha,hb,hw,by lia,by lia,rfl⟩,Z,hym⟩,vZ.mpr ⟨H.2.2,mR _ _,λr K z hz=>?_⟩⟩,eQ (λr K=>?_) ⟨i,j,q,u,.inr ⟨rfl,by lia⟩⟩⟩,rfl,rfl⟩;rotate_left
      .rw [cZ.mp hz];rintro ⟨R,T⟩;obtain⟨E,G,l,o,g3⟩:=t r K;rw[R]at l;rw[T]at o;have:=W _ _ _ l q
       have:=W _ _ _ o u;lia
      .obtain⟨E,G,l,o,g3⟩:=t r K;exact⟨E,G,l,o,by lia⟩
      rw[<- d6];have F:(f.length:Int) < 8:=by lia
      simp[d8,R,T,m4,hg.1,d_,F,ew,h1,fu,X]
     .refine⟨_,[U (fW A),ql s,qi m,qr 0,qi (i:Int),qs a,qi (j:Int),qs b,qi d,C],[.lst (f.map D.p)],rfl,?_,f,_,_,_,_,⟨H,λr K=>?_⟩,rfl,rfl⟩;rotate_left
      .obtain⟨E,G,l,o,g3⟩:=t r K;exact⟨E,G,l,o,by lia⟩
      by_cases V:0 < d % 4
      .have F:¬(f.length:Int) < 8:=by lia
       simp[d8,R,T,m4,V,d_,F]
      .simp [d8,R,T,m4,V,d_]) ⟨f,M,N,Q,C,H,rfl,rfl⟩
   obtain⟨vs',z6,z7,z8,z9,⟨hi1,hi2⟩,hi3,hi4⟩:=hI2;exact⟨_,L',S',rfl,by simpa[im] using e,_,_,vs',z6,z7,z8,z9,⟨hi1,λr K=>by obtain⟨E,G,l,o,g3⟩:=hi2 r K;exact⟨E,G,l,o,by lia⟩⟩,hi3,hi4⟩) ⟨Vk,Vk,[],Vk,Vk,Vk,Vk,⟨⟨by simp,λ_ h=>(by cases h),List.Pairwise.nil⟩,λ_ h=>(by cases h)⟩,rfl,rfl⟩
 refine⟨f,H,?_⟩;rw[ua,aD];simp[np,e]
end My
namespace My
open PySem L2 Ev
variable{s:Str}{u:List P}
theorem z5(z:∀c ∈ u,isRoad c)(L:Lc)(j k:Nat)(m:j < L.length)(h:k≠j)(hk:L[k]? = Y (qs s))(S:aM) :
  ∃n,bL (ah j) (bw (O (ab (vv j) eU)) (aj k)) (ab (vv j) df) u L S=Y (n,S)/\(∀y ∈ n,lQ y/\∃r ∈ u,rA r=s/\y=.str (rB r))/\n.length≤u.length:=by
 refine pR (Inv:=λf=>∃d,f=L.set j d) (λv t f w=>?_) ⟨L[j],(jQ m).symm⟩;obtain⟨d,rfl⟩:=w;obtain⟨a,b,kd,c,x,e,o,i,l,_,_,rfl⟩:=z v t;have g:((L.set j d).set j (qt [.str a,.str b,.str kd,.int c,.bl x,.bl e]))[j]? = Y (qt [.str a,.str b,.str kd,.int c,.bl x,.bl e]):=by rw[cF (by simpa using m)]
 have p:((L.set j d).set j (qt [.str a,.str b,.str kd,.int c,.bl x,.bl e]))[k]? = Y (qs s):=by rw[a6 (aZ h),a6 (aZ h)];exact hk
 exact⟨_,decide (a=s),rfl,⟨_,dF ..⟩,by simp[-dF,g,p],λq=>⟨.str b,by simp[-dF,g],⟨b,i,rfl⟩,_,t,aR q,rfl⟩⟩
theorem D5(z:∀c ∈ u,isRoad c)(L:Lc)(j k:Nat)(m:j < L.length)(h:k≠j)(hk:L[k]? = Y (qs s))(S:aM) :
  ∃n,bL (ah j) (bw (O (ab (vv j) df)) (aj k)) (ab (vv j) eU) u L S=Y (n,S)/\(∀y ∈ n,lQ y/\∃r ∈ u,rB r=s/\y=.str (rA r))/\n.length≤u.length:=by
 refine pR (Inv:=λf=>∃d,f=L.set j d) (λv t f w=>?_) ⟨L[j],(jQ m).symm⟩;obtain⟨d,rfl⟩:=w;obtain⟨a,b,kd,c,x,e,i,o,l,_,_,rfl⟩:=z v t;have g:((L.set j d).set j (qt [.str a,.str b,.str kd,.int c,.bl x,.bl e]))[j]? = Y (qt [.str a,.str b,.str kd,.int c,.bl x,.bl e]):=by rw[cF (by simpa using m)]
 have p:((L.set j d).set j (qt [.str a,.str b,.str kd,.int c,.bl x,.bl e]))[k]? = Y (qs s):=by rw[a6 (aZ h),a6 (aZ h)];exact hk
 exact⟨_,decide (b=s),rfl,⟨_,dF ..⟩,by simp[-dF,g,p],λq=>⟨.str a,by simp[-dF,g],⟨a,i,rfl⟩,_,t,aR q,rfl⟩⟩
theorem x8(h:u.length≤8):u.length≤1000000:=by lia
theorem sH(d:Int):∃w:Str,(w=a\/w=b)/\L2.atI [P.str a,.str b] (d % 2)=Y (.str w):=by
 obtain⟨w,hw,e⟩:=Lo (a:=.str a) (b:=.str b) d;rcases hw with rfl|rfl
 .exact⟨_,.inl rfl,e⟩
 .exact⟨_,.inr rfl,e⟩
inductive isSend(s:Str)(rs whos N:List P)(v:P):Prop
 |mk (m:Str) (t:P) (way nm:Str):ba m=Vl->ba nm=Vl->yr N t->((way="who"/\P.str nm ∈ whos)\/((way="all"\/way="any")/\∃r ∈ rs,rA r=s/\nm=rB r))->v=.tup [.str m,t,.str way,.str nm]->isSend s rs whos N v
variable{n:Nat}
theorem FZ(d:Int)(hnm:∀x ∈ nm,lQ x)(hw:∀x ∈ o,lQ x)(hr:∀c ∈ u,isRoad c)(hrl:u.length≤8){m:Int}(h1:0≤m)(h2:m≤3) :
  ∃f:List P,f.length≤3/\(∀c ∈ f,isSend s u o nm c)/\cm (Ph (n+3) "_law_sends") [.int d,.str s,.lst nm,.lst o,.lst u,.int m]=Y (.lst f):=by
 have hm:d % (m+1) < m+1:=dE _ (by lia);have hm0:0≤d % (m+1):=cY _ (by lia);obtain⟨gs,eg,N,hgl⟩:=z5 (s:=s) hr [qi d,qs s,ql nm,ql o,ql u,qi m,Vk,Vk,Vk,Vk,Vk,Vk,Vk] 12 1 (by simp) (by lia) rfl [];have W:=oK (js hw 19);have eG:=oK (js (λx hx=>(N x hx).1) 19);let F:Option D->Option D->Option D->Option D->Lc:=λX E t q=>[qi d,qs s,ql nm,ql o,ql u,qi m,ql gs,qr 0,X,E,t,q]
 let Inv:Nat->Lc->aM->Prop:=λi L S=>∃(f:List P)(X E t q:Option D),f.length≤i/\(∀c ∈ f,isSend s u o nm c)/\L=F X E t q/\S=[.lst (f.map .p)]
 obtain⟨L',S',e,f,X,E,t,q,hc,ho,rfl,rfl⟩:=bN (g:=ah 8) (b:=fR (Ph (n+2))) (Inv:=Inv) (s:=Ev.intsFrom 0 (d % (m+1)).toNat) (k:=0)
  (L:=F Vk Vk Vk Vk) (S:=[.lst []]) (fun i v L S hv hI=>by
   obtain⟨rfl,hi⟩:=ints_get hv;obtain⟨f,X,E,t,q,hc,ho,rfl,rfl⟩:=hI;simp only[dD];obtain⟨dv,hdv,edv⟩:∃z:Int,(0 < z/\z < 1152921504606846976)/\L2.atI [P.int 4,.int 1000,.int 100000] (i:Int)=Y (.int z):=by
    have:i=0\/i=1\/i=2:=by lia
    rcases this with rfl|rfl|rfl
    .exact⟨4,by decide,by simp⟩
    .exact⟨1000,by decide,by simp⟩
    .exact⟨100000,by decide,by simp⟩
   generalize hso:d / dv=p;obtain⟨tr,htr,etr⟩:=zU (n:=n) (p / 12 % 300) hnm;obtain⟨mk,hmk,emk⟩:=sH (a:="ma") (b:="mb") p;have omk:ba mk=Vl:=by rcases hmk with rfl|rfl<;>simp
   have l:f.length≤1000000:=by lia
   let T:=F (qi (i:Int)) (qi p) (U tr) (qs mk)
   let G:CO->Prop:=λx=>∃L2 Z,x=Y (.nx,L2,Z)/\Inv (0+i+1) L2 Z
   have A:∀{x:CO}(y w:Str),ba w=Vl->((y="who"/\P.str w ∈ o)\/((y="all"\/y="any")/\∃r ∈ u,rA r=s/\w=rB r))->x=Y (.nx,T,[.lst (f.map .p++[.p (.tup [.str mk,tr,.str y,.str w])])])->G x:=λy w ow h e=>⟨_,_,e,f++[.tup [.str mk,tr,.str y,.str w]],_,_,_,_,by simp;lia,eQ ho ⟨mk,tr,y,w,omk,ow,htr,h,rfl⟩,rfl,by rw[d6]⟩
   suffices h:G (fR (Ph (n+2)) (F (qi (i:Int)) E t q) [.lst (f.map .p)]) by obtain⟨L2,Z,e,h⟩:=h;exact⟨_,L2,Z,rfl,e,h⟩
   unfold fR;rw[am (x:=F (qi (i:Int)) (qi p) t q) (a:=[.lst (f.map .p)]) (by simp[F,edv,hdv,hso]),am (x:=F (qi (i:Int)) (qi p) (U tr) q) (a:=[.lst (f.map .p)]) (by simp[F,etr]),am (x:=T) (a:=[.lst (f.map .p)]) (by simp[F,T,emk])];by_cases I:o≠[]/\p / 2 % 3=1
   .obtain⟨w,K,ew⟩:=fF I.1 (p / 50);obtain⟨w,j,rfl⟩:=hw w K;have hl:=len_pos I.1;rw[dQ I.1]at W;rw[jw (by simp[F,T,W,I.2])];exact A "who" w j (.inl ⟨rfl,K⟩) (by simp[F,T,d_,fD,hl,ew,fu,l])
   rw [fO (by
    cases C:o.isEmpty<;>rw[C]at W
    .have h3:¬p / 2 % 3=1:=λz=>I ⟨λz=>(by rw[z]at C;cases C),z⟩;simp[F,T,W,h3]
    .simp [F,T,W])]
   by_cases M:gs=[]
   .rw [M]at eG;exact⟨T,[.lst (f.map .p)],by rw[fO (by simp[F,T,M,eG])];rfl,f,_,_,_,_,by lia,ho,rfl,rfl⟩
   obtain⟨w,K,ew⟩:=fF M (p / 3);obtain⟨⟨w,j,rfl⟩,r,V,R,H⟩:=N w K;have H:w=rB r:=by cases H;rfl
   have hl:=len_pos M;rw[dQ M]at eG;rw[jw (by simp[F,T,eG])];by_cases Q:i < 2
   .have B:(i:Int) < 2:=by lia
    obtain⟨aa,haa,eaa⟩:=sH (a:="all") (b:="any") (p / 6);have mo:iH (p / 6 % 2) 1=Vl:=cx (by lia) (by decide);exact A aa w j (.inr ⟨haa,r,V,R,H⟩) (by simp[F,T,Q,B,da,mu,mo,eaa,d_,fD,hl,ew,fu,l])
   .have B:¬(i:Int) < 2:=by lia
    have mo:iH (p / 6 % 2) 0=Vl:=cx (by lia) (by decide);exact A "all" w j (.inr ⟨.inl rfl,r,V,R,H⟩) (by simp[F,T,Q,B,da,mu,mo,d_,fD,hl,ew,fu,l])) ⟨[],Vk,Vk,Vk,Vk,by simp,λ_ h=>(by cases h),rfl,rfl⟩
 refine⟨f,by rw[cW]at hc;lia,ho,?_⟩;have hq:(d % (m+1)).natAbs < 1000000:=by lia
 have hz:0 < m+1:=by lia
 rw[t_,aD];simp[nl,bp,x8 hrl,m9,eg,hq,hz];simp[F]at e;simp[e]
@[simp] theorem Qo(L:Lc)(S:aM):l7 L S=Y (Vk,S):=rfl
@[simp] theorem Qn(a:EV)(L:Lc)(S:aM):lE a L S=cg (a L S) λv h=>match v with | .int i=>Y (Y i,h)|_=>Vk:=rfl
@[simp] theorem QU(x:List P)(lo h:Option Int):NZ (.lst x) lo h=Y (.lst (cut x lo h)):=rfl
@[simp] theorem QT(x:List P)(lo h:Option Int):NZ (.tup x) lo h=Y (.tup (cut x lo h)):=rfl
theorem DK:(∀x ∈ cut h lo i,x ∈ h)/\(cut h lo i).length≤h.length:=by
 unfold cut;refine⟨λx a=>?_,?_⟩
 .first
   |exact mQ (vY a)
   |exact vY (mQ a)
 .simp only[gp,vS];lia
def j7(s:Str)(u h:List P)(v:P):Prop:=v=.non\/∃m a i w,ba m=Vl/\ba a=Vl/\ba i=Vl/\ba w=Vl/\(∃r ∈ u,rB r=s/\a=rA r)/\(w=""\/P.str w ∈ h)/\v=.tup [.str m,.str a,.str i,.str w]
noncomputable def more:P->List P
 | .non=>[]
 |_=>[.str "it"]
theorem step_if(ψ ι:Str->GF){d0:Int}(H:∀x ∈ m,lQ x)(hw:∀x ∈ w,lQ x)(hs:∀x ∈ d,lQ x/\∃r ∈ u,rB r=s/\x=.str (rA r)) :
  ∃v f n k,j7 s u w v/\(∀x ∈ f,lQ x)/\f.length≤m.length /\
   gH ψ [ql (.int d0::ds),qs s,U rooms,U cells,ql w,ql u,ql m,ql d,U .non,ql m,ql [],Vk,Vk,Vk,Vk,Vk,Vk,Vk] []
    = Y (.nx,[ql (.int d0::ds),qs s,U rooms,U cells,ql w,ql u,ql m,ql d,U v,ql f,ql (more v),n,k,Vk,Vk,Vk,Vk,Vk],[]):=by
 have S:=oK (js (λx g=>(hs x g).1) 19);have N:=oK (js H 19);have W:=oK (js hw 19);let F:Option D->List P->List P->Option D->Option D->Lc:=λq8 l9 X n k=>[ql (.int d0::ds),qs s,U rooms,U cells,ql w,ql u,ql m,ql d,q8,ql l9,ql X,n,k,Vk,Vk,Vk,Vk,Vk]
 let G:CO->Prop:=λx=>∃v f n k,j7 s u w v/\(∀x ∈ f,lQ x)/\f.length≤m.length/\x=Y (.nx,F (U v) f (more v) n k,[])
 show G (gH ψ (F (U .non) m [] Vk Vk) []);unfold gH;by_cases j:d≠[]/\d0 % 3=1
 .rw [dQ j.1]at S;obtain⟨s1,T,es⟩:=fF j.1 (d0 / 24);have E:=len_pos j.1;obtain⟨mk,M,A⟩:=sH (a:="ma") (b:="mb") (d0 / 12);obtain⟨⟨sn,osn,rfl⟩,r,R,Q,t⟩:=hs s1 T;have t:sn=rA r:=by cases t;rfl
  have Z:ba mk=Vl:=by rcases M with rfl|rfl<;>simp
  rw[jw (by simp[F,S,j.2])];rw[am (x:=F (U .non) m [] (qs "") Vk) (a:=[]) rfl];refine xY (G:=G) (p:=λL=>∃i f,ba i=Vl/\(∀x ∈ f,lQ x)/\f.length≤m.length/\L=F (U .non) f [] (qs i) Vk) ?_ λL ⟨i,f,hi,hf,C,e⟩=>?_
  .by_cases c:m≠[]/\d0 / 3 % 2=1
   .obtain⟨x,g,B⟩:=atI_last c.1;obtain⟨x,ox,rfl⟩:=H x g;rw[dQ c.1]at N;exact⟨_,⟨x,cut m Vk (Y (-1)),ox,λy hy=>H y (DK.1 y hy),DK.2,rfl⟩,by simp[F,N,c.2,B]⟩
   .refine⟨_,⟨"",m,by simp,H,az _,rfl⟩,?_⟩;cases h:m.isEmpty<;>rw[h]at N
    .have l:¬d0 / 3 % 2=1:=λq=>c ⟨λz=>(by rw[z]at h;cases h),q⟩;simp[F,N,l]
    .simp [F,N]
  subst e;rw[am (x:=F (U .non) f [] (qs i) (qs "")) (a:=[]) rfl];refine xY (G:=G) (p:=λL=>∃o,ba o=Vl/\(o=""\/P.str o ∈ w)/\L=F (U .non) f [] (qs i) (qs o)) ?_ λL ⟨o,K,V,e⟩=>?_
  .by_cases c:w≠[]/\d0 / 6 % 2=1
   .obtain⟨x,g,B⟩:=fF c.1 (d0 / 200);obtain⟨x,ox,rfl⟩:=hw x g;rw[dQ c.1]at W;have I:=len_pos c.1;exact⟨_,⟨x,ox,.inr g,rfl⟩,by simp[F,W,c.2,d_,fD,I,B]⟩
   .refine⟨_,⟨"",by simp,.inl rfl,rfl⟩,?_⟩;cases h:w.isEmpty<;>rw[h]at W
    .have l:¬d0 / 6 % 2=1:=λq=>c ⟨λz=>(by rw[z]at h;cases h),q⟩;simp[F,W,l]
    .simp [F,W]
  subst e;exact⟨.tup [.str mk,.str sn,.str i,.str o],f,qs i,qs o,.inr ⟨mk,sn,i,o,Z,osn,hi,K,⟨r,R,Q,t⟩,V,rfl⟩,hf,C,by simp[F,more,d_,fD,E,es,A]⟩
 .refine⟨.non,m,Vk,Vk,.inl rfl,H,az _,?_⟩;cases h:d.isEmpty<;>rw[h]at S
  .have l:¬d0 % 3=1:=λq=>j ⟨λz=>(by rw[z]at h;cases h),q⟩;simp[F,more,S,l]
  .simp [F,more,S]
def uL(s:List P):List P:=s.map λc=>.str (bt c)
theorem wN(e:∀c ∈ a,isCel c):∀x ∈ uL a,lQ x:=λx s=>by obtain⟨c,h,rfl⟩:=aO.mp s;obtain⟨x,_,_,_,o,_,_,_,_,rfl⟩:=e c h;exact⟨x,o,rfl⟩
theorem u1(m:∀c ∈ h,isCel c)(L:Lc)(j:Nat)(n:j < L.length)(S:aM) :
  bL (ah j) eA (ab (vv j) eU) h L S=Y (uL h,S):=by
 have:=dC (g:=ah j) (c:=eA) (e:=ab (vv j) eU) (S:=S) (p:=fun _=>Vl) (f:=fun c=>.str (bt c)) (s:=h) (L:=L) (Inv:=fun s=>∃d,s=L.set j d) (fun v r s b=>by
  obtain⟨d,rfl⟩:=b;obtain⟨x,lo,i,a,t,_,_,_,_,rfl⟩:=m v r;have k:((L.set j d).set j (qt [.str x,.int lo,.int i,.int a]))[j]? = Y (qt [.str x,.int lo,.int i,.int a]):=by rw[cF (by simpa using n)]
  exact⟨_,rfl,⟨_,dF ..⟩,rfl,λ_=>by simp[-dF,k,bt]⟩) ⟨L[j],(jQ n).symm⟩
 rw[this,jO.mpr λ_ _=>rfl];rfl
def Lw(N:List P)(c:P):Prop:=∃x t,ba x=Vl/\yr N t/\c=.tup [.str x,t]
structure Stp(s:Str)(rooms cells whos rs:List P)(rm when tk:P)(chg sn:List P)(rm2:P):Prop where
 h1:rm ∈ rooms
 h2:rm2 ∈ rooms
 wh:AC (uL cells) when
 htk:j7 s rs whos tk
 cl:chg.length≤3
 ch:∀c ∈ chg,Lw (uL cells++more tk) c
 sl:sn.length≤3
 hsn:∀c ∈ sn,isSend s rs whos (uL cells++more tk) c
theorem wP(v:P):∀x ∈ more v,lQ x:=λx h=>by
 cases v with
 |non=>cases h
 |_=>exact⟨"it",by simp,by simpa[more] using h⟩
theorem GW(v:P):(more v).length≤1:=by cases v<;>simp[more]
theorem JB{n:Nat}(C K B j:Int){s:Str}{r e w u:List P}(hrm:∀x ∈ r,lQ x)(A:r≠[])(Z:∀c ∈ e,isCel c)(hcl:e.length≤3)(hw:∀x ∈ w,lQ x)(hr:∀c ∈ u,isRoad c)(M:u.length≤8) :
  ∃rm V o p T Q,Stp s r e w u rm V o p T Q/\cm (Ph (n+4) "_law_step") [.lst [.int C,.int K,.int B,.int j],.str s,.lst r,.lst e,.lst w,.lst u]=Y (.tup [rm,V,o,.lst p,.lst T,Q]):=by
 have e1:=u1 Z [ql [.int C,.int K,.int B,.int j],qs s,ql r,ql e,ql w,ql u,Vk,Vk,Vk,Vk,Vk,Vk,Vk,Vk,Vk,Vk,Vk,Vk,Vk] 18 (by simp) [];have d:=wN Z;have hnl:(uL e).length=e.length:=by simp[uL]
 generalize X:uL e=f at e1 d hnl;obtain⟨snd,e2,hsn,_⟩:=D5 (s:=s) hr [ql [.int C,.int K,.int B,.int j],qs s,ql r,ql e,ql w,ql u,ql f,Vk,Vk,Vk,Vk,Vk,Vk,Vk,Vk,Vk,Vk,Vk,Vk] 18 1 (by simp) (by lia) rfl [];obtain⟨o,fr,q11,q12,htk,hfr,hfl,e3⟩:=step_if (Ph (n+3)) (Ph (n+2)) (d0:=C) (ds:=[.int K,.int B,.int j]) (rooms:=.lst r) (cells:=.lst e) d hw hsn;have hml:=GW o;have I:=wP o;generalize hM:more o=R at e3 hml I;have y:∀x ∈ f++R,lQ x:=λx hx=>(cR.mp hx).elim (d x) (I x)
 have l:f.length+R.length≤1000000:=by lia
 have hcf:e.length≤1000000:=by lia
 let F:Option D->Option D->Lc:=λq t=>[ql [.int C,.int K,.int B,.int j],qs s,ql r,ql e,ql w,ql u,ql f,ql snd,U o,ql fr,ql R,q11,q12,qr 0,q,t,Vk,Vk]
 let Inv:Nat->Lc->aM->Prop:=λi L S=>∃(H:List P)(q t:Option D),H.length≤i/\(∀c ∈ H,Lw (f++R) c)/\L=F q t/\S=[.lst (H.map .p)]
 obtain⟨L',S',e4,p,q,t,E,hch,rfl,rfl⟩:=bN (g:=be [ah 14,ah 15]) (b:=gG (Ph (n+3))) (Inv:=Inv) (s:=bE 0 fr) (k:=0) (L:=F Vk Vk) (S:=[.lst []]) (fun i v L S hv hI=>by
   obtain⟨x,N,rfl⟩:=gi hv;have hi:=bB N;obtain⟨x,ox,rfl⟩:=hfr x (bg N);obtain⟨H,q,t,Z,ho,rfl,rfl⟩:=hI;have G:H.length≤1000000:=by lia
   obtain⟨a,b,ha,hb,ea,eb⟩:∃a b:Int,(0 < a/\a < 1152921504606846976)/\(0 < b/\b < 1152921504606846976)/\L2.atI [P.int 1,.int 1000,.int 1000000] (i:Int)=Y (.int a)/\L2.atI [P.int 2,.int 2000,.int 2000000] (i:Int)=Y (.int b):=by
    have:i=0\/i=1\/i=2:=by lia
    rcases this with rfl|rfl|rfl
    .exact⟨1,2,by decide,by decide,by simp,by simp⟩
    .exact⟨1000,2000,by decide,by decide,by simp,by simp⟩
    .exact⟨1000000,2000000,by decide,by decide,by simp,by simp⟩
   by_cases h:K / a % 2=1
   .obtain⟨tr,htr,W⟩:=zU (n:=n+1) (K / b % 300) y;refine⟨_,F (qi (i:Int)) (qs x),[.lst ((H++[P.tup [.str x,tr]]).map D.p)],rfl,?_,_,_,_,by simp;lia,eQ ho ⟨x,tr,ox,htr,rfl⟩,rfl,rfl⟩;rw[<- d6];simp[gG,F,ea,eb,ha,hb,h,l,W,fu,G]
   .refine⟨_,F (qi (i:Int)) (qs x),[.lst (H.map D.p)],rfl,?_,H,_,_,by lia,ho,rfl,rfl⟩;simp[gG,F,ea,ha,h]) ⟨[],Vk,Vk,by simp,λ_ h=>(by cases h),rfl,rfl⟩
 rw[dB]at E;obtain⟨z,hz0,hz1,hz2⟩:∃z:Int,0≤z/\z≤1/\da [.bl (decide (3 < (r.length:Int)))]=Y (.int z):=by
  by_cases h:3 < (r.length:Int)
  .exact⟨1,by decide,by decide,by simp[h,da,mu]⟩
  .exact⟨0,by decide,by decide,by simp[h,da,mu]⟩
 obtain⟨T,hsl,hsd,e5⟩:=FZ (n:=n) B (s:=s) y hw hr M (m:=2+z) (by lia) (by lia);obtain⟨V,hwh,e6⟩:=KW (n:=n) (j % 27000) d;obtain⟨r1,hr1,e7⟩:=fF A (j / 27000);obtain⟨r2,hr2,e8⟩:=fF A (j / 216000);have hl:=len_pos A;refine⟨r1,V,o,p,T,r2,⟨hr1,hr2,X ▸ hwh,htk,by lia,X ▸ hM ▸ hch,hsl,X ▸ hM ▸ hsd⟩,?_⟩;rw[xb,aD];simp only[F]at e4;simp[o4,bp,hcf,x8 M,m9,e1,e2,pU,e3,e4,l,d_,fD,hz2,e5,e6,hl,e7,e8,dS]
inductive isStep(s:Str)(rooms cells whos rs:List P)(v:P):Prop
 |mk (x:Str) (rm wh tk:P) (chg sn:List P) (rm2:P):ba x=Vl->Stp s rooms cells whos rs rm wh tk chg sn rm2->v=.tup [.str x,rm,wh,tk,.lst chg,.lst sn,rm2]->isStep s rooms cells whos rs v
structure Fam(rs:List P)(nm:Str)(crew:Nat)(rooms cells whos steps:List P):Prop where
 hnm:ba nm=Vl
 hcr:1≤crew/\crew≤4
 hro:∀x ∈ rooms,lQ x
 r0:rooms≠[]
 rl:rooms.length≤8
 hce:DQ cells
 cl:cells.length≤3
 hwh:∀x ∈ whos,lQ x
 wl:whos.length≤2
 s0:steps≠[]
 sl:steps.length≤8
 hst:∀x ∈ steps,isStep nm rooms cells whos rs x
 sd:steps.Pairwise λa b=>bt a≠bt b
inductive isFam(rs:List P)(v:P):Prop
 |mk (nm:Str) (crew:Nat) (rooms cells whos steps:List P):Fam rs nm crew rooms cells whos steps->v=.tup [.str nm,.int (crew:Int),.lst rooms,.lst cells,.lst whos,.lst steps]->isFam rs v
theorem sM(s:List Int)(j:Nat)(o:Nat)(L:Lc)(c:j < L.length)(r:L[0]? = Y (U (fW s)))(h:0≠j)(u:o+m≤16)(S:aM) :
  ∃a,bL (ah j) eA (cf (Ph (n+3) "_law_name") (v2 bX (au (vi (o:Int)) (vv j)))) (Ev.intsFrom 0 m) L S=Y (a,S)/\(∀y ∈ a,lQ y)/\a.length=(Ev.intsFrom 0 m).length:=by
 refine nH (Inv:=λf=>∃d,f=L.set j d) (λv p f t=>?_) ⟨L[j],(jQ c).symm⟩;obtain⟨d,rfl⟩:=t;obtain⟨i,rfl,w⟩:=ku p;obtain⟨x,q,_,e⟩:=rF (n:=n) s (k:=o+i) (by lia);have e:cm (Ph (n+3) "_law_name") [fW s,.int ((o:Int)+(i:Int))]=Y (.str x):=by rw[<- e];rfl
 have g:((L.set j d).set j (qi (0+(i:Int))))[j]? = Y (qi (0+(i:Int))):=by rw[cF (by simpa using c)]
 have b:((L.set j d).set j (qi (0+(i:Int))))[0]? = Y (U (fW s)):=by rw[a6 (aZ h),a6 (aZ h)];exact r
 simp only[dD]at g b ⊢;exact⟨_,.str x,rfl,⟨_,dF ..⟩,by simp[-dF,g,b,e],x,q,rfl⟩
theorem NT(s:List Int)(f:Int)(C:0≤f)(D:f < 900)(L:Lc)(P:L.length=14)(F:L[0]? = Y (U (fW s)))(x:L[12]? = Y (qi f))(S:aM) :
  ∃l z o H:Int,bL (ah 13) eA (cf (Ph (n+2) "_law_mix") (v2 (cf (Ph (n+2) "_law_cell_at") (v2 bX (au tP (aE (au lT lL) (vi 24))))) (au (au (vi 11) lT) lL))) (Ev.intsFrom 0 4) L S=Y ([.int l,.int z,.int o,.int H],S):=by
 obtain⟨B,e,y,h⟩:=nH (Q:=fun v=>∃d:Int,v=.int d) (g:=ah 13) (e:=cf (Ph (n+2) "_law_mix") (v2 (cf (Ph (n+2) "_law_cell_at") (v2 bX (au tP (aE (au lT lL) (vi 24))))) (au (au (vi 11) lT) lL))) (S:=S) (s:=Ev.intsFrom 0 4) (Inv:=fun m=>∃d,m=L.set 13 d) (L:=L) (fun v A m K=>by
  obtain⟨d,rfl⟩:=K;obtain⟨i,rfl,E⟩:=ku A;obtain⟨c,r,G,t,q⟩:=iE (n:=n) s (k:=5+(f+(0+(i:Int))) % 24) (p:=11+f+(0+(i:Int))) (by lia) (by lia) (by lia);have w:((L.set 13 d).set 13 (qi (0+(i:Int))))[13]? = Y (qi (0+(i:Int))):=by rw[cF (by simp[P])]
  have u:((L.set 13 d).set 13 (qi (0+(i:Int))))[0]? = Y (U (fW s)):=by rw[a6 (by decide),a6 (by decide)];exact F
  have j:((L.set 13 d).set 13 (qi (0+(i:Int))))[12]? = Y (qi f):=by rw[a6 (by decide),a6 (by decide)];exact x
  simp only[dD]at w u j t q ⊢;exact⟨_,.int r,rfl,⟨_,dF ..⟩,by simp[-dF,w,u,j,t,q],r,rfl⟩) ⟨L[13]'(by lia),(jQ (by lia)).symm⟩
 rw[cW]at h;match B,h with
 | [a,b,c,d],_=>obtain⟨a,rfl⟩:=y a (by simp);obtain⟨b,rfl⟩:=y b (by simp);obtain⟨c,rfl⟩:=y c (by simp);obtain⟨d,rfl⟩:=y d (by simp);exact⟨a,b,c,d,e⟩
theorem Er(B:List Int)(k:Nat)(hk:k≤3)(hnm:ba N=Vl)(w:Nat)(hcr:1≤w/\w≤4)(wide:Bool)(hr:∀c ∈ u,isRoad c)(hrl:u.length≤8) :
  ∃v,isFam u v/\(∃tl,v=.tup (.str N::.int (w:Int)::tl))/\cm (Ph (n+5) "_law_family") [fW B,.int (k:Int),.str N,.int (w:Int),.bl wide,.lst u]=Y v:=by
 obtain⟨z,t,hz0,hz1,I,ht1,ez,et⟩:∃z t:Int,0≤z/\z≤1/\0 < t/\t≤8/\da [.bl wide]=Y (.int z)/\L2.atI [P.int 3,.int 8] z=Y (.int t):=by
  cases wide
  .exact⟨0,3,by decide,by decide,by decide,by decide,by simp[da,mu],by simp⟩
  .exact⟨1,8,by decide,by decide,by decide,by decide,by simp[da,mu],by simp⟩
 obtain⟨e,hcl,hc,ec⟩:=HU (n:=n) B (f:=(k:Int)) (m:=2+z) (by lia) (by lia) (by lia);obtain⟨c9,e91⟩:=xn (n:=n+2) B (k:=2+(k:Int)) (by lia);obtain⟨M,ha9,e92⟩:=wQ (n:=n+2) c9 (p:=9) (by lia) (by lia);obtain⟨E,ha8,e82⟩:=wQ (n:=n+2) c9 (p:=8) (by lia) (by lia);obtain⟨Z,ha7,e72⟩:=wQ (n:=n+2) c9 (p:=7) (by lia) (by lia);have h9a:0≤M % t:=cY _ (by lia);have h9b:M % t < t:=dE _ I;have h7a:0≤Z % t:=cY _ (by lia);have h7b:Z % t < t:=dE _ I;have h8a:0≤E % (2+z):=cY _ (by lia);have h8b:E % (2+z) < 2+z:=dE _ (by lia);let A:List (Option D):=[U (fW B),qi (k:Int),qs N,qi (w:Int),U (.bl wide),ql u]
 obtain⟨r,er,W,o⟩:=sM (n:=n+1) B 11 4 (A++[ql e,qi M,Vk,Vk,Vk,Vk,Vk]) (by simp[A]) rfl (by decide) (m:=(1+M % t).toNat) (by lia) [];obtain⟨y,ew,hw,hwl⟩:=sM (n:=n+1) B 11 10 (A++[ql e,qi E,ql r,Vk,Vk,Vk,Vk]) (by simp[A]) rfl (by decide) (m:=(E % (2+z)).toNat) (by lia) [];rw[cW]at o hwl;have V:r≠[]:=λq=>by rw[q]at o;simp at o;lia
 let F:Option D->Option D->Option D->Lc:=λQ a d=>A++[ql e,Q,ql r,ql y,qr 0,a,d]
 let Inv:Nat->Lc->aM->Prop:=λi L S=>∃(l:List P)(Q a d:Option D),l.length=i/\((∀c ∈ l,isStep N r e y u c)/\∀k v,l[k]? = Y v->hd (bt v)=Y (105+k))/\L=F Q a d/\S=[.lst (l.map .p)]
 obtain⟨L',S',e4,stp,Q,a,d,G,⟨hst,X⟩,rfl,rfl⟩:=bN (g:=ah 11) (b:=hY (Ph (n+4))) (Inv:=Inv) (s:=Ev.intsFrom 0 (1+Z % t).toNat) (k:=0) (L:=F (qi E) Vk Vk) (S:=[.lst []]) (fun i v L S K hI=>by
   obtain⟨rfl,hi⟩:=ints_get K;obtain⟨l,Q,a,d,hc1,⟨ho,hon⟩,rfl,rfl⟩:=hI;simp only[dD];have m1:iH 8 (k:Int)=Vl:=cx (by decide) (by lia);have m2:iH 4 (8 * (k:Int)+(i:Int))=Vl:=cx (by decide) (by lia);obtain⟨d0,d1,d2,d3,ed⟩:=NT (n:=n+2) B (4 * (8 * (k:Int)+(i:Int))) (by lia) (by lia) (F Q (qi (i:Int)) (qi (4 * (8 * (k:Int)+(i:Int))))++[Vk]) rfl rfl rfl [.lst (l.map .p)];obtain⟨x,hx,hxh,ex⟩:=rF (n:=n+1) B (k:=8+i) (by lia);have ex:cm (Ph (n+4) "_law_name") [fW B,.int (8+(i:Int))]=Y (.str x):=by rw[<- ex];rfl
   obtain⟨rm,wh,tk,H,sn,C,hys,es⟩:=JB (n:=n) d0 d1 d2 d3 (s:=N) W V hc.1 (by lia) hw hr hrl;have T:l.length≤1000000:=by lia
   have R:lI (.tup [.str x]) (.tup [rm,wh,tk,.lst H,.lst sn,C])=Y (.tup [.str x,rm,wh,tk,.lst H,.lst sn,C]):=rfl;refine⟨_,F (ql [.int d0,.int d1,.int d2,.int d3]) (qi (i:Int)) (qi (4 * (8 * (k:Int)+(i:Int)))),[.lst ((l++[P.tup [.str x,rm,wh,tk,.lst H,.lst sn,C]]).map D.p)],rfl,?_,_,_,_,_,by simp;lia,⟨eQ ho ⟨x,rm,wh,tk,H,sn,C,hx,hys,rfl⟩,fun k v K=>by
    rcases Nat.lt_or_ge k l.length with hk|hk
    .rw [ce hk]at K;exact hon k v K
    .rw [c_ hk]at K;have hk0:k-l.length=0:=by
      rcases Nat.eq_zero_or_pos (k-l.length) with h|h
      .exact h
      .rw [qZ (by simp;lia)]at K;cases K
     rw[hk0]at K;cases K;show hd x=_;rw[hxh];congr 1;lia⟩,rfl,rfl⟩
   rw[<- d6];simp only[F,A,mM,cS]at ed;simp[hY,F,A,m1,m2,bp,cW,m9,ed,ex,es,R,fu,T]) ⟨[],_,Vk,Vk,rfl,⟨λ_ h=>(by cases h),λ_ _ h=>(by simp at h)⟩,rfl,rfl⟩
 rw [cW] at G;refine⟨_,⟨N,w,r,e,y,stp,⟨hnm,hcr,W,V,by lia,hc,by lia,hw,by lia,fun q=>by rw [q] at G;simp at G;lia,by lia,hst,kX.mpr fun i j hi hj hij q=>by
  have h1:=X i _ (aY hi);have h2:=X j _ (aY hj);rw[q,h2]at h1;have:=b0 h1
  lia⟩,rfl⟩,⟨_,rfl⟩,?_⟩
 have hz2:0 < 2+z:=by lia
 have q1:(1+M % t).natAbs < 1000000:=by lia
 have q2:(1+Z % t).natAbs < 1000000:=by lia
 have q3:(E % (2+z)).natAbs < 1000000:=by lia
 have q4:(1+M % t).toNat≤1000000:=by lia
 have q5:(E % (2+z)).toNat≤1000000:=by lia
 rw[tj,aD];simp only[F,A,mM,cS]at e4 er ew;simp only[show((4:Nat):Int)=4 from rfl]at er;simp only[show((10:Nat):Int)=10 from rfl]at ew;simp[my,ez,et,ec,e91,e92,e82,e72,I,hz2,q1,q2,q3,q4,q5,bp,cW,m9,er,ew,e4]
theorem yi(c:List Int)(j:Nat)(L:Lc)(o:j < L.length)(H:L[0]? = Y (U (fW c)))(b:0≠j)(K:m≤16)(S:aM) :
  ∃q,bL (ah j) eA (cf (Ph (n+3) "_law_name") (v2 bX (vv j))) (Ev.intsFrom 0 m) L S=Y (q,S)/\(∀y ∈ q,lQ y)/\(∀(i:Nat) y,q[i]? = Y y->∃x,y=.str x/\hd x=Y (97+i))/\q.length=(Ev.intsFrom 0 m).length:=by
 let f:P->P:=λv=>(cm (Ph (n+3) "_law_name") [fW c,v]).getD .non
 have w:∀i,i < m->∃x,ba x=Vl/\hd x=Y (97+i)/\cm (Ph (n+3) "_law_name") [fW c,.int (i:Int)]=Y (.str x)/\f (.int (i:Int))=.str x:=λi e=>by obtain⟨x,t,u,r⟩:=rF (n:=n) c (k:=i) (by lia);exact⟨x,t,u,r,by simp[f,r]⟩
 refine⟨(Ev.intsFrom 0 m).map f,?_,λy a=>?_,λi y a=>?_,by simp⟩
 .rw [dC (p:=λ_=>Vl) (f:=f) (Inv:=λg=>∃d,g=L.set j d) (λv h g F=>?_) ⟨L[j],(jQ o).symm⟩,jO.mpr λ_ _=>rfl];obtain⟨d,rfl⟩:=F;obtain⟨i,rfl,e⟩:=ku h;obtain⟨x,t,_,r,s⟩:=w i e;have l:((L.set j d).set j (qi (0+(i:Int))))[j]? = Y (qi (0+(i:Int))):=by
   rw[cF (by simpa using o)]
  have z:((L.set j d).set j (qi (0+(i:Int))))[0]? = Y (U (fW c)):=by rw[a6 (aZ b),a6 (aZ b)];exact H
  simp only[dD]at l z ⊢;exact⟨_,rfl,⟨_,dF ..⟩,rfl,λ_=>by rw[s];simp[-dF,l,z,r]⟩
 .obtain⟨v,h,rfl⟩:=aO.mp a;obtain⟨i,rfl,e⟩:=ku h;obtain⟨x,t,_,_,s⟩:=w i e;rw[dD,s];exact⟨x,t,rfl⟩
 .rw [bq]at a;cases h:(Ev.intsFrom 0 m)[i]? with
  |none=>rw[h]at a;cases a
  |some v=>rw[h]at a;cases a;obtain⟨rfl,e⟩:=ints_get h;obtain⟨x,_,u,_,s⟩:=w i e;exact⟨x,by rw[dD,s],u⟩
noncomputable def bu:P->Nat
 | .tup (_::.int c::_)=>c.toNat
 |_=>0
def Hf(v:P):Prop:=∃(k f s:Str),(k="weak"\/k="strong")/\ba f=Vl/\ba s=Vl/\v=.tup [.str k,.str f,.str s]
structure Pln(fams roads wishes:List P):Prop where
 hf:∀f ∈ fams,isFam roads f
 cr:∃c,(∀f ∈ fams,bu f≤c)/\fams.length * c≤4
 f0:1≤fams.length/\fams.length≤4
 hr:∀r ∈ roads,isRoad r
 ra:∀r ∈ roads,(∃f ∈ fams,bt f=rA r)/\∃f ∈ fams,bt f=rB r
 rl:roads.length≤8
 hw:∀w ∈ wishes,Hf w
 wl:wishes.length≤6
 rd:roads.Pairwise RD
 fd:∀f ∈ fams,∀g ∈ fams,bt f=bt g->f=g
theorem K6(f:h->a)(x:List h)(i:Int):L2.atI (x.map f) i=(L2.atI x i).map f:=by
 unfold L2.atI;rw[aH];cases L2.Aw x.length i with
 |none=>rfl
 |some j=>simp
theorem J0{n:Nat}(ns:List Int):∃fams roads wishes,Pln fams roads wishes/\cm (Ph (n+6) "_law_plan") [fW ns,.int 3]=Y (.tup [.lst fams,.lst roads,.lst wishes]):=by
 obtain⟨tot,e0⟩:=xn (n:=n+3) ns (k:=0) (by lia);generalize hwd:decide (tot / 64 % 8=1)=wide;obtain⟨z,t,hz0,hz1,ht0,ht1,ez,et⟩:∃z t:Int,0≤z/\z≤1/\0 < t/\t≤4/\da [.bl wide]=Y (.int z)/\L2.atI [P.int 2,.int 4] z=Y (.int t):=by
  cases wide
  .exact⟨0,2,by decide,by decide,by decide,by decide,by simp[da,mu],by simp⟩
  .exact⟨1,4,by decide,by decide,by decide,by decide,by simp[da,mu],by simp⟩
 have hm0:0≤tot % t:=cY _ (by lia);have hm1:tot % t < t:=dE _ ht0;obtain⟨m,hm⟩:∃m:Nat,1+tot % t=(m:Int):=⟨(1+tot % t).toNat,by lia⟩;have hm2:1≤m/\m≤4:=by lia
 obtain⟨names,en,hnm,hnh,hnl⟩:=yi (n:=n+2) ns 8 [U (fW ns),qi 3,qi tot,U (.bl wide),qi (m:Int),Vk,Vk,Vk,Vk,Vk,Vk,Vk,Vk,Vk] (by simp) rfl (by decide) (m:=m) (by lia) [];rw [cW] at hnl;obtain⟨roads,⟨hrl,hr,hrd⟩,er⟩:=Gc (n:=n+2) ns hnm (fun i j x h1 h2=>by
  obtain⟨a,rfl,ha⟩:=hnh i _ h1;obtain⟨b,e,hb⟩:=hnh j _ h2;cases e;rw[ha]at hb;have:=b0 hb
  lia) (by lia) (m:=2+z) (by lia) (by lia)
 obtain⟨b,hb0,hb1,hbm,eb⟩:∃b:Int,0 < b/\b≤4/\m * b.toNat≤4/\L2.atI [P.int (3+z),.int 2,.int 1,.int 1] ((m:Int)-1)=Y (.int b):=by
  have:m=1\/m=2\/m=3\/m=4:=by lia
  rcases this with rfl|rfl|rfl|rfl
  .exact⟨3+z,by lia,by lia,by lia,by simp⟩
  .exact⟨2,by decide,by decide,by decide,by simp⟩
  .exact⟨1,by decide,by decide,by decide,by simp⟩
  .exact⟨1,by decide,by decide,by decide,by simp⟩
 let F:Option D->Option D->Option D->Option D->Option D->Option D->Lc:=λq8 q9 q10 q11 q12 q13=>[U (fW ns),qi 3,qi tot,U (.bl wide),qi (m:Int),ql names,ql roads,qr 0,q8,q9,q10,q11,q12,q13]
 let Inv:Nat->Lc->aM->Prop:=λi L S=>∃(vs:List P)(q8 q9 q10:Option D),vs.length=i/\(∀c ∈ vs,isFam roads c/\bu c≤b.toNat)/\(∀j x,names[j]? = Y x->j < i->∃f,vs[j]? = Y f/\x=.str (bt f))/\L=F q8 q9 q10 Vk Vk Vk/\S=[.lst (vs.map .p)]
 obtain⟨L',S',e1,fams,q8,q9,q10,hfl,hfa,hfn,rfl,rfl⟩:=bN (g:=be [ah 8,ah 9]) (b:=iX (Ph (n+5))) (Inv:=Inv) (s:=bE 0 names) (k:=0) (L:=F Vk Vk Vk Vk Vk Vk) (S:=[.lst []]) (fun i v L S hv hI=>by
   obtain⟨x,hx1,rfl⟩:=gi hv;have hi:=bB hx1;obtain⟨nm,hnm1,rfl⟩:=hnm x (bg hx1);obtain⟨vs,q8,q9,q10,hc,ho,hon,rfl,rfl⟩:=hI;obtain⟨a,ha,ea⟩:∃a:Int,(0 < a/\a < 1152921504606846976)/\L2.atI [P.int 4,.int 12,.int 16,.int 16] (i:Int)=Y (.int a):=by
    have:i=0\/i=1\/i=2\/i=3:=by lia
    rcases this with rfl|rfl|rfl|rfl
    .exact⟨4,by decide,by simp⟩
    .exact⟨12,by decide,by simp⟩
    .exact⟨16,by decide,by simp⟩
    .exact⟨16,by decide,by simp⟩
   have hb2:0≤tot / a % b:=cY _ (by lia);have hb3:tot / a % b < b:=dE _ hb0;obtain⟨cr,hcr⟩:∃cr:Nat,1+tot / a % b=(cr:Int):=⟨(1+tot / a % b).toNat,by lia⟩;obtain⟨v,hv2,⟨tl,hv3⟩,ev⟩:=Er (n:=n) ns i (by lia) hnm1 cr (by lia) wide (λr h=>(hr r h).1) hrl;have hlen:vs.length≤1000000:=by lia
   refine⟨_,F (qi (i:Int)) (qs nm) (qi (cr:Int)) Vk Vk Vk,[.lst ((vs++[v]).map D.p)],rfl,?_,_,_,_,_,by simp;lia,eQ ho ⟨hv2,?_⟩,λj x hj hji=>?_,rfl,rfl⟩
   .rw [<- d6];simp[iX,F,ea,ha,ez,eb,hb0,hcr,ev,fu,hlen]
   .rw [hv3];simp[bu];lia
   .by_cases hjj:j < i
    .obtain⟨f,hf,e⟩:=hon j x hj (by lia);exact⟨f,by rw[ce (bB hf)];exact hf,e⟩
    .have:j=i:=by lia
     subst this;rw[hx1]at hj;cases hj;exact⟨v,by rw[c_ (by lia),hc];simp,by rw[hv3];rfl⟩) ⟨[],Vk,Vk,Vk,rfl,λ_ h=>(by cases h),λ_ _ _ h=>(by lia),rfl,rfl⟩
 have hfm:fams.length=m:=by rw[hfl,dB,hnl];lia
 have hf0:fams≠[]:=λq=>by rw[q]at hfm;simp at hfm;lia
 have hfn':∀x ∈ names,∃f ∈ fams,x=.str (bt f):=λx hx=>by obtain⟨j,hj,e⟩:=qY.mp hx;obtain⟨f,hf,e⟩:=hfn j x (by rw[aY hj,e]) (by rw[dB];lia);exact⟨f,bg hf,e⟩
 have hfd:∀f ∈ fams,∃a:Nat,fams[a]? = Y f/\hd (bt f)=Y (97+a):=λf hf=>by obtain⟨a,ha,e⟩:=qY.mp hf;have h1:=aY ha;rw[e]at h1;have h2:=aY (l:=names) (i:=a) (by lia);obtain⟨g,hg,e2⟩:=hfn a _ h2 (by rw[dB];lia);rw[h1]at hg;cases hg;obtain⟨y,e3,hy⟩:=hnh a _ h2;rw[e2]at e3;cases e3;exact⟨a,h1,hy⟩
 let Inv3:Nat->Lc->aM->Prop:=λi L S=>∃(vs:List P)(q8 q12 q13:Option D),vs.length=i/\(∀c ∈ vs,Hf c)/\L=F q8 q9 q10 (qr 1) q12 q13/\S=[.lst (fams.map .p),.lst (vs.map .p)]
 obtain⟨w,hw0,hw1,ew⟩:∃w:Int,0≤w/\w≤1/\da [.bl (wide && decide (tot % 3=1))]=Y (.int w):=by
  cases (wide && decide (tot % 3=1))
  .exact⟨0,by decide,by decide,rfl⟩
  .exact⟨1,by decide,by decide,rfl⟩
 obtain⟨L',S',e2,wishes,q8',q12,q13,hwl,hwi,rfl,rfl⟩:=bN (g:=ah 8) (b:=iW (Ph (n+5))) (Inv:=Inv3) (s:=Ev.intsFrom 0 (tot / 48 % 3+4 * w).toNat) (k:=0) (L:=F q8 q9 q10 (qr 1) Vk Vk) (S:=[.lst (fams.map .p),.lst []]) (fun i v L S hv hI=>by
   obtain⟨rfl,hi⟩:=ints_get hv;obtain⟨vs,q8,q12,q13,hc,ho,rfl,rfl⟩:=hI;simp only[dD];obtain⟨c,d,hd,e3,e4⟩:=iE (n:=n+3) ns (k:=4) (p:=20+(i:Int)) (by lia) (by lia) (by lia);obtain⟨f,hf,ef⟩:=fF hf0 d;rw[hfm]at ef;obtain⟨nm,crew,rooms,cells,whos,steps,hfam,rfl⟩:=(hfa f hf).1;obtain⟨s,hs,es⟩:=fF hfam.s0 (d / 8);have hls:=len_pos hfam.s0;obtain⟨x,rm,wh,tk,chg,sn,rm2,hx,hys,rfl⟩:=hfam.hst s hs;obtain⟨mk,hmk,emk⟩:=sH (a:="weak") (b:="strong") (d / 4);have hlen:vs.length≤1000000:=by lia
   have ef2:L2.atI (fams.map D.p) (d % (m:Int))=qt [.str nm,.int (crew:Int),.lst rooms,.lst cells,.lst whos,.lst steps]:=by rw[K6,ef];rfl
   have hmp:(0:Int) < (m:Int):=by lia
   have hmp2:0 < m:=by lia
   refine⟨_,F (qi (i:Int)) q9 q10 (qr 1) (qi d) (qt [.str nm,.int (crew:Int),.lst rooms,.lst cells,.lst whos,.lst steps]),[.lst (fams.map .p),.lst ((vs++[P.tup [.str mk,.str nm,.str x]]).map D.p)],rfl,?_,_,_,_,_,by simp;lia,eQ ho ⟨mk,nm,x,hmk,hfam.hnm,hx,rfl⟩,rfl,rfl⟩;rw[<- d6];have e5:L2.atI [P.str nm,.int (crew:Int),.lst rooms,.lst cells,.lst whos,.lst steps] 5=Y (.lst steps):=bn (by decide) rfl;simp[iW,F,e3,e4,hmp,hmp2,ef2,e5,emk,d_,fD,hls,es,fu,hlen]) ⟨[],_,Vk,Vk,rfl,λ_ h=>(by cases h),rfl,rfl⟩
 rw[cW]at hwl;refine⟨fams,roads,wishes,⟨λf h=>(hfa f h).1,⟨b.toNat,λf h=>(hfa f h).2,by rw[hfm];exact hbm⟩,by lia,λr h=>(hr r h).1,λr h=>⟨?_,?_⟩,hrl,hwi,by lia,hrd,λf hf g hg q=>?_⟩,?_⟩
 .obtain⟨f,hf,e⟩:=hfn' _ (hr r h).2.1;exact⟨f,hf,(P.str.inj e).symm⟩
 .obtain⟨f,hf,e⟩:=hfn' _ (hr r h).2.2;exact⟨f,hf,(P.str.inj e).symm⟩
 .obtain⟨a,h1,h2⟩:=hfd f hf;obtain⟨a',h3,h4⟩:=hfd g hg;rw[q,h4]at h2;have:=b0 h2
  rw[show a=a' by lia,h3]at h1;exact(b0 h1).symm
 have q1:(tot / 48 % 3+4 * w).natAbs < 1000000:=by lia
 have q2:iH 4 w=Vl:=cx (by decide) (by lia);have q3:m < 1000000:=by lia
 have q4:m≤1000000:=by lia
 have t0:toP 9 (.ref 0) [.lst (fams.map .p),.lst (wishes.map .p)]=Y (.lst fams,[.fz (.lst fams),.lst (wishes.map .p)]):=dS rfl;have t1:toP 9 (.ref 1) [.fz (.lst fams),.lst (wishes.map .p)]=Y (.lst wishes,[.fz (.lst fams),.fz (.lst wishes)]):=dS rfl;rw[xc,aD];simp only[F]at e1 e2;cases wide
 .simp only[Cb]at ew;have hzw:z=w:=by rw[ez]at ew;cases ew;rfl
  subst hzw;simp[lw,e0,hwd,ez,et,ht0,hm,q1,q2,q3,q4,bp,cW,m9,en,er,e1,ew,e2,t0,t1]
 .simp only[Ca]at ew;simp[lw,e0,hwd,ez,et,ht0,hm,q1,q2,q3,q4,bp,cW,m9,en,er,e1,ew,e2,t0,t1]
end My
namespace My
open PySem L2 Ev
section
variable{m:List P}
def hw:Nat->List P->List (Nat×P)
 |_,[]=>[]
 |k,f::r=>List.replicate (bu f) (k,f)++hw (k+1) r
theorem isFam.crew(h:isFam m f):bu f≤4:=by obtain⟨n,c,r,e,w,s,x,rfl⟩:=h;simpa[bu] using x.hcr.2
theorem Hn:∀{a:List P}(k:Nat),(∀f ∈ a,isFam m f)->(hw k a).length≤4 * a.length
 | [],k,_=>by simp[hw]
 |f::r,k,h=>by have:=Hn (a:=r) (k+1) λx e=>h x (aL _ e);have c:=(h f aK).crew;simp[hw];lia
theorem nG:∀{a:List P}{k:Nat}{x:Nat×P},x ∈ hw k a->∃j,x.1=k+j/\a[j]? = Y x.2
 | [],k,x,h=>by simp[hw]at h
 |f::r,k,x,h=>by
  unfold hw at h;rcases cR.mp h with h|h
  .obtain⟨_,rfl⟩:=B2.mp h;exact⟨0,by simp,by simp⟩
  .obtain⟨j,s,e⟩:=nG h;exact⟨j+1,by lia,by simpa using e⟩
def cI(f:List P):List P:=(hw 0 f).map λx=>.int (x.1:Int)
def ao(f:List P):List P:=(hw 0 f).map (·.2)
theorem xz(S:aM)(x:SO):(S++[x])[S.length]? = Y x:=by simp
theorem jk(k:Nat):((k+1:Nat):Int)=(k:Int)+1:=by lia
theorem Dy(y K:Str->GF)(S:aM)(d:P):∀(n:List P)(k:Nat)(a:List P)(g i:Option D),(∀f ∈ n,isFam m f)->a.length+4 * n.length≤1000 ->
  ∃q t,bx (be [ah 2,ah 3]) (gK y) (bE (k:Int) n) [U d,qr S.length,g,i] (S++[.lst (a.map .p)])=Y (.nx,[U d,qr S.length,q,t],S++[.lst ((a++(hw k n).map λx=>P.int (x.1:Int)).map .p)])
 | [],k,a,g,i,_,_=>⟨g,i,by simp[bE,bx,hw]⟩
 |f::r,k,a,g,i,h,H=>by
  obtain⟨u,c,o,l,w,s,z,rfl⟩:=h f aK;have A:=z.hcr.2;simp only[aS]at H;obtain⟨q,t,e⟩:=Dy y K S d r (k+1) (a++List.replicate c (P.int (k:Int))) (qi (k:Int)) (qt [.str u,.int (c:Int),.lst o,.lst l,.lst w,.lst s]) (λx F=>h x (aL _ F)) (by simp;lia);refine⟨q,t,?_⟩;have j:(hw k (.tup [.str u,.int (c:Int),.lst o,.lst l,.lst w,.lst s]::r)).map (λx=>P.int (x.1:Int))=List.replicate c (P.int (k:Int))++(hw (k+1) r).map (λx=>P.int (x.1:Int)):=by simp[hw,bu]
  rw[j,<- gW];unfold bE;rw[jk]at e;refine(cq (h:=[U d,qr S.length,qi (k:Int),qt [.str u,.int (c:Int),.lst o,.lst l,.lst w,.lst s]]) (L2:=[U d,qr S.length,qi (k:Int),qt [.str u,.int (c:Int),.lst o,.lst l,.lst w,.lst s]]) (x:=S++[.lst ((a++List.replicate c (P.int (k:Int))).map .p)]) rfl ?_).trans e;have v:c≤1000000:=by lia
  have p:c < 1000000:=by lia
  have b:a.length+c≤1000000:=by lia
  simp[gK,fu,v,p,b]
theorem QL(h:∀f ∈ a,isFam m f)(l:a.length≤4)(r w:P)(S:aM):Ph (n+2) "families_of" [.p (.tup [.lst a,r,w])] S=Y (.ref S.length,S++[.lst ((cI a).map .p)]):=by obtain⟨q,s,e⟩:=Dy (Ph (n+1)) (Ph n) S (.tup [.lst a,r,w]) a 0 [] Vk Vk h (by simp;lia);rw[qB];simp only[cS,gn]at e;have x:=e;rw[show((0:Nat):Int)=0 from rfl]at x;simp[zb,lK,x,cI]
theorem w8(h:∀f ∈ a,isFam m f)(l:a.length≤4)(r w:P):cm (Ph (n+2) "families_of") [.tup [.lst a,r,w]]=Y (.lst (cI a)):=by unfold cm;rw[aC,gn,QL (n:=n) h l r w []];simp
def aG(f:List P):LS:=(ao f).map bt
theorem mf(h:∀f ∈ a,isFam m f)(s:f ∈ ao a):isFam m f:=by unfold ao at s;obtain⟨x,n,rfl⟩:=aO.mp s;obtain⟨j,_,e⟩:=nG n;exact h _ (bg e)
noncomputable def cX(N:LS)(s:Str):List Nat:=(List.range N.length).filter λi=>decide (N[i]? = Y s)
theorem DD:∀(s:List P)(k:Nat),bE (k:Int) s=(BN k s.length).map λi=>.tup [.int (i:Int),(s[i-k]?).getD .non]
 | [],k=>rfl
 |x::r,k=>by
  unfold bE;have h:=DD r (k+1);rw[jk]at h;rw[h,aS,vT,aC];simp only[Nat.sub_self];congr 1;refine gX λi a=>?_
  have:=(List.mem_range'_1.mp a).1;rw[show i-k=(i-(k+1))+1 by lia,on]
theorem DE(x:List P):bE 0 x=(List.range x.length).map λi=>.tup [.int (i:Int),(x[i]?).getD .non]:=by have:=DD x 0;rw[List.range_eq_range'];simpa using this
noncomputable def pr(road:P)(n o:Nat):P:=.tup [road,.int (n:Int),.int (o:Int)]
def y_(N:LS)(road:P):List P:=(cX N (rA road)).flatMap λn=>((cX N (rB road)).filter λo=>!decide (n=o)).map λo=>pr road n o
def cz(N:LS)(r:List P):List P:=r.flatMap (y_ N)
noncomputable def bQ(s:List Nat):List P:=s.map λ(i:Nat)=>P.int (i:Int)
theorem gP(N:LS)(s:Str):(cX N s).length≤N.length:=by unfold cX;exact bf (jP _ _) (by simp)
theorem wC(n:Nat)(road:P)(os:List Nat):((os.filter λo=>!decide (n=o)).map λo=>pr road n o).length≤os.length:=by rw[aH];exact jP _ _
theorem wH(N:LS)(road:P)(os:List Nat)(h:os.length≤16):∀(s:List Nat),(s.flatMap λn=>(os.filter λo=>!decide (n=o)).map λo=>pr road n o).length≤16 * s.length
 | []=>by simp
 |i::s=>by
  have:=wH N road os h s;have:=wC i road os
  simp only[dG,bK,aS];lia
theorem Dw:∀{a:List P}(k:Nat),(∀f ∈ a,bu f≤c)->(hw k a).length≤a.length * c
 | [],k,_=>by simp[hw]
 |f::r,k,h=>by have:=Dw (a:=r) (k+1) λx e=>h x (aL _ e);have s:=h f aK;simp[hw,Nat.add_mul];lia
theorem gN(h:Pln f r w):(ao f).length≤4:=by
 obtain⟨c,x,a⟩:=h.cr;have:=Dw 0 x
 unfold ao;simp;lia
theorem sU(h:Pln f r w):(aG f).length≤4:=by unfold aG;rw[aH];exact gN h
end
section
variable{m:List P}
theorem Hq(h:v ∈ cI a):∃p f,v=.int ((p:Nat):Int)/\a[p]? = Y f/\f ∈ ao a:=by unfold cI at h;obtain⟨x,e,rfl⟩:=aO.mp h;obtain⟨j,s,n⟩:=nG e;exact⟨x.1,x.2,rfl,by rw[s,cP];exact n,aO.mpr ⟨x,e,rfl⟩⟩
theorem Ej(h:∀p x,a[p]? = Y x->g (.int ((p:Nat):Int))=f x):(cI a).map g=(ao a).map f:=by
 unfold cI ao;rw[cQ,cQ];refine gX λx n=>?_
 obtain⟨j,e,s⟩:=nG n;exact h x.1 x.2 (by rw[e,cP];exact s)
theorem jW(x:List h):x.filter (λ_=>Vl)=x:=jO.mpr λ_ _=>rfl
theorem kx:(cI f).length=(ao f).length:=by simp[cI,ao]
theorem bY{a:Type}{s:List a}{p:Nat}{x:a}(h:s[p]? = Y x):L2.atI s ((p:Nat):Int)=Y x:=bn (by lia) (by simpa using h)
theorem Gq(t:∀f ∈ a,isFam m f)(r w:P)(S:aM):bL (ah 7) eA (ab (ab (ab bX eU) lO) eU) (cI a) [qt [.lst a,r,w],Vk,Vk,Vk,Vk,Vk,Vk,Vk] S=Y ((aG a).map .str,S):=by
 rw[dC (p:=λ_=>Vl) (f:=λv=>match v with | .int i=>(match a[i.toNat]? with|some f=>.str (bt f)|none=>.non)|_=>.non) (Inv:=λL=>∃d,L=[qt [.lst a,r,w],Vk,Vk,Vk,Vk,Vk,Vk,d]) (λv u L b=>?_) ⟨Vk,rfl⟩]
 .rw [jW,Ej (f:=λf=>.str (bt f)) λp x g=>by simp[g]];simp[aG]
 .obtain⟨d,rfl⟩:=b;obtain⟨p,f,rfl,n,h⟩:=Hq u;obtain⟨j,c,o,l,k,s,q,rfl⟩:=mf t h;have e:=bY n;exact⟨[qt [.lst a,r,w],Vk,Vk,Vk,Vk,Vk,Vk,qi (p:Int)],rfl,⟨_,rfl⟩,rfl,λ_=>by simp[e,n,bt]⟩
def oth(N:LS)(s:Str)(n:Nat):List Nat:=(cX N s).filter λo=>!decide (n=o)
theorem D8(N:LS)(a b:Str)(kd:P)(c:Int)(x s:Bool)(l r:D)(o:Nat)(q n:Option D)(S:aM):bL (ah 7) (lz (fh qm rf) (bw (O (ab cw lO)) (O (ab fV df)))) lO (Ev.intsFrom 0 N.length)
  [Y l,ql (N.map .str),Y r,qt [.str a,.str b,kd,.int c,.bl x,.bl s],qi (o:Int),q,n,Vk] S=Y (bQ (oth N b o),S):=by
 rw[dC (p:=λv=>match v with | .int i=>(!decide (o=i.toNat)) && decide (N[i.toNat]? = Y b)|_=>Vm) (f:=id) (Inv:=λL=>∃d,L=[Y l,ql (N.map .str),Y r,qt [.str a,.str b,kd,.int c,.bl x,.bl s],qi (o:Int),q,n,d]) (λv u L t=>?_) ⟨Vk,rfl⟩]
 .congr 2;unfold Ev.intsFrom bQ oth cX;rw[vN,mK,List.filter_filter];simp only[dD];congr 1
 .obtain⟨d,rfl⟩:=t;obtain⟨i,rfl,w⟩:=ku u;simp only[dD];have g:N[i]? = Y N[i]:=aY w;have e:L2.atI (N.map P.str) (i:Int)=Y (.str N[i]):=bY (by rw[bq,g];rfl);refine⟨[Y l,ql (N.map .str),Y r,qt [.str a,.str b,kd,.int c,.bl x,.bl s],qi (o:Int),q,n,qi (i:Int)],rfl,⟨_,rfl⟩,?_,λ_=>by simp⟩;by_cases h:o=i
  .simp [h]
  .have k:¬(i:Int)=(o:Int):=by lia
   have m:¬i=o:=λz=>h z.symm;simp[h,k,m,e,g];first|done|exact oa.mpr Iff.rfl
theorem JX(road:P)(n:Nat)(L:Lc)(l:L.length=8)(g:L[3]? = Y (U road))(x:L[4]? = Y (qi (n:Int)))(os:List Nat)(S:aM):bL (ah 7) eA (aQ (v3 fV iL lO)) (bQ os) L S=Y (os.map λo=>pr road n o,S):=by
 rw[dC (p:=λ_=>Vl) (f:=λv=>.tup [road,.int (n:Int),v]) (Inv:=λh=>∃d,h=L.set 7 d) (λv b h a=>?_) ⟨L[7],(jQ (by lia)).symm⟩]
 .rw [jW];unfold bQ pr;rw[cQ];rfl
 .obtain⟨d,rfl⟩:=a;have k:((L.set 7 d).set 7 (U v))[7]? = Y (U v):=by rw[cF (by simp[l])]
  have e:((L.set 7 d).set 7 (U v))[3]? = Y (U road):=by rw[a6 (by decide),a6 (by decide)];exact g
  have s:((L.set 7 d).set 7 (U v))[4]? = Y (qi (n:Int)):=by rw[a6 (by decide),a6 (by decide)];exact x
  exact⟨_,rfl,⟨_,dF ..⟩,rfl,λ_=>by simp[-dF,k,e,s]⟩
def p0(N:LS)(road:P)(n:Nat):List P:=if decide (N[n]? = Y (rA road))=Vl then (oth N (rB road) n).map λo=>pr road n o else []
theorem D'(N:LS)(road:P)(o:Nat)(h:N.length≤16):(p0 N road o).length≤16:=by
 unfold p0;split
 .have x:=wC o road (cX N (rB road));have a:=gP N (rB road);unfold oth;lia
 .simp
theorem Te(E M:Str->GF)(S:aM)(l:D)(N:LS)(y:N.length≤16)(v:isRoad road):∀(r:List Nat)(x:List P)(d w k:Option D),(∀i ∈ r,i < N.length)->x.length+16 * r.length≤50000 ->
  ∃q s n,bx (be [ah 4,ah 5]) (gF E) (r.map λ(i:Nat)=>P.tup [.int (i:Int),((N.map P.str)[i]?).getD .non]) [Y l,ql (N.map .str),qr S.length,U road,d,w,k] (S++[.lst (x.map .p)]) =
   Y (.nx,[Y l,ql (N.map .str),qr S.length,U road,q,s,n],S++[.lst ((x++r.flatMap (p0 N road)).map .p)])
 | [],x,d,w,k,_,_=>⟨d,w,k,by simp[bx]⟩
 |i::r,x,d,w,k,F,T=>by
  simp only[aS]at T;have t:=D' N road i y;have K:=F i aK;have z:N[i]? = Y N[i]:=aY K;have H:((N.map P.str)[i]?).getD .non=.str N[i]:=by rw[bq,z];rfl
  rw[dG,<- gW,aC,H];by_cases h:N[i]=rA road
  .have g:p0 N road i=(oth N (rB road) i).map λo=>pr road i o:=by unfold p0;rw[z,h];simp
   rw[g]at t ⊢;obtain⟨q,s,n,e⟩:=Te E M S l N y v r (x++(oth N (rB road) i).map λo=>pr road i o) (qi (i:Int)) (qs (N[i])) (ql (bQ (oth N (rB road) i))) (λj A=>F j (aL _ A)) (by rw[bK];lia);refine⟨q,s,n,?_⟩;refine(cq (h:=[Y l,ql (N.map .str),qr S.length,U road,qi (i:Int),qs (N[i]),k]) rfl ?_).trans e;have p:x.length+(oth N (rB road) i).length≤1000000:=by rw[aH]at t;lia
   have f:(oth N (rB road) i).length≤1000000:=by lia
   have m:(bQ (oth N (rB road) i)).length=(oth N (rB road) i).length:=by simp[bQ]
   have V:N.length < 1000000:=by lia
   have C:N.length≤1000000:=by lia
   have u:=JX road i [Y l,ql (N.map .str),qr S.length,U road,qi (i:Int),qs (N[i]),ql (bQ (oth N (rB road) i)),Vk] rfl rfl rfl (oth N (rB road) i) (S++[.lst (x.map .p)]);obtain⟨a,b,kd,c,G,I,Q,R,B,_,_,rfl⟩:=v;have L:=D8 N a b (.str kd) c G I l (.ref S.length) i (qs (N[i])) k (S++[.lst (x.map .p)]);simp only[rA,rB]at h p f m u ⊢;simp[gF,h,bp,d_,fD,V,C,cW,m9,fu,m,f,p];simp[h]at L u;simp[L,u,m,f,p]
  .have g:p0 N road i=[]:=by unfold p0;rw[z];simp[h]
   rw[g,eZ];obtain⟨q,s,n,e⟩:=Te E M S l N y v r x (qi (i:Int)) (qs (N[i])) k (λj A=>F j (aL _ A)) (by lia);refine⟨q,s,n,?_⟩;refine(cq (h:=[Y l,ql (N.map .str),qr S.length,U road,qi (i:Int),qs (N[i]),k]) rfl ?_).trans e;obtain⟨a,b,kd,c,G,I,Q,R,B,_,_,rfl⟩:=v;simp only[rA]at h;simp[gF,h]
end
section
variable{m:List P}
theorem mi(p:a->Bool)(f:a->List e):∀s:List a,(s.filter p).flatMap f=s.flatMap λx=>if p x=Vl then f x else []
 | []=>rfl
 |x::r=>by
  by_cases h:p x=Vl
  .rw [wb h,dG,dG,mi p f r,ac h]
  .rw [wa h,dG,mi p f r,ae h,cS]
theorem M0(N:LS)(road:P):(List.range N.length).flatMap (p0 N road)=y_ N road:=by unfold y_;rw[show cX N (rA road)=(List.range N.length).filter (λi=>decide (N[i]? = Y (rA road))) from rfl,mi];rfl
theorem uI(N:LS)(road:P)(h:N.length≤16):(y_ N road).length≤256:=by
 have x:=gP N (rA road);have a:=gP N (rB road);have:=wH N road (cX N (rB road)) (by lia) (cX N (rA road))
 unfold y_;lia
theorem Ue(u l:Str->GF)(S:aM)(p:D)(N:LS)(d:N.length≤16):∀(o:List P)(a:List P)(t q e n:Option D),(∀r ∈ o,isRoad r)->a.length+256 * o.length≤10000 ->
  ∃w x s k,bx (ah 3) (lJ u) o [Y p,ql (N.map .str),qr S.length,t,q,e,n] (S++[.lst (a.map .p)]) =
   Y (.nx,[Y p,ql (N.map .str),qr S.length,w,x,s,k],S++[.lst ((a++cz N o).map .p)])
 | [],a,t,q,e,n,_,_=>⟨t,q,e,n,by simp[bx,cz]⟩
 |road::o,a,t,q,e,n,j,H=>by simp only[aS]at H;obtain⟨x,s,k,v⟩:=Te u l S p N d (j road aK) (List.range N.length) a q e n (λi z=>by simpa using z) (by simp;lia);have F:=uI N road d;obtain⟨f,b,c,m,y⟩:=Ue u l S p N d o (a++y_ N road) (U road) x s k (λr h=>j r (aL _ h)) (by rw[bK];lia);refine⟨f,b,c,m,?_⟩;rw[show cz N (road::o)=y_ N road++cz N o by simp[cz],<- gW];refine(cq (h:=[Y p,ql (N.map .str),qr S.length,U road,q,e,n]) rfl ?_).trans y;rw[M0]at v;have g:=DE (N.map P.str);rw[aH]at g;rw[<- g]at v;show bD _ _ _ _ _=_;simp only[bD];rw[show fN cw [Y p,ql (N.map .str),qr S.length,U road,q,e,n] (S++[.lst (a.map .p)])=Y (bE 0 (N.map P.str),S++[.lst (a.map .p)]) by simp];exact v
theorem P2(h:Pln f r w)(S:aM):Ph (n+3) "pairs_of" [.p (.tup [.lst f,.lst r,.lst w])] S=Y (.ref S.length,S++[.lst ((cz (aG f) r).map .p)]):=by
 have:=h.rl;have x:=w8 (n:=n) h.hf h.f0.2 (.lst r) (.lst w);have a:=Gq h.hf (.lst r) (.lst w) S;obtain⟨q,s,k,b,e⟩:=Ue (Ph (n+2)) (Ph (n+1)) S (.p (.tup [.lst f,.lst r,.lst w])) (aG f) (bf (sU h) (by decide)) r [] Vk Vk Vk Vk h.hr (by simp;lia);have l:(cI f).length≤1000000:=by rw[kx];have:=gN h;lia
 rw[xa];simp only[cS,gn]at e;simp[zb,o3,x,bp,l,m9,a,e]
theorem C5(h:Pln f r w):cm (Ph (n+3) "pairs_of") [.tup [.lst f,.lst r,.lst w]]=Y (.lst (cz (aG f) r)):=by unfold cm;rw[aC,gn,P2 (n:=n) h []];simp
theorem OE(a b c d e f:P):L2.atI [a,b,c,d,e,f] 3=Y d:=bn (by decide) rfl
theorem RT(a b c d e f:P):L2.atI [a,b,c,d,e,f] 4=Y e:=bn (by decide) rfl
end
section
variable{m:List P}
theorem me(h:∀f ∈ a,isFam m f)(l:a.length≤4):(ao a).length≤16:=by have:=Hn 0 h;unfold ao;simp;lia
theorem Dk(y A:Str->GF)(v:P):∀(s:List P)(k:Nat)(a:List P)(d:Option D),(∀f ∈ s,isFam m f)->a.length+4 * s.length≤1000 ->
  ∃q,bx (ah 2) (f8 y) s [U v,ql a,d] []=Y (.nx,[U v,ql (a++(hw k s).map (·.2)),q],[])
 | [],k,a,d,_,_=>⟨d,by simp[bx,hw]⟩
 |f::r,k,a,d,h,H=>by
  obtain⟨K,c,o,l,w,t,z,rfl⟩:=h f aK;have B:=z.hcr.2;simp only[aS]at H;generalize j:P.tup [.str K,.int (c:Int),.lst o,.lst l,.lst w,.lst t]=F;have i:iM F (.int 1)=Y (.int (c:Int)):=by rw[<- j];simp
  have u:bu F=c:=by rw[<- j];simp[bu]
  obtain⟨q,e⟩:=Dk y A v r (k+1) (a++List.replicate c F) (U F) (λx S=>h x (aL _ S)) (by simp;lia);refine⟨q,?_⟩;have g:(hw k (F::r)).map (·.2)=List.replicate c F++(hw (k+1) r).map (·.2):=by simp[hw,u]
  rw[g,<- gW];refine(cq (h:=[U v,ql a,U F]) (L2:=[U v,ql (a++List.replicate c F),U F]) (x:=[]) rfl ?_).trans e;have b:c≤1000000:=by lia
  have p:c < 1000000:=by lia
  have n:a.length+c≤1000000:=by lia
  simp[f8,i,b,p,n]
theorem Dj(h:∀f ∈ a,isFam m f)(l:a.length≤4)(r w:P):cm (Ph (n+2) "_law_families") [.tup [.lst a,r,w]]=Y (.lst (ao a)):=by obtain⟨q,e⟩:=Dk (Ph (n+1)) (Ph n) (.tup [.lst a,r,w]) a 0 [] Vk h (by simp;lia);rw[pN,aD];simp only[cS]at e;simp[kL,e,ao]
theorem uZ(h:∀f ∈ k,isFam m f)(d:k.length≤4)(o x:P)(s:Str) :
  cm (Ph (n+3) "_law_crew") [.tup [.lst k,o,x],.str s]=Y (.lst ((cX (aG k) s).map λ(i:Nat)=>P.int (i:Int))):=by
 have g:=Dj (n:=n) h d o x;have u:=me h d;have j:bL (be [ah 2,ah 3]) (bw (O (ab fV eU)) pq) dq (bE 0 (ao k)) [qt [.lst k,o,x],qs s,Vk,Vk] [] =
   Y (((bE 0 (ao k)).filter λv=>match v with | .tup [_,f]=>decide (bt f=s)|_=>Vm).map (λv=>match v with | .tup [i,_]=>i|_=>.non),[]):=by
  refine dC (Inv:=λL=>∃a b,L=[qt [.lst k,o,x],qs s,a,b]) (λv F L y=>?_) ⟨Vk,Vk,rfl⟩;obtain⟨a,b,rfl⟩:=y;obtain⟨i,p,e⟩:=qY.mp F;obtain⟨f,z,rfl⟩:=gi (s:=ao k) (i:=i) (v:=v) (by rw[aY p,e]);obtain⟨K,c,r,l,w,t,H,rfl⟩:=mf h (bg z);exact⟨[qt [.lst k,o,x],qs s,qi (i:Int),qt [.str K,.int (c:Int),.lst r,.lst l,.lst w,.lst t]],rfl,⟨_,_,rfl⟩,by simp[bt];first|done|exact oa.mpr Iff.rfl,λ_=>by simp⟩
 have S:(bE 0 (ao k)).length≤1000000:=by rw[dB];lia
 rw[xg,aD];simp[o6,bp,g,S,m9,j];rw[DE];unfold cX aG;rw[vN,cQ,aH];congr 1;refine BY λi p=>?_;have q:i < (ao k).length:=by simpa using p
 simp[q]
theorem Tt(k f:Str->GF)(p road:P)(n:Nat):∀(os:List Nat)(a:List P)(x:Option D),a.length+os.length≤100000->∃q,bx (ah 4) (fS k) (bQ os) [U p,qr 0,U road,qi (n:Int),x] [.lst (a.map .p)] =
   Y (.nx,[U p,qr 0,U road,qi (n:Int),q],[.lst ((a++(os.filter λo=>!decide (n=o)).map λo=>pr road n o).map .p)])
 | [],a,x,_=>⟨x,by simp[bQ,bx]⟩
 |o::os,a,x,b=>by
  simp only[aS]at b;by_cases h:n=o
  .obtain⟨q,e⟩:=Tt k f p road n os a (qi (o:Int)) (by lia);refine⟨q,?_⟩;have s:(o::os).filter (λo=>!decide (n=o))=os.filter λo=>!decide (n=o):=by simp[h]
   rw[s];refine(cq (h:=[U p,qr 0,U road,qi (n:Int),qi (o:Int)]) (L2:=[U p,qr 0,U road,qi (n:Int),qi (o:Int)]) (x:=[.lst (a.map .p)]) rfl ?_).trans e;simp[fS,h]
  .obtain⟨q,e⟩:=Tt k f p road n os (a++[pr road n o]) (qi (o:Int)) (by simp;lia);refine⟨q,?_⟩;have s:((o::os).filter (λo=>!decide (n=o))).map (λo=>pr road n o)=pr road n o::(os.filter λo=>!decide (n=o)).map λo=>pr road n o:=by simp[h]
   rw[s,show a++pr road n o::(os.filter λo=>!decide (n=o)).map (λo=>pr road n o)=a++[pr road n o]++(os.filter λo=>!decide (n=o)).map (λo=>pr road n o) by simp];refine(cq (h:=[U p,qr 0,U road,qi (n:Int),qi (o:Int)]) (L2:=[U p,qr 0,U road,qi (n:Int),qi (o:Int)]) (x:=[.lst ((a++[pr road n o]).map .p)]) rfl ?_).trans e;have z:¬(n:Int)=(o:Int):=by lia
   have l:a.length≤1000000:=by lia
   rw[<- d6];simp[fS,h,z,fu,l,pr]
theorem Uj{n:Nat}{s:List P}(d:∀f ∈ s,isFam m f)(l:s.length≤4)(r w:P){road:P}(g:isRoad road):∀(k:List Nat)(h:List P)(v x:Option D),h.length+16 * k.length≤50000->∃q e,bx (ah 3) (kK (Ph (n+3))) (bQ k) [qt [.lst s,r,w],qr 0,U road,v,x] [.lst (h.map .p)] =
   Y (.nx,[qt [.lst s,r,w],qr 0,U road,q,e],[.lst ((h++k.flatMap λt=>((cX (aG s) (rB road)).filter λo=>!decide (t=o)).map λo=>pr road t o).map .p)])
 | [],h,v,x,_=>⟨v,x,by simp[bQ,bx]⟩
 |i::k,h,v,x,K=>by simp only[aS]at K;have S:(cX (aG s) (rB road)).length≤16:=bf (gP _ _) (by unfold aG;rw[aH];exact me d l);obtain⟨e,u⟩:=Tt (Ph (n+3)) (Ph (n+2)) (.tup [.lst s,r,w]) road i (cX (aG s) (rB road)) h x (by lia);have A:=wC i road (cX (aG s) (rB road));obtain⟨q,p,z⟩:=Uj (n:=n) d l r w g k (h++((cX (aG s) (rB road)).filter λo=>!decide (i=o)).map λo=>pr road i o) (qi (i:Int)) e (by rw[bK];lia);refine⟨q,p,?_⟩;rw[dG,<- gW];refine(cq (h:=[qt [.lst s,r,w],qr 0,U road,qi (i:Int),x]) rfl ?_).trans z;obtain⟨a,b,kd,c,j,y,B,C,F,_,_,rfl⟩:=g;have H:=uZ (n:=n) d l r w b;simp only[rB]at u;show bD _ _ _ _ _=_;rw[bD];rw[show eR (cf (Ph (n+3) "_law_crew") (v2 bX (ab dq df))) [qt [.lst s,r,w],qr 0,qt [.str a,.str b,.str kd,.int c,.bl j,.bl y],qi (i:Int),x] [.lst (h.map .p)]=Y (bQ (cX (aG s) b),[.lst (h.map .p)]) by simp[H,bQ]];exact u
theorem Ui{n:Nat}{s:List P}(i:∀f ∈ s,isFam m f)(l:s.length≤4)(p w:P):∀(o:List P)(x:List P)(j q k:Option D),(∀r ∈ o,isRoad r)->x.length+256 * o.length≤10000->∃z e t,bx (ah 2) (kJ (Ph (n+3))) o [qt [.lst s,p,w],qr 0,j,q,k] [.lst (x.map .p)] =
   Y (.nx,[qt [.lst s,p,w],qr 0,z,e,t],[.lst ((x++cz (aG s) o).map .p)])
 | [],x,j,q,k,_,_=>⟨j,q,k,by simp[cz,bx]⟩
 |road::o,x,j,q,k,S,G=>by
  simp only[aS]at G;have N:(aG s).length≤16:=by unfold aG;rw[aH];exact me i l
  have C:(cX (aG s) (rA road)).length≤16:=bf (gP _ _) N;have y:(cX (aG s) (rB road)).length≤16:=bf (gP _ _) N;have v:=S road aK;obtain⟨e,t,H⟩:=Uj (n:=n) i l p w v (cX (aG s) (rA road)) x q k (by lia);have I:(y_ (aG s) road).length≤256:=by have:=wH (aG s) road _ y (cX (aG s) (rA road));unfold y_;lia
  obtain⟨d,u,g,A⟩:=Ui (n:=n) i l p w o (x++y_ (aG s) road) (U road) e t (λr h=>S r (aL _ h)) (by rw[bK];lia);refine⟨d,u,g,?_⟩;rw[show cz (aG s) (road::o)=y_ (aG s) road++cz (aG s) o by simp[cz],<- gW];refine(cq (h:=[qt [.lst s,p,w],qr 0,U road,q,k]) rfl ?_).trans A;obtain⟨a,b,kd,c,F,K,L,M,E,_,_,rfl⟩:=v;have B:=uZ (n:=n) i l p w a;simp only[rA]at H;show bD _ _ _ _ _=_;rw[bD];rw[show eR (cf (Ph (n+3) "_law_crew") (v2 bX (ab dq eU))) [qt [.lst s,p,w],qr 0,qt [.str a,.str b,.str kd,.int c,.bl F,.bl K],q,k] [.lst (x.map .p)]=Y (bQ (cX (aG s) a),[.lst (x.map .p)]) by simp[B,bQ]];exact H
theorem Dh(h:Pln f r w):cm (Ph (n+4) "_law_pairs") [.tup [.lst f,.lst r,.lst w]]=Y (.lst (cz (aG f) r)):=by have:=h.rl;obtain⟨q,x,a,e⟩:=Ui (n:=n) h.hf h.f0.2 (.lst r) (.lst w) r [] Vk Vk Vk h.hr (by simp;lia);rw[ub,aD];simp only[cS,gn]at e;simp[nq,e]
end
structure BD where
 fams:List P
 roads:List P
 wishes:List P
 ks:List (List ci)
 vs:List D
abbrev BP(B:BD):Prop:=Pln B.fams B.roads B.wishes
def BD.N(B:BD):LS:=aG B.fams
def BD.PR(B:BD):List P:=cz B.N B.roads
def p'(l:P):Prop:=∃m i,ba m=Vl/\i.natAbs≤999/\l=.tup [.str m,.int i]
def m7(s:List P):Prop:=s.length≤3/\∀l ∈ s,p' l
def CellsOk(e s:List P):Prop:=s.length=e.length/\∀c ∈ s,∃i:Int,i.natAbs≤999/\c=.int i
noncomputable def Pf(a b:Bool):Nat->Nat->Option Bool
 |0,0=>Y Vm
 |0,1=>Y a
 |1,0=>Y b
 |1,1=>Y Vm
 |_,_=>Vk
noncomputable def Pe(a b c d e f:Bool):Nat->Nat->Option Bool
 |0,0=>Y Vm
 |0,1=>Y a
 |0,2=>Y b
 |1,0=>Y c
 |1,1=>Y Vm
 |1,2=>Y d
 |2,0=>Y e
 |2,1=>Y f
 |2,2=>Y Vm
 |_,_=>Vk
noncomputable def yA(n:Nat)(o:Option (Array Nat)):Bool:=match o with
 |some p=>decide (p.size=n) && p.all λi=>decide (i < n)
 |none=>Vm
theorem Pz:∀a b,yA 2 (KO (Pf a b) (wd 2))=Vl:=by decide +kernel
theorem Py:∀a b c d e f,yA 3 (KO (Pe a b c d e f) (wd 3))=Vl:=by decide +kernel
variable{x:P}
theorem jU(h:p' x)(a:p' y):∃b,Ts x y=Y b:=by obtain⟨m,i,_,_,rfl⟩:=h;obtain⟨s,e,_,_,rfl⟩:=a;exact⟨_,rfl⟩
theorem oN(h:p' x):Ts x x=Y Vm:=by obtain⟨m,i,_,_,rfl⟩:=h;show Y (if m=m then decide (i < i) else _)=_;rw[ac rfl,bA (A5 _)]
variable{n:Nat}
theorem Eo(h:yA n o=Vl):∃p,o=Y p/\p.size=n/\∀i ∈ p.toList,i < n:=by
 cases o with
 |none=>cases h
 |some p=>
  unfold yA at h;rw[ar]at h;refine⟨p,rfl,aR h.1,λi x=>?_⟩;have:=Array.all_eq_true'.mp h.2 i (by simpa using x)
  exact aR this
theorem uD(h:m7 s):∃t,m7 t/\mq s=Y (.lst t):=by
 have E:sortable s=Vl:=by refine bi.mpr λx r=>?_;obtain⟨m,i,_,_,rfl⟩:=h.2 x r;rfl
 have o:∃t,m7 t/\pY s=Y t:=by
  unfold pY;by_cases q:s.length < 2
  .exact⟨s,h,by rw[ac q]⟩
  .rw [ae q,ac (by have:=h.1;lia)];have k:∀n,s.length=n->n≤3->yA n (KO (oO s) (wd n))=Vl->∃t,m7 t/\((KO (oO s) (wd s.length)).bind λp=>if p.size < 64 then Y (p.toList.map λi=>s.getD i .non) else Vk)=Y t:=λn C D P=>by
    obtain⟨p,e,G,q⟩:=Eo P;refine⟨p.toList.map λi=>s.getD i .non,⟨by simp;lia,λl B=>?_⟩,by rw[C,e];simp[show p.size < 64 by lia]⟩;obtain⟨i,A,rfl⟩:=aO.mp B;have:=q i A
    rw[a8,aY (by lia)];exact h.2 _ (dn _)
   match s,h,q,k with
   | [x,y],h,_,k=>
    refine k 2 rfl (by lia) ?_;have r:=h.2 x (by simp);have v:=h.2 y (by simp);obtain⟨a,u⟩:=jU r v;obtain⟨b,g⟩:=jU v r;have:oO [x,y]=Pf a b:=by
     funext i j;match i,j with
     |0,0=>exact oN r
     |0,1=>exact u
     |1,0=>exact g
     |1,1=>exact oN v
     |0,j+2=>rfl
     |1,j+2=>rfl
     |i+2,0=>rfl
     |i+2,1=>rfl
     |i+2,j+2=>rfl
    rw[this];exact Pz a b
   | [x,y,z],h,_,k=>
    refine k 3 rfl (by lia) ?_;have r:=h.2 x (by simp);have v:=h.2 y (by simp);have w:=h.2 z (by simp);obtain⟨a,u⟩:=jU r v;obtain⟨b,g⟩:=jU r w;obtain⟨c,H⟩:=jU v r;obtain⟨d,S⟩:=jU v w;obtain⟨e,F⟩:=jU w r;obtain⟨f,K⟩:=jU w v;have:oO [x,y,z]=Pe a b c d e f:=by
     funext i j;match i,j with
     |0,0=>exact oN r
     |0,1=>exact u
     |0,2=>exact g
     |1,0=>exact H
     |1,1=>exact oN v
     |1,2=>exact S
     |2,0=>exact F
     |2,1=>exact K
     |2,2=>exact oN w
     |0,j+3=>rfl
     |1,j+3=>rfl
     |2,j+3=>rfl
     |i+3,0=>rfl
     |i+3,1=>rfl
     |i+3,2=>rfl
     |i+3,j+3=>rfl
    rw[this];exact Py a b c d e f
   | [],_,q,_=>simp at q
   | [_],_,q,_=>simp at q
   |_::_::_::_::_,h,_,_=>have:=h.1;simp at this
 obtain⟨t,w,e⟩:=o;exact⟨t,w,by unfold mq;rw[ac E,e];rfl⟩
theorem Ij{B:BD}(h:x ∈ B.PR):∃r ∈ B.roads,∃a b:Nat,x=pr r a b:=by unfold BD.PR cz at h;obtain⟨r,e,h⟩:=b_.mp h;unfold y_ at h;obtain⟨a,_,h⟩:=b_.mp h;obtain⟨b,_,rfl⟩:=aO.mp h;exact⟨r,e,a,b,rfl⟩
def DO(B:BD)(rds:List P):Prop:=rds.length=B.PR.length/\∀r ∈ rds,∃ls,m7 ls/\r=.tup ls
theorem nN(h:BP B):B.PR.length≤2048:=by
 have N:B.N.length≤16:=bf (sU h) (by decide);have k:∀m:List P,(cz B.N m).length≤256 * m.length:=by
  intro m;induction m with
  |nil=>simp[cz]
  |cons r m i=>have:=uI B.N r N;rw[show cz B.N (r::m)=y_ B.N r++cz B.N m by simp[cz],bK,aS];lia
 have:=k B.roads;have:=h.rl
 unfold BD.PR;lia
theorem FX{S:aM}{r:Nat}{o x:SO}(h:S[r]? = Y o):(S.set r x)[r]? = Y x:=by rw[cF (bB h)]
theorem xy{r a:EE}{L:Lc}{S x:aM}{k:Nat}{c:List P}{y:P}(n:r L S=Y (.ref k,S))(h:S[k]? = Y (.lst (c.map .p)))(s:a L S=Y (.p y,x))(e:x[k]? = Y (.lst (c.map .p)))(l:c.length≤1000000):bW (bC r a) L S=Y (.nx,L,x.set k (.lst ((c++[y]).map .p))):=by rw[bW,bC,n,al];simp only[fu,h,s,al,e];rw[ac (by rw[iR,aH];exact l),ja];rfl
def Eh(n:Nat)(v:P):Prop:=∃j:Int,-1≤j/\j < n/\v=.int j
noncomputable abbrev gI(n:Str)(e:Nat)(r c w s:List P):P:=.tup [.str n,.int (e:Int),.lst r,.lst c,.lst w,.lst s]
theorem RE(a b c d e f:P):L2.atI [a,b,c,d,e,f] 2=Y c:=bn (by decide) rfl
inductive HandOk(n:Nat)(f x:P):Prop
 |mk (nm:Str) (crew:Nat) (rooms cells whos steps:List P) (h0:f=gI nm crew rooms cells whos steps) (r:Nat) (cs ws:List P):x=.tup [.int (r:Int),.tup cs,.tup ws]->r < rooms.length->CellsOk cells cs->ws.length=whos.length->(∀w ∈ ws,Eh n w)->HandOk n f x
structure StL(B:BD)(hs rds:List P):Prop where
 hl:hs.length=(ao B.fams).length
 hh:∀(k:Nat) f x,(ao B.fams)[k]? = Y f->hs[k]? = Y x->HandOk (ao B.fams).length f x
 hr:DO B rds
def Ra(B:BD)(st:P):Prop:=∃h r,st=.tup [.tup h,.tup r]/\StL B h r
end My
namespace My
open PySem L2 Ev
theorem CN:∀s:List P,Lh (s.map .p)=Y s
 | []=>rfl
 |x::s=>by simp[Lh,CN s]
theorem F5{R ι:Str->GF}{l:List P}(W:∀c ∈ l,isCel c)(hl:l.length≤3)(d:Int)(S:aM)(y o H F K A:Option D)(q s n f m r u j:Option D) :
  ∃(N:List P)(p w:Option D),CellsOk l N/\bx (be [ah 8,ah 9]) (dZ R) (bE 0 l) [y,o,H,F,K,A,qi d,qr S.length,u,j,q,s,n,f,m,r] (S++[.lst []])=Y (.nx,[y,o,H,F,K,A,qi d,qr S.length,p,w,q,s,n,f,m,r],S++[.lst (N.map .p)]):=by
 obtain⟨L',G,e,t,p,w,E,M,rfl,rfl⟩:=bN (g:=be [ah 8,ah 9]) (b:=dZ R) (Inv:=fun i L G=>∃(t:List P) (u j:Option D),t.length=i/\(∀c ∈ t,∃i:Int,i.natAbs≤999/\c=.int i)/\L=[y,o,H,F,K,A,qi d,qr S.length,u,j,q,s,n,f,m,r]/\G=S++[.lst (t.map .p)]) (s:=bE 0 l) (k:=0) (L:=[y,o,H,F,K,A,qi d,qr S.length,u,j,q,s,n,f,m,r]) (S:=S++[.lst []]) (fun i v L G X V=>by
  obtain⟨c,B,rfl⟩:=gi X;have hi:=bB B;obtain⟨x,lo,a,I,_,b1,b2,b3,b4,rfl⟩:=W c (bg B);obtain⟨t,u,j,E,M,rfl,rfl⟩:=V;obtain⟨z,Z,T⟩:∃z:Int,(0 < z/\z < 1152921504606846976)/\L2.atI [P.int 8,.int 32,.int 128] (i:Int)=Y (.int z):=by
   have:i=0\/i=1\/i=2:=by lia
   rcases this with rfl|rfl|rfl
   .exact⟨8,by decide,by simp⟩
   .exact⟨32,by decide,by simp⟩
   .exact⟨128,by decide,by simp⟩
  have Q:0 < a-lo+1:=by lia
  have m0:0≤d / z % (a-lo+1):=cY _ (by lia);have m1:d / z % (a-lo+1) < a-lo+1:=dE _ Q;have C:t.length≤1000000:=by lia
  refine⟨_,[y,o,H,F,K,A,qi d,qr S.length,qi (i:Int),qt [.str x,.int lo,.int a,.int I],q,s,n,f,m,r],S++[.lst ((t++[P.int (lo+d / z % (a-lo+1))]).map .p)],rfl,?_,_,_,_,by simp[E],eQ M ⟨_,by lia,rfl⟩,rfl,rfl⟩;rw[<- d6];simp[dZ,T,Z,Q,fu,C]) ⟨[],u,j,rfl,λ_ h=>(by cases h),rfl,rfl⟩
 rw[dB,cP]at E;exact⟨t,p,w,⟨E,M⟩,e⟩
theorem JI{G W:Str->GF}(m:Nat)(V:m≤2)(f:List P)(d:Int)(S:aM)(p u j l y o:Option D)(F q x a s n t:Option D) :
  ∃(C:List P)(r:Option D),C.length=m/\(∀w ∈ C,Eh f.length w)/\bx (ah 8) (dY G) (intsFrom 0 m) [p,u,j,ql f,l,y,qi d,o,t,F,qr S.length,q,x,a,s,n] (S++[.lst []])=Y (.nx,[p,u,j,ql f,l,y,qi d,o,r,F,qr S.length,q,x,a,s,n],S++[.lst (C.map .p)]):=by
 obtain⟨R,A,e,c,r,K,B,rfl,rfl⟩:=bN (g:=ah 8) (b:=dY G) (Inv:=fun i L A=>∃(c:List P) (t:Option D),c.length=i/\(∀w ∈ c,Eh f.length w)/\L=[p,u,j,ql f,l,y,qi d,o,t,F,qr S.length,q,x,a,s,n]/\A=S++[.lst (c.map .p)]) (s:=intsFrom 0 m) (k:=0) (L:=[p,u,j,ql f,l,y,qi d,o,t,F,qr S.length,q,x,a,s,n]) (S:=S++[.lst []]) (fun i v L A N M=>by
  obtain⟨rfl,T⟩:=ints_get N;obtain⟨c,t,K,B,rfl,rfl⟩:=M;simp only[dD];obtain⟨z,Q,I⟩:∃z:Int,(0 < z/\z < 1152921504606846976)/\L2.atI [P.int 512,.int 4096] (i:Int)=Y (.int z):=by
   have:i=0\/i=1:=by lia
   rcases this with rfl|rfl
   .exact⟨512,by decide,by simp⟩
   .exact⟨4096,by decide,by simp⟩
  have E:(0:Int) < (f.length:Int)+1:=by lia
  have H:c.length≤1000000:=by lia
  refine⟨_,[p,u,j,ql f,l,y,qi d,o,qi (i:Int),F,qr S.length,q,x,a,s,n],S++[.lst ((c++[P.int (d / z % ((f.length:Int)+1)-1)]).map .p)],rfl,?_,_,_,by simp[K],eQ B ⟨_,by have:=cY (d / z) (show(f.length:Int)+1≠0 by lia);lia,by have:=dE (d / z) E;lia,rfl⟩,rfl,rfl⟩;rw[<- d6];simp[dY,I,Q,E,d_,fD,fu,H]) ⟨[],t,rfl,λ_ h=>(by cases h),rfl,rfl⟩
 rw[cW,cP]at K;exact⟨c,r,K,B,e⟩
theorem JJ{T ι:Str->GF}(m:Nat)(hm:m≤3)(d:Int)(S:aM)(w j o H F K A B x s n f:Option D)(p q:Option D) :
  ∃(Q:List P)(t c:Option D),Q.length=m/\(∀l ∈ Q,p' l)/\bx (ah 8) (dW T) (intsFrom 0 m) [w,j,o,H,F,K,qi d,A,p,B,x,s,n,f,qr S.length,q] (S++[.lst []])=Y (.nx,[w,j,o,H,F,K,qi d,A,t,B,x,s,n,f,qr S.length,c],S++[.lst (Q.map .p)]):=by
 obtain⟨L',G,e,r,t,c,E,M,rfl,rfl⟩:=bN (g:=ah 8) (b:=dW T) (Inv:=fun i L G=>∃(r:List P) (p q:Option D),r.length=i/\(∀l ∈ r,p' l)/\L=[w,j,o,H,F,K,qi d,A,p,B,x,s,n,f,qr S.length,q]/\G=S++[.lst (r.map .p)]) (s:=intsFrom 0 m) (k:=0) (L:=[w,j,o,H,F,K,qi d,A,p,B,x,s,n,f,qr S.length,q]) (S:=S++[.lst []]) (fun i v L G hv Z=>by
  obtain⟨rfl,hi⟩:=ints_get hv;obtain⟨r,p,q,E,M,rfl,rfl⟩:=Z;simp only[dD];obtain⟨z,y,hz,hy,X,W⟩:∃z y:Int,(0 < z/\z < 1152921504606846976)/\(0 < y/\y < 1152921504606846976)/\L2.atI [P.int 8,.int 800,.int 80000] (i:Int)=Y (.int z)/\L2.atI [P.int 4,.int 400,.int 40000] (i:Int)=Y (.int y):=by
   have:i=0\/i=1\/i=2:=by lia
   rcases this with rfl|rfl|rfl
   .exact⟨8,4,by decide,by decide,by simp,by simp⟩
   .exact⟨800,400,by decide,by decide,by simp,by simp⟩
   .exact⟨80000,40000,by decide,by decide,by simp,by simp⟩
  obtain⟨u,hu1,hu2,V⟩:∃u:Int,-998≤u/\u≤997/\L2.atI [P.int 0,.int 997,.int 0,.int (-998)] (d / 8000000 % 4)=Y (.int u):=by
   have h:d / 8000000 % 4=0\/d / 8000000 % 4=1\/d / 8000000 % 4=2\/d / 8000000 % 4=3:=by lia
   rcases h with h|h|h|h<;>rw[h]<;>simp
  obtain⟨mk,N,I⟩:=sH (a:="ma") (b:="mb") (d / y);have R:ba mk=Vl:=by rcases N with rfl|rfl<;>simp
  have m0:0≤d / z % 4:=cY _ (by decide);have m1:d / z % 4 < 4:=dE _ (by decide);have C:r.length≤1000000:=by lia
  refine⟨_,[w,j,o,H,F,K,qi d,A,qi (i:Int),B,x,s,n,f,qr S.length,qi (d / z % 4-1+u)],S++[.lst ((r++[P.tup [.str mk,.int (d / z % 4-1+u)]]).map .p)],rfl,?_,_,_,_,by simp[E],eQ M ⟨mk,_,R,by lia,rfl⟩,rfl,rfl⟩;rw[<- d6];simp[dW,X,W,hz,hy,V,I,fu,C]) ⟨[],p,q,rfl,λ_ h=>(by cases h),rfl,rfl⟩
 rw[cW,cP]at E;exact⟨r,t,c,E,M,e⟩
noncomputable abbrev bH(B:BD):P:=.tup [.lst B.fams,.lst B.roads,.lst B.wishes]
theorem F4{B:BD}(hP:Pln B.fams B.roads B.wishes){n:Nat}(V:List Int)(Z q5 Q N C E q u j y z H:Option D) :
  ∃(hs:List P)(S':aM)(q4' q5' q6' q7' q8' q9' W:Option D),hs.length=(ao B.fams).length/\(∀(k:Nat) f x,(ao B.fams)[k]? = Y f->hs[k]? = Y x->HandOk (ao B.fams).length f x)/\S'[0]? = Y (.lst (hs.map .p)) /\
   bx (be [ah 4,ah 5]) (dX (Ph (n+2))) (bE 0 (ao B.fams)) [U (fW V),U (bH B),qr 0,ql (ao B.fams),Z,q5,Q,N,C,E,q,u,j,y,z,H] [.lst []]=Y (.nx,[U (fW V),U (bH B),qr 0,ql (ao B.fams),q4',q5',q6',q7',q8',q9',W,u,j,y,z,H],S'):=by
 have h4:=gN hP;obtain⟨L',S',e,M,q4',q5',q6',q7',q8',q9',W,h1,h2,h3,rfl⟩:=bN (g:=be [ah 4,ah 5]) (b:=dX (Ph (n+2))) (Inv:=fun i L S=>∃(M:List P) (Z q5 Q N C E q:Option D),M.length=i/\(∀(k:Nat) x,M[k]? = Y x->∀f,(ao B.fams)[k]? = Y f->HandOk (ao B.fams).length f x)/\S[0]? = Y (.lst (M.map .p))/\L=[U (fW V),U (bH B),qr 0,ql (ao B.fams),Z,q5,Q,N,C,E,q,u,j,y,z,H]) (s:=bE 0 (ao B.fams)) (k:=0) (L:=[U (fW V),U (bH B),qr 0,ql (ao B.fams),Z,q5,Q,N,C,E,q,u,j,y,z,H]) (S:=[.lst []]) (fun i v L S hv hI=>by
  obtain⟨f,hf,rfl⟩:=gi hv;have hi:=bB hf;obtain⟨nm,K,o,l,w,t,hF,rfl⟩:=mf hP.hf (bg hf);obtain⟨M,Z,q5,Q,N,C,E,q,h1,h2,h3,rfl⟩:=hI;obtain⟨c,d,hd,e1,e2⟩:=iE (n:=n) V (k:=29+(i:Int)) (p:=31) (by lia) (by lia) (by lia);obtain⟨A,R,s,hcs,e3⟩:=F5 (R:=Ph (n+2)) (ι:=Ph (n+1)) hF.hce.1 hF.cl d S (U (fW V)) (U (bH B)) (qr 0) (ql (ao B.fams)) (qi (i:Int)) (U (gI nm K o l w t)) q u j y z H C E;obtain⟨X,I,hw1,hw2,e4⟩:=JI (G:=Ph (n+2)) (W:=Ph (n+1)) w.length hF.wl (ao B.fams) d (S++[.lst (A.map .p)]) (U (fW V)) (U (bH B)) (qr 0) (qi (i:Int)) (U (gI nm K o l w t)) (qr S.length) s u j y z H R;have hl0:0 < S.length:=bB h3;have hr0:=len_pos hF.r0;have hrp:(0:Int) < (o.length:Int):=by lia
  have r0:0≤d % (o.length:Int):=cY _ (by lia);have r1:d % (o.length:Int) < (o.length:Int):=dE _ hrp;obtain⟨r,hr⟩:∃r:Nat,d % (o.length:Int)=(r:Int):=⟨(d % (o.length:Int)).toNat,by lia⟩;have hwn:w.length < 1000000:=by have:=hF.wl;lia
  let a:aM:=S++[.lst (A.map .p)]
  let m:aM:=a++[.lst (X.map .p)]
  let F:Option D->Option D->Option D->Option D->Option D->Lc:=λQ N C E q=>[U (fW V),U (bH B),qr 0,ql (ao B.fams),qi (i:Int),U (gI nm K o l w t),Q,N,C,E,q,u,j,y,z,H]
  let G:=F (qi d) (qr S.length)
  have t1:toP 9 (.ref S.length) m=Y (.lst A,m.set S.length (.fz (.lst A))):=dS (by simp[m,a]);have t2:toP 9 (.ref a.length) (m.set S.length (.fz (.lst A)))=Y (.lst X,(m.set S.length (.fz (.lst A))).set a.length (.fz (.lst X))):=dS (by rw[a6 (by simp[a])];exact xz _ _);generalize hT:(m.set S.length (.fz (.lst A))).set a.length (.fz (.lst X))=T at t2;have hS0:m[0]? = Y (.lst (M.map .p)):=by rw[ce (by simp[a]),ce hl0];exact h3
  have hT0:T[0]? = Y (.lst (M.map .p)):=by rw[<- hT,a6 (by simp[a]),a6 (by lia)];exact hS0
  refine⟨(F Q N C E q),(G I s (qr a.length)),T.set 0 (.lst ((M++[P.tup [.int (r:Int),.tup A,.tup X]]).map .p)),rfl,?_,M++[P.tup [.int (r:Int),.tup A,.tup X]],_,_,_,_,_,_,_,by simp[h1],yB h2 (λf hf'=>?_),FX hT0,rfl⟩
  .unfold dX;rw [am (x:=(F (qi d) N C E q)) (a:=S) (by simp [F,G,e1,e2])];rw [am (x:=(G C E q)) (a:=S++[.lst []]) (by simp [G,F])];rw [am (x:=(G R s q)) (a:=a) (by
    rw[bD,fN,show(ab j4 jF) (G C E q) (S++[.lst []])=Y (.lst l,S++[.lst []]) by simp[G,F,OE]];exact e3)]
   rw[am (x:=(G R s (qr a.length))) (a:=a++[.lst []]) (by simp[G,F])];rw[am (x:=(G I s (qr a.length))) (a:=m) (by rw[bD,show ji (d5 (O (ab j4 nP))) (G R s (qr a.length)) (a++[.lst []])=Y (intsFrom 0 w.length,a++[.lst []]) by simp[G,F,RT,d_,fD,hwn]];exact e4)]
   refine xy (k:=0) (c:=M) (x:=T) rfl hS0 ?_ hT0 (by lia);have m1:(aE iO (d5 (O (ab j4 gc)))) (G I s (qr a.length)) m=Y (.int (r:Int),m):=by simp[G,F,RE,d_,fD,hr0,hr]
   have m2:(bj a_ (v1 lO)) (G I s (qr a.length)) m=Y (.tup A,m.set S.length (.fz (.lst A))):=by show cg (cg (toP 9 (.ref S.length) m) _) _=_;rw[t1];rfl
   have m3:(bj a_ (v1 iP)) (G I s (qr a.length)) (m.set S.length (.fz (.lst A)))=Y (.tup X,T):=by show cg (cg (toP 9 (.ref a.length) (m.set S.length (.fz (.lst A)))) _) _=_;rw[t2];rfl
   simp only[O,aQ,aB,m1,m2,m3,al,aU];rfl
  .rw [h1,cP,hf]at hf';cases hf';exact⟨nm,K,o,l,w,t,rfl,r,A,X,rfl,by lia,hcs,hw1,hw2⟩) ⟨[],Z,q5,Q,N,C,E,q,rfl,λk x h=>(by simp at h),rfl,rfl⟩
 rw[dB,cP]at h1;exact⟨M,S',_,_,_,_,_,_,_,h1,λk f x hf hx=>h2 k x hx f hf,h3,e⟩
theorem F0{B:BD}(hP:Pln B.fams B.roads B.wishes){n:Nat}(Q:List Int){r:Nat}{S0:aM}{x0:SO}(h0:S0[0]? = Y x0)(hr:S0[r]? = Y (.lst []))(hr0:0 < r)(R V W X Z a7 a9 u C z j l q s:Option D) :
  ∃(rds:List P)(S':aM)(q6' q8' E I t M:Option D),DO B rds/\S'[0]? = Y x0/\S'[r]? = Y (.lst (rds.map .p)) /\
   bx (be [ah 12,ah 13]) (dU (Ph (n+2))) (bE 0 B.PR) [U (fW Q),R,V,W,X,Z,C,a7,z,a9,u,qr r,j,l,q,s] S0=Y (.nx,[U (fW Q),R,V,W,X,Z,q6',a7,q8',a9,u,qr r,E,I,t,M],S'):=by
 have h4:=nN hP;obtain⟨L',S',e,H,q6',q8',E,I,t,M,h1,h2,h3,h5,rfl⟩:=bN (g:=be [ah 12,ah 13]) (b:=dU (Ph (n+2))) (Inv:=fun i L S=>∃(H:List P) (C z j l q s:Option D),H.length=i/\(∀r ∈ H,∃K,m7 K/\r=.tup K)/\S[0]? = Y x0/\S[r]? = Y (.lst (H.map .p))/\L=[U (fW Q),R,V,W,X,Z,C,a7,z,a9,u,qr r,j,l,q,s]) (s:=bE 0 B.PR) (k:=0) (L:=[U (fW Q),R,V,W,X,Z,C,a7,z,a9,u,qr r,j,l,q,s]) (S:=S0) (fun i v L S hv hI=>by
  obtain⟨x,hx,rfl⟩:=gi hv;have hi:=bB hx;obtain⟨road,hro,a,b,rfl⟩:=Ij (bg hx);obtain⟨ra,rb,kd,c,d1,d2,_,_,hkd,hc1,hc2,rfl⟩:=hP.hr road hro;obtain⟨H,C,z,j,l,q,s,h1,h2,h3,h5,rfl⟩:=hI;obtain⟨c',d,hd,e1,e2⟩:=iE (n:=n) Q (k:=34+(i:Int) % 20) (p:=33+(i:Int) / 20) (by lia) (by lia) (by lia);have m0:0≤d % (c+1):=cY _ (by lia);have m1:d % (c+1) < c+1:=dE _ (by lia);have hcp:0 < c+1:=by lia
  obtain⟨m,hm⟩:∃m:Nat,d % (c+1)=(m:Int):=⟨(d % (c+1)).toNat,by lia⟩;obtain⟨K,y,f,hl1,hl2,e3⟩:=JJ (T:=Ph (n+2)) (ι:=Ph (n+1)) m (by lia) d S (U (fW Q)) R V W X Z a7 a9 u (qr r) (qi (i:Int)) (U (pr (.tup [.str ra,.str rb,.str kd,.int c,.bl d1,.bl d2]) a b)) z s;have hrl:=bB h5;have hls:m7 K:=⟨by lia,hl2⟩;generalize hp:pr (.tup [.str ra,.str rb,.str kd,.int c,.bl d1,.bl d2]) a b=pp at e3;have N:iM pp (.int 0)=Y (.tup [.str ra,.str rb,.str kd,.int c,.bl d1,.bl d2]):=by rw[<- hp];simp[pr]
  let F:Option D->Option D->Option D->Option D->Lc:=λC z q s=>[U (fW Q),R,V,W,X,Z,C,a7,z,a9,u,qr r,qi (i:Int),U pp,q,s]
  let G:=F (qi d)
  let w:aM:=S++[.lst (K.map .p)]
  have T0:∀(o:SO),(S++[o])[0]? = Y x0/\(S++[o])[r]? = Y (.lst (H.map .p)):=λo=>⟨by rw[ce (by lia)];exact h3,by rw[ce hrl];exact h5⟩;have fin:∃(A:List P)(q:Option D)(T:aM),m7 A/\T[0]? = Y x0/\T[r]? = Y (.lst (H.map .p)) /\
    ai (fm (bw (O (ab (ab lL eU) gc)) (O (vt "heap"))) (aA 14 (O (uv (aj 14)))) gf) (bW (bC (aj 11) (O (bj a_ (v1 (vv 14)))))) (G y (qr S.length) f) w=Y (.nx,(G y q f),T.set r (.lst ((H++[P.tup A]).map .p))):=by
   by_cases hh:kd="heap"
   .obtain⟨A,hz,ez⟩:=uD hls;refine⟨A,ql A,w,hz,(T0 _).1,(T0 _).2,?_⟩;rw[am (x:=(G y (ql A) f)) (a:=w) (by simp[G,F,w,N,hh,FY,CN,ez])];exact xy rfl (T0 _).2 (by simp[G,F,a_]) (T0 _).2 (by lia)
   .have t1:toP 9 (.ref S.length) w=Y (.lst K,w.set S.length (.fz (.lst K))):=dS (by simp[w]);have hT:(w.set S.length (.fz (.lst K)))[r]? = Y (.lst (H.map .p)):=by rw[a6 (by lia)];exact(T0 _).2
    refine⟨K,qr S.length,w.set S.length (.fz (.lst K)),hls,by rw[a6 (by lia)];exact(T0 _).1,hT,?_⟩;rw[am (x:=(G y (qr S.length) f)) (a:=w) (by simp[G,F,N,hh])];refine xy rfl (T0 _).2 ?_ hT (by lia);show cg (cg (cg (toP 9 (.ref S.length) w) _) _) _=_;rw[t1];rfl
  obtain⟨A,t,T,hz,hT0,hTr,e4⟩:=fin;refine⟨(F C z q s),(G y t f),T.set r (.lst ((H++[P.tup A]).map .p)),rfl,?_,H++[P.tup A],_,_,_,_,_,_,by simp [h1],eQ h2 ⟨A,hz,rfl⟩,by rw [a6 (by lia)];exact hT0,FX hTr,rfl⟩;unfold dU;rw [am (x:=(G z q s)) (a:=S) (by simp [G,F,e1,e2])];rw [am (x:=(G z (qr S.length) s)) (a:=S++[.lst []]) (by simp [G,F])];rw [am (x:=(G y (qr S.length) f)) (a:=w) (by
   have hm3:m < 1000000:=by lia
   rw[bD,Dr];simp only[G,F]at e3 ⊢;simp[N,hcp,hm,hm3,e3,w])]
  exact e4) ⟨[],C,z,j,l,q,s,rfl,λ_ h=>(by cases h),h0,hr,rfl⟩
 rw[dB,cP]at h1;exact⟨H,S',_,_,_,_,_,_,⟨h1,h2⟩,h3,h5,e⟩
theorem Mz(k:Pln B.fams B.roads B.wishes)(a:List Int):∃st,Ra B st/\cm (Ph (n+5) "_law_standing") [fW a,bH B]=Y st:=by
 obtain⟨e,h,m,t,p,v,w,u,q,z,y,b,g⟩:=F4 k (n:=n+2) a Vk Vk Vk Vk Vk Vk Vk Vk Vk Vk Vk Vk;obtain⟨s,f,E,G,K,A,C,D,o,H,F,i⟩:=F0 k (n:=n+2) a (r:=h.length) (S0:=h++[.lst []]) (x0:=.lst (e.map .p)) (by rw[ce (bB b)];exact b) (xz _ _) (bB b) (U (bH B)) (qr 0) (ql (ao B.fams)) m t v u q p w Vk Vk Vk Vk;refine⟨.tup [.tup e,.tup s],⟨e,s,rfl,z,y,o⟩,?_⟩;have j:=Dj (n:=n+2) k.hf k.f0.2 (.lst B.roads) (.lst B.wishes);have l:=Dh (n:=n) k;have c:(0:Nat)≠h.length:=by have:=bB b;lia
 have I:toP 9 (.ref 0) f=Y (.lst e,f.set 0 (.fz (.lst e))):=dS H;have L:toP 9 (.ref h.length) (f.set 0 (.fz (.lst e)))=Y (.lst s,(f.set 0 (.fz (.lst e))).set h.length (.fz (.lst s))):=dS (by rw[a6 c];exact F);rw[pM,aD];show(match il _ [U (fW a),U (bH B),Vk,Vk,Vk,Vk,Vk,Vk,Vk,Vk,Vk,Vk,Vk,Vk,Vk,Vk] [] with|some (.rt d,_,S)=>(toP 9 d S).map (λx=>x.fst)|some (.nx,_,_)=>Y .non|_=>Vk)=Y (P.tup [.tup e,.tup s]);unfold il;rw[am (x:=[U (fW a),U (bH B),qr 0,Vk,Vk,Vk,Vk,Vk,Vk,Vk,Vk,Vk,Vk,Vk,Vk,Vk]) (a:=[.lst []]) (by simp)];rw[am (x:=[U (fW a),U (bH B),qr 0,ql (ao B.fams),Vk,Vk,Vk,Vk,Vk,Vk,Vk,Vk,Vk,Vk,Vk,Vk]) (a:=[.lst []]) (by simp[j])];rw[am (by rw[bD,show fN fV [U (fW a),U (bH B),qr 0,ql (ao B.fams),Vk,Vk,Vk,Vk,Vk,Vk,Vk,Vk,Vk,Vk,Vk,Vk] [.lst []]=Y (bE 0 (ao B.fams),[.lst []]) by simp];exact g)];rw[am (x:=[U (fW a),U (bH B),qr 0,ql (ao B.fams),m,t,p,v,w,u,q,qr h.length,Vk,Vk,Vk,Vk]) (a:=h++[.lst []]) (by simp)];rw[am (by rw[bD,show fN (cf (Ph (n+4) "_law_pairs") (v1 cw)) [U (fW a),U (bH B),qr 0,ql (ao B.fams),m,t,p,v,w,u,q,qr h.length,Vk,Vk,Vk,Vk] (h++[.lst []])=Y (bE 0 B.PR,h++[.lst []]) by simp[l,BD.PR,BD.N]];exact i)];simp[I,L,a_]
noncomputable def ag(s:List Nat):List P:=s.map λ(k:Nat)=>P.int (k:Int)
def tups(r:List (List Nat)):List P:=r.map λk=>P.tup (ag k)
noncomputable def Pt(m:List Nat)(h:Nat)(f:List (List Nat)):List (List Nat):=f.flatMap λst=>((List.range m.length).filter λk=>(m.getD k 0 == h) && !st.contains k).map λk=>st++[k]
def PQ(m:List Nat):List Nat->List (List Nat)->List (List Nat)
 | [],f=>f
 |h::r,f=>PQ m r (Pt m h f)
def fq(h:List Nat):List (List Nat):=PQ h h [[]]
def PP(x:Str->GF)(p:P)(h:List Nat):Option P:=
 match bx (ah 3) (kI x) (ag h) [Y (.p p),Y (.p (.lst (ag h))),Y (.p (.lst [.tup []])),Vk,Vk,Vk,Vk] [] with
 | some (.nx,L,S)=>(match L[2]? with
  |some (Y d)=>(toP 9 d S).map (·.1)
  |_=>Vk)
 |_=>Vk
noncomputable def j6(a b:List Nat):List Nat:=a.map λk=>b.getD k 0
def uK(h:List Nat):Bool:=decide (0 < h.length) && decide (h.length≤4) && decide ((fq h).head? = Y (List.range h.length)) && decide (fq h).Nodup && decide ((fq h).length≤24) &&
 (fq h).all λa=>gh (a.map λ(k:Nat)=>(k:Int)) && decide (a.length=h.length) && decide (a.map (h.getD · 0)=h) && (fq h).contains (du (a.map λ(k:Nat)=>(k:Int))) && (fq h).all λb=>(fq h).contains (j6 a b)
structure Shp(hm:List Nat):Prop where
 run:∀ψ pl,PP ψ pl hm=Y (.lst (tups (fq hm)))
 ok:uK hm=Vl
theorem SU:Shp [0]:=⟨λ_ _=>by kernel_rfl,by decide +kernel⟩
theorem SS:Shp [0,0]:=⟨λ_ _=>by kernel_rfl,by decide +kernel⟩
theorem SR:Shp [0,0,0]:=⟨λ_ _=>by kernel_rfl,by decide +kernel⟩
theorem SQ:Shp [0,0,0,0]:=⟨λ_ _=>by kernel_rfl,by decide +kernel⟩
theorem SN:Shp [0,1]:=⟨λ_ _=>by kernel_rfl,by decide +kernel⟩
theorem SM:Shp [0,1,1]:=⟨λ_ _=>by kernel_rfl,by decide +kernel⟩
theorem SK:Shp [0,0,1]:=⟨λ_ _=>by kernel_rfl,by decide +kernel⟩
theorem SJ:Shp [0,0,1,1]:=⟨λ_ _=>by kernel_rfl,by decide +kernel⟩
theorem SI:Shp [0,1,2]:=⟨λ_ _=>by kernel_rfl,by decide +kernel⟩
theorem PB:Shp [0,1,2,3]:=⟨λ_ _=>by kernel_rfl,by decide +kernel⟩
def cJ(f:List P):List Nat:=(hw 0 f).map (·.1)
theorem Ho(f:List P):cI f=ag (cJ f):=by simp[cI,cJ,ag]
theorem lX(h:Pln m o w):Shp (cJ m):=by
 obtain⟨c,K,l⟩:=h.cr;have F:∀f ∈ m,1≤bu f:=λf n=>by
  obtain⟨A,i,v,p,H,u,k,rfl⟩:=h.hf f n;have:=k.hcr
  simp[bu];lia
 have y:∀s:List P,(∀f ∈ s,1≤bu f/\bu f≤c)->s.length * c≤4->1≤s.length->Shp (cJ s):=by
  intro s x l S;match s,x,l,S with
  | [a],x,l,_=>
   have t:=x a (by simp);have hk:bu a=1\/bu a=2\/bu a=3\/bu a=4:=by simp at l;lia
   have e:cJ [a]=List.replicate (bu a) 0:=by simp[cJ,hw]
   rw[e];rcases hk with h|h|h|h<;>rw[h]
   .exact SU
   .exact SS
   .exact SR
   .exact SQ
  | [a,b],x,l,_=>
   have t:=x a (by simp);have z:=x b (by simp);simp only[aS,i']at l;have hk:bu a=1\/bu a=2:=by lia
   have q:bu b=1\/bu b=2:=by lia
   have e:cJ [a,b]=List.replicate (bu a) 0++List.replicate (bu b) 1:=by simp[cJ,hw]
   rw[e];rcases hk with h|h<;>rcases q with j|j<;>rw[h,j]
   .exact SN
   .exact SM
   .exact SK
   .exact SJ
  | [a,b,d],x,l,_=>
   have t:=x a (by simp);have z:=x b (by simp);have hd:=x d (by simp);simp only[aS,i']at l;have e:cJ [a,b,d]=List.replicate (bu a) 0++(List.replicate (bu b) 1++List.replicate (bu d) 2):=by simp[cJ,hw]
   rw[e,show bu a=1 by lia,show bu b=1 by lia,show bu d=1 by lia];exact SI
  | [a,b,d,f],x,l,_=>
   have t:=x a (by simp);have z:=x b (by simp);have hd:=x d (by simp);have n:=x f (by simp);simp only[aS,i']at l;have e:cJ [a,b,d,f]=List.replicate (bu a) 0++(List.replicate (bu b) 1++(List.replicate (bu d) 2++List.replicate (bu f) 3)):=by simp[cJ,hw]
   rw[e,show bu a=1 by lia,show bu b=1 by lia,show bu d=1 by lia,show bu f=1 by lia];exact PB
  |a::b::d::f::g::r,x,l,_=>have t:=x a (by simp);simp only[aS]at l;have:5 * 1≤(r.length+1+1+1+1+1) * c:=Nat.mul_le_mul (by lia) (by lia);lia
 exact y m (λf n=>⟨F f n,K f n⟩) l h.f0.1
set_option tactic.hygienic true in
theorem MQ(h:Pln f o w):cm (Ph (n+3) "renamings") [.tup [.lst f,.lst o,.lst w]]=Y (.lst (tups (fq (cJ f)))):=by
 have s:=w8 (n:=n) h.hf h.f0.2 (.lst o) (.lst w);have r:=(lX h).run (Ph (n+2)) (.tup [.lst f,.lst o,.lst w]);unfold PP at r;split at r
 .rename_i L S a;split at r
  .rename_i d e;rw[t8,aD];show(match j_ (Ph (n+2)) [Y (.p (.tup [.lst f,.lst o,.lst w])),Vk,Vk,Vk,Vk,Vk,Vk] [] with|some (.rt d,_,S)=>(toP 9 d S).map (λx=>x.fst)|some (.nx,_,_)=>Y .non|_=>Vk)=Y (P.lst (tups (fq (cJ f))));unfold j_;rw[am (x:=[Y (.p (.tup [.lst f,.lst o,.lst w])),Y (.p (.lst (ag (cJ f)))),Vk,Vk,Vk,Vk,Vk]) (a:=[]) (by simp[s,Ho])];rw[am (x:=[Y (.p (.tup [.lst f,.lst o,.lst w])),Y (.p (.lst (ag (cJ f)))),Y (.p (.lst [.tup []])),Vk,Vk,Vk,Vk]) (a:=[]) (by simp)];rw[am (by rw[bD,show eR (vE (aj 1)) [Y (.p (.tup [.lst f,.lst o,.lst w])),Y (.p (.lst (ag (cJ f)))),Y (.p (.lst [.tup []])),Vk,Vk,Vk,Vk] []=Y (ag (cJ f),[]) by simp];exact a)];rw[bh,aj,e];exact r
  .cases r
 .cases r
end My
namespace My
open PySem L2 Ev
theorem li[DecidableEq r](x:r)(y:D):∀(s:List r)(a:List D),s.Nodup->s.length=a.length->(ee x y s a).1.Nodup/\(ee x y s a).1.length=(ee x y s a).2.length/\(ee x y s a).1.length≤s.length+1/\(∀k ∈ (ee x y s a).1,k=x\/k ∈ s)/\∀k,cB k (ee x y s a).1 (ee x y s a).2=if x=k then Y y else cB k s a
 | [],[],_,_=>⟨by simp[ee],rfl,by simp[ee],λk h=>.inl (by simpa[ee] using h),λk=>by by_cases q:x=k<;>simp[ee,cB,q]⟩
 | [],_::_,_,h=>by simp at h
 |_::_,[],_,h=>by simp at h
 |n::s,v::a,b,l=>by
  obtain⟨hk,b⟩:=cA.mp b;by_cases q:n=x
  .have e:ee x y (n::s) (v::a)=(n::s,y::a):=by simp[ee,q]
   rw[e];refine⟨cA.mpr ⟨hk,b⟩,by simpa using l,by simp,λk h=>.inr h,λk=>?_⟩;subst q;by_cases f:n=k<;>simp[cB,f]
  .obtain⟨t,p,w,c,d⟩:=li x y s a b (by simpa using l);have e:ee x y (n::s) (v::a)=(n::(ee x y s a).1,v::(ee x y s a).2):=by simp[ee,q]
   rw[e];refine⟨cA.mpr ⟨λz=>?_,t⟩,by simp[p],by simp;lia,λk h=>?_,λk=>?_⟩
   .rcases c n z with z|z
    .exact q z
    .exact hk z
   .rcases bc.mp h with rfl|h
    .exact .inr aK
    .rcases c k h with h|h
     .exact .inl h
     .exact .inr (aL _ h)
   .show (if n=k then Y v else cB k (ee x y s a).1 (ee x y s a).2)=_;by_cases f:n=k
    .subst f;have:¬x=n:=λz=>q z.symm
     simp[cB,this]
    .rw [ae f,d];by_cases m:x=k
     .simp [m]
     .simp [m,cB,f]
def f6(p:P):List ci:=[.inl (iv (bI p 1)),.inl (iv (bI p 2))]
noncomputable abbrev KV:=List (List ci)×List D
def putAll:Nat->List P->KV->KV
 |_,[],s=>s
 |k,p::r,s=>putAll (k+1) r (ee (f6 p) (.p (.int (k:Int))) s.1 s.2)
structure KVok(s:KV):Prop where
 nd:s.1.Nodup
 ln:s.1.length=s.2.length
theorem KVok.put(h:KVok x)(k:List ci)(y:D):KVok (ee k y x.1 x.2):=by obtain⟨a,e,_⟩:=li k y x.1 x.2 h.nd h.ln;exact⟨a,e⟩
set_option tactic.hygienic true in
theorem yc:∀(c:List P)(k:Nat)(s:KV),KVok s->∀y d,cB y (putAll k c s).1 (putAll k c s).2=Y d->cB y s.1 s.2=Y d\/∃(j:Nat)(p:P),c[j]? = Y p/\f6 p=y/\d=.p (.int ((k+j:Nat):Int))
 | [],k,s,h,y,d,e=>.inl e
 |p::r,k,s,h,y,d,e=>by
  rcases yc r (k+1) _ (h.put (f6 p) (.p (.int (k:Int)))) y d e with e|⟨j,f,a,x,n⟩
  .rw [(li (f6 p) (.p (.int (k:Int))) s.1 s.2 h.nd h.ln).2.2.2.2]at e;split at e
   .rename_i hk;cases e;exact .inr ⟨0,p,rfl,hk,rfl⟩
   .exact .inl e
  .exact .inr ⟨j+1,f,by simpa using a,x,by rw[n,show k+1+j=k+(j+1) by lia]⟩
theorem wL:∀(c:List P)(k:Nat)(s:KV),KVok s->∀y,((∃d,cB y s.1 s.2=Y d)\/∃p ∈ c,f6 p=y)->∃d,cB y (putAll k c s).1 (putAll k c s).2=Y d
 | [],k,s,h,y,q=>by
  rcases q with q|⟨_,z,_⟩
  .exact q
  .cases z
 |p::r,k,s,h,y,q=>by
  refine wL r (k+1) _ (h.put (f6 p) (.p (.int (k:Int)))) y ?_;have e:=(li (f6 p) (.p (.int (k:Int))) s.1 s.2 h.nd h.ln).2.2.2.2 y;by_cases w:f6 p=y
  .exact .inl ⟨_,by rw[e,ac w]⟩
  .rcases q with ⟨d,q⟩|⟨x,z,q⟩
   .exact .inl ⟨d,by rw[e,ae w];exact q⟩
   .rcases bc.mp z with rfl|z
    .exact absurd q w
    .exact .inr ⟨x,z,q⟩
theorem Kt:KVok ([],[]):=⟨by simp,rfl⟩
def ib(a:List Nat)(p:P):P:=.tup [bI p 0,.int ((a.getD (iv (bI p 1)).toNat 0:Nat):Int),.int ((a.getD (iv (bI p 2)).toNat 0:Nat):Int)]
theorem Lm(a:List Nat)(f b:D):∀(c:List P)(k:Nat)(s:KV),KVok s->s.1.length+c.length≤900000->(∀p ∈ c,∃(r:P)(x y:Nat),x < a.length/\y < a.length/\p=.tup [r,.int (x:Int),.int (y:Int)])->∀(t v:Option D)(S:aM),S[j]? = Y (.dtt s.1 s.2)->∃q n,
  bx (be [ah 4,ah 5]) (ga A) (bE (k:Int) c) [Y f,Y b,Y (.p (.tup (ag a))),Y (.ref j),t,v] S=Y (.nx,[Y f,Y b,Y (.p (.tup (ag a))),Y (.ref j),q,n],S.set j (.dtt (putAll k (c.map (ib a)) s).1 (putAll k (c.map (ib a)) s).2))
 | [],k,s,_,_,_,t,v,S,m=>⟨t,v,by show Y (Fl.nx,_,S)=Y (.nx,_,S.set j (.dtt s.1 s.2));obtain⟨h,e⟩:=aX.mp m;rw[<- e,jQ]⟩
 |p::r,k,s,h,o,i,t,v,S,m=>by
  simp only[aS]at o;obtain⟨d,x,y,H,F,rfl⟩:=i p aK;have K:=(li (f6 (ib a (.tup [d,.int (x:Int),.int (y:Int)]))) (.p (.int (k:Int))) s.1 s.2 h.nd h.ln).2.2.1;obtain⟨q,n,e⟩:=Lm (A:=A) a f b r (k+1) _ (h.put (f6 (ib a (.tup [d,.int (x:Int),.int (y:Int)]))) (.p (.int (k:Int)))) (by lia) (λp g=>i p (aL _ g)) (Y (.p (.int (k:Int)))) (Y (.p (.tup [d,.int (x:Int),.int (y:Int)]))) (S.set j (.dtt (ee (f6 (ib a (.tup [d,.int (x:Int),.int (y:Int)]))) (.p (.int (k:Int))) s.1 s.2).1 (ee (f6 (ib a (.tup [d,.int (x:Int),.int (y:Int)]))) (.p (.int (k:Int))) s.1 s.2).2)) (cF (bB m));refine⟨q,n,?_⟩;unfold bE;rw[aC,putAll];rw[jk,dF]at e;refine(cq (h:=[Y f,Y b,Y (.p (.tup (ag a))),Y (.ref j),Y (.p (.int (k:Int))),Y (.p (.tup [d,.int (x:Int),.int (y:Int)]))]) rfl ?_).trans e;have u:=h.nd;have w:s.1.length≤1000000:=by lia
  have l:L2.atI (ag a) (x:Int)=Y (.int ((a.getD x 0:Nat):Int)):=bY (by simp[ag,H]);have z:L2.atI (ag a) (y:Int)=Y (.int ((a.getD y 0:Nat):Int)):=bY (by simp[ag,F]);simp[ga,D_,d7,dH,u,w,f6,ib,m,l,z]
theorem Oe:aT Att "Renamer" "renaming"=Vl:=by decide +kernel
theorem Od:aT Att "Renamer" "becomes"=Vl:=by decide +kernel
theorem Oc:aT Att "Renamer" "sources"=Vl:=by decide +kernel
theorem Ob:aT Att "Renamer" "road_sources"=Vl:=by decide +kernel
noncomputable def aF(a:List Nat):List Int:=a.map λ(k:Nat)=>(k:Int)
def lY(a:List Nat)(c:List P):List P:=c.map λp=>match cB (f6 p) (putAll 0 (c.map (ib a)) ([],[])).1 (putAll 0 (c.map (ib a)) ([],[])).2 with
 |some (.p v)=>v
 |_=>.non
noncomputable def oD:LS:=["renaming","becomes","sources","road_sources"]
def qv(a:List Nat)(c:List P):List P:=[.tup (ag a),.tup (ag a++[.int (-1)]),.lst (ag (du (aF a))),.lst (lY a c)]
variable{n:Nat}{a:List Nat}{c:List P}
theorem KC(t:gh (aF a)=Vl)(H:c.length≤900000)(g:∀p ∈ c,∃(r:P) (x y:Nat),x < a.length/\y < a.length/\p=.tup [r,.int (x:Int),.int (y:Int)])
  (hk:∀p ∈ c,∃v,cB (f6 p) (putAll 0 (c.map (ib a)) ([],[])).1 (putAll 0 (c.map (ib a)) ([],[])).2=Y (.p v)) (T:aM) :
  Ph (n+2) "Renamer.__init__" [.ref T.length,.p (.lst c),.p (.tup (ag a))] (T++[.ins "Renamer" [] []]) =
   Y (.p .non,T++[.ins "Renamer" oD ((qv a c).map .p),.dtt (putAll 0 (c.map (ib a)) ([],[])).1 (putAll 0 (c.map (ib a)) ([],[])).2]):=by
 let L:Option D->Option D->Option D->Lc:=λN h e=>[Y (.ref T.length),Y (.p (.lst c)),Y (.p (.tup (ag a))),N,h,e]
 have G:pX (ag a)=Y (aF a):=by
  clear hk g H t;induction a with
  |nil=>rfl
  |cons k r K=>simp only[ag,aF,aC,pX]at K ⊢;rw[K];rfl
 have m:a.length < 64:=by have:=(fL t).1;simpa[aF] using this
 have d:lI (.tup (ag a)) (.tup [.int (-1)])=Y (.tup (ag a++[.int (-1)])):=by
  cases a with
  |nil=>rfl
  |cons k r=>show tB (.tup (ag (k::r))) (.tup [.int (-1)])=_;simp only[ag,aS]at m ⊢;simp[tB,few];try lia
 rw[pO];show sI (iu (Ph (n+1)) (L Vk Vk Vk) (T++[.ins "Renamer" [] []]))=_;unfold iu;rw[am (x:=L Vk Vk Vk) (a:=T++[.ins "Renamer" ["renaming"] [.p (.tup (ag a))]]) (by simp[L,Oe,Ev.putK,Ev.oE])];rw[am (x:=L Vk Vk Vk) (a:=T++[.ins "Renamer" ["renaming","becomes"] [.p (.tup (ag a)),.p (.tup (ag a++[.int (-1)]))]]) (by simp[L,Od,Ev.putK,Ev.oE,d])];have l:xR 2 (d5 (aj 2)) (L Vk Vk Vk) (T++[.ins "Renamer" ["renaming","becomes"] [.p (.tup (ag a)),.p (.tup (ag a++[.int (-1)]))]])=Y (.lst (ag (du (aF a))),T++[.ins "Renamer" ["renaming","becomes"] [.p (.tup (ag a)),.p (.tup (ag a++[.int (-1)]))]]):=by
  have s:∀S:aM,d5 (aj 2) (L Vk Vk Vk) S=Y (.int (a.length:Int),S):=λS=>by simp[L,d_,fD,ag]
  have b:EC (Y (Y (.p (.tup (ag a))))) (.int (a.length:Int))=Y (.lst (ag (du (aF a)))):=by simp only[EC,G,eD];rw[ac (by rw[t];simp[aF])];rfl
  rw[xR,s,al];show iz _ (EC (Y (Y (.p (.tup (ag a))))) (.int (a.length:Int)))=_;rw[b];rfl
 rw[am (x:=L Vk Vk Vk) (a:=T++[.ins "Renamer" ["renaming","becomes","sources"] [.p (.tup (ag a)),.p (.tup (ag a++[.int (-1)])),.p (.lst (ag (du (aF a))))]]) (by rw[jS,O,l];simp[L,Oc,Ev.putK,Ev.oE])];rw[am (x:=L (Y (.ref (T.length+1))) Vk Vk) (a:=T++[.ins "Renamer" ["renaming","becomes","sources"] [.p (.tup (ag a)),.p (.tup (ag a++[.int (-1)])),.p (.lst (ag (du (aF a))))],.dtt [] []]) (by simp[L])];generalize I:SO.ins "Renamer" ["renaming","becomes","sources"] [.p (.tup (ag a)),.p (.tup (ag a++[.int (-1)])),.p (.lst (ag (du (aF a))))]=i;obtain⟨h,e,s⟩:=Lm (A:=Ph (n+1)) a (.ref T.length) (.p (.lst c)) (j:=T.length+1) c 0 ([],[]) Kt (by simpa using H) g Vk Vk (T++[i,.dtt [] []]) (by simp);generalize C:putAll 0 (c.map (ib a)) ([],[])=M at s hk ⊢;have b:(T++[i,.dtt [] []]).set (T.length+1) (.dtt M.1 M.2)=T++[i,.dtt M.1 M.2]:=by simp
 rw[b]at s;rw[am (x:=L (Y (.ref (T.length+1))) h e) (a:=T++[i,.dtt M.1 M.2]) (by rw[bD,show fN (vE (aj 1)) (L (Y (.ref (T.length+1))) Vk Vk) (T++[i,.dtt [] []])=Y (bE 0 c,T++[i,.dtt [] []]) by simp[L]];exact s)];have u:c.length≤1000000:=by lia
 have A:bp (eR (vE (aj 1))) [5] 0 (ah 5) eA (vE (ug (aj 3) (aB (gQ iM (vE (aj 5)) (vC (.int 1))) (aB (gQ iM (vE (aj 5)) (vC (.int 2))) aU)))) (L (Y (.ref (T.length+1))) h e) (T++[i,.dtt M.1 M.2])=Y (.lst (lY a c),T++[i,.dtt M.1 M.2]):=by
  have E:bL (ah 5) eA (vE (ug (aj 3) (aB (gQ iM (vE (aj 5)) (vC (.int 1))) (aB (gQ iM (vE (aj 5)) (vC (.int 2))) aU)))) c (L (Y (.ref (T.length+1))) h Vk) (T++[i,.dtt M.1 M.2])=Y (lY a c,T++[i,.dtt M.1 M.2]):=by
   have w:lY a c=(c.filter λ_=>Vl).map λp=>match cB (f6 p) M.1 M.2 with
     |some (.p v)=>v
     |_=>.non:=by rw[lY,C,jO.mpr (λ_ _=>rfl)]
   rw[w];refine dC (Inv:=λo=>∃q,o=L (Y (.ref (T.length+1))) h q) (λp f o B=>?_) ⟨Vk,rfl⟩;obtain⟨q,rfl⟩:=B;obtain⟨r,x,y,Q,R,rfl⟩:=g p f;obtain⟨v,F⟩:=hk _ f;refine⟨L (Y (.ref (T.length+1))) h (Y (.p (.tup [r,.int (x:Int),.int (y:Int)]))),rfl,⟨_,rfl⟩,by simp,λ_=>?_⟩;have z:cB [Sum.inl (x:Int),Sum.inl (y:Int)] M.1 M.2=Y (.p v):=F;rw[F];simp[L,qz,d7,dH,z]
  unfold bp;rw[show eR (vE (aj 1)) (L (Y (.ref (T.length+1))) h e) (T++[i,.dtt M.1 M.2])=Y (c,T++[i,.dtt M.1 M.2]) by simp[L],al,ac (by rw[iR];exact u)];rw[show m9 [5] 0 (L (Y (.ref (T.length+1))) h e)=L (Y (.ref (T.length+1))) h Vk from rfl,E];rfl
 rw[jS,O,A];subst I;simp[L,Ob,Ev.putK,Ev.oE,oD,qv]
def MR(a:List Nat)(c:List P):P:=.obj "Renamer" oD (qv a c)
structure RenArg(a:List Nat)(ps:List P):Prop where
 ha:gh (aF a)=Vl
 hl:ps.length≤900000
 hp:∀p ∈ ps,∃(r:P)(x y:Nat),x < a.length/\y < a.length/\p=.tup [r,.int (x:Int),.int (y:Int)]
 hk:∀p ∈ ps,∃v,cB (f6 p) (putAll 0 (ps.map (ib a)) ([],[])).1 (putAll 0 (ps.map (ib a)) ([],[])).2=Y (.p v)
def qk(d:D)(S:aM)(a:List Nat)(c:List P):Prop:=d=.p (MR a c)\/∃i,d=.ref i/\S[i]? = Y (.ins "Renamer" oD ((qv a c).map .p))
variable{d:D}{S:aM}
theorem rJ(h:qk d S a c)(o:f L S=Y (d,S)) :
  bR (aT Att) f "renaming" L S=Y (.p (.tup (ag a)),S)/\bR (aT Att) f "becomes" L S=Y (.p (.tup (ag a++[.int (-1)])),S)/\bR (aT Att) f "sources" L S=Y (.p (.lst (ag (du (aF a)))),S)/\bR (aT Att) f "road_sources" L S=Y (.p (.lst (lY a c)),S):=by
 rcases h with rfl|⟨i,rfl,x⟩
 .simp [o,MR,oD,qv,iI,Oe,Od,Oc,Ob]
 .simp [o,x,oD,qv,iI,Oe,Od,Oc,Ob]
noncomputable def j8(a:List Nat)(j:Int):Int:=if j < 0 then -1 else ((a.getD j.toNat 0:Nat):Int)
def eW(a:List Nat)(s:List P):List P:=s.map λw=>.int (j8 a (iv w))
theorem Ib(h:Eh a.length w):L2.atI (ag a++[.int (-1)]) (iv w)=Y (.int (j8 a (iv w)))/\∃j:Int,w=.int j:=by
 obtain⟨j,e,s,rfl⟩:=h;refine⟨?_,j,rfl⟩;show L2.atI (ag a++[.int (-1)]) j=Y (.int (j8 a j));by_cases x:j < 0
 .have:j=-1:=by lia
  subst this;rw[L2.atI_last];rfl
 .refine bn (by lia) ?_;have l:j.toNat < a.length:=by lia
  rw[ce (by simpa[ag] using l)];simp[ag,j8,x,l]
variable{i:Nat}{s:List P}
theorem Mb(h:qk d S a c)(u:(du (aF a))[i]? = Y x)(g:s[x]? = Y (.tup [r,p,.tup e]))(hw:∀w ∈ e,Eh a.length w)(D:e.length≤1000) :
  Ph (n+2) "Renamer.whos_at" [d,.p (.tup [.tup s,m]),.p (.int (i:Int))] S=Y (.p (.tup (eW a e)),S):=by
 let L:Lc:=[Y d,Y (.p (.tup [.tup s,m])),Y (.p (.int (i:Int)))]
 have f:=rJ h (f:=aj 0) (L:=L) rfl;have K:L2.atI (ag (du (aF a))) (i:Int)=Y (.int (x:Int)):=bY (by simp[ag,u]);have P:L2.atI s (x:Int)=Y (.tup [r,p,.tup e]):=bY g;have l:kF (bR (aT Att) (aj 0) "sources") (vE (aj 2)) L S=Y (.p (.int (x:Int)),S):=by rw[kF,f.2.2.1];simp[L,K]
 have X:gQ iM (gQ iM (gQ iM (vE (aj 1)) (vC (.int 0))) (vE (kF (bR (aT Att) (aj 0) "sources") (vE (aj 2))))) (vC (.int 2)) L S=Y (.tup e,S):=by
  have A:gQ iM (vE (aj 1)) (vC (.int 0)) L S=Y (.tup s,S):=by simp[L]
  have B:vE (kF (bR (aT Att) (aj 0) "sources") (vE (aj 2))) L S=Y (.int (x:Int),S):=by rw[vE,l];simp
  have C:gQ iM (gQ iM (vE (aj 1)) (vC (.int 0))) (vE (kF (bR (aT Att) (aj 0) "sources") (vE (aj 2)))) L S=Y (.tup [r,p,.tup e],S):=by rw[gQ,A,al,B,al];simp[P]
  rw[gQ,C,al];simp
 have F:bL (ah 3) eA (vE (kF (bR (aT Att) (aj 0) "becomes") (vE (aj 3)))) e (L++[Vk]) S=Y (eW a e,S):=by
  have H:eW a e=(e.filter λ_=>Vl).map λw=>.int (j8 a (iv w)):=by rw[eW,jO.mpr (λ_ _=>rfl)]
  rw[H];refine dC (Inv:=λt=>∃q,t=L++[q]) (λw k t z=>?_) ⟨Vk,rfl⟩;obtain⟨q,rfl⟩:=z;obtain⟨v,j,rfl⟩:=Ib (hw w k);refine⟨L++[Y (.p (.int j))],rfl,⟨_,rfl⟩,by simp,λ_=>?_⟩;have y:=rJ h (f:=aj 0) (L:=L++[Y (.p (.int j))]) rfl;have b:L2.atI (ag a++[.int (-1)]) j=Y (.int (j8 a j)):=v;rw[vE,kF,y.2.1];simp[L,b,iv]
 rw[m5];show sI (f_ (Ph (n+1)) L S)=_;unfold f_;have o:bp (eR (gQ iM (gQ iM (gQ iM (vE (aj 1)) (vC (.int 0))) (vE (kF (bR (aT Att) (aj 0) "sources") (vE (aj 2))))) (vC (.int 2)))) [] 1 (ah 3) eA (vE (kF (bR (aT Att) (aj 0) "becomes") (vE (aj 3)))) L S=Y (.lst (eW a e),S):=by unfold bp;rw[eR,X];simp only[al];rw[ac (by rw[iR];lia),show m9 [] 1 L=L++[Vk] from rfl,F];rfl
 rw[bh,O,bj,aB,o];simp[a_]
def hB(a:List Nat)(x:P):P:=.tup [bI x 0,bI x 1,.tup (eW a (i3 (bI x 2)))]
def jm(a:List Nat)(s:List P):List P:=(du (aF a)).map λk=>hB a (s.getD k .non)
def LX(a:List Nat)(c r:List P):List P:=(lY a c).map λv=>r.getD (iv v).toNat .non
noncomputable def BH(a:List Nat)(c s r:List P):P:=.tup [.tup (jm a s),.tup (LX a c r)]
theorem Ug(h:Str->GF):mT Tb h "Renamer" "whos_at"=Y (h "Renamer.whos_at"):=by kernel_rfl
theorem Ur:oD.contains "whos_at"=Vm:=by decide +kernel
theorem MC(h:gh z=Vl)(e:(du z)[i]? = Y k):k < z.length:=by obtain⟨_,m⟩:=fL h;unfold du at e;rw[bq]at e;obtain⟨j,x,rfl⟩:=eE.mp e;have a:j < z.length:=bM.mp (bg x);exact List.idxOf_lt_length_of_mem (m j a)
theorem GY(h:qk d S a c)(m:(du (aF a))[i]? = Y k)(t:s[k]? = Y (.tup [r,v,.tup f]))(hw:∀w ∈ f,Eh a.length w)(l:f.length≤1000)(o:p L S=Y (d,S))(has:b L S=Y ([.p (.tup [.tup s,x]),.p (.int (i:Int))],S)) :
  cL (mT Tb (Ph (n+2))) p "whos_at" b L S=Y (.p (.tup (eW a f)),S):=by
 have e:=Mb h (n:=n) (m:=x) m t hw l;rcases h with rfl|⟨j,rfl,q⟩
 .rw [cL,o,al];simp only[MR,Ug,Ur,has,al,je,fH];exact e
 .rw [cL,o,al];simp only[q,Ug,Ur,has,al,je,fH];exact e
def K'(n:Nat)(s:List P):Prop:=s.length=n/\∀(k:Nat)(x:P),s[k]? = Y x->∃r c h,x=.tup [r,c,.tup h]/\(∀w ∈ h,Eh n w)/\h.length≤1000
theorem JK(h:qk d S a c)(E:gh (aF a)=Vl)(G:K' a.length s) :
  ∃u l z o H:Option D,bx (be [ah 3,ah 4]) (bO (Ph (n+2))) (bE 0 (ag (du (aF a)))) [Y d,Y (.p (.tup [.tup s,.tup t])),Y (.ref S.length),Vk,Vk,Vk,Vk,Vk] (S++[.lst []]) =
   Y (.nx,[Y d,Y (.p (.tup [.tup s,.tup t])),Y (.ref S.length),u,l,z,o,H],S++[.lst ((jm a s).map .p)]):=by
 have Z:(aF a).length=a.length:=by simp[aF]
 have V:=(fL E).1;have hsl:(du (aF a)).length=a.length:=by unfold du;simp[aF]
 obtain⟨L',P,e,u,l,z,o,H,rfl,rfl⟩:=bN (g:=be [ah 3,ah 4]) (b:=bO (Ph (n+2))) (s:=bE 0 (ag (du (aF a)))) (k:=0)
  (Inv:=λi L P=>∃u l z o H:Option D,L=[Y d,Y (.p (.tup [.tup s,.tup t])),Y (.ref S.length),u,l,z,o,H]/\P=S++[.lst (((jm a s).take i).map .p)])
  (L:=[Y d,Y (.p (.tup [.tup s,.tup t])),Y (.ref S.length),Vk,Vk,Vk,Vk,Vk]) (S:=S++[.lst []]) (fun i v L P hv W=>by
   obtain⟨u,l,z,o,H,rfl,rfl⟩:=W;simp only[cP];obtain⟨x,B,rfl⟩:=gi hv;obtain⟨f,q,rfl⟩:∃f,(du (aF a))[i]? = Y f/\x=.int (f:Int):=by unfold ag at B;rw[bq]at B;obtain⟨f,q,I⟩:=eE.mp B;exact⟨f,q,I.symm⟩
   have hlt:=MC E q;obtain⟨y,K⟩:∃y,s[f]? = Y y:=⟨s[f]'(by have:=G.1;lia),by simp⟩;obtain⟨r,p,w,rfl,hw,A⟩:=G.2 f y K;have hi:i < (jm a s).length:=by have:=(aX.mp q).1;simpa[jm] using this
   have ht:(jm a s).take (i+1)=(jm a s).take i++[.tup [r,p,.tup (eW a w)]]:=by
    have hg:(jm a s)[i]? = Y (.tup [r,p,.tup (eW a w)]):=by unfold jm;rw[bq,q];simp[hB,K,bI,i3]
    rw[List.take_succ,hg];rfl
   let m:Lc:=[Y d,Y (.p (.tup [.tup s,.tup t])),Y (.ref S.length),Y (.p (.int (i:Int))),Y (.p (.int (f:Int))),Y (.p r),Y (.p p),Y (.p (.tup w))]
   have X:qk d (S++[.lst (((jm a s).take i).map .p)]) a c:=by
    rcases h with h|⟨j,T,C⟩
    .exact .inl h
    .exact .inr ⟨j,T,by rw[ce (aX.mp C).1];exact C⟩
   have R:=GY X (n:=n) (x:=.tup t) (p:=aj 0) (b:=cM (aj 1) (cM (aj 3) h_)) (L:=m) q K hw A rfl rfl;have s2:L2.atI s (f:Int)=Y (.tup [r,p,.tup w]):=bY K;have F:((jm a s).take i).length≤1000000:=by rw[gp];simp[jm]at hi ⊢;lia
   refine⟨_,m,_,rfl,?_,_,_,_,_,_,rfl,rfl⟩;unfold bO;rw[am (x:=m) (a:=S++[.lst (((jm a s).take i).map .p)]) (by simp[s2,m])];have Q:O (aQ (aB (vE (aj 5)) (aB (vE (aj 6)) (aB (vE (cL (mT Tb (Ph (n+2))) (aj 0) "whos_at" (cM (aj 1) (cM (aj 3) h_)))) aU)))) m (S++[.lst (((jm a s).take i).map .p)])=Y (.p (.tup [r,p,.tup (eW a w)]),S++[.lst (((jm a s).take i).map .p)]):=by
    have M:vE (cL (mT Tb (Ph (n+2))) (aj 0) "whos_at" (cM (aj 1) (cM (aj 3) h_))) m (S++[.lst (((jm a s).take i).map .p)])=Y (.tup (eW a w),S++[.lst (((jm a s).take i).map .p)]):=by rw[vE,R];simp
    have N:aB (vE (aj 5)) (aB (vE (aj 6)) (aB (vE (cL (mT Tb (Ph (n+2))) (aj 0) "whos_at" (cM (aj 1) (cM (aj 3) h_)))) aU)) m (S++[.lst (((jm a s).take i).map .p)])=Y ([r,p,.tup (eW a w)],S++[.lst (((jm a s).take i).map .p)]):=by rw[aB,show vE (aj 5) m (S++[.lst (((jm a s).take i).map .p)])=Y (r,S++[.lst (((jm a s).take i).map .p)]) by simp[m],al,aB,show vE (aj 6) m (S++[.lst (((jm a s).take i).map .p)])=Y (p,S++[.lst (((jm a s).take i).map .p)]) by simp[m],al,aB,M];rfl
    rw[O,aQ,N];rfl
   rw[ht,bW,bC,show aj 2 m (S++[.lst (((jm a s).take i).map .p)])=Y (.ref S.length,S++[.lst (((jm a s).take i).map .p)]) from rfl,al];simp only[Q,al];rw[gp]at F;simp[fu,F,m]) ⟨Vk,Vk,Vk,Vk,Vk,rfl,by simp⟩
 refine⟨u,l,z,o,H,?_⟩;rw[e,cP,dB,v_ (by simp[jm,ag])]
end My
namespace My
open PySem L2 Ev
theorem PK{d:D}{S:aM}{a:List Nat}{p:List P}(h:qk d S a p)(F:gh (aF a)=Vl){n:Nat}{x r:List P}(B:K' a.length x)(G:∀v ∈ lY a p,∃j:Nat,v=.int (j:Int)/\j < r.length)(V:p.length≤900000) :
  Ph (n+4) "Renamer.standing_behind" [d,.p (.tup [.tup x,.tup r])] S=Y (.p (BH a p x r),S++[.fz (.lst (jm a x))]):=by
 obtain⟨k,w,b,m,t,e⟩:=JK h F (n:=n+1) (t:=r) B;let L:Option D->Option D->Option D->Option D->Option D->Option D->Lc:=λN k w b m t=>[Y d,Y (.p (.tup [.tup x,.tup r])),N,k,w,b,m,t]
 have R:∀o:SO,qk d (S++[o]) a p:=λo=>by
  rcases h with h|⟨j,z,l⟩
  .exact .inl h
  .exact .inr ⟨j,z,by rw[ce (aX.mp l).1];exact l⟩
 rw[jj];show sI (db (Ph (n+3)) (L Vk Vk Vk Vk Vk Vk) S)=_;unfold db;rw[am (x:=L (Y (.ref S.length)) Vk Vk Vk Vk Vk) (a:=S++[.lst []]) (by simp[L])];have I:fN (vE (bR (aT Att) (aj 0) "sources")) (L (Y (.ref S.length)) Vk Vk Vk Vk Vk) (S++[.lst []])=Y (bE 0 (ag (du (aF a))),S++[.lst []]):=by
  have f:=(rJ (R (.lst [])) (f:=aj 0) (L:=L (Y (.ref S.length)) Vk Vk Vk Vk Vk) rfl).2.2.1;have u:vE (bR (aT Att) (aj 0) "sources") (L (Y (.ref S.length)) Vk Vk Vk Vk Vk) (S++[.lst []])=Y (.lst (ag (du (aF a))),S++[.lst []]):=by rw[vE,f];simp
  rw[fN,u];rfl
 rw[am (x:=L (Y (.ref S.length)) k w b m t) (a:=S++[.lst ((jm a x).map .p)]) (by rw[bD,I];exact e)];have Q:toP 9 (.ref S.length) (S++[.lst ((jm a x).map .p)])=Y (.lst (jm a x),S++[.fz (.lst (jm a x))]):=by rw[dS (M:=jm a x) (by simp)];simp
 have T:bj a_ (aB (vE (aj 2)) aU) (L (Y (.ref S.length)) k w b m t) (S++[.lst ((jm a x).map .p)])=Y (.tup (jm a x),S++[.fz (.lst (jm a x))]):=by simp[L,Q,a_]
 have g:(lY a p).length≤1000000:=by simp[lY];lia
 have C:bp (eR (vE (bR (aT Att) (aj 0) "road_sources"))) [4] 0 (ah 4) eA (gQ iM (gQ iM (vE (aj 1)) (vC (.int 1))) (vE (aj 4))) (L (Y (.ref S.length)) k w b m t) (S++[.fz (.lst (jm a x))])=Y (.lst (LX a p r),S++[.fz (.lst (jm a x))]):=by
  have f:=(rJ (R (.fz (.lst (jm a x)))) (f:=aj 0) (L:=L (Y (.ref S.length)) k w b m t) rfl).2.2.2;have u:vE (bR (aT Att) (aj 0) "road_sources") (L (Y (.ref S.length)) k w b m t) (S++[.fz (.lst (jm a x))])=Y (.lst (lY a p),S++[.fz (.lst (jm a x))]):=by rw[vE,f];simp
  have A:bL (ah 4) eA (gQ iM (gQ iM (vE (aj 1)) (vC (.int 1))) (vE (aj 4))) (lY a p) (L (Y (.ref S.length)) k Vk b m t) (S++[.fz (.lst (jm a x))])=Y (LX a p r,S++[.fz (.lst (jm a x))]):=by
   have K:LX a p r=((lY a p).filter λ_=>Vl).map λv=>r.getD (iv v).toNat .non:=by rw[LX,jO.mpr (λ_ _=>rfl)]
   rw[K];refine dC (Inv:=λi=>∃q,i=L (Y (.ref S.length)) k q b m t) (λv M i H=>?_) ⟨Vk,rfl⟩;obtain⟨q,rfl⟩:=H;obtain⟨j,rfl,E⟩:=G v M;refine⟨L (Y (.ref S.length)) k (Y (.p (.int (j:Int)))) b m t,rfl,⟨_,rfl⟩,by simp,λ_=>?_⟩;have s:L2.atI r (j:Int)=Y (r.getD j .non):=bY (by simp[E]);simp[L,s,iv]
  unfold bp;rw[eR,u];simp only[al];rw[ac (by rw[iR];exact g),show m9 [4] 0 (L (Y (.ref S.length)) k w b m t)=L (Y (.ref S.length)) k Vk b m t from rfl,A];rfl
 have y:bj a_ (aB (bp (eR (vE (bR (aT Att) (aj 0) "road_sources"))) [4] 0 (ah 4) eA (gQ iM (gQ iM (vE (aj 1)) (vC (.int 1))) (vE (aj 4)))) aU) (L (Y (.ref S.length)) k w b m t) (S++[.fz (.lst (jm a x))])=Y (.tup (LX a p r),S++[.fz (.lst (jm a x))]):=by rw[bj,aB,C];simp[a_]
 rw[bh,O,aQ,aB,T,al,aB,y];rfl
theorem UV(h:Str->GF):mT Tb h "Renamer" "standing_behind"=Y (h "Renamer.standing_behind"):=by kernel_rfl
theorem Vc:oD.contains "standing_behind"=Vm:=by decide +kernel
theorem PV{a:List Nat}{p:List P}(h:RenArg a p){n:Nat}{l:P}(t:cm (Ph (n+5) "pairs_of") [l]=Y (.lst p)){s r:List P}(m:K' a.length s)(q:∀v ∈ lY a p,∃j:Nat,v=.int (j:Int)/\j < r.length) :
  cm (Ph (n+6) "renamed") [l,.tup [.tup s,.tup r],.tup (ag a)]=Y (BH a p s r):=by
 let L:Lc:=[Y (.p l),Y (.p (.tup [.tup s,.tup r])),Y (.p (.tup (ag a)))]
 have k:=KC (n:=n+2) h.ha h.hl h.hp h.hk [];generalize w:putAll 0 (p.map (ib a)) ([],[])=M at k;have A:cM (O (bj (cm (Ph (n+5) "pairs_of")) (aB (vE (aj 0)) aU))) (cM (aj 2) h_) L []=Y ([.p (.lst p),.p (.tup (ag a))],[]):=by simp[L,t]
 have b:ml (Ph (n+4) "Renamer.__init__") "Renamer" (cM (O (bj (cm (Ph (n+5) "pairs_of")) (aB (vE (aj 0)) aU))) (cM (aj 2) h_)) L []=Y (.ref 0,[.ins "Renamer" oD ((qv a p).map .p),.dtt M.1 M.2]):=by
  rw [ml,A,al];have e:Ph (n+4) "Renamer.__init__" [.ref 0,.p (.lst p),.p (.tup (ag a))] [.ins "Renamer" [] []]=Y (.p .non,[.ins "Renamer" oD ((qv a p).map .p),.dtt M.1 M.2]):=k;show (match Ph (n+4) "Renamer.__init__" [.ref 0,.p (.lst p),.p (.tup (ag a))] [.ins "Renamer" [] []] with
   |some (.p .non,f)=>Y (D.ref 0,f)
   |_=>Vk)=_
  rw[e]
 have R:qk (.ref 0) [.ins "Renamer" oD ((qv a p).map .p),.dtt M.1 M.2] a p:=.inr ⟨0,rfl,rfl⟩;have c:=PK R h.ha (n:=n+1) m q h.hl;rw[yN,aD];show(match mw (Ph (n+5)) (Ph (n+4)) L [] with|some (.rt d,_,S)=>(toP 9 d S).map (λx=>x.fst)|some (.nx,_,_)=>Y .non|_=>Vk)=Y (BH a p s r);unfold mw;have X:cL (mT Tb (Ph (n+5))) (ml (Ph (n+4) "Renamer.__init__") "Renamer" (cM (O (bj (cm (Ph (n+5) "pairs_of")) (aB (vE (aj 0)) aU))) (cM (aj 2) h_))) "standing_behind" (cM (aj 1) h_) L []=Y (.p (BH a p s r),[.ins "Renamer" oD ((qv a p).map .p),.dtt M.1 M.2]++[.fz (.lst (jm a s))]):=by
  rw[cL,b,al];have has:cM (aj 1) h_ L [.ins "Renamer" oD ((qv a p).map .p),.dtt M.1 M.2]=Y ([.p (.tup [.tup s,.tup r])],[.ins "Renamer" oD ((qv a p).map .p),.dtt M.1 M.2]):=by simp[L]
  simp only[oo,UV,Vc,has,al,je,fH];exact c
 rw[bh,X];simp
theorem Qx{B:BD}(y:Pln B.fams B.roads B.wishes){u d:List P}(h:StL B u d):K' (ao B.fams).length u:=by
 refine⟨h.hl,λk x g=>?_⟩;have hk:k < (ao B.fams).length:=by rw[<- h.hl];exact(aX.mp g).1
 obtain⟨C,f,m,l,a,t,H,r,E,D,rfl,_,_,hw,S⟩:=h.hh k _ x (aY hk) g;refine⟨_,_,D,rfl,S,?_⟩;have v:(ao B.fams)[k] ∈ ao B.fams:=dn hk;unfold ao at v;obtain⟨z,A,e⟩:=aO.mp v;obtain⟨j,_,K⟩:=nG A;have p:=y.hf _ (bg K);obtain⟨q,n,o,c,w,s,F,i⟩:=p;have b:gI C f m l a t=.tup [.str q,.int (n:Int),.lst o,.lst c,.lst w,.lst s]:=by rw[<- H,<- i];exact e.symm
 have:a=w:=by unfold gI at b;injection b with b;simp at b;exact b.2.2.2.2.1
 rw[hw,this];have:=F.wl
 lia
theorem NK(f:List P):(cJ f).length=(ao f).length:=by simp[cJ,ao]
theorem mU{f:List P}{a:List Nat}(h:Shp (cJ f))(e:a ∈ fq (cJ f)):a.length=(ao f).length/\gh (aF a)=Vl:=by have:=h.ok;unfold uK at this;simp only[ar,bi,jK]at this;have x:=this.2 a e;exact⟨by rw[<- NK];exact x.1.1.1.2,x.1.1.1.1⟩
theorem uT{f:List P}{a:List Nat}(h:Shp (cJ f))(s:a ∈ fq (cJ f)){k j:Nat}(e:a[k]? = Y j):(ao f)[j]? = (ao f)[k]?:=by
 have b:=h.ok;unfold uK at b;simp only[ar,bi,jK]at b;have n:=(b.2 a s).1.1.2;have r:=(mU h s).1;have hk:k < a.length:=(aX.mp e).1;have t:∀i,i < (ao f).length->(ao f)[i]? = f[(cJ f).getD i 0]?:=λi x=>by
  unfold ao cJ at *
  rw[aH]at x;obtain⟨m,v,n⟩:=nG (dn x);rw[bq,aY x,a8,bq,aY x];simp only[iA,gS];rw[v,cP,n]
 have q:(cJ f).getD j 0=(cJ f).getD k 0:=by have:=cE (λl=>l.getD k 0) n;simp only[a8,bq,e,iA,gS]at this ⊢;exact this
 have o:=(fL (mU h s).2).2;have w:j < (ao f).length:=by
  have d:∀i ∈ a,i < a.length:=by
   have p:=l0 _ (aF a) rfl (fL (mU h s).2).2;intro i x;have:(i:Int) ∈ aF a:=aO.mpr ⟨i,x,rfl⟩
   have:=p.mem_iff.mp this;obtain⟨z,c,u⟩:=aO.mp this;have c:=bM.mp c;simp[aF]at c;lia
  rw[<- r];exact d j (bg e)
 rw[t j w,t k (by rw[<- r];exact hk),q]
theorem De{f:List P}{a:List Nat}(h:Shp (cJ f))(x:a ∈ fq (cJ f)){k j:Nat}(e:a[k]? = Y j):(aG f)[j]? = (aG f)[k]?:=by unfold aG;rw[bq,bq,uT h x e]
theorem kr{N:LS}{s:Str}{i:Nat}:i ∈ cX N s↔N[i]? = Y s:=by
 unfold cX;rw[e_,bM];constructor
 .exact λh=>aR h.2
 .exact λh=>⟨(aX.mp h).1,eF h⟩
theorem lf{N:LS}{o:List P}{p:P}:p ∈ cz N o↔∃r ∈ o,∃x y,N[x]? = Y (rA r)/\N[y]? = Y (rB r)/\x≠y/\p=pr r x y:=by
 unfold cz y_;simp only[b_,aO,e_,kr];constructor
 .rintro ⟨r,a,x,e,y,⟨s,h⟩,rfl⟩;exact⟨r,a,x,y,e,s,by simpa using h,rfl⟩
 .rintro ⟨r,a,x,y,e,s,h,rfl⟩;exact⟨r,a,x,e,y,⟨s,by simpa using h⟩,rfl⟩
theorem zY{a:List Nat}(h:gh (aF a)=Vl){x:Nat}(s:x < a.length):∃k:Nat,a[k]? = Y x:=by
 have m:=(fL h).2 x (by simpa[aF] using s);unfold aF at m;obtain⟨z,n,e⟩:=aO.mp m;have:z=x:=by lia
 subst this;exact v7.mp n
theorem JN{f o w:List P}(F:Pln f o w){a:List Nat}(q:a ∈ fq (cJ f))(K:(cz (aG f) o).length≤900000):RenArg a (cz (aG f) o):=by
 have S:=lX F;obtain⟨l,k⟩:=mU S q;have h:(aG f).length=a.length:=by rw[l];simp[aG]
 refine⟨k,K,λp g=>?_,λp g=>?_⟩
 .obtain⟨r,_,x,y,n,b,_,rfl⟩:=lf.mp g;exact⟨r,x,y,by rw[<- h];exact(aX.mp n).1,by rw[<- h];exact(aX.mp b).1,rfl⟩
 .obtain⟨r,C,x,y,n,b,B,rfl⟩:=lf.mp g;obtain⟨c,s⟩:=zY k (x:=x) (by rw[<- h];exact(aX.mp n).1);obtain⟨m,t⟩:=zY k (x:=y) (by rw[<- h];exact(aX.mp b).1);have i:=(De S q s).symm.trans n;have H:=(De S q t).symm.trans b;have u:c≠m:=λz=>by rw[z,t]at s;cases s;exact B rfl
  have A:ib a (pr r c m) ∈ (cz (aG f) o).map (ib a):=aO.mpr ⟨_,lf.mpr ⟨r,C,c,m,i,H,u,rfl⟩,rfl⟩;have e:f6 (ib a (pr r c m))=f6 (pr r x y):=by simp[f6,ib,pr,bI,i3,iv,s,t]
  obtain⟨d,hd⟩:=wL _ 0 ([],[]) Kt (f6 (pr r x y)) (.inr ⟨_,A,e⟩);rcases yc _ 0 ([],[]) Kt (f6 (pr r x y)) d hd with z|⟨j,D,_,_,v⟩
  .cases z
  .exact⟨_,by rw[hd,v]⟩
theorem MK{a:List Nat}{s:List P}(h:RenArg a s):∀v ∈ lY a s,∃j:Nat,v=.int (j:Int)/\j < s.length:=by
 intro v e;unfold lY at e;obtain⟨p,n,rfl⟩:=aO.mp e;obtain⟨w,hw⟩:=h.hk p n;rcases yc _ 0 ([],[]) Kt (f6 p) (.p w) hw with z|⟨j,k,x,_,hd⟩
 .cases z
 .rw [hw];cases hd;have x:=(aX.mp x).1;rw[aH]at x;exact⟨j,by simp,x⟩
theorem MS{B:BD}{s r:List P}(h:StL B s r):r.length=B.PR.length:=h.hr.1
theorem MM{B:BD}(x:Pln B.fams B.roads B.wishes)(c:B.PR.length≤900000){s r:List P}(h:StL B s r){a:List Nat}(k:a ∈ fq (cJ B.fams)){n:Nat}:cm (Ph (n+6) "renamed") [bH B,.tup [.tup s,.tup r],.tup (ag a)]=Y (BH a B.PR s r):=by have f:=JN x k c;have l:=(mU (lX x) k).1;refine PV f (C5 (n:=n+2) x) (by rw[l];exact Qx x h) λv m=>?_;obtain⟨j,e,b⟩:=MK f v m;exact⟨j,e,by rw[MS h];exact b⟩
theorem ij{s y:List P}(h:s.length+y.length≤1000000):lI (.tup s) (.tup y)=Y (.tup (s++y)):=by
 cases s with
 |nil=>rfl
 |cons x r=>show(if (!(x::r).isEmpty && lr ((x::r).length+y.length))=Vl then Y (P.tup ((x::r)++y)) else Vk)=_;rw[ac (by rw[ar,rO];exact⟨rfl,h⟩)]
theorem xm{x:List P}(k:Nat):cut x Vk (Y (k:Int))=x.take k:=by
 unfold cut;rw[HT.x4,HT.C0,qT,BC];by_cases h:k≤x.length
 .rw [BF h]
 .rw [BG (by lia),mN,v_ (by lia)]
theorem yS{x:List P}(k:Nat):cut x (Y (k:Int)) Vk=x.drop k:=by
 unfold cut;rw[HT.x4,HT.C0];by_cases h:k≤x.length
 .rw [BF h,v_ (by simp)]
 .rw [BG (by lia),qU,List.drop_of_length_le (by lia)];simp
theorem uY{x:List P}(k:Nat):cut x (Y ((k:Int)+1)) Vk=x.drop (k+1):=yS (k+1)
theorem KS{x:List P}(k:Nat):cut x Vk (Y ((k:Int)+1))=x.take (k+1):=xm (k+1)
theorem sE{n:Nat}{x:List P}{k:Nat}(hk:k < x.length)(l:x.length≤900000)(v:P):cm (Ph (n+2) "replaced") [.tup x,.int (k:Int),v]=Y (.tup (x.set k v)):=by have e:=ij (s:=x.take k) (y:=[v]) (by simp;lia);have h:=ij (s:=x.take k++[v]) (y:=x.drop (k+1)) (by simp;lia);rw[w_,aD];simp[o0,xm,uY,e,-gW];rw[h];simp[List.set_eq_take_append_cons_drop,hk]
theorem Ld{n:Nat}{x:List P}{k:Nat}(h:x.length≤900000):cm (Ph (n+2) "without") [.tup x,.int (k:Int)]=Y (.tup (x.eraseIdx k)):=by have e:=ij (s:=x.take k) (y:=x.drop (k+1)) (by simp;lia);rw[yM,aD];simp[qj,xm,uY,e,List.eraseIdx_eq_take_drop_succ]
theorem p'.ok{l:P}(h:p' l):d9 1 l=Vl:=by obtain⟨m,i,x,_,rfl⟩:=h;simp[x]
noncomputable def KJ(w:Str)(x:List P)(k:Nat):List P:=if w="lose" then x.eraseIdx k else x.take (k+1)++x.drop k
theorem LF{n:Nat}{w:Str}(hw:w="lose"\/w="double"){x:List P}{k:Nat}(a:m7 x)(s:w="double"->x.length≤2)(hk:k < x.length):m7 (KJ w x k)/\cm (Ph (n+3) "flawed") [.str w,.tup x,.int (k:Int)]=Y (.tup (KJ w x k)):=by
 have:=a.1;unfold KJ;rcases hw with rfl|rfl
 .refine⟨⟨bf (B8 ..) this,λl h=>a.2 l (B9 h)⟩,?_⟩;have e:=Ld (n:=n) (x:=x) (k:=k) (by lia);rw[tm,aD];simp[nK,e]
 .have f:=s rfl;rw[ae (by decide +kernel)];refine⟨⟨by simp;lia,λl h=>?_⟩,?_⟩
  .rcases cR.mp h with h|h
   .exact a.2 l (mQ h)
   .exact a.2 l (vY h)
  .have e:=ij (s:=x.take (k+1)) (y:=x.drop k) (by simp;lia);rw[tm,aD];simp[nK,KS,yS,e]
noncomputable def Em(w:Str)(r:P)(x:List P):Bool:=match r with
 | .tup [_,_,_,.int c,.bl d,.bl h]=>if w="lose" then d else h && decide ((x.length:Int) < c)
 |_=>Vm
theorem Lx{n:Nat}{w:Str}(hw:w="lose"\/w="double"){r:P}(q:isRoad r)(s:List P):(w="double"->Em w r s=Vl->s.length≤2)/\cm (Ph (n+2) "has_flaw") [r,.str w,.tup s]=Y (.bl (Em w r s)):=by
 obtain⟨a,b,kd,c,x,d,v,u,p,m,t,rfl⟩:=q;have e:L2.atI [P.str a,.str b,.str kd,.int c,.bl x,.bl d] 3=Y (.int c):=bn (by decide) rfl;have k:L2.atI [P.str a,.str b,.str kd,.int c,.bl x,.bl d] 4=Y (.bl x):=bn (by decide) rfl;have f:L2.atI [P.str a,.str b,.str kd,.int c,.bl x,.bl d] 5=Y (.bl d):=bn (by decide) rfl;unfold Em;rcases hw with rfl|rfl
 .refine⟨λh=>?_,?_⟩
  .have:¬("lose":Str)="double":=by decide +kernel
   exact absurd h this
  .rw [oW,aD];simp[ly,k]
 .dsimp only;rw[ae (by decide +kernel)];refine⟨λ_ h=>?_,?_⟩
  .have:=(ar _ _ ▸ h).2;have:=aR this
   lia
  .rw [oW,aD];cases d<;>simp[ly,e,f,d_,fD]
theorem yw{s:List P}{x:P}(h:∀y ∈ s,d9 19 y=Vl)(a:x ∈ s):∃i:Nat,i < s.length/\jx s x=Y i:=by
 unfold jx;have n:(s.all (d9 19) && d9 19 x)=Vl:=by rw[ar];exact⟨bi.mpr h,h x a⟩
 rw[ac n];have m:pd x ∈ jG s:=by
  clear n h;induction s with
  |nil=>cases a
  |cons y r k=>
   rcases bc.mp a with rfl|a
   .exact aK
   .exact aL _ (k a)
 have e:de (pd x) (pd x)=Vl:=vH _ (fM 20 x (kq (h x a) (by lia))).1;cases q:(jG s).findIdx? λz=>de z (pd x) with
 |none=>have:=List.findIdx?_eq_none_iff.mp q (pd x) m;rw[e]at this;cases this
 |some i=>
  refine⟨i,?_,rfl⟩;have:=(oq.mp q).1
  rwa [wK]at this
theorem Dv(n:Nat):intsFrom 0 n=bQ (List.range n):=by unfold Ev.intsFrom bQ;simp only[dD]
def zJ(k:Str)(x:List P):List Nat:=(List.range x.length).filter λi=>decide (k="row") ||decide (jx x (x[i]?.getD .non)=Y i)
theorem Lg{n:Nat}(k:Str){s:List P}(r:m7 s):cm (Ph (n+2) "unlike_spots") [.str k,.tup s]=Y (.lst (bQ (zJ k s))):=by
 have o:=r.1;have m:s.length < 1000000:=by lia
 have b:s.length≤1000000:=by lia
 by_cases hk:k="row"
 .have e:zJ k s=List.range s.length:=by unfold zJ;rw[jO.mpr λ_ _=>by simp[hk]]
  rw[e,<- Dv,kB,aD];simp[ik,hk,d_,fD,m]
 .have e:bL (ah 3) (bw (O (wq cw (ab cw fV))) rg) fV (intsFrom 0 s.length) [qs k,qt s,ql (intsFrom 0 s.length),Vk] []=Y (bQ (zJ k s),[]):=by
   rw[dC (p:=λv=>match v with | .int z=>decide (jx s (s[z.toNat]?.getD .non)=Y z.toNat)|_=>Vm) (f:=id) (Inv:=λL=>∃d,L=[qs k,qt s,ql (intsFrom 0 s.length),d]) (λv w L t=>?_) ⟨Vk,rfl⟩,mK]
   .rw [Dv];unfold bQ zJ;rw[vN];congr 3;refine BY λi _=>?_;simp[hk]
   obtain⟨d,rfl⟩:=t;obtain⟨i,rfl,a⟩:=ku w;simp only[dD];have g:s[i]? = Y s[i]:=aY a;have c:=bY g;obtain⟨j,H,h⟩:=yw (s:=s) (x:=s[i]) (λy u=>kq (r.2 y u).ok (by lia)) (dn _);refine⟨[qs k,qt s,ql (intsFrom 0 s.length),qi (i:Int)],rfl,⟨_,rfl⟩,?_,λ_=>by simp⟩;by_cases q:j=i
   .rw [q]at h;simp[c,h,g]
   .have l:¬(j:Int)=(i:Int):=by lia
    simp[c,h,g,q,l]
  rw[kB,aD];simp[ik,hk,d_,fD,m,b,bp,cW,m9,e]
def o_(N:List P)(f:List ci)(c:List P):Prop:=∀x:Str,P.str x ∈ N->∃i:Int,i.natAbs≤999/\cT (.inr x) f c=Y (.int i)
section
variable{N:List P}{f:List ci}{c:List P}
theorem ut{n:Nat}(k:Int):cm (Ph (n+2) "value_of") [pG k,.dct f c]=Y (.int k):=by rw[g_,aD];simp[fP]
theorem uu{n:Nat}{x:Str}{i:Int}(h:cT (.inr x) f c=Y (.int i)):cm (Ph (n+2) "value_of") [qw (.str x),.dct f c]=Y (.int i):=by rw[g_,aD];simp[fP,h]
theorem Mc{n:Nat}{a b:P}{i j:Int}(h:cm (Ph (n+2) "value_of") [a,.dct f c]=Y (.int i))(x:cm (Ph (n+2) "value_of") [b,.dct f c]=Y (.int j)):cm (Ph (n+3) "value_of") [.tup [.str "plus",a,b],.dct f c]=Y (.int (i+j)):=by rw[g_,aD];simp[fP,h,x]
theorem CL{n:Nat}{a b:P}{i j:Int}(h:cm (Ph (n+2) "value_of") [a,.dct f c]=Y (.int i))(x:cm (Ph (n+2) "value_of") [b,.dct f c]=Y (.int j)):cm (Ph (n+3) "value_of") [.tup [.str "minus",a,b],.dct f c]=Y (.int (i-j)):=by rw[g_,aD];simp[fP,h,x]
theorem Jp{n:Nat}{a b:P}{i j:Int}(m:iH i j=Vl)(h:cm (Ph (n+2) "value_of") [a,.dct f c]=Y (.int i))(x:cm (Ph (n+2) "value_of") [b,.dct f c]=Y (.int j)):cm (Ph (n+3) "value_of") [.tup [.str "times",a,b],.dct f c]=Y (.int (i * j)):=by rw[g_,aD];simp[fP,h,x,m]
theorem si(s:∀x ∈ N,lQ x)(b:o_ N f c){t:P}(h:yr N t){n:Nat}:∃r:Int,cm (Ph (n+4) "value_of") [t,.dct f c]=Y (.int r):=by
 rcases h with ⟨k,rfl⟩|⟨y,a,h⟩
 .exact⟨k,ut k⟩
 obtain⟨x,_,rfl⟩:=s y a;obtain⟨i,q,e⟩:=b x a;rcases h with rfl|⟨k,rfl⟩|⟨k,j,m,p,rfl⟩|rfl
 .exact⟨i,uu e⟩
 .exact⟨_,Mc (uu e) (ut k)⟩
 .exact⟨_,CL (Jp (cx (i:=i) (j:=k) (by lia) (by lia)) (uu e) (ut k)) (ut j)⟩
 .exact⟨_,CL (ut 1) (uu e)⟩
theorem Q4(w:Str)(i j:Int):∃b,∀h,cm (zb 3 3 (dM h)) [.str w,.int i,.int j]=Y (.bl b):=by
 by_cases x:w="="
 .exact⟨decide (i=j),λh=>by rw[aD];simp[dM,x]⟩
 by_cases a:w="!="
 .exact⟨!decide (i=j),λh=>by rw[aD];simp[dM,x,eq_true a]⟩
 by_cases e:w="<"
 .exact⟨decide (i < j),λh=>by rw[aD];simp[dM,x,a,eq_true e]⟩
 by_cases s:w="<="
 .exact⟨decide (i≤j),λh=>by rw[aD];simp[dM,x,a,e,eq_true s]⟩
 by_cases n:w=">"
 .exact⟨decide (j < i),λh=>by rw[aD];simp[dM,x,a,e,s,eq_true n]⟩
 exact⟨decide (j≤i),λh=>by rw[aD];simp[dM,x,a,e,s,n]⟩
theorem N5{n:Nat}(w:Str)(i j:Int):∃b,cm (Ph (n+2) "compared") [.str w,.int i,.int j]=Y (.bl b):=by obtain⟨b,e⟩:=Q4 w i j;exact⟨b,by rw[xh];exact e _⟩
theorem Hu{n:Nat}:cm (Ph (n+2) "holds") [.tup [.str "true"],.dct f c]=Y (.bl Vl):=by rw[kD,aD];simp[jl]
theorem QE{n:Nat}(w:Str){a b:P}{i j:Int}(h:cm (Ph (n+5) "value_of") [a,.dct f c]=Y (.int i))(x:cm (Ph (n+5) "value_of") [b,.dct f c]=Y (.int j)):∃r,cm (Ph (n+6) "holds") [.tup [.str "is",.str w,a,b],.dct f c]=Y (.bl r):=by obtain⟨r,e⟩:=N5 (n:=n+3) w i j;refine⟨r,?_⟩;rw[kD,aD];simp[jl,h,x,e]
theorem QD{n:Nat}{a:P}{r:Bool}(h:cm (Ph (n+2) "holds") [a,.dct f c]=Y (.bl r)):cm (Ph (n+3) "holds") [.tup [.str "not",a],.dct f c]=Y (.bl !r):=by rw[kD,aD];simp[jl,h]
theorem QF{n:Nat}{a b:P}{r s:Bool}(h:cm (Ph (n+2) "holds") [a,.dct f c]=Y (.bl r))(x:cm (Ph (n+2) "holds") [b,.dct f c]=Y (.bl s)):cm (Ph (n+3) "holds") [.tup [.str "and",a,b],.dct f c]=Y (.bl (r && s)):=by rw[kD,aD];cases r<;>simp[jl,h,x]
theorem TD{n:Nat}{a b:P}{r s:Bool}(h:cm (Ph (n+2) "holds") [a,.dct f c]=Y (.bl r))(x:cm (Ph (n+2) "holds") [b,.dct f c]=Y (.bl s)):cm (Ph (n+3) "holds") [.tup [.str "or",a,b],.dct f c]=Y (.bl (r ||s)):=by rw[kD,aD];cases r<;>simp[jl,h,x]
theorem Hr(k:∀x ∈ N,lQ x)(b:o_ N f c){t:P}(h:AC N t){n:Nat}:∃r,cm (Ph (n+9) "holds") [t,.dct f c]=Y (.bl r):=by
 have l:∀{t:P},oQ N t->∀{n:Nat},∃r,cm (Ph (n+6) "holds") [t,.dct f c]=Y (.bl r):=λ{t} h {n}=>by obtain⟨w,y,s,m,u,_,rfl⟩:=h;obtain⟨x,_,rfl⟩:=k y m;obtain⟨i,_,a⟩:=b x m;obtain⟨j,d⟩:=si k b u (n:=n+1);exact QE w (uu a) d
 rcases h with rfl|h|⟨p,h,rfl⟩|⟨p,z,h,q,rfl⟩
 .exact⟨_,Hu⟩
 .exact l h
 .obtain⟨r,e⟩:=l h (n:=n+2);exact⟨_,QD e⟩
 .obtain⟨r,e⟩:=l h (n:=n+2);obtain⟨x,_,rfl⟩:=k z q;obtain⟨i,_,a⟩:=b x q;obtain⟨s,v⟩:=QE (n:=n+1) (f:=f) (c:=c) "=" (ut 1) (uu a);exact⟨_,TD e (QF (Hu) v)⟩
end
def dh(e:List P):List ci:=e.map λc=>.inr (bt c)
theorem ma{c:List P}(h:DQ c):(dh c).Nodup:=by
 unfold dh;refine kX.mpr λi j a e n q=>?_
 rw[aH]at a e;rw[kT,kT]at q;have x:=h.2 i _ (aY a);have s:=h.2 j _ (aY e);rw[jJ q,s]at x;simp at x;lia
theorem Au(e:List P):d7 (uL e)=Y (dh e):=by
 unfold uL dh;induction e with
 |nil=>rfl
 |cons c r i=>simp[d7,dH,i]
theorem wR:∀{l n:List P},CellsOk l n->o_ (uL l) (dh l) n
 | [],_,_=>λx h=>by cases h
 |c::r,[],h=>by have:=h.1;simp at this
 |c::r,d::s,h=>λx t=>by
  obtain⟨i,b,rfl⟩:=h.2 d aK;show ∃i:Int,_/\(if (Sum.inr (bt c):ci)=.inr x then Y _ else cT (.inr x) (dh r) s)=_;by_cases e:bt c=x
  .exact⟨i,b,by rw[ac (by rw[e])]⟩
  .have a:P.str x ∈ uL r:=by
    rcases bc.mp t with q|q
    .exact absurd (P.str.inj q).symm e
    .exact q
   obtain⟨j,m,k⟩:=wR (l:=r) (n:=s) ⟨by have:=h.1;simpa using this,λc f=>h.2 c (aL _ f)⟩ x a;exact⟨j,m,by rw[ae λq=>e (jJ q)];exact k⟩
theorem CJ{n:Nat}{v:List P}{m:Str}{e:Nat}{r c w s:List P}(f:Fam v m e r c w s){h:List P}(b:CellsOk c h)(S:aM) :
  Ph (n+2) "values_of" [.p (.tup [.str m,.int (e:Int),.lst r,.lst c,.lst w,.lst s]),.p (.tup h)] S=Y (.ref S.length,S++[.dct (dh c) (h.map .p)]):=by
 have p:=f.cl;have q:c.length≤1000000:=by lia
 have x:(uL c).length≤1000000:=by simp[uL];lia
 have k:=u1 f.hce.1 [qt [.str m,.int (e:Int),.lst r,.lst c,.lst w,.lst s],qt h,Vk] 2 (by simp) S;have hk:=ma f.hce;have a:(dh c).length=h.length:=by rw[b.1];simp[dh]
 have l:(dh c).length≤h.length:=vu a;have t:h.take (dh c).length=h:=by rw[a,mN]
 rw[t5];simp[zb,nj,OE,bp,q,m9,k,Au,hk,x,l,t,qS];first|done|(rw[<- qS,t])
theorem DW{n:Nat}{a:List P}{m:Str}{e:Nat}{r c w s:List P}(f:Fam a m e r c w s){h:List P}(x:CellsOk c h) :
  cm (Ph (n+2) "values_of") [.tup [.str m,.int (e:Int),.lst r,.lst c,.lst w,.lst s],.tup h]=Y (.dct (dh c) h):=by
 unfold cm;rw[aC,aC,gn,CJ (n:=n) f x []];have:nC (toP 8) (h.map .p) [SO.dct (dh c) (h.map .p)]=Y (h,[SO.dct (dh c) (h.map .p)]):=mV ..;simp[toP,this]
end My
namespace My
open PySem L2 Ev
def Um(v:P):Prop:=∃i:Int,v=.int i
theorem xj(x:ci)(y:P):∀(ks:List ci)(b:List P),ks.Nodup->ks.length=b.length->∃s a,pP x (.p y) ks (b.map .p)=(s,a.map .p)/\s.Nodup/\s.length=a.length/\s.length≤ks.length+1/\(∀k ∈ s,k=x\/k ∈ ks)/\∀k,cT k s a=if x=k then Y y else cT k ks b
 | [],[],_,_=>⟨[x],[y],rfl,by simp,rfl,by simp,λk h=>.inl (by simpa using h),λk=>by by_cases q:x=k<;>simp[cT,q]⟩
 | [],_::_,_,h=>by simp at h
 |_::_,[],_,h=>by simp at h
 |n::ks,v::b,c,l=>by
  obtain⟨hk,c⟩:=cA.mp c;by_cases q:n=x
  .refine⟨n::ks,y::b,by simp[pP,q],cA.mpr ⟨hk,c⟩,by simpa using l,by simp,λk h=>.inr h,λk=>?_⟩;subst q;by_cases f:n=k
   .simp [cT,f]
   .simp [cT,f]
  .obtain⟨s,a,e,t,p,w,m,d⟩:=xj x y ks b c (by simpa using l);refine⟨n::s,v::a,by simp[pP,q,e],cA.mpr ⟨λz=>?_,t⟩,by simp[p],by simp;lia,λk h=>?_,λk=>?_⟩
   .rcases m n z with z|z
    .exact q z
    .exact hk z
   .rcases bc.mp h with rfl|h
    .exact .inr aK
    .rcases m k h with h|h
     .exact .inl h
     .exact .inr (aL _ h)
   .show (if n=k then Y v else cT k s a)=_;by_cases f:n=k
    .subst f;have:¬x=n:=λz=>q z.symm
     simp[cT,this]
    .rw [ae f,d];by_cases r:x=k
     .simp [r]
     .simp [r,cT,f]
structure Giv(gk:List ci)(gv:List P):Prop where
 nd:gk.Nodup
 ln:gk.length=gv.length
 le:gk.length≤100
 iv:∀k v,cT k gk gv=Y v->Um v
theorem Giv.put(h:Giv a c)(l:a.length≤99)(y:ci)(i:Int):∃g x,pP y (.p (.int i)) a (c.map .p)=(g,x.map .p)/\Giv g x/\g.length≤a.length+1:=by
 obtain⟨n,f,e,b,m,r,p,t⟩:=xj y (.int i) a c h.nd h.ln;refine⟨n,f,e,⟨b,m,by lia,λk v s=>?_⟩,r⟩;rw[t]at s;split at s
 .cases s;exact⟨_,rfl⟩
 .exact h.iv k v s
theorem C2{o:EE}{k v:EV}{L:Lc}{S s:aM}{j:Nat}{n:List ci}{f:List P}{x:Str}{i:Int}(h:Giv n f)(l:n.length≤99)(p:v L S=Y (.int i,s))(t:o L s=Y (.ref j,s))(hk:k L s=Y (.str x,s))(r:s[j]? = Y (.dct n (f.map .p))):∃g a,Giv g a/\g.length≤n.length+1/\jR o k v L S=Y (.nx,L,s.set j (.dct g (a.map .p))):=by
 obtain⟨g,a,e,c,m⟩:=h.put l (.inr x) i;refine⟨g,a,c,m,?_⟩;have b:x3 o k v L S=Y (.nx,L,s.set j (.dct g (a.map .p))):=by unfold x3;rw[p,al,t,al,hk,al];simp only[nB,r,dH];rw[ac ⟨h.nd,by rw[iR];lia⟩,e]
 unfold jR;rw[b]
theorem uO{k:ci}:∀{ks:List ci}{s:List P},El k ks=Vm->cT k ks s=Vk
 | [],_,_=>by cases ‹List P›<;>rfl
 |_::_,[],_=>rfl
 |x::ks,v::s,h=>by unfold El at h;rw[eY,Cc]at h;show(if x=k then Y v else cT k ks s)=Vk;rw[ae (of_decide_eq_false h.1)];exact uO h.2
noncomputable abbrev sr(x:Str)(m w t:P)(c s:List P)(r:P):P:=.tup [.str x,m,w,t,.lst c,.lst s,r]
theorem zX(a b c d e f g:P):L2.atI [a,b,c,d,e,f,g] 3=Y d:=bn (by decide) rfl
theorem Pw(a b c d e f g:P):L2.atI [a,b,c,d,e,f,g] 4=Y e:=bn (by decide) rfl
theorem Ro(a b c d e f g:P):L2.atI [a,b,c,d,e,f,g] 5=Y f:=bn (by decide) rfl
theorem Im(a b c d e f g:P):L2.atI [a,b,c,d,e,f,g] 6=Y g:=bn (by decide) rfl
theorem Vd(a b c d e f:P):L2.atI [a,b,c,d,e,f] 5=Y f:=bn (by decide) rfl
theorem N6{A V:Str->GF}{f st d:P}{b a:List P}{s:List ci}{g:List P}(G:Giv s g){o:SO}(B:o=.dct s (g.map .p)\/o=.fz (.dct s g)){k:Nat}{c:P}(E:isCel c){z:P}(m:b[k]? = Y z)(F:∃i:Int,i.natAbs≤999/\z=.int i)(T:a.length≤1000)(r t q:Option D) :
  (∃L,br A [U f,qt b,U st,U d,qr 0,r,t,qr 1,qi (k:Int),U c,q] [o,.lst (a.map .p)]=Y (.rt (.p .non),L,[.fz (.dct s g),.lst (a.map .p)])) \/
  ∃i:Int,i.natAbs≤999/\br A [U f,qt b,U st,U d,qr 0,r,t,qr 1,qi (k:Int),U c,q] [o,.lst (a.map .p)]=Y (.nx,[U f,qt b,U st,U d,qr 0,r,t,qr 1,qi (k:Int),U c,qi i],[.fz (.dct s g),.lst ((a++[P.int i]).map .p)]):=by
 obtain⟨x,lo,j,w,_,M,N,Q,R,rfl⟩:=E;obtain⟨K,S,rfl⟩:=F;have p:toP 9 (.ref 0) [o,.lst (a.map .p)]=Y (.dct s g,[.fz (.dct s g),.lst (a.map .p)]):=by
  rcases B with rfl|rfl
  .have:nC (toP 8) (g.map .p) [SO.dct s (g.map .p),.lst (a.map .p)]=Y (g,[SO.dct s (g.map .p),.lst (a.map .p)]):=mV ..;simp[toP,this]
  .rfl
 have I:Um ((cT (.inr x) s g).getD (.int K)):=by
  cases e:cT (.inr x) s g with
  |none=>exact⟨K,rfl⟩
  |some v=>exact G.iv _ v e
 obtain⟨n,h⟩:=I;have l:a.length≤1000000:=by lia
 cases hk:El (.inr x) s with
 |false=>
  have y:n=K:=by rw[uO hk]at h;exact(P.int.inj h).symm
  right;refine⟨n,by rw[y];exact S,?_⟩;rw[<- d6];simp[br,p,dH,bY m,h,yE,NP,Ow,nh,hk,fu,l]
 |true=>
  by_cases H:lo≤n/\n≤j
  .right;refine⟨n,by lia,?_⟩;rw[<- d6];simp[br,p,dH,bY m,h,yE,NP,Ow,nh,hk,fu,l,H.1,H.2]
  .left;refine⟨[U f,qt b,U st,U d,qr 0,r,t,qr 1,qi (k:Int),qt [.str x,.int lo,.int j,.int w],qi n],?_⟩;by_cases u:lo≤n
   .have C:¬n≤j:=λz=>H ⟨u,z⟩;simp[br,p,dH,bY m,h,yE,NP,Ow,nh,hk,u,C]
   .simp [br,p,dH,bY m,h,yE,NP,Ow,nh,hk,u]
theorem DM{F B:Str->GF}{f st j:P}{n:List P}(p:∀c ∈ n,∃i:Int,i.natAbs≤999/\c=.int i){H:List ci}{S:List P}(G:Giv H S)(d w:Option D):∀{l:List P}{k:Nat},(∀c ∈ l,isCel c)->k+l.length=n.length->∀{b:SO},(b=.dct H (S.map .p)\/b=.fz (.dct H S))->∀{a:List P},a.length=k->n.length≤1000->∀(u g q:Option D),
  (∃L K,bx (be [ah 8,ah 9]) (br F) (bE (k:Int) l) [U f,qt n,U st,U j,qr 0,d,w,qr 1,u,g,q] [b,.lst (a.map .p)]=Y (.rt (.p .non),L,K)) \/
  ∃y m r s o,y.length=l.length/\(∀c ∈ y,∃i:Int,i.natAbs≤999/\c=.int i)/\bx (be [ah 8,ah 9]) (br F) (bE (k:Int) l) [U f,qt n,U st,U j,qr 0,d,w,qr 1,u,g,q] [b,.lst (a.map .p)]=Y (.nx,[U f,qt n,U st,U j,qr 0,d,w,qr 1,m,r,s],[o,.lst ((a++y).map .p)])
 | [],k,_,_,b,_,a,_,_,u,g,q=>.inr ⟨[],u,g,q,b,rfl,λ_ h=>(by cases h),by simp[bE,bx]⟩
 |c::l,k,A,hk,b,C,a,R,N,u,g,q=>by
  simp only[aS]at hk;have v:n[k]? = Y (n[k]'(by lia)):=aY (by lia);unfold bE;rcases N6 (A:=F) (V:=B) (f:=f) (st:=st) (d:=j) (a:=a) G C (A c aK) v (p _ (dn _)) (by lia) d w q with ⟨L,e⟩|⟨i,M,e⟩
  .exact .inl ⟨_,_,yH rfl e⟩
  .rcases DM (F:=F) (B:=B) (f:=f) (st:=st) (j:=j) p G d w (l:=l) (k:=k+1) (λx Q=>A x (aL _ Q)) (by lia) (b:=.fz (.dct H S)) (.inr rfl) (a:=a++[.int i]) (by simp;lia) N (qi (k:Int)) (U c) (qi i) with ⟨L,K,t⟩|⟨y,m,r,s,o,E,I,t⟩
   .rw [jk]at t;exact .inl ⟨L,K,(cq rfl e).trans t⟩
   .rw [jk]at t;refine .inr ⟨.int i::y,m,r,s,o,by simp[E],λz v=>?_,?_⟩
    .rcases bc.mp v with rfl|v
     .exact⟨i,M,rfl⟩
     .exact I z v
    .rw [show a++.int i::y=a++[.int i]++y by simp];exact(cq rfl e).trans t
theorem Q6{X t:List P}{W:Str}{F:P}(T:j7 W X t F){K:List ci}{V:List P}(Q:o_ (more F) K V){g:List ci}{h:List P}(G:Giv g h)(R:g.length≤99)(f p z A r:P)(x:Str)(c H:List P)(d u j l y q:Option D) :
  ∃s b,Giv s b/\fm (lz (bV (fx dw (O (ab dq jF)) (O (vC (.non))))) (fh (O (ab (ab dq jF) gc)) (O (vt "")))) (jR rf (ab (ab dq jF) gc) (ab fV (vt "it"))) gf [U f,U p,U (sr x z A F c H r),U (.dct K V),qr 0,d,u,j,l,y,q] [.dct g (h.map .p)]=Y (.nx,[U f,U p,U (sr x z A F c H r),U (.dct K V),qr 0,d,u,j,l,y,q],[.dct s (b.map .p)]):=by
 rcases T with rfl|⟨m,a,n,w,_,_,_,_,_,_,rfl⟩
 .exact⟨g,h,G,by simp[zX,dw,fj]⟩
 .by_cases E:n=""
  .exact⟨g,h,G,by simp[zX,dw,fj,E]⟩
  .obtain⟨i,_,I⟩:=Q "it" (by simp[more]);obtain⟨B,C,M,Z,e⟩:=C2 (o:=aj 4) (k:=ab (ab dq jF) gc) (v:=ab fV (vt "it")) (L:=[U f,U p,U (sr x z A (.tup [.str m,.str a,.str n,.str w]) c H r),U (.dct K V),qr 0,d,u,j,l,y,q]) (S:=[.dct g (h.map .p)]) G R (i:=i) (s:=[.dct g (h.map .p)]) (x:=n) (by simp[I]) rfl (by simp[zX]) rfl;refine⟨B,C,M,?_⟩;rw[fm];have N:(lz (bV (fx dw (O (ab dq jF)) (O (vC (.non))))) (fh (O (ab (ab dq jF) gc)) (O (vt "")))) [U f,U p,U (sr x z A (.tup [.str m,.str a,.str n,.str w]) c H r),U (.dct K V),qr 0,d,u,j,l,y,q] [.dct g (h.map .p)]=Y (Vl,[.dct g (h.map .p)]):=by simp[zX,dw,fj,E]
   rw[N];exact e
theorem Q5{n:Nat}{rs:List P}{l:Str}{a:Nat}{m c w s:List P}(X:Fam rs l a m c w s){N:List P}(hc:CellsOk c N){x:Str}{E I u:P}{f G:List P}{p:P}(hS:Stp l m c w rs E I u f G p){K:List ci}{V:List P}(he:o_ (uL c++more u) K V) :
  ∃q:P,(q=.non\/∃z,CellsOk c z/\q=.tup z)/\cm (Ph (n+6) "cells_behind") [gI l a m c w s,.tup N,sr x E I u f G p,.dct K V]=Y q:=by
 have hN:∀x ∈ uL c++more u,lQ x:=λx hx=>(cR.mp hx).elim (wN X.hce.1 x) (wP u x);have hcl:=hS.cl;have hc3:=X.cl;have hcn:=hc.1;let A:List (Option D):=[U (gI l a m c w s),qt N,U (sr x E I u f G p),U (.dct K V),qr 0]
 let Inv:Nat->Lc->aM->Prop:=λi L S=>∃(d:List ci)(j:List P)(B C:Option D),Giv d j/\d.length≤i/\L=A++[B,C,Vk,Vk,Vk,Vk]/\S=[.dct d (j.map .p)]
 obtain⟨L',S',Q,d,j,B,C,Z,hgl,rfl,rfl⟩:=bN (g:=be [ah 5,ah 6]) (b:=i6 (Ph (n+5))) (Inv:=Inv) (s:=f) (k:=0) (L:=A++[Vk,Vk,Vk,Vk,Vk,Vk]) (S:=[.dct [] []]) (λi v L S hv hI=>by obtain⟨d,j,B,C,Z,hgl,rfl,rfl⟩:=hI;have hi:=bB hv;obtain⟨y,t,_,ht,rfl⟩:=hS.ch v (bg hv);obtain⟨r,er⟩:=si hN he ht (n:=n+1);obtain⟨R,T,W,h2,e⟩:=C2 (o:=aj 4) (k:=vv 5) (v:=cf (Ph (n+5) "value_of") (v2 iO fV)) (L:=A++[qs y,U t,Vk,Vk,Vk,Vk]) (S:=[.dct d (j.map .p)]) Z (by lia) (i:=r) (s:=[.dct d (j.map .p)]) (by simp[A,er]) rfl rfl rfl;exact⟨_,_,_,rfl,e,R,T,_,_,W,by lia,rfl,rfl⟩) ⟨[],[],Vk,Vk,⟨by simp,rfl,by simp,λk v h=>by cases h⟩,by simp,rfl,rfl⟩
 simp only[A,mM,cS]at Q;obtain⟨gk2,gv2,hG2,e2⟩:=Q6 hS.htk (λx hx=>he x (gu _ hx)) Z (by lia) (gI l a m c w s) (.tup N) E I p x f G B C Vk Vk Vk Vk;have F:=DM (F:=Ph (n+5)) (B:=Ph (n+4)) (f:=gI l a m c w s) (st:=sr x E I u f G p) (j:=.dct K V) hc.2 hG2 B C (l:=c) (k:=0) X.hce.1 (by lia) (.inl rfl) (a:=[]) rfl (by lia) Vk Vk Vk;rw[show((0:Nat):Int)=0 from rfl]at F;rcases F with ⟨L',S',H⟩|⟨M,q8',q9',q10',o,W,h2,H⟩
 .refine⟨.non,.inl rfl,?_⟩;rw[kE,aD];simp only[gn]at H;simp[-fm,ir,qd,Pw,Q,e2,OE,H]
 .refine⟨.tup M,.inr ⟨M,⟨W,h2⟩,rfl⟩,?_⟩;rw[kE,aD];simp only[gn,cS]at H;have t1:toP 9 (.ref 1) [o,.lst (M.map .p)]=Y (.lst M,[o,.fz (.lst M)]):=dS rfl;simp[-fm,ir,qd,Pw,Q,e2,OE,H,t1,a_]
theorem jA{n:Type}{g:lM}{c:EB}{e:EV}{Inv:Lc->Prop}{S:aM}{p:n->Bool}{F f:n->P}:∀{s:List n}{L:Lc},(∀v ∈ s,∀L,Inv L->∃x,g (F v) L=Y x/\Inv x/\c x S=Y (p v,S)/\(p v=Vl->e x S=Y (f v,S)))->Inv L ->
  bL g c e (s.map F) L S=Y ((s.filter p).map f,S)
 | [],L,_,h=>rfl
 |v::r,L,t,h=>by
  obtain⟨x,b,i,a,q⟩:=t v aK L h;have m:=jA (s:=r) (L:=x) (λw hw=>t w (aL _ hw)) i;cases k:p v with
  |false=>rw[k]at a;simp[bL,b,a,m,k]
  |true=>rw[k]at a;simp[bL,b,a,m,k,q k]
theorem LW{B:BD}(m:BP B){f:P}(n:f ∈ B.fams):bt f ∈ B.N:=by
 have p:1≤bu f:=by
  obtain⟨q,c,o,e,w,t,h,rfl⟩:=m.hf f n;have:=h.hcr.1
  simp[bu];lia
 have y:∀(a:List P)(k:Nat),f ∈ a->∃x ∈ hw k a,x.2=f:=by
  intro a;induction a with
  |nil=>intro k h;cases h
  |cons g r i=>
   intro k h;rcases bc.mp h with rfl|h
   .exact⟨(k,f),by unfold hw;exact om _ (B2.mpr ⟨by lia,rfl⟩),rfl⟩
   .obtain⟨x,s,b⟩:=i (k+1) h;exact⟨x,by unfold hw;exact gu _ s,b⟩
 obtain⟨x,s,rfl⟩:=y B.fams 0 n;unfold BD.N aG ao;exact aO.mpr ⟨x.2,aO.mpr ⟨x,s,rfl⟩,rfl⟩
def bF:LS:=["families","homes","pairs","places","members"]
@[simp] theorem Vj:¬("families":Str)="homes"/\¬("families":Str)="pairs"/\¬("families":Str)="places"/\¬("families":Str)="members"/\¬("homes":Str)="pairs"/\¬("homes":Str)="places"/\¬("homes":Str)="members"/\¬("pairs":Str)="places"/\¬("pairs":Str)="members"/\¬("places":Str)="members":=by decide +kernel
theorem nL:aT Att "Board" "families"=Vl/\aT Att "Board" "homes"=Vl/\aT Att "Board" "pairs"=Vl/\aT Att "Board" "places"=Vl/\aT Att "Board" "members"=Vl:=by decide +kernel
theorem Lu(a b c d e:D):iI "families" bF [a,b,c,d,e]=Y a/\iI "homes" bF [a,b,c,d,e]=Y b/\iI "pairs" bF [a,b,c,d,e]=Y c/\iI "places" bF [a,b,c,d,e]=Y d/\iI "members" bF [a,b,c,d,e]=Y e:=by refine⟨?_,?_,?_,?_,?_⟩<;>simp[bF,iI]
def mZ(B:BD)(x:Nat)(y:Int):Option P:=B.roads.find? λr=>decide (B.N[x]? = Y (rA r)) && (decide (0≤y) && (decide (B.N[y.toNat]? = Y (rB r)) && !decide ((x:Int)=y)))
def Iu(B:BD)(ks:List (List ci))(v:List P)(mk:List ci)(m:List P):P:=.obj "Board" bF [.lst B.fams,.lst (cI B.fams),.lst B.PR,.dtt ks v,.dct mk m]
inductive Brd(B:BD)(b:P):Prop
 |mk (ks:List (List ci)) (vs:List P) (mk:List ci) (mv:List P) (e:b=Iu B ks vs mk mv)
  (yes:∀(x:Nat)(y:Int) r,mZ B x y=Y r->∃i:Nat,cB [.inl (x:Int),.inl y] ks (vs.map .p)=qi (i:Int)/\B.PR[i]? = Y (.tup [r,.int (x:Int),.int y]))
  (no:∀(x:Nat)(y:Int),mZ B x y=Vk->cB [.inl (x:Int),.inl y] ks (vs.map .p)=Vk)
  (mem:∀s ∈ B.N,cT (.inr s) mk mv=Y (.lst (bQ (cX B.N s))))
section
variable{B:BD}{b:P}{n:Nat}{L:Lc}{S:aM}{fo:EE}
theorem Brd.fl(h:Brd B b)(o:fo L S=Y (.p b,S)):bR (aT Att) fo "families" L S=Y (.p (.lst B.fams),S)/\bR (aT Att) fo "homes" L S=Y (.p (.lst (cI B.fams)),S)/\bR (aT Att) fo "pairs" L S=Y (.p (.lst B.PR),S):=by obtain⟨ks,v,mk,m,rfl,_⟩:=h;refine⟨?_,?_,?_⟩<;>simp[o,Iu,nL,Lu]
theorem uU{a:List P}{k:Nat}{f:P}(h:(ao a)[k]? = Y f):∃p:Nat,(cI a)[k]? = Y (.int (p:Int))/\a[p]? = Y f:=by unfold ao at h;rw[bq]at h;obtain⟨x,e,rfl⟩:=eE.mp h;obtain⟨j,s,n⟩:=nG (bg e);refine⟨x.1,?_,by rw[s,cP];exact n⟩;unfold cI;rw[bq,e];rfl
theorem Brd.fam(h:Brd B b){hd:Nat}{f:P}(k:(ao B.fams)[hd]? = Y f):Ph (n+2) "Board.family_of" [.p b,.p (.int (hd:Int))] S=Y (.p f,S):=by
 obtain⟨p,e,x⟩:=uU k;have a:=h.fl (fo:=aj 0) (L:=[U b,qi (hd:Int)]) (S:=S) rfl;rw[i5];have s:kF (bR (aT Att) gL "homes") cw [U b,qi (hd:Int)] S=Y (.p (.int (p:Int)),S):=by rw[kF,a.2.1];simp[bY e]
 simp only[zb,aS,i',ac,i7];show sI (bh (kF (bR (aT Att) gL "families") (vE (kF (bR (aT Att) gL "homes") cw))) [U b,qi (hd:Int)] S)=_;rw[bh,kF,a.1,al,vE,s];simp[bY x]
theorem Uh(h:Str->GF):mT Tb h "Board" "family_of"=Y (h "Board.family_of"):=by kernel_rfl
theorem UW(h:Str->GF):mT Tb h "Board" "hands_beside"=Y (h "Board.hands_beside"):=by kernel_rfl
theorem NR:bF.contains "family_of"=Vm/\bF.contains "hands_beside"=Vm:=by decide +kernel
theorem Brd.mF(h:Brd B b){hd:Nat}{f:P}(s:(ao B.fams)[hd]? = Y f){a:uk}(o:fo L S=Y (.p b,S))(x:a L S=Y ([.p (.int (hd:Int))],S)):cL (mT Tb (Ph (n+2))) fo "family_of" a L S=Y (.p f,S):=by have e:=h.fam (n:=n) (S:=S) s;obtain⟨ks,v,mk,m,rfl,_⟩:=h;rw[cL,o,al];simp only[Iu,Uh,NR,x,al,je,fH];exact e
theorem C9(N:LS)(s:Str)(h:Nat):(oth N s h).length≤N.length:=bf (jP ..) (gP N s)
theorem Brd.bes(h:Brd B b)(t:BP B){hd:Nat}{s:Str}(u:s ∈ B.N):Ph (n+2) "Board.hands_beside" [.p b,.p (.int (hd:Int)),.p (.str s)] S=Y (.p (.lst (bQ (oth B.N s hd))),S):=by
 obtain⟨ks,j,mk,m,rfl,_,_,p⟩:=h;have c:=p s u;let L:Lc:=[U (Iu B ks j mk m),qi (hd:Int),qs s]
 have w:(bQ (cX B.N s)).length≤1000000:=by
  have:=sU t;have:=gP B.N s
  unfold BD.N at *
  simp[bQ];lia
 have a:eR (vE (kF (bR (aT Att) gL "members") dq)) L S=Y (bQ (cX B.N s),S):=by
  have:bR (aT Att) gL "members" L S=Y (.p (.dct mk m),S):=by simp[L,Iu,nL,Lu]
  have e:kF (bR (aT Att) gL "members") dq L S=Y (.p (.lst (bQ (cX B.N s))),S):=by rw[kF,this];simp[L,c]
  rw[eR,vE,e];simp
 have e:bL (ah 3) (fh rg pq) fV (bQ (cX B.N s)) (L++[Vk]) S=Y (bQ (oth B.N s hd),S):=by
  have f:bQ (oth B.N s hd)=((cX B.N s).filter λo=>!decide (hd=o)).map λ(o:Nat)=>P.int (o:Int):=rfl;rw[f];refine jA (F:=λ(i:Nat)=>P.int (i:Int)) (Inv:=λx=>∃d,x=L++[d]) (λv l x r=>?_) ⟨Vk,rfl⟩;obtain⟨d,rfl⟩:=r;refine⟨L++[qi (v:Int)],rfl,⟨_,rfl⟩,?_,λ_=>by simp[L]⟩;by_cases q:hd=v
  .simp [L,q]
  .have g:¬(v:Int)=hd:=by lia
   simp[L,q,g]
 rw[ll];show sI (eN (Ph (n+1)) L S)=_;unfold eN;have k:bp (eR (vE (kF (bR (aT Att) gL "members") dq))) [] 1 (ah 3) (fh rg pq) fV L S=Y (.lst (bQ (oth B.N s hd)),S):=by unfold bp;rw[a,al,ac (by rw[iR];exact w),show m9 [] 1 L=L++[Vk] from rfl,e];rfl
 rw[bh,O,k];rfl
theorem Brd.mH(h:Brd B b)(P:BP B){hd:Nat}{s:Str}(k:s ∈ B.N){a:uk}(o:fo L S=Y (.p b,S))(x:a L S=Y ([.p (.int (hd:Int)),.p (.str s)],S)):cL (mT Tb (Ph (n+2))) fo "hands_beside" a L S=Y (.p (.lst (bQ (oth B.N s hd))),S):=by have e:=h.bes (n:=n) (S:=S) P (hd:=hd) k;obtain⟨ks,v,mk,m,rfl,_⟩:=h;rw[cL,o,al];simp only[Iu,UW,NR,x,al,je,fH];exact e
end
noncomputable abbrev Fs:=Nat->Nat->List P
structure St where
 H:Nat->P
 F:Fs
def px(p:P):Nat:=(iv (bI p 1)).toNat
def py(p:P):Nat:=(iv (bI p 2)).toNat
def rT(B:BD)(F:Fs):List P:=B.PR.map λp=>.tup (F (px p) (py p))
def hT(B:BD)(H:Nat->P):List P:=(List.range (ao B.fams).length).map H
def dA(B:BD)(s:St):P:=.tup [.tup (hT B s.H),.tup (rT B s.F)]
noncomputable def Ik(H:Nat->P)(i:Nat)(x:P):Nat->P:=λj=>if j=i then x else H j
noncomputable def qo(F:Fs)(x y:Nat)(l:List P):Fs:=λa b=>if a=x/\b=y then l else F a b
theorem fC(r:P)(x y:Nat):px (pr r x y)=x/\py (pr r x y)=y:=by simp[px,py,pr]
theorem mn(N:LS)(s:Str):(cX N s).Nodup:=jH kU jc
variable{B:BD}
theorem Rf(P:BP B):B.PR.Pairwise λp q=>¬(px p=px q/\py p=py q):=by
 unfold BD.PR cz;refine jd.mpr ⟨λr _=>?_,P.rd.imp_of_mem λ{r v} _ _ h p a q e z=>?_⟩
 .unfold y_;refine jd.mpr ⟨λx _=>?_,(mn B.N (rA r)).imp λ{x w} h p a q e z=>?_⟩
  .refine eJ.mpr ((jH kU (mn B.N (rB r))).imp λ{y d} h z=>h ?_);simpa[fC] using z.2
  .obtain⟨y,_,rfl⟩:=aO.mp a;obtain⟨d,_,rfl⟩:=aO.mp e;exact h (by simpa[fC] using z.1)
 .have k:∀{r p},p ∈ y_ B.N r->B.N[px p]? = Y (rA r)/\B.N[py p]? = Y (rB r):=λ{r p} a=>by
   obtain⟨v,s,x,y,b,c,_,rfl⟩:=(lf (N:=B.N) (o:=[r])).mp (by simpa[cz] using a);rw[cZ.mp s]at b c ⊢;simpa[fC] using ⟨b,c⟩
  obtain⟨n,f⟩:=k a;obtain⟨m,t⟩:=k e;rw[z.1]at n;rw[z.2]at f;exact h ⟨b0 (n.symm.trans m),b0 (f.symm.trans t)⟩
section
variable{B:BD}{F:Fs}{i x y:Nat}{r:P}
theorem pZ(h:B.PR[i]? = Y (.tup [r,.int (x:Int),.int (y:Int)])):(rT B F)[i]? = Y (.tup (F x y)):=by unfold rT;rw[bq,h];simp[px,py]
theorem Ag(k:BP B)(h:B.PR[i]? = Y (.tup [r,.int (x:Int),.int (y:Int)]))(l:List P):(rT B F).set i (.tup l)=rT B (qo F x y l):=by
 have hk:=kX.mp (Rf k);obtain⟨a,p⟩:=aX.mp h;have e:px (B.PR[i])=x/\py (B.PR[i])=y:=by rw[p];simp[px,py]
 refine jN (by simp[rT]) λj f n=>?_;have s:j < B.PR.length:=by simpa[rT] using n
 rw[vR];simp only[rT,kT,qo];by_cases q:i=j
 .subst q;rw[ac rfl,ac e]
 .rw [ae q,ae λz=>?_];rcases BJ q with q|q
  .exact hk i j a s q ⟨e.1.trans z.1.symm,e.2.trans z.2.symm⟩
  .exact hk j i s a q ⟨z.1.trans e.1.symm,z.2.trans e.2.symm⟩
theorem lZ:(rT B F).length=B.PR.length:=by simp[rT]
theorem yy(h:i < (ao B.fams).length):(hT B H)[i]? = Y (H i):=by simp[hT,h]
theorem NM(v:P):(hT B H).set i v=hT B (Ik H i v):=by
 refine jN (by simp[hT]) λj h x=>?_;rw[vR];simp only[hT,kT,qX,Ik];by_cases q:i=j
 .rw [ac q,ac q.symm]
 .rw [ae q,ae λz=>q z.symm]
theorem fB{t:Int}(h:mZ B x t=Y r):r ∈ B.roads/\∃y:Nat,t=y/\B.N[x]? = Y (rA r)/\B.N[y]? = Y (rB r)/\x≠y:=by unfold mZ at h;have e:=vO h;simp only[ar,jK,k6,vJ]at e;obtain⟨a,b,c,d⟩:=e;exact⟨we h,t.toNat,by lia,a,c,by lia⟩
theorem Gg(P:BP B)(c:r ∈ B.roads)(m:B.N[x]? = Y (rA r))(t:B.N[y]? = Y (rB r))(w:x≠y):mZ B x (y:Int)=Y r:=by
 cases e:mZ B x (y:Int) with
 |none=>
  unfold mZ at e;have:=B1.mp e r c
  simp[m,t,w]at this;lia
 |some p=>
  obtain⟨s,u,h,v,d,_⟩:=fB e;cases (show u=y by lia);have n:rA p=rA r:=b0 (v.symm.trans m);have b:rB p=rB r:=b0 (d.symm.trans t);obtain⟨i,k,h⟩:=ol s;obtain⟨j,f,a⟩:=ol c;have hk:=kX.mp P.rd;rcases Nat.lt_trichotomy i j with q|q|q
  .exact absurd ⟨by rw[h,a];exact n,by rw[h,a];exact b⟩ (hk i j k f q)
  .subst q;rw[<- h,<- a]
  .exact absurd ⟨by rw[h,a];exact n.symm,by rw[h,a];exact b.symm⟩ (hk j i f k q)
end
theorem iZ(P:BP B)(h:p ∈ B.PR):∃r x y,p=pr r x y/\mZ B x ((y:Nat):Int)=Y r/\r ∈ B.roads:=by obtain⟨r,a,x,y,e,s,n,rfl⟩:=lf.mp h;exact⟨r,x,y,rfl,Gg P a e s n,a⟩
section
variable{B:BD}{b:P}{L:Lc}{S:aM}{fo:EE}{ks:lC}{x:Nat}{t:Int}
theorem Brd.ix(h:Brd B b)(o:fo L S=Y (.p b,S))(hk:ks L S=Y ([.int (x:Int),.int t],S))(a:mZ B x t=Y r):∃i:Nat,ug (bR (aT Att) fo "places") ks L S=Y (.p (.int (i:Int)),S)/\B.PR[i]? = Y (.tup [r,.int (x:Int),.int t]):=by
 obtain⟨K,v,mk,m,rfl,y,_⟩:=h;obtain⟨i,e,p⟩:=y x t r a;have f:bR (aT Att) fo "places" L S=Y (.p (.dtt K v),S):=by simp[o,Iu,nL,Lu]
 refine⟨i,?_,p⟩;rw[ug,f,al,hk];simp[qz,d7,dH,e]
theorem Brd.get(h:Brd B b)(o:fo L S=Y (.p b,S))(hk:ks L S=Y ([.int (x:Int),.int t],S)):(mZ B x t=Vk/\tt (bR (aT Att) fo "places") ks L S=Y (.p .non,S)) \/
  ∃r,∃i:Nat,mZ B x t=Y r/\tt (bR (aT Att) fo "places") ks L S=Y (.p (.int (i:Int)),S)/\B.PR[i]? = Y (.tup [r,.int (x:Int),.int t]):=by
 obtain⟨K,v,mk,m,rfl,y,n,_⟩:=h;have f:bR (aT Att) fo "places" L S=Y (.p (.dtt K v),S):=by simp[o,Iu,nL,Lu]
 cases a:mZ B x t with
 |none=>refine .inl ⟨rfl,?_⟩;rw[tt,f,al];simp[qz,hk,d7,dH,n x t a]
 |some r=>obtain⟨i,e,p⟩:=y x t r a;refine .inr ⟨r,i,rfl,?_,p⟩;rw[tt,f,al];simp[qz,hk,d7,dH,e]
theorem Brd.pr(h:Brd B b)(o:fo L S=Y (.p b,S)){i:Nat}{p:P}(a:B.PR[i]? = Y p){fi:EV}(x:fi L S=Y (.int (i:Int),S)):kF (bR (aT Att) fo "pairs") fi L S=Y (.p p,S):=by rw[kF,(h.fl o).2.2];simp[x,bY a]
end
def Ua(l:List P):List P:=i3 ((mq l).getD .non)
def EL(r:P):Str:=match bI r 2 with
 | .str k=>k
 |_=>""
noncomputable def h7(l:Str×Int):P:=.tup [.str l.1,.int l.2]
def Hi(r:P)(s:List P)(l:P):List P:=if EL r="heap" then Ua (s++[l]) else s++[l]
def jp(B:BD)(l:Str×Int)(h:Nat)(t:Int)(F:Fs):Option Fs:=(mZ B h t).bind λr=>if 999 < l.2.natAbs\/iv (bI r 3)≤((F h t.toNat).length:Int) then Vk else Y (qo F h t.toNat (Hi r (F h t.toNat) (h7 l)))
def fX(B:BD)(l:Str×Int)(h:Nat):List Int->Fs->Option Fs
 | [],F=>Y F
 |t::s,F=>(jp B l h t F).bind (fX B l h s)
def tK(F:Fs):Prop:=∀x y,m7 (F x y)
theorem tK.up(h:tK F)(e:m7 l):tK (qo F x y l):=λa b=>by
 unfold qo;split
 .exact e
 .exact h a b
noncomputable def lF(t:List Int):List P:=t.map .int
theorem P8{B:BD}(hP:BP B){b:P}(hb:Brd B b){n:Nat}{F:Fs}(hF:tK F){l:Str×Int}(hm:ba l.1=Vl){h:Nat}(f:P)(t:Int)(I e a:Option D) :
  (jp B l h t F=Vk/\∃L',eT (Ph (n+2)) [U b,qt (rT B F),qi (h:Int),U f,U (h7 l),qi t,I,e,a] []=Y (.rt (.p .non),L',[])) \/
  ∃F' q6' q7' q8',jp B l h t F=Y F'/\tK F'/\eT (Ph (n+2)) [U b,qt (rT B F),qi (h:Int),U f,U (h7 l),qi t,I,e,a] []=Y (.nx,[U b,qt (rT B F'),qi (h:Int),U f,U (h7 l),qi t,q6',q7',q8'],[]):=by
 let L:List P->Option D->Option D->Option D->Lc:=λrs I e a=>[U b,qt rs,qi (h:Int),U f,U (h7 l),qi t,I,e,a]
 obtain⟨m,v⟩:=l;unfold eT jp;rcases hb.get (fo:=aj 0) (L:=L (rT B F) I e a) (S:=[]) (ks:=v2 dq j4) (x:=h) (t:=t) rfl rfl with ⟨Q,e2⟩|⟨r,i,Q,e2,W⟩
 .left;refine⟨by rw[Q];rfl,L (rT B F) (U .non) e a,?_⟩;rw[am (x:=L (rT B F) (U .non) e a) (a:=[]) (by rw[aA,e2];rfl)];simp[L,yD,fj]
 rw[am (x:=L (rT B F) (qi (i:Int)) e a) (a:=[]) (by rw[aA,e2];rfl),Q,eD];dsimp only;obtain⟨hrm,y,rfl,hx,hy,hn⟩:=fB Q;have hpc:=hP.hr r hrm;obtain⟨M,N,k,c,g,j,_,_,hk,hc1,hc2,rfl⟩:=hpc;have hil:=bB W;have K:=bY (pZ (F:=F) W);have u:=hF h y;have ek:EL (.tup [.str M,.str N,.str k,.int c,.bl g,.bl j])=k:=by simp[EL,bI]
 have ev:iv (bI (.tup [.str M,.str N,.str k,.int c,.bl g,.bl j]) 3)=c:=by simp
 rw[ev];simp only[fG];let d:=L (rT B F) (qi (i:Int)) e a
 have H:(if v < 0 then -v else v)=(v.natAbs:Int):=by split<;>lia
 have T:EM (bV (fx yD (aj 6) (O (vC (.non))))) (bV (xM (bj tH (v1 (ab iL df))) (vi 999))) d []=Y (decide (999 < v.natAbs),[]):=by have:decide ((999:Int) < (v.natAbs:Int))=decide (999 < v.natAbs):=oa.mpr (by lia);simp[d,L,yD,fj,h7,tH,H,this]
 by_cases Z:999 < v.natAbs
 .rw [eF Z]at T;refine .inl ⟨ac (.inl Z),d,?_⟩;rw[ai,jw T];rfl
 rw[bA Z]at T;rw[am (x:=d) (a:=[]) (fO T)];let R:P:=.tup [.str M,.str N,.str k,.int c,.bl g,.bl j]
 let w:=L (rT B F) (qi (i:Int)) (U R) a
 rw[am (x:=w) (a:=[]) (by rw[aA,kF,hb.pr (fo:=aj 0) (L:=d) rfl W (fi:=vv 6) (by simp[d,L])];simp[d,w,L,R])]
 have e3:L2.atI [P.str M,.str N,.str k,.int c,.bl g,.bl j] 3=Y (.int c):=bn (by decide) rfl;have V:bV (CD (d5 (O (ab cw iO))) (ab lO jF)) w []=Y (decide (c≤((F h y).length:Int)),[]):=by
  have:(F h y).length≤1000000:=by have:=u.1;lia
  simp[w,L,R,K,d_,fD,e3]
 by_cases X:c≤((F h y).length:Int)
 .rw [eF X]at V;refine .inl ⟨ac (.inr X),w,?_⟩;rw[ai,jw V];rfl
 rw[bA X]at V;right;rw[am (x:=w) (a:=[]) (fO V),ae (λz=>z.elim Z X)];have o:=ij (s:=F h y) (y:=[h7 (m,v)]) (by have:=u.1;simp;lia);let p:List P->Lc:=λs=>L (rT B F) (qi (i:Int)) (U R) (qt s)
 rw [am (x:=p (F h y++[h7 (m,v)])) (a:=[]) (by simp [w,p,L,K,o])];have E:m7 (F h y++[h7 (m,v)]):=⟨by simp;lia,fun l C=>by
  rcases cR.mp C with C|C
  .exact u.2 l C
  .rw [cZ.mp C];exact⟨m,v,hm,by lia,rfl⟩⟩
 have key:∃s,Hi R (F h y) (h7 (m,v))=s/\m7 s/\fm (bw (O (ab lO gc)) (O (vt "heap"))) (aA 8 (O (bj a_ (v1 (uv (aj 8)))))) gf (p (F h y++[h7 (m,v)])) []=Y (.nx,p s,[]):=by
  unfold Hi;rw[ek];by_cases q:k="heap"
  .obtain⟨zs,hz,es⟩:=uD E;refine⟨zs,by rw[ac q,Ua,es];rfl,hz,?_⟩;simp[p,L,R,q,FY,JG,es,a_]
  .refine⟨_,ae q,E,?_⟩;simp[p,L,R,q]
 obtain⟨s,h1,h2,h3⟩:=key;have A:i < (rT B F).length:=by rw[lZ];exact hil
 have G:=sE (n:=n) A (by rw[lZ];have:=nN hP;lia) (.tup s);refine⟨_,qi (i:Int),U R,qt s,rfl,hF.up (x:=h) (y:=y) (l:=Hi R (F h y) (h7 (m,v))) (by rw[h1];exact h2),?_⟩;rw[am (x:=p s) (a:=[]) h3];rw[Ag hP W]at G;have:Hi (.tup [.str M,.str N,.str k,.int c,.bl g,.bl j]) (F h y) (h7 (m,v))=s:=h1;rw[this];simp[p,L,G]
theorem C8(H:BP B)(S:Brd B b)(K:ba l.1=Vl)(s:P):∀(p:List Int){F:Fs},tK F->∀(v f m r:Option D),
  (fX B l h p F=Vk/\∃L,bx (ah 5) (eT (Ph (n+2))) (lF p) [U b,qt (rT B F),qi (h:Int),U s,U (h7 l),v,f,m,r] []=Y (.rt (.p .non),L,[])) \/
  ∃w q x e k,fX B l h p F=Y w/\tK w/\bx (ah 5) (eT (Ph (n+2))) (lF p) [U b,qt (rT B F),qi (h:Int),U s,U (h7 l),v,f,m,r] []=Y (.nx,[U b,qt (rT B w),qi (h:Int),U s,U (h7 l),q,x,e,k],[])
 | [],F,z,v,f,m,r=>.inr ⟨F,v,f,m,r,rfl,z,rfl⟩
 |t::p,F,z,v,f,m,r=>by
  rcases P8 H S (n:=n) z K s t f m r (h:=h) with ⟨u,L,i⟩|⟨w,a,c,d,u,o,i⟩
  .exact .inl ⟨by rw[fX,u];rfl,L,yH rfl i⟩
  .rcases C8 H S K s p o (qi t) a c d with ⟨j,L,y⟩|⟨A,q,x,e,k,j,g,y⟩
   .exact .inl ⟨by rw[fX,u];exact j,L,(cq rfl i).trans y⟩
   .exact .inr ⟨A,q,x,e,k,by rw[fX,u];exact j,g,(cq rfl i).trans y⟩
theorem Lq(P:BP B)(f:Brd B b)(m:ba l.1=Vl)(t:List Int)(k:tK F) :
  (∀x,fX B l h t F=Y x->tK x)/\cm (Ph (n+3) "posted") [b,.tup (rT B F),.int (h:Int),.lst (lF t),h7 l]=Y (((fX B l h t F).map λx=>.tup (rT B x)).getD .non):=by
 rcases C8 P f (n:=n) m (h:=h) (.lst (lF t)) t k Vk Vk Vk Vk with ⟨e,L,a⟩|⟨x,q,c,r,p,e,s,a⟩
 .rw [e];refine⟨λ_ z=>(by cases z),?_⟩;rw[ti,aD];simp[nI,a]
 .rw [e];refine⟨λ_ z=>(by cases z;exact s),?_⟩;rw[ti,aD];simp[nI,a]
theorem qD{q:Type}{G:q->P}{g:lM}{b:ES}{p:Lc->Prop}{f:q->List P}{c M:Nat}{T:aM}:∀{s:List q},(∀x ∈ s,(f x).length≤c/\∀L a,p L->a.length+c≤M->∃n L2,g (G x) L=Y n/\b n (T++[.lst (a.map .p)])=Y (.nx,L2,T++[.lst ((a++f x).map .p)])/\p L2) ->
  (s.flatMap f).length≤c * s.length/\∀L a,p L->a.length+c * s.length≤M->∃e,bx g b (s.map G) L (T++[.lst (a.map .p)])=Y (.nx,e,T++[.lst ((a++s.flatMap f).map .p)])/\p e
 | [],_=>⟨by simp,λL a k _=>⟨L,by simp[bx],k⟩⟩
 |x::r,h=>by obtain⟨z,u⟩:=h x aK;obtain⟨o,l⟩:=qD (s:=r) λy j=>h y (aL _ j);refine⟨by rw[dG,bK,aS,vw];lia,λL a k i=>?_⟩;rw[aS,vw]at i;obtain⟨n,L2,v,d,t⟩:=u L a k (by lia);obtain⟨e,w,m⟩:=l L2 (a++f x) t (by rw[bK];lia);refine⟨e,?_,m⟩;rw[aC,cq v d,w,dG,gW]
theorem oU{r:EE}{v:EV}{L:Lc}{T:aM}{a y:List P}(x:r L (T++[.lst (a.map .p)])=Y (.ref T.length,T++[.lst (a.map .p)]))(e:v L (T++[.lst (a.map .p)])=Y (.lst y,T++[.lst (a.map .p)]))(h:a.length+y.length≤1000000):bW (gA r v) L (T++[.lst (a.map .p)])=Y (.nx,L,T++[.lst ((a++y).map .p)]):=by rw[bW,gA,x,al];simp[fu,e,h]
theorem o7(x:r L (T++[.lst (c.map .p)])=Y (.ref T.length,T++[.lst (c.map .p)]))(v:a L (T++[.lst (c.map .p)])=Y (.p y,T++[.lst (c.map .p)]))(h:c.length≤1000000):bW (bC r a) L (T++[.lst (c.map .p)])=Y (.nx,L,T++[.lst ((c++[y]).map .p)]):=by rw[bW,bC,x,al];simp[fu,v,h]
theorem lV:toP 9 (.ref T.length) (T++[.lst (a.map .p)])=Y (.lst a,T++[.fz (.lst a)]):=by rw[dS (M:=a) (by simp)];simp
def ux(r:P)(l:List P):List Nat:=if EL r="row" then (List.range l.length).take 1 else zJ (EL r) l
def xG(B:BD)(F:Fs)(h s:Nat)(m:Str):List (Nat×Nat):=match mZ B s (h:Int) with
 |some r=>((ux r (F s h)).filter λk=>decide (bt ((F s h).getD k .non)=m)).map λk=>(s,k)
 |none=>[]
noncomputable def lP:Option (Nat×Nat)->P
 |none=>.non
 |some (s,k)=>.tup [.int (s:Int),.int (k:Int)]
def wA(B:BD)(F:Fs)(h:Nat)(t:P):List (Option (Nat×Nat)):=match t with
 | .tup (.str m::.str a::_)=>((oth B.N a h).flatMap λs=>xG B F h s m).map Y
 |_=>[Vk]
theorem FQ:(∀k ∈ ux r l,k < l.length)/\(ux r l).length≤l.length:=by
 unfold ux;split
 .exact⟨λk hk=>bM.mp (mQ hk),by simp;lia⟩
 .unfold zJ;exact⟨λk hk=>bM.mp (e_.mp hk).1,bf (jP ..) (by simp)⟩
theorem Jx{B:BD}(hP:BP B){b:P}(X:Brd B b){n:Nat}{F:Fs}(hF:tK F){h:Nat}{m a o Q:Str}(v:P)(ht:v=.tup [.str m,.str a,.str o,.str Q])(hr:∀s ∈ oth B.N a h,∃r,mZ B s (h:Int)=Y r/\r ∈ B.roads) :
  ((oth B.N a h).flatMap λs=>(xG B F h s m).map λz=>lP (Y z)).length≤3 * (oth B.N a h).length/\∀L t,(∃u w f e x:Option D,L=[U b,qt (rT B F),qi (h:Int),U v,qr 0,u,w,f,e,x])->t.length+3 * (oth B.N a h).length≤1000 ->
   ∃g,bx (ah 5) (gC (Ph (n+2))) ((oth B.N a h).map λ(s:Nat)=>P.int (s:Int)) L ([]++[.lst (t.map .p)])=Y (.nx,g,[]++[.lst ((t++(oth B.N a h).flatMap λs=>(xG B F h s m).map λz=>lP (Y z)).map .p)])/\∃u w f e x:Option D,g=[U b,qt (rT B F),qi (h:Int),U v,qr 0,u,w,f,e,x]:=by
 refine qD (c:=3) (M:=1000) (p:=λL=>∃u w f e x:Option D,L=[U b,qt (rT B F),qi (h:Int),U v,qr 0,u,w,f,e,x]) (T:=[]) λs hs=>?_;obtain⟨r,V,E⟩:=hr s hs;have p:=hF s h;have N:xG B F h s m=((ux r (F s h)).filter λk=>decide (bt ((F s h).getD k .non)=m)).map λk=>(s,k):=by rw[xG,V]
 obtain⟨I,G⟩:=FQ (r:=r) (l:=F s h);rw[N];refine⟨by rw[aH,aH];exact bf (jP ..) (bf G p.1),λL t y hM=>?_⟩
 obtain⟨u,w,f,e,x,rfl⟩:=y;let L:Option D->Option D->Option D->Option D->Lc:=λw f e x=>[U b,qt (rT B F),qi (h:Int),U v,qr 0,qi (s:Int),w,f,e,x]
 let S:aM:=[]++[.lst (t.map .p)]
 obtain⟨i,e2,hp⟩:=X.ix (fo:=aj 0) (L:=L w f e x) (S:=S) (ks:=v2 j4 dq) rfl (by simp[L]) V;obtain⟨ra,rb,k,c,d1,d2,_,_,hk,hc1,hc2,rfl⟩:=hP.hr r E;let R:P:=.tup [.str ra,.str rb,.str k,.int c,.bl d1,.bl d2]
 have ek:EL R=k:=by simp[EL,bI,R]
 have H:=bY (pZ (F:=F) hp);refine⟨L w f e x,L (qi (i:Int)) (qs k) (qt (F s h)) (ql (bQ (ux R (F s h)))),rfl,?_,_,_,_,_,_,rfl⟩;unfold gC;rw[am (x:=L (qi (i:Int)) f e x) (a:=S) (by rw[aA,e2];rfl)];rw[am (x:=L (qi (i:Int)) (qs k) e x) (a:=S) (by rw[aA,kF,kF,X.pr (fo:=aj 0) (L:=L (qi (i:Int)) f e x) rfl hp (fi:=vv 6) (by simp[L])];simp[L])]
 rw[am (x:=L (qi (i:Int)) (qs k) (qt (F s h)) x) (a:=S) (by simp[L,H])];have hq:(F s h).length < 1000000:=by have:=p.1;lia
 have hq2:(F s h).length≤1000000:=by lia
 rw [am (x:=L (qi (i:Int)) (qs k) (qt (F s h)) (ql (bQ (ux R (F s h))))) (a:=S) (by
  unfold ux;rw[ek];by_cases q:k="row"
  .rw [ac q];have:(bQ (List.range (F s h).length)).take 1=bQ ((List.range (F s h).length).take 1):=by unfold bQ;rw[qS]
   simp[L,q,d_,fD,hq,Dv,show cut (bQ (List.range (F s h).length)) Vk (Y 1)=_ from xm (x:=bQ (List.range (F s h).length)) 1,this]
  .rw [ae q];simp[L,q,Lg (n:=n) k p])]
 refine oU (T:=[]) rfl ?_ ?_
 .have ef:(((ux R (F s h)).filter λk=>decide (bt ((F s h).getD k .non)=m)).map λk=>(s,k)).map (λz=>lP (Y z))=((ux R (F s h)).filter λk=>decide (bt ((F s h).getD k .non)=m)).map λk=>lP (Y (s,k)):=by rw[cQ];rfl
  rw[ef];have eg:bL (ah 10) (bw (O (ab (ab kN iP) eU)) (O (ab fV eU))) (aQ (v2 j4 iP)) (bQ (ux R (F s h))) (L (qi (i:Int)) (qs k) (qt (F s h)) (ql (bQ (ux R (F s h))))++[Vk]) S=Y (((ux R (F s h)).filter λk=>decide (bt ((F s h).getD k .non)=m)).map λk=>lP (Y (s,k)),S):=by
   refine jA (F:=λ(k:Nat)=>P.int (k:Int)) (Inv:=λg=>∃d,g=L (qi (i:Int)) (qs k) (qt (F s h)) (ql (bQ (ux R (F s h))))++[d]) (λz hz g y=>?_) ⟨Vk,rfl⟩;obtain⟨d,rfl⟩:=y;have l:=I z hz;have Z:(F s h)[z]? = Y ((F s h)[z]):=aY l;have j:=bY Z;obtain⟨mm,vv,_,_,W⟩:=p.2 _ (dn l);refine⟨_,rfl,⟨_,rfl⟩,?_,λ_=>by simp[L,lP]⟩;have K:(F s h).getD z .non=.tup [.str mm,.int vv]:=by rw[a8,Z,W];rfl
   rw[W]at j;rw[K];simp[L,ht,j,bt];exact oa.mpr Iff.rfl
  have C:(bQ (ux R (F s h))).length≤1000000:=by unfold bQ;rw[aH];lia
  unfold bp;rw[show eR jf (L (qi (i:Int)) (qs k) (qt (F s h)) (ql (bQ (ux R (F s h))))) S=Y (bQ (ux R (F s h)),S) by simp[L],al,ac (by rw[iR];exact C)];rw[show ∀A:Lc,m9 [] 1 A=A++[Vk] from λ_=>rfl,eg];rfl
 .rw [aH,aH];have:=jP (λk=>decide (bt ((F s h).getD k .non)=m)) (ux R (F s h))
  have:=p.1;lia
theorem Li{B:BD}(x:BP B){b:P}(d:Brd B b){n:Nat}{F:Fs}(H:tK F){h:Nat}{u:Str}(A:B.N[h]? = Y u){o:List P}{t:P}(C:j7 u B.roads o t) :
  (wA B F h t).length≤12/\cm (Ph (n+3) "takeable") [b,.tup (rT B F),.int (h:Int),t]=Y (.lst ((wA B F h t).map lP)):=by
 rcases C with rfl|⟨m,a,i,w,_,_,_,_,⟨r,q,j,rfl⟩,_,rfl⟩
 .refine⟨by simp[wA],?_⟩;rw[oV,aD];simp[lv,yD,fj,wA,lP]
 have k:rA r ∈ B.N:=by obtain⟨⟨G,c,p⟩,_⟩:=x.ra r q;rw[<- p];exact LW x c
 have K:(oth B.N (rA r) h).length≤4:=bf (C9 _ _ _) (sU x);obtain⟨I,D⟩:=Jx x d (n:=n) H (h:=h) (m:=m) (a:=rA r) (.tup [.str m,.str (rA r),.str i,.str w]) rfl λs k=>by unfold oth at k;obtain⟨c,p⟩:=e_.mp k;exact⟨r,Gg x q (kr.mp c) (A.trans (by rw[j])) (λz=>by simp[z]at p),q⟩
 have v:(wA B F h (.tup [.str m,.str (rA r),.str i,.str w])).map lP=(oth B.N (rA r) h).flatMap λs=>(xG B F h s m).map λz=>lP (Y z):=by rw[wA,cQ,ff];rfl
 obtain⟨E,e,M,N,Q,R,T,rfl⟩:=D [U b,qt (rT B F),qi (h:Int),qt [.str m,.str (rA r),.str i,.str w],qr 0,Vk,Vk,Vk,Vk,Vk] [] ⟨Vk,Vk,Vk,Vk,Vk,rfl⟩ (by simp;lia);refine⟨by rw[<- aH (f:=lP),v];lia,?_⟩;rw[v];have y:=d.mH (n:=n) x k (L:=[U b,qt (rT B F),qi (h:Int),qt [.str m,.str (rA r),.str i,.str w],qr 0,Vk,Vk,Vk,Vk,Vk]) (S:=[.lst []]) (fo:=aj 0) (hd:=h) (a:=Om lU (O (ab fV df))) rfl (by simp);have l:eR (vE (cL (mT Tb (Ph (n+2))) gL "hands_beside" (Om lU (O (ab fV df))))) [U b,qt (rT B F),qi (h:Int),qt [.str m,.str (rA r),.str i,.str w],qr 0,Vk,Vk,Vk,Vk,Vk] [.lst []]=Y (bQ (oth B.N (rA r) h),[.lst []]):=by rw[eR,vE,y];simp
 simp only[cS,gn]at e;have g:bx (ah 5) (gC (Ph (n+2))) (bQ (oth B.N (rA r) h)) [U b,qt (rT B F),qi (h:Int),qt [.str m,.str (rA r),.str i,.str w],qr 0,Vk,Vk,Vk,Vk,Vk] [.lst []]=_:=e;rw[oV,aD];simp[-cL,-eR,lv,yD,fj,l,g]
end My
set_option tactic.hygienic true
namespace My
open PySem L2 Ev
def Il(x:List Nat×List Int):P:=.tup [.tup (ag x.1),.lst (lF x.2)]
def y9(B:BD)(h:Nat)(p H:List P)(w E:Str):List (List Nat×List Int):=if w="who" then [([],[iv (H.getD ((jx p (.str E)).getD 0) .non)])] else if w="all" then [([],(oth B.N E h).map λ(o:Nat)=>(o:Int))] else (oth B.N E h).map λ(o:Nat)=>([o],[(o:Int)])
theorem rj{s:List P}(h:∀x ∈ s,lQ x){x:Str}(a:P.str x ∈ s):∃i:Nat,i < s.length/\jx s (.str x)=Y i:=yw (λy e=>(h y e).ok 19) a
theorem Eb(os:List Nat):bQ os=lF (os.map λ(o:Nat)=>(o:Int)):=by simp[bQ,lF]
theorem tg_ok{B:BD}(I:BP B){b:P}(q:Brd B b){n:Nat}{h:Nat}{E:Str}{C:Nat}{u a p A:List P}(Q:Fam B.roads E C u a p A)(i:(ao B.fams)[h]? = Y (gI E C u a p A)){H:List P}(hw:H.length=p.length){k:Nat}(t:∀w ∈ H,Eh k w){y m:Str}
  (X:(y="who"/\P.str m ∈ p)\/((y="all"\/y="any")/\∃r ∈ B.roads,rA r=E/\m=rB r)) :
  (y9 B h p H y m).length≤4/\(∀x ∈ y9 B h p H y m,x.1.length≤1)/\cm (Ph (n+4) "targets_of") [b,.int (h:Int),.str y,.str m,.tup H]=Y (.lst ((y9 B h p H y m).map Il)):=by
 rcases X with ⟨rfl,z⟩|⟨f,r,K,hra,rfl⟩
 .obtain⟨k,hk,G⟩:=rj Q.hwh z;have g:H[k]? = Y (H[k]'(by lia)):=aY (by lia);obtain⟨j,_,_,R⟩:=t _ (dn (h:=by lia):H[k]'(by lia) ∈ H);rw[R]at g;have D:y9 B h p H "who" m=[([],[j])]:=by unfold y9;rw[ac rfl,G,gS,a8,g];rfl
  rw[D];refine⟨by simp,λx c=>by rw[cZ.mp c];simp,?_⟩;have s:=q.mF (n:=n+1) i (fo:=aj 0) (a:=CF pq) (L:=[U b,qi (h:Int),qs "who",qs m,qt H,Vk]) (S:=[]) rfl rfl;rw[jy,aD];simp[hV,-cL,s,RT,G,bY g,Il,ag,lF]
 .have hs:rB r ∈ B.N:=by
   obtain⟨_,⟨f',T,V⟩⟩:=I.ra r K;rw[<- V];exact LW I T
  have l:(oth B.N (rB r) h).length≤4:=bf (C9 _ _ _) (sU I);have s:∀e,cL (mT Tb (Ph (n+3))) gL "hands_beside" (Om pq rg) [U b,qi (h:Int),qs y,qs (rB r),qt H,e] []=Y (.p (.lst (bQ (oth B.N (rB r) h))),[]):=λe=>q.mH (n:=n+1) I hs rfl rfl;unfold y9;generalize oth B.N (rB r) h=os at l s;rcases f with rfl|rfl
  .rw [ae (by simp),ac rfl];refine⟨by simp,λx c=>by rw[cZ.mp c];simp,?_⟩;rw[jy,aD];simp[hV,-cL,s,Il,ag,Eb]
  .rw [ae (by simp),ae (by simp)];refine⟨by simpa using l,λx c=>?_,?_⟩
   .obtain⟨o,ho,rfl⟩:=aO.mp c;simp
   .have M:bL (ah 6) eA (aQ (v2 (aQ (v1 iO)) (bP (v1 iO)))) (bQ os) [U b,qi (h:Int),qs "any",qs (rB r),qt H,ql (bQ os),Vk] []=Y ((os.map λ(o:Nat)=>([o],[(o:Int)])).map Il,[]):=by
     have N:(os.map λ(o:Nat)=>([o],[(o:Int)])).map Il=(os.filter λ_=>Vl).map λ(o:Nat)=>Il ([o],[(o:Int)]):=by rw[jW,cQ];rfl
     rw[N];refine jA (F:=λ(o:Nat)=>P.int (o:Int)) (Inv:=λL=>∃d,L=[U b,qi (h:Int),qs "any",qs (rB r),qt H,ql (bQ os),d]) (λv hv L W=>?_) ⟨Vk,rfl⟩;obtain⟨d,rfl⟩:=W;exact⟨_,rfl,⟨_,rfl⟩,by simp,λ_=>by simp[Il,ag,lF]⟩
    have Z:(bQ os).length≤1000000:=by simp[bQ];lia
    rw[jy,aD];simp[hV,-cL,s,bp,Z,m9,M]
noncomputable abbrev Wy:=List Nat×Fs
def rh(B:BD)(w:Wy):P:=.tup [.tup (ag w.1),.tup (rT B w.2)]
def Q'(w:Wy):Prop:=w.1.length≤900/\tK w.2
def wo(B:BD)(h:Nat)(l:Str×Int)(w:Wy)(x:List Nat×List Int):List Wy:=match fX B l h x.2 w.2 with
 |some F=>[(w.1++x.1,F)]
 |none=>[]
def uC(B:BD)(h:Nat)(l:Str×Int)(T:List (List Nat×List Int))(W:List Wy):List Wy:=W.flatMap λw=>T.flatMap (wo B h l w)
abbrev FL(b p v t H:P)(h:Nat)(d c m r q x a e s n k f:Option D):Lc:=[U b,qi (h:Int),U p,U v,U t,U H,d,c,m,r,q,x,a,e,s,n,k,f]
theorem UR{B:BD}(I:BP B){b:P}(q:Brd B b){n:Nat}{h:Nat}{l:Str×Int}(y:ba l.1=Vl){w:Wy}(hw:Q' w){x:List Nat×List Int}(o:x.1.length≤1)(g i u H:P)(m r t v s k:Option D){T:aM}{a:List P}(j:a.length≤1000000) :
  ∃c,gE (Ph (n+3)) (FL b g i u H h m r t v s (U (h7 l)) (qr T.length) (qt (ag w.1)) (qt (rT B w.2)) (qt (ag x.1)) (ql (lF x.2)) k) (T++[.lst (a.map .p)]) =
   Y (.nx,FL b g i u H h m r t v s (U (h7 l)) (qr T.length) (qt (ag w.1)) (qt (rT B w.2)) (qt (ag x.1)) (ql (lF x.2)) c,T++[.lst ((a++(wo B h l w x).map (rh B)).map .p)]):=by
 obtain⟨z,p⟩:=Lq I q (n:=n) y (h:=h) x.2 hw.2;let L:Option D->Lc:=λk=>FL b g i u H h m r t v s (U (h7 l)) (qr T.length) (qt (ag w.1)) (qt (rT B w.2)) (qt (ag x.1)) (ql (lF x.2)) k
 unfold gE wo;cases e:fX B l h x.2 w.2 with
 |none=>rw[e]at p;refine⟨U .non,?_⟩;rw[am (x:=L (U .non)) (a:=T++[.lst (a.map .p)]) (by simp[FL,L,p])];simp[FL,L,dw,fj]
 |some F=>
  rw[e]at p;refine⟨qt (rT B F),?_⟩;rw[am (x:=L (qt (rT B F))) (a:=T++[.lst (a.map .p)]) (by simp[FL,L,p])];rw[jw (by simp[FL,L,dw,fj])];have d:=ij (s:=ag w.1) (y:=ag x.1) (by have:=hw.1;simp[ag];lia);have f:ag w.1++ag x.1=ag (w.1++x.1):=by simp[ag]
  rw[f]at d;exact o7 rfl (by simp[FL,L,d,rh]) j
variable{B:BD}{h:Nat}
theorem FA:(wo B h l w x).length≤1:=by unfold wo;split<;>simp
variable{W:List Wy}
theorem MA(I:BP B)(q:Brd B b)(m:ba l.1=Vl)(hT:∀x ∈ T,x.1.length≤1)(f:c≤800)(s:∀w ∈ W,w.1.length≤c/\tK w.2):∀w ∈ uC B h l T W,w.1.length≤c+1/\tK w.2:=λz a=>by
 obtain⟨w,hw,a⟩:=b_.mp a;obtain⟨x,k,a⟩:=b_.mp a;unfold wo at a;split at a
 .rename_i F e;rw[cZ.mp a];have:=(s w hw).1
  have:=hT x k;exact⟨by simp;lia,(Lq I q (n:=0) m x.2 (s w hw).2).1 F e⟩
 .cases a
theorem UQ{B:BD}(I:BP B){b:P}(q:Brd B b){n:Nat}{h:Nat}{l:Str×Int}(hm:ba l.1=Vl){T:List (List Nat×List Int)}(hT:T.length≤4/\∀x ∈ T,x.1.length≤1){y u:Str}{H:P}(V:cm (Ph (n+3) "targets_of") [b,.int (h:Int),.str y,.str u,H]=Y (.lst (T.map Il)))(A C K:P)(o S F:Option D){T0:aM}{W:List Wy}(Z:∀w ∈ W,Q' w)(hl:W.length≤64)(p v s k a:Option D) :
  ∃i j r t m,bx (be [ah 13,ah 14]) (gD (Ph (n+3))) (W.map (rh B)) (FL b A C K H h o S F (qs y) (qs u) (U (h7 l)) (qr T0.length) p v s k a) (T0++[.lst []]) =
   Y (.nx,FL b A C K H h o S F (qs y) (qs u) (U (h7 l)) (qr T0.length) i j r t m,T0++[.lst (((uC B h l T W).map (rh B)).map .p)])/\(uC B h l T W).length≤4 * W.length:=by
 let L:Option D->Option D->Option D->Option D->Option D->Lc:=λp v s k a=>FL b A C K H h o S F (qs y) (qs u) (U (h7 l)) (qr T0.length) p v s k a
 obtain⟨Q,k2⟩:=qD (G:=rh B) (g:=be [ah 13,ah 14]) (b:=gD (Ph (n+3))) (p:=λz=>∃p v s k a,z=L p v s k a) (f:=λw=>(T.flatMap (wo B h l w)).map (rh B)) (c:=4) (M:=1000) (T:=T0) (s:=W) λw hw=>by
  obtain⟨j1,j2⟩:=qD (G:=Il) (g:=be [ah 15,ah 16]) (b:=gE (Ph (n+3))) (p:=λz=>∃s k a,z=L (qt (ag w.1)) (qt (rT B w.2)) s k a) (f:=λx=>(wo B h l w x).map (rh B)) (c:=1) (M:=1000) (T:=T0) (s:=T) λx hx=>by refine⟨by rw[aH];exact FA,λz d N X=>?_⟩;obtain⟨s,k,a,rfl⟩:=N;obtain⟨m,e⟩:=UR I q (n:=n) hm (Z w hw) (hT.2 x hx) A C K H o S F (qs y) (qs u) a (h:=h) (T:=T0) (a:=d) (by lia);exact⟨_,_,rfl,e,_,_,_,rfl⟩
  have E:(T.flatMap (wo B h l w)).map (rh B)=T.flatMap λx=>(wo B h l w x).map (rh B):=by rw[ff]
  rw[E];refine⟨by have:=hT.1;lia,λz d N X=>?_⟩;obtain⟨p,v,s,k,a,rfl⟩:=N;obtain⟨L2,R,r,t,m,rfl⟩:=j2 (L (qt (ag w.1)) (qt (rT B w.2)) s k a) d ⟨_,_,_,rfl⟩ (by have:=hT.1;lia);refine⟨L (qt (ag w.1)) (qt (rT B w.2)) s k a,L (qt (ag w.1)) (qt (rT B w.2)) r t m,rfl,?_,qt (ag w.1),qt (rT B w.2),r,t,m,rfl⟩;unfold gD;rw[bD,show eR (cf (Ph (n+3) "targets_of") (v5 bX cw jf iP j4)) (L (qt (ag w.1)) (qt (rT B w.2)) s k a) (T0++[.lst (d.map .p)])=Y (T.map Il,T0++[.lst (d.map .p)]) by simp[L,FL,V]];exact R
 have E:(uC B h l T W).map (rh B)=W.flatMap λw=>(T.flatMap (wo B h l w)).map (rh B):=by rw[uC,ff]
 obtain⟨z,e,i,j,r,t,m,rfl⟩:=k2 (L p v s k a) [] ⟨_,_,_,_,_,rfl⟩ (by simp;lia);rw[<- E]at e Q;exact⟨i,j,r,t,m,e,by simpa using Q⟩
noncomputable def sv:P->Str
 | .str s=>s
 |_=>""
def vF(m:Nat)(K:List ci)(V:List P)(t:P):Int:=iv ((cm (Ph m "value_of") [t,.dct K V]).getD .non)
def RA(m:Nat)(K:List ci)(V:List P)(s:P):Str×Int:=(sv (bI s 0),vF m K V (bI s 1))
def xH(B:BD)(m:Nat)(K:List ci)(V:List P)(h:Nat)(p H:List P):List P->List Wy->List Wy
 | [],W=>W
 |s::r,W=>xH B m K V h p H r (uC B h (RA m K V s) (y9 B h p H (sv (bI s 2)) (sv (bI s 3))) W)
def WI(B:BD)(d:D)(S:aM)(W:List Wy):Prop:=(d=.p (.lst (W.map (rh B)))/\S=[])\/∃T:aM,d=.ref T.length/\S=T++[.lst ((W.map (rh B)).map .p)]
theorem WI.fin(h:WI B d S W):∃x,toP 9 d S=Y (.lst (W.map (rh B)),x):=by
 rcases h with ⟨rfl,rfl⟩|⟨T,rfl,rfl⟩
 .exact⟨_,sm ..⟩
 .exact⟨_,lV⟩
theorem WI.next(h:WI B d S W):∃x:aM,x.length=S.length/\toP 9 d (S++[.lst []])=Y (.lst (W.map (rh B)),x++[.lst []]):=by
 rcases h with ⟨rfl,rfl⟩|⟨T,rfl,rfl⟩
 .exact⟨[],rfl,sm ..⟩
 .refine⟨T++[.fz (.lst (W.map (rh B)))],by simp,?_⟩;rw[dS (M:=W.map (rh B)) (by simp)];simp
section
variable{B:BD}(I:BP B){b:P}(q:Brd B b){n:Nat}{h:Nat}{E:Str}{C:Nat}{u a p A:List P}(Q:Fam B.roads E C u a p A)(i:(ao B.fams)[h]? = Y (gI E C u a p A)){H:List P}(hw:H.length=p.length){k:Nat}(t:∀w ∈ H,Eh k w)
 {N:List P} (z:∀x ∈ N,lQ x) {K:List ci}{V:List P} (o:o_ N K V)
include I q Q i hw t z o
theorem Ud(T R:P):∀(X:List P)(W:List Wy)(c e:Nat),(∀s ∈ X,isSend E B.roads p N s)->(∀w ∈ W,w.1.length≤c/\tK w.2)->c+X.length≤100->W.length≤e->e * 4 ^ X.length≤64->∀(G:D)(S:aM)(q7 q8 q9 M C F k f d u g:Option D),WI B G S W ->
  ((xH B (n+4) K V h p H X W).length≤e * 4 ^ X.length/\∀w ∈ xH B (n+4) K V h p H X W,tK w.2)/\∃L A q7' q8' q9' q10' q11' q12' q13' q14' q15' q16' q17',bx (be [ah 7,ah 8,ah 9,ah 10]) (iU (Ph (n+4))) X (FL b T (.dct K V) R (.tup H) h (Y G) q7 q8 q9 M C F k f d u g) S=Y (.nx,FL b T (.dct K V) R (.tup H) h (Y L) q7' q8' q9' q10' q11' q12' q13' q14' q15' q16' q17',A)/\WI B L A (xH B (n+4) K V h p H X W)
 | [],W,c,e,_,hW,_,hl,_,G,S,q7,q8,q9,M,C,F,k,f,d,u,g,hI=>⟨⟨by simpa[xH] using hl,λw hw=>(hW w hw).2⟩,G,S,q7,q8,q9,M,C,F,k,f,d,u,g,rfl,hI⟩
 |s::r,W,c,e,hs,hW,hc,hl,hz,G,S,q7,q8,q9,M,C,F,k,f,d,u,g,hI=>by
  rw[aS]at hc;rw[aS,BB]at hz;obtain⟨m,a,y,j,hm,_,ht,hway,rfl⟩:=hs s aK;obtain⟨v,ev⟩:=si z o ht (n:=n);have el:RA (n+4) K V (.tup [.str m,a,.str y,.str j])=(m,v):=by simp[RA,vF,ev,sv]
  obtain⟨t1,t2,et⟩:=tg_ok I q (n:=n) Q i hw t hway;obtain⟨A,hSl,eS⟩:=hI.next;have h4:e * 4≤64:=bf (Nat.le_mul_of_pos_right _ (Nat.pow_pos (by decide):0 < 4 ^ r.length)) (by rw[vx,mI 4];exact hz);obtain⟨a13,a14,a15,a16,a17,e2,l2⟩:=UQ I q (n:=n+1) (h:=h) (l:=(m,v)) hm ⟨t1,t2⟩ et T (.dct K V) R (Y G) (qs m) (U a) (T0:=A) (W:=W) (λw hw=>⟨by have:=(hW w hw).1;lia,(hW w hw).2⟩) (by lia) k f d u g;let Z:=uC B h (m,v) (y9 B h p H y j) W
  have hW':∀w ∈ Z,w.1.length≤c+1/\tK w.2:=MA I q hm t2 (by lia) hW;obtain⟨f1,L,S2,b7,b8,b9,b10,b11,b12,b13,b14,b15,b16,b17,e3,hI'⟩:=Ud T R r Z (c+1) (e * 4) (λx hx=>hs x (aL _ hx)) hW' (by lia) (by show Z.length≤_;lia) (by rw[vx,mI 4];exact hz) (.ref A.length) (A++[.lst ((Z.map (rh B)).map .p)]) (qs m) (U a) (qs y) (qs j) (U (h7 (m,v))) (qr A.length) a13 a14 a15 a16 a17 (.inr ⟨A,rfl,rfl⟩);have ew:xH B (n+4) K V h p H (.tup [.str m,a,.str y,.str j]::r) W=xH B (n+4) K V h p H r Z:=by rw[xH,el];simp[sv,Z]
  rw[ew,aS,BB,mI (4 ^ r.length),<- vx];refine⟨f1,L,S2,b7,b8,b9,b10,b11,b12,b13,b14,b15,b16,b17,?_,hI'⟩;refine(cq (h:=FL b T (.dct K V) R (.tup H) h (Y G) (qs m) (U a) (qs y) (qs j) C F k f d u g) (by simp[FL]) ?_).trans e3;unfold iU;rw[am (x:=FL b T (.dct K V) R (.tup H) h (Y G) (qs m) (U a) (qs y) (qs j) (U (h7 (m,v))) F k f d u g) (a:=S) (by simp[FL,ev,h7])];rw[am (x:=FL b T (.dct K V) R (.tup H) h (Y G) (qs m) (U a) (qs y) (qs j) (U (h7 (m,v))) (qr A.length) k f d u g) (a:=S++[.lst []]) (by simp[FL,hSl])];rw[am (by rw[bD,show eR iO (FL b T (.dct K V) R (.tup H) h (Y G) (qs m) (U a) (qs y) (qs j) (U (h7 (m,v))) (qr A.length) k f d u g) (S++[.lst []])=Y (W.map (rh B),A++[.lst []]) by simp[FL,eS]];exact e2)]
  simp[FL,Z]
theorem Lk(C:∀s ∈ x,isSend E B.roads p N s)(y:x.length≤3)(R:tK F) :
  ((xH B (n+4) K V h p H x [([],F)]).length≤64/\∀w ∈ xH B (n+4) K V h p H x [([],F)],tK w.2)/\cm (Ph (n+5) "sendings") [b,.int (h:Int),.lst x,.dct K V,.tup (rT B F),.tup H]=Y (.lst ((xH B (n+4) K V h p H x [([],F)]).map (rh B))):=by
 have A:1 * 4 ^ x.length≤64:=by have:4 ^ x.length≤4 ^ 3:=Nat.pow_le_pow_right (by decide) y;lia
 obtain⟨⟨W,j⟩,u,D,L,M,T,a,k,f,c,m,r,v,d,e,l⟩:=Ud I q (n:=n) Q i hw t z o (.lst x) (.tup (rT B F)) x [([],F)] 0 1 C (λw hw=>by rw[cZ.mp hw];exact⟨by simp,R⟩) (by lia) (by simp) A (.p (.lst [rh B ([],F)])) [] Vk Vk Vk Vk Vk Vk Vk Vk Vk Vk Vk (.inl ⟨rfl,rfl⟩);refine⟨⟨by lia,j⟩,?_⟩;obtain⟨G,S⟩:=l.fin;have g:P.lst [rh B ([],F)]=.lst [.tup [.tup [],.tup (rT B F)]]:=rfl;rw[g]at e;rw[w9,aD];simp[FL]at e;simp[oZ,e,S]
end
noncomputable def So:D->P
 | .p v=>v
 |_=>.non
def vD(a c:List P):Option Int->List ci×List P
 |none=>(dh a,c)
 |some i=>((pP (.inr "it") (.p (.int i)) (dh a) (c.map .p)).1,(pP (.inr "it") (.p (.int i)) (dh a) (c.map .p)).2.map So)
def Ay(F:Fs)(h:Nat)(l:Option (Nat×Nat)):Option Int:=l.map λz=>iv (bI ((F z.1 h).getD z.2 .non) 1)
def lW(F:Fs)(h:Nat):Option (Nat×Nat)->Fs
 |none=>F
 |some (s,k)=>qo F s h ((F s h).eraseIdx k)
def RW(B:BD)(F:Fs)(h:Nat)(t:P)(l:Option (Nat×Nat)):Prop:=(t=.non/\l=Vk)\/(t≠.non/\∃s k r,l=Y (s,k)/\mZ B s (h:Int)=Y r/\k < (F s h).length)
variable{F:Fs}
theorem zQ(t:j7 E B.roads p f)(e:l ∈ wA B F h f):RW B F h f l:=by
 rcases t with rfl|⟨m,a,i,w,_,_,_,_,_,_,rfl⟩
 .exact .inl ⟨rfl,cZ.mp e⟩
 .refine .inr ⟨λz=>(by cases z),?_⟩;unfold wA at e;obtain⟨z,x,rfl⟩:=aO.mp e;obtain⟨s,b,x⟩:=b_.mp x;unfold xG at x;split at x
  .rename_i r n;obtain⟨k,hk,rfl⟩:=aO.mp x;exact⟨s,k,r,rfl,n,FQ.1 k (e_.mp hk).1⟩
  .cases x
theorem NS{a:List P}{K:List ci}{V:List P}(o:o_ (uL a) K V){n:List ci}{f:List P}{z:Int}(c:z.natAbs≤999)(h:∀k,cT k n f=if (.inr "it":ci)=k then Y (.int z) else cT k K V):o_ (uL a++[.str "it"]) n f:=λx s=>by
 by_cases q:("it":Str)=x
 .exact⟨z,c,by rw[h,ac (by rw[q])]⟩
 .rcases cR.mp s with s|s
  .obtain⟨i,b,e⟩:=o x s;exact⟨i,b,by rw[h,ae λw=>q (jJ w)];exact e⟩
  .exact absurd (P.str.inj (cZ.mp s)).symm q
theorem wt(s:List P):(s.map D.p).map So=s:=by
 induction s with
 |nil=>rfl
 |cons v r i=>simp only[aC,i,So]
abbrev SL(b t st l f r:P)(h:Nat)(k c m q x a e s n:Option D):Lc:=[U b,U t,qi (h:Int),U st,U l,U f,U r,k,c,m,q,x,a,e,s,n]
theorem PH{B:BD}(I:BP B){b:P}(q:Brd B b){n:Nat}{h:Nat}{E:Str}{C:Nat}{u a p A:List P}(Q:Fam B.roads E C u a p A){c:List P}(hc:CellsOk a c){F:Fs}(hR:tK F){Z:P}(ht:j7 E B.roads p Z){l:Option (Nat×Nat)}(hy:RW B F h Z l) :
  o_ (uL a++more Z) (vD a c (Ay F h l)).1 (vD a c (Ay F h l)).2/\tK (lW F h l)/\∀(X st v r:P)(T W f d w g j:Option D),∃R,
   fm (bV (fx dw rf (O (vC (.non))))) (ai (aA 11 (ug (bR (aT Att) gL "places") (v2 (ab iL eU) dq)))
  (ai (jR (aj 10) (vt "it") (ab (ab (ab jf kf) (ab iL df)) df))
  (aA 9 (O (cf (Ph (n+2) "replaced") (v3 jf kf (cf (Ph (n+2) "without") (v2 (ab jf kf) (ab iL df))))))))) gf
    (SL b X st (lP l) v r h T W (qt (rT B F)) (qr 0) f d w g j) [.dct (dh a) (c.map .p)]=Y (.nx,SL b X st (lP l) v r h T W (qt (rT B (lW F h l))) (qr 0) R d w g j,[.dct (vD a c (Ay F h l)).1 ((vD a c (Ay F h l)).2.map .p)]):=by
 have y:=wR hc;rcases hy with ⟨rfl,rfl⟩|⟨N,s,k,r,rfl,hr,hk⟩
 .exact⟨by simpa[more,vD,Ay] using y,hR,λX st v r T W f d w g j=>⟨f,by simp[SL,dw,fj,lP,lW,vD,Ay]⟩⟩
 have hm:more Z=[.str "it"]:=by
  cases Z with
  |non=>exact absurd rfl N
  |_=>rfl
 have H:=hR s h;have o:(F s h)[k]? = Y (F s h)[k]:=aY hk;obtain⟨m,z,_,hz,hzl⟩:=H.2 _ (dn hk);rw[hzl]at o;have hkl:(dh a).length=c.length:=by rw[hc.1];simp[dh]
 obtain⟨K,V,e,h1,h2,h3,h4,h5⟩:=xj (.inr "it") (.int z) (dh a) c (ma Q.hce) hkl;have ez:Ay F h (Y (s,k))=Y z:=by simp[Ay,o,bI]
 have ev:vD a c (Y z)=(K,V):=by rw[vD,e,wt]
 have hl3:=H.1;rw[ez,ev];refine⟨by rw[hm];exact NS y hz h5,hR.up ⟨bf (B8 ..) hl3,λl h=>H.2 l (B9 h)⟩,λX st v r' T W f d w g j=>?_⟩;let L:Option D->Option D->Lc:=λq9 f=>SL b X st (lP (Y (s,k))) v r' h T W q9 (qr 0) f d w g j
 obtain⟨i,e1,hp⟩:=q.ix (fo:=aj 0) (L:=L (qt (rT B F)) f) (S:=[.dct (dh a) (c.map .p)]) (ks:=v2 (ab iL eU) dq) (x:=s) (t:=(h:Int)) rfl (by simp[L,SL,lP]) hr;have G:=bY (pZ (F:=F) hp);have M:(dh a).length≤1000000:=by have:=Q.cl;simp[dh];lia
 have ew:=Ld (n:=n) (x:=F s h) (k:=k) (by lia);have hil:i < (rT B F).length:=by rw[lZ];exact bB hp
 have er:=sE (n:=n) hil (by rw[lZ];have:=nN I;lia) (.tup ((F s h).eraseIdx k));rw[Ag I hp]at er;refine⟨qi (i:Int),?_⟩;rw[jw (by simp[SL,dw,fj,lP])];rw[am (x:=L (qt (rT B F)) (qi (i:Int))) (a:=[.dct (dh a) (c.map .p)]) (by rw[aA,e1];rfl)];rw[am (x:=L (qt (rT B F)) (qi (i:Int))) (a:=[.dct K (V.map .p)]) (by have hnd:=ma Q.hce;simp[jR,x3,L,SL,lP,G,bY o,nB,dH,hnd,M,e])]
 simp[L,SL,lP,G,ew,er,lW]
inductive Dd where
 |step (h:Nat) (nm:P) (l:Option (Nat×Nat)) (ch:List Nat)
 |flaw (w:Str) (x y k:Nat)
def dP:Dd->P
 | .step h E l c=>.tup [.str "step",.int (h:Int),E,lP l,.tup (ag c)]
 | .flaw w x y k=>.tup [.str w,.int (x:Int),.int (y:Int),.int (k:Int)]
def fw(B:BD)(e:Dd×St):P:=.tup [dP e.1,dA B e.2]
def RQ(m:Nat)(f c st:P)(k:List ci×List P):P:=(cm (Ph m "cells_behind") [f,c,st,.dct k.1 k.2]).getD .non
def DV(p H:List P)(t:P)(l:Option (Nat×Nat)):List P:=match l with
 |none=>H
 |some (s,_)=>if sv (bI t 3)="" then H else H.set ((jx p (.str (sv (bI t 3)))).getD 0) (.int (s:Int))
def Iq(u:List P)(r:P):Nat:=(jx u r).getD 0
def fY(B:BD)(h:Nat):P:=(ao B.fams).getD h .non
def EJ(B:BD)(m:Nat)(k:List ci×List P)(s:St)(h:Nat)(p H n:List P)(x:P)(l:Option (Nat×Nat))(r:Nat):P->List (Dd×St)
 | .tup c=>(xH B m k.1 k.2 h p H n [([],lW s.F h l)]).map λw=>(.step h x l w.1,⟨Ik s.H h (.tup [.int (r:Int),.tup c,.tup H]),w.2⟩)
 |_=>[]
def wG(B:BD)(m:Nat)(s:St)(h:Nat)(st:P)(l:Option (Nat×Nat)):List (Dd×St):=
 let f:=fY B h
 let x:=s.H h
 let k:=vD (i3 (bI f 3)) (i3 (bI x 1)) (Ay s.F h l)
 EJ B m k s h (i3 (bI f 4)) (DV (i3 (bI f 4)) (i3 (bI x 2)) (bI st 3) l) (i3 (bI st 5)) (bI st 0) l (Iq (i3 (bI f 2)) (bI st 6)) (RQ (m+1) f (bI x 1) st k)
structure StO(B:BD)(s:St):Prop where
 hh:∀(k:Nat) f,(ao B.fams)[k]? = Y f->HandOk (ao B.fams).length f (s.H k)
 hr:tK s.F
theorem StO.put (e:StO B s) (i:(ao B.fams)[h]? = Y f) (n:HandOk (ao B.fams).length f x) (Q:tK F):StO B ⟨Ik s.H h x,F⟩:=⟨fun k g a=>by
 show HandOk _ g (Ik s.H h x k);unfold Ik;split
 .rename_i q;subst q;rw[i]at a;cases a;exact n
 .exact e.hh k g a,Q⟩
theorem Dz(f:e->c):∀s:List e,(s.flatMap λx=>[f x])=s.map f
 | []=>rfl
 |x::r=>by rw[dG,Dz f r];rfl
theorem Le{n:Nat}{E:Str}{B p:List P}(u:∀x ∈ p,lQ x){H:List P}(hw:H.length=p.length)(A:p.length≤2){k:Nat}(t:∀w ∈ H,Eh k w){e:P}(K:j7 E B p e){l:Option (Nat×Nat)}(S:(e=.non/\l=Vk)\/(e≠.non/\∃s z,l=Y (s,z)/\s < k))(f:P)(c:L2.atI (i3 f) 4=Y (.lst p))(v:f=.tup (i3 f)) :
  ((DV p H e l).length=p.length/\∀w ∈ DV p H e l,Eh k w)/\cm (Ph (n+3) "whos_behind") [f,.tup H,e,lP l]=Y (.tup (DV p H e l)):=by
 rcases S with ⟨rfl,rfl⟩|⟨F,s,z,rfl,D⟩
 .refine⟨⟨hw,t⟩,?_⟩;rw[iT,aD];simp[gB,yD,fj,DV]
 rcases K with rfl|⟨m,a,q,o,_,_,_,_,_,r,rfl⟩
 .exact absurd rfl F
 have j:sv (bI (.tup [.str m,.str a,.str q,.str o]) 3)=o:=by simp[sv,bI]
 unfold DV;dsimp only;rw[j];by_cases b:o=""
 .rw [ac b];refine⟨⟨hw,t⟩,?_⟩;rw[iT,aD];simp[gB,yD,fj,b]
 .rw [ae b];obtain⟨i,C,g⟩:=rj u (r.resolve_left b);rw[g,gS];refine⟨⟨by rw[fI];exact hw,λw d=>?_⟩,?_⟩
  .rcases List.mem_or_eq_of_mem_set d with h|rfl
   .exact t w h
   .exact⟨s,by lia,by lia,rfl⟩
  .have y:=sE (n:=n) (x:=H) (k:=i) (by lia) (by lia) (.int (s:Int));rw[iT,aD,v];simp[gB,yD,fj,b,c,g,lP,y]
theorem PD{B:BD}(I:BP B){b:P}(q:Brd B b){n:Nat}{s:St}(hs:StO B s){h:Nat}{E:Str}{C:Nat}{u a p A:List P}(Q:Fam B.roads E C u a p A)(i:(ao B.fams)[h]? = Y (gI E C u a p A)){st:P}(hst:st ∈ A){l:Option (Nat×Nat)}(hl:RW B s.F h (bI st 3) l) :
  (wG B (n+5) s h st l).length≤64/\(∀e ∈ wG B (n+5) s h st l,StO B e.2)/\cm (Ph (n+7) "step_ends") [b,dA B s,.int (h:Int),st,lP l]=Y (.lst ((wG B (n+5) s h st l).map (fw B))):=by
 obtain⟨x,rm,wh,tk,chg,sn,m,hx,hS,rfl⟩:=Q.hst st hst;obtain⟨nm',crew',rooms',cells',whos',steps',e0,r,cs,H,eH,hr,hc,hw,t⟩:=hs.hh h _ i;cases e0;have hh:h < (ao B.fams).length:=bB i;have efam:fY B h=gI E C u a p A:=by unfold fY;rw[a8,i];rfl
 have ht:bI (.tup [.str x,rm,wh,tk,.lst chg,.lst sn,m]) 3=tk:=by simp[bI]
 rw [ht] at hl;obtain⟨o,hR,hit⟩:=PH I q (n:=n+4) Q hc hs.hr hS.htk hl;have hvp:=CJ (n:=n+4) Q hc [];obtain⟨⟨hw2,hwi2⟩,ewb⟩:=Le (n:=n+3) (k:=(ao B.fams).length) Q.hwh hw Q.wl t hS.htk (l:=l) (by
  rcases hl with h|⟨h1,s',k,r,h2,h3,_⟩
  .exact .inl h
  .obtain⟨_,y,_,hx,_⟩:=fB h3;have:=(aX.mp hx).1
   exact .inr ⟨h1,s',k,h2,by simpa[BD.N,aG] using this⟩) (gI E C u a p A) (by simp[RT]) rfl
 obtain⟨xr,_,erm⟩:∃xr:Str,ba xr=Vl/\m=.str xr:=Q.hro m hS.h2;obtain⟨j,hj,ej⟩:=rj Q.hro (x:=xr) (by rw[<- erm];exact hS.h2);have eix:jx u m=Y (Iq u m):=by unfold Iq;rw[erm,ej];rfl
 have hix:Iq u m < u.length:=by unfold Iq;rw[erm,ej];exact hj
 have z:∀x ∈ uL a++more tk,lQ x:=λx hx=>(cR.mp hx).elim (wN Q.hce.1 x) (wP tk x);generalize hkv:vD a cs (Ay s.F h l)=F at o hit;obtain⟨ans,hans,ecb⟩:=Q5 (n:=n) Q hc hS o (x:=x);let v:P:=.tup [.str x,rm,wh,tk,.lst chg,.lst sn,m]
 let K:P:=gI E C u a p A
 have ecF:RQ (n+6) K (.tup cs) v F=ans:=by unfold RQ;rw[ecb];rfl
 have eseF:wG B (n+5) s h v l=EJ B (n+5) F s h p (DV p H tk l) sn (.str x) l (Iq u m) ans:=by
  have e1:i3 (bI K 3)=a/\i3 (bI K 4)=p/\i3 (bI K 2)=u/\i3 (bI (s.H h) 1)=cs/\bI (s.H h) 1=.tup cs/\i3 (bI (s.H h) 2)=H/\bI v 3=tk/\i3 (bI v 5)=sn/\bI v 0=.str x/\bI v 6=m:=by rw[eH];simp[bI,K,v]
  unfold wG;rw[efam];simp only[show gI E C u a p A=K from rfl,e1,Sq,hkv,ecF]
 rw[show P.tup [.str x,rm,wh,tk,.lst chg,.lst sn,m]=v from rfl,eseF];let L:Option D->Option D->Option D->Option D->Option D->Option D->Option D->Option D->Option D->Option D->Option D->Lc:=λq5 q6 q7 q8 q9 q10 N q12 q13 V X=>[U b,U (dA B s),qi (h:Int),U v,U (lP l),q5,q6,q7,q8,q9,q10,N,q12,q13,V,X]
 let G:P->Option D->Option D->Option D->Option D->Option D->Option D->Option D->Option D->Option D->Lc:=λrr q7 q8 q9 q10 N q12 q13 V X=>L (U K) (U rr) q7 q8 q9 q10 N q12 q13 V X
 have em:=q.mF (n:=n+4) i (fo:=aj 0) (a:=CF lU) (L:=L Vk Vk Vk Vk Vk Vk Vk Vk Vk Vk Vk) (S:=[]) rfl rfl;have hh1:L2.atI (hT B s.H) (h:Int)=Y (.tup [.int (r:Int),.tup cs,.tup H]):=by rw[<- eH];exact bY (yy hh)
 have tp:∀T:aM,toP 9 (.ref 0) (SO.dct F.1 (F.2.map .p)::T)=Y (.dct F.1 F.2,.fz (.dct F.1 F.2)::T):=λT=>by have:nC (toP 8) (F.2.map .p) (SO.dct F.1 (F.2.map .p)::T)=Y (F.2,SO.dct F.1 (F.2.map .p)::T):=mV ..;simp[toP,this]
 have tpf:∀T:aM,toP 9 (.ref 0) (SO.fz (.dct F.1 F.2)::T)=Y (.dct F.1 F.2,.fz (.dct F.1 F.2)::T):=λT=>rfl;obtain⟨N,e5⟩:=hit (dA B s) v K (.int (r:Int)) (qt cs) (qt H) Vk Vk Vk Vk Vk;let Z:aM:=[.fz (.dct F.1 F.2)]
 have key:((EJ B (n+5) F s h p (DV p H tk l) sn (.str x) l (Iq u m) ans).length≤64/\∀e ∈ EJ B (n+5) F s h p (DV p H tk l) sn (.str x) l (Iq u m) ans,StO B e.2):=by
  rcases hans with rfl|⟨R,hcs',rfl⟩
  .exact⟨by simp[EJ],λe h=>(by cases h)⟩
  .obtain⟨⟨f1,f2⟩,_⟩:=Lk I q (n:=n+1) Q i hw2 hwi2 z o hS.hsn hS.sl hR;refine⟨by simpa[EJ] using f1,λe h=>?_⟩;obtain⟨w,hw,rfl⟩:=aO.mp h;exact hs.put i ⟨E,C,u,a,p,A,rfl,_,_,_,rfl,hix,hcs',hw2,hwi2⟩ (f2 w hw)
 refine⟨key.1,key.2,?_⟩;rw[t6,aD];show(match j9 (Ph (n+6)) (L Vk Vk Vk Vk Vk Vk Vk Vk Vk Vk Vk) [] with|some (.rt d,_,S)=>(toP 9 d S).map (λ(x:P×aM)=>x.1)|some (.nx,_,_)=>Y P.non|_=>Vk)=_;unfold j9;rw[am (x:=L (U K) Vk Vk Vk Vk Vk Vk Vk Vk Vk Vk) (a:=[]) (by rw[aA,em];rfl)];rw[am (x:=G (.int (r:Int)) (qt cs) (qt H) Vk Vk Vk Vk Vk Vk Vk) (a:=[]) (by simp[G,L,dA,hh1])];rw[am (x:=G (.int (r:Int)) (qt cs) (qt H) (qt (rT B s.F)) Vk Vk Vk Vk Vk Vk) (a:=[]) (by simp[G,L,dA])];rw[am (x:=G (.int (r:Int)) (qt cs) (qt H) (qt (rT B s.F)) (qr 0) Vk Vk Vk Vk Vk) (a:=[.dct (dh a) (cs.map .p)]) (by have hvp':Ph (n+6) "values_of" [.p K,.p (.tup cs)] []=Y (.ref 0,[.dct (dh a) (cs.map .p)]):=hvp;simp[G,L,hvp'])]
 rw[am e5];rw[am (x:=G (.int (r:Int)) (U ans) (qt H) (qt (rT B (lW s.F h l))) (qr 0) N Vk Vk Vk Vk) (a:=Z) (by have ecb':cm (Ph (n+6) "cells_behind") [K,.tup cs,v,.dct F.1 F.2]=Y ans:=ecb;simp[SL,G,L,tp,ecb',Z])]
 rcases hans with rfl|⟨R,hcs',rfl⟩
 .rw [ai,jw (by simp[G,L,yD,fj])];simp[EJ]
 rw[am (x:=G (.int (r:Int)) (qt R) (qt H) (qt (rT B (lW s.F h l))) (qr 0) N Vk Vk Vk Vk) (a:=Z) (fO (by simp[G,L,yD,fj]))];have ewb':cm (Ph (n+6) "whos_behind") [K,.tup H,tk,lP l]=Y (.tup (DV p H tk l)):=ewb;generalize hws2:DV p H tk l=ws2 at ewb' hw2 hwi2 ⊢;have st3':L2.atI [P.str x,rm,wh,tk,.lst chg,.lst sn,m] 3=Y tk:=bn (by decide) rfl;have st5':L2.atI [P.str x,rm,wh,tk,.lst chg,.lst sn,m] 5=Y (.lst sn):=bn (by decide) rfl;have st6':L2.atI [P.str x,rm,wh,tk,.lst chg,.lst sn,m] 6=Y m:=bn (by decide) rfl;rw[am (x:=G (.int (r:Int)) (qt R) (qt ws2) (qt (rT B (lW s.F h l))) (qr 0) N Vk Vk Vk Vk) (a:=Z) (by simp[G,L,v,st3']at ewb' ⊢;simp[ewb'])];let H2:=Ik s.H h (.tup [.int (Iq u m:Nat),.tup R,.tup ws2])
 have erp:=sE (n:=n+4) (x:=hT B s.H) (k:=h) (by simpa[hT] using hh) (by have:=gN I;simp[hT];lia) (.tup [.int (Iq u m:Nat),.tup R,.tup ws2]);rw[NM]at erp;rw[am (x:=G (.int (r:Int)) (qt R) (qt ws2) (qt (rT B (lW s.F h l))) (qr 0) N (qt (hT B H2)) Vk Vk Vk) (a:=Z) (by simp[G,L,v,K,dA,st6',RE,eix,erp,H2])];rw[am (x:=G (.int (r:Int)) (qt R) (qt ws2) (qt (rT B (lW s.F h l))) (qr 0) N (qt (hT B H2)) (qr 1) Vk Vk) (a:=Z++[.lst []]) (by simp[G,L,Z])];obtain⟨⟨f1,f2⟩,esd⟩:=Lk I q (n:=n+1) Q i hw2 hwi2 z o hS.hsn hS.sl hR;generalize hWd:xH B (n+1+4) F.1 F.2 h p ws2 sn [([],lW s.F h l)]=W at f1 f2 esd;let Lf:Option D->Option D->Lc:=λV X=>G (.int (r:Int)) (qt R) (qt ws2) (qt (rT B (lW s.F h l))) (qr 0) N (qt (hT B H2)) (qr 1) V X
 obtain⟨k1,k2⟩:=qD (G:=rh B) (g:=be [ah 14,ah 15]) (b:=kH (Ph (n+6))) (p:=λL'=>∃V X,L'=Lf V X) (f:=λw=>[fw B (.step h (.str x) l w.1,⟨H2,w.2⟩)]) (c:=1) (M:=1000) (T:=Z) (s:=W) λw hw=>by refine⟨by simp,λL' acc hL hM=>?_⟩;obtain⟨V,X,rfl⟩:=hL;refine⟨Lf (qt (ag w.1)) (qt (rT B w.2)),Lf (qt (ag w.1)) (qt (rT B w.2)),rfl,?_,qt (ag w.1),qt (rT B w.2),rfl⟩;exact o7 (T:=Z) rfl (by simp[Lf,G,L,v,fw,dP,dA]) (by lia)
 obtain⟨L',e9,q14',q15',rfl⟩:=k2 (Lf Vk Vk) [] ⟨_,_,rfl⟩ (by simp;lia);have esd':eR (cf (Ph (n+6) "sendings") (v6 bX dq (ab fV tP) iP jf kN)) (Lf Vk Vk) (Z++[.lst []])=Y (W.map (rh B),Z++[.lst []]):=by simp[Lf,G,L,v,st5',Z,tpf,esd]
 rw[am (x:=Lf q14' q15') (by rw[bD,esd'];exact e9)];have ew:W.flatMap (λw=>[fw B (.step h (.str x) l w.1,⟨H2,w.2⟩)])=(W.map λw=>(Dd.step h (.str x) l w.1,(⟨H2,w.2⟩:St))).map (fw B):=by rw[cQ,Dz];rfl
 rw[ew,cS];have tl:=lV (T:=Z) (a:=(W.map λw=>(Dd.step h (.str x) l w.1,(⟨H2,w.2⟩:St))).map (fw B));show iz (λ(x:P×aM)=>x.1) (toP 9 (.ref 1) _)=_;rw[show(1:Nat)=Z.length from rfl,tl];have hWd':xH B (n+5) F.1 F.2 h p ws2 sn [([],lW s.F h l)]=W:=hWd;simp[EJ,H2,hWd']
end My
set_option tactic.hygienic false
namespace My
open PySem L2 Ev
def Uo(m:Nat)(c d:P):Bool:=match cm (Ph m "holds") [c,d] with
 |some (.bl b)=>b
 |_=>Vm
def Oy(B:BD)(m:Nat)(s:St)(h:Nat)(st:P):Bool:=decide (sv (bI st 1)=sv ((i3 (bI (fY B h) 2)).getD (iv (bI (s.H h) 0)).toNat .non)) && Uo m (bI st 2) (.dct (dh (i3 (bI (fY B h) 3))) (i3 (bI (s.H h) 1)))
def CU(B:BD)(m:Nat)(s:St)(h:Nat)(st:P):List (Dd×St):=if Oy B (m+2) s h st=Vl then (wA B s.F h (bI st 3)).flatMap (wG B m s h st) else []
def y'(B:BD)(m:Nat)(s:St)(h:Nat):List (Dd×St):=(i3 (bI (fY B h) 5)).flatMap (CU B m s h)
theorem oR(m:BP B)(x:h < (ao B.fams).length):∃n w r c o s,Fam B.roads n w r c o s/\(ao B.fams)[h]? = Y (gI n w r c o s):=by have f:(ao B.fams)[h]? = Y (ao B.fams)[h]:=aY x;obtain⟨n,w,r,c,o,s,F,e⟩:=mf m.hf (dn x);exact⟨n,w,r,c,o,s,F,by rw[f,e]⟩
theorem sZ{a:Type}{f:a->List (Dd×St)}{c:Nat}:∀{s:List a},(∀x ∈ s,(f x).length≤c)->(s.flatMap f).length≤c * s.length
 | [],_=>by simp
 |x::r,h=>by
  have:=h x aK;have:=sZ (s:=r) λy e=>h y (aL _ e)
  rw[dG,bK,aS,vw];lia
section
variable{B:BD}(m:BP B){b:P}(u:Brd B b){n:Nat}{s:St}(v:StO B s)
include m u v
theorem QB{h:Nat}(hh:h < (ao B.fams).length):(y' B (n+7) s h).length≤6144/\(∀e ∈ y' B (n+7) s h,StO B e.2)/\cm (Ph (n+10) "hand_ends") [b,dA B s,.int (h:Int)]=Y (.lst ((y' B (n+7) s h).map (fw B))):=by
 obtain⟨nm,crew,o,w,R,t,C,hf⟩:=oR m hh;obtain⟨nm',crew',rooms',cells',whos',steps',e0,r,z,ws,eH,hr,hc,hw,hwi⟩:=v.hh h _ hf;cases e0;let k:P:=gI nm crew o w R t
 have N:fY B h=k:=by unfold fY;rw[a8,hf];rfl
 have hN:B.N[h]? = Y nm:=by unfold BD.N aG;rw[bq,hf];rfl
 have e5:i3 (bI k 5)=t:=by simp[bI,k]
 unfold y';rw[N,e5];have X:∀st ∈ t,((CU B (n+7) s h st).length≤768/\∀e ∈ CU B (n+7) s h st,StO B e.2)/\∀l ∈ wA B s.F h (bI st 3),(wG B (n+7) s h st l).length≤64/\cm (Ph (n+9) "step_ends") [b,dA B s,.int (h:Int),st,lP l]=Y (.lst ((wG B (n+7) s h st l).map (fw B))):=λst j=>by
  have htk:j7 nm B.roads R (bI st 3):=by obtain⟨x,Z,wh,I,A,sn,E,_,hS,rfl⟩:=C.hst st j;simpa[bI] using hS.htk
  have a:∀l ∈ wA B s.F h (bI st 3),_:=λl K=>PD m u (n:=n+2) v C hf j (zQ htk K);refine⟨⟨?_,λe F=>?_⟩,λl K=>⟨(a l K).1,(a l K).2.2⟩⟩
  .unfold CU;split
   .have:=sZ λl K=>(a l K).1;have:=(Li m u (n:=0) v.hr hN htk).1
    lia
   .simp
  .unfold CU at F;split at F
   .obtain⟨l,K,F⟩:=b_.mp F;exact(a l K).2.1 e F
   .cases F
 refine⟨bf (sZ λst j=>(X st j).1.1) (by have:=C.sl;lia),λe F=>?_,?_⟩
 .obtain⟨st,j,F⟩:=b_.mp F;exact(X st j).1.2 e F
 let L:Option D->Option D->Lc:=λq9 p=>[U b,U (dA B s),qi (h:Int),U k,qi (r:Int),qt z,qt ws,U (.dct (dh w) z),qr 0,q9,p]
 obtain⟨k1,k2⟩:=qD (G:=id) (g:=ah 9) (b:=ip (Ph (n+9))) (p:=λV=>∃q9 p,V=L q9 p) (f:=λst=>(CU B (n+7) s h st).map (fw B)) (c:=768) (M:=100000) (T:=[]) (s:=t) λst j=>by
  obtain⟨⟨l1,l2⟩,l3⟩:=X st j;refine⟨by rw[aH];exact l1,λV y hL hM=>?_⟩;obtain⟨q9,p,rfl⟩:=hL;obtain⟨x,Z,wh,I,A,sn,E,_,hS,rfl⟩:=C.hst st j;let st:P:=.tup [.str x,Z,wh,I,.lst A,.lst sn,E]
  obtain⟨bb,eh⟩:=Hr (wN C.hce.1) (wR hc) hS.wh (n:=n);obtain⟨xr,_,W⟩:=C.hro Z hS.h1;have hg:o[r]? = Y o[r]:=aY hr;obtain⟨xq,_,erq⟩:=C.hro _ (dn hr);rw[erq]at hg;have egd:Oy B (n+9) s h st=(decide (xr=xq) && bb):=by
   unfold Oy;rw[N,eH];have:bI st 1=Z/\bI st 2=wh:=by simp[bI,st]
   rw[this.1,this.2,W];have h2:i3 (bI k 2)=o/\i3 (bI k 3)=w:=by simp[bI,k]
   rw[h2.1,h2.2];have e3:o.getD (iv (bI (.tup [.int (r:Int),.tup z,.tup ws]) 0)).toNat .non=.str xq:=by rw[a8];simp[bI,hg]
   rw[e3];have e4:i3 (bI (.tup [.int (r:Int),.tup z,.tup ws]) 1)=z:=by simp[bI]
   rw[e4,Uo,eh];rfl
  have Q:bI st 3=I:=by simp[bI,st]
  have i:(lz (bw (O (ab jf df)) (O (ab (ab fV gc) iL))) (bT (O (cf (Ph (n+9) "holds") (v2 (ab jf gc) lO))))) (L (U st) p) ([]++[.lst (y.map .p)])=Y (decide (xr=xq) && bb,[]++[.lst (y.map .p)]):=by
   by_cases q:xr=xq
   .simp [L,k,st,RE,bY hg,W,q,eh]
   .simp [L,k,st,RE,bY hg,W,q]
  refine⟨L (U st) p,?_⟩;have estF:CU B (n+7) s h st=if (decide (xr=xq) && bb)=Vl then (wA B s.F h I).flatMap (wG B (n+7) s h st) else []:=by unfold CU;rw[show n+7+2=n+9 from rfl,egd,Q]
  unfold ip;rw[show P.tup [.str x,Z,wh,I,.lst A,.lst sn,E]=st from rfl,estF];cases hbb:(decide (xr=xq) && bb) with
  |false=>rw[hbb]at i;exact⟨L (U st) p,rfl,by rw[fO i];simp,_,_,rfl⟩
  |true=>
   rw[hbb]at i;rw[ac rfl];rw[Q]at l3;obtain⟨t1,t2⟩:=Li m u (n:=n+6) v.hr hN hS.htk;obtain⟨j1,j2⟩:=qD (G:=lP) (g:=ah 10) (b:=kM (Ph (n+9))) (p:=λV=>∃p,V=L (U st) p) (f:=λl=>(wG B (n+7) s h st l).map (fw B)) (c:=64) (M:=200000) (T:=[]) (s:=wA B s.F h I) λl K=>by obtain⟨m1,m2⟩:=l3 l K;refine⟨by rw[aH];exact m1,λV y hL hM=>?_⟩;obtain⟨p,rfl⟩:=hL;refine⟨L (U st) (U (lP l)),L (U st) (U (lP l)),rfl,?_,_,rfl⟩;have m2':cm (Ph (n+9) "step_ends") [b,dA B s,.int (h:Int),st,lP l]=Y (.lst ((wG B (n+7) s h st l).map (fw B))):=m2;exact oU (T:=[]) rfl (by simp[L,m2']) (by rw[aH];lia)
   obtain⟨V,e,H,rfl⟩:=j2 (L (U st) p) y ⟨_,rfl⟩ (by lia);refine⟨L (U st) H,rfl,?_,_,_,rfl⟩;have st3':L2.atI [P.str x,Z,wh,I,.lst A,.lst sn,E] 3=Y I:=bn (by decide) rfl;rw[jw i,bD,show eR (cf (Ph (n+9) "takeable") (v4 bX (ab cw df) dq (ab jf jF))) (L (U st) p) ([]++[.lst (y.map .p)])=Y ((wA B s.F h I).map lP,[]++[.lst (y.map .p)]) by simp[L,dA,st,st3',t2]];rw[ff];exact e
 obtain⟨V,e,q9',H,rfl⟩:=k2 (L Vk Vk) [] ⟨_,_,rfl⟩ (by have:=C.sl;simp;lia);let M:Option D->Option D->Option D->Option D->Option D->Option D->Lc:=λq3 q4 q5 q6 q7 q8=>[U b,U (dA B s),qi (h:Int),q3,q4,q5,q6,q7,q8,Vk,Vk]
 have em:=u.mF (n:=n+7) hf (fo:=aj 0) (a:=CF lU) (L:=M Vk Vk Vk Vk Vk Vk) (S:=[]) rfl rfl;have hh1:L2.atI (hT B s.H) (h:Int)=Y (.tup [.int (r:Int),.tup z,.tup ws]):=by rw[<- eH];exact bY (yy hh)
 have ev:cm (Ph (n+9) "values_of") [k,.tup z]=Y (.dct (dh w) z):=DW (n:=n+7) C hc;rw[ud,aD];show(match j' (Ph (n+9)) (M Vk Vk Vk Vk Vk Vk) [] with|some (.rt d,_,S)=>(toP 9 d S).map (λ(x:P×aM)=>x.1)|some (.nx,_,_)=>Y P.non|_=>Vk)=_;unfold j';rw[am (x:=M (U k) Vk Vk Vk Vk Vk) (a:=[]) (by rw[aA,em];rfl)];rw[am (x:=M (U k) (qi (r:Int)) (qt z) (qt ws) Vk Vk) (a:=[]) (by simp[M,dA,hh1])];rw[am (x:=M (U k) (qi (r:Int)) (qt z) (qt ws) (U (.dct (dh w) z)) Vk) (a:=[]) (by simp[M,ev])];rw[am (x:=L Vk Vk) (a:=[.lst []]) (by simp[M,L])];have es:eR (ab fV tP) (L Vk Vk) [.lst []]=Y (t,[.lst []]):=by simp[L,k,Vd]
 rw[mK]at e;rw[am (x:=L q9' H) (by rw[bD,es];exact e)];have tl:=lV (T:=[]) (a:=t.flatMap λst=>(CU B (n+7) s h st).map (fw B));show iz (λ(x:P×aM)=>x.1) (toP 9 (.ref 0) _)=_;simp only[cS,i']at tl ⊢;rw[tl,ff];rfl
end
def yJ(s:St)(w:Str)(p:P):List (Dd×St):=if Em w (bI p 0) (s.F (px p) (py p))=Vl then (zJ (EL (bI p 0)) (s.F (px p) (py p))).map λk=>(.flaw w (px p) (py p) k,⟨s.H,qo s.F (px p) (py p) (KJ w (s.F (px p) (py p)) k)⟩) else []
def yI(B:BD)(s:St)(w:Str):List (Dd×St):=B.PR.flatMap (yJ s w)
def pL(B:BD)(m:Nat)(s:St):List (Dd×St):=((List.range (ao B.fams).length).flatMap (y' B m s)++yI B s "lose")++yI B s "double"
theorem wu:(∀i ∈ zJ k l,i < l.length)/\(zJ k l).length≤l.length:=by unfold zJ;exact⟨λi h=>bM.mp (e_.mp h).1,bf (jP ..) (by simp)⟩
theorem uF(x:List P):(List.range x.length).map (λi=>(x[i]?).getD .non)=x:=by refine jN (by simp) λi a h=>?_;simp[h]
section
variable{B:BD}(m:BP B){b:P}(u:Brd B b){n:Nat}{s:St}(v:StO B s)
include m u v
set_option tactic.hygienic true in
theorem HC{w:Str}(hw:w="lose"\/w="double"):(yI B s w).length≤6144/\(∀e ∈ yI B s w,StO B e.2)/\cm (Ph (n+6) "flaw_ends") [b,dA B s,.str w]=Y (.lst ((yI B s w).map (fw B))):=by
 have h1:∀p ∈ B.PR,(yJ s w p).length≤3/\∀e ∈ yJ s w p,StO B e.2:=λp hp=>by
  obtain⟨r,x,y,rfl,er,hr⟩:=iZ m hp;obtain⟨f1,_⟩:=Lx (n:=0) hw (m.hr r hr) (s.F x y);have Q:=v.hr x y;unfold yJ;rw[(fC r x y).1,(fC r x y).2,show bI (pr r x y) 0=r by simp[bI,pr]];split
  .rename_i X;refine⟨by rw[aH];exact bf wu.2 Q.1,λe H=>?_⟩;obtain⟨k,hk,rfl⟩:=aO.mp H;exact⟨v.hh,v.hr.up (LF (n:=0) hw Q (λz=>f1 z X) (wu.1 k hk)).1⟩
  .exact⟨by simp,λe H=>by cases H⟩
 have hPl:=nN m;refine⟨bf (sZ λp hp=>(h1 p hp).1) (by lia),λe H=>?_,?_⟩
 .obtain⟨p,hp,H⟩:=b_.mp H;exact(h1 p hp).2 e H
 let L:Option D->Option D->Option D->Option D->Option D->Option D->Option D->Option D->Lc:=λV W C E I l h q=>[U b,U (dA B s),qs w,qr 0,V,W,C,E,I,l,h,q]
 obtain⟨k1,k2⟩:=qD (G:=λ(i:Nat)=>P.tup [.int (i:Int),(B.PR[i]?).getD .non]) (g:=be [ah 4,ah 5]) (b:=iq (Ph (n+5))) (p:=λo=>∃V W C E I l h q,o=L V W C E I l h q) (f:=λi=>(yJ s w ((B.PR[i]?).getD .non)).map (fw B)) (c:=3) (M:=100000) (T:=[]) (s:=List.range B.PR.length) λi hi=>by
  have K:=bM.mp hi;have hg:B.PR[i]? = Y B.PR[i]:=aY K;have hm:=dn K;obtain⟨l1,_⟩:=h1 _ hm;rw[hg,gS];refine⟨by rw[aH];exact l1,λo a hL hM=>?_⟩;obtain⟨V,W,C,E,I,l,h,q,rfl⟩:=hL;obtain⟨r,x,y,ep,er,hr⟩:=iZ m hm;rw[ep]at hg ⊢;have Q:=v.hr x y;obtain⟨f1,N⟩:=Lx (n:=n+3) hw (m.hr r hr) (s.F x y);have hat:=bY (pZ (F:=s.F) (r:=r) (x:=x) (y:=y) hg);let A:Option D->Option D->Lc:=λh q=>L (qi (i:Int)) (U (pr r x y)) (U r) (qi (x:Int)) (qi (y:Int)) (qt (s.F x y)) h q
  have efl:yJ s w (pr r x y)=if Em w r (s.F x y)=Vl then (zJ (EL r) (s.F x y)).map λk=>(Dd.flaw w x y k,(⟨s.H,qo s.F x y (KJ w (s.F x y) k)⟩:St)) else []:=by unfold yJ;rw[(fC r x y).1,(fC r x y).2,show bI (pr r x y) 0=r by simp[bI,pr]]
  have go:∃t j,fm (bT (O (cf (Ph (n+5) "has_flaw") (v3 iO dq jf)))) (bD (eR (cf (Ph (n+5) "unlike_spots") (v2 (ab iO gc) jf))) (ah 10) (fU (Ph (n+5)))) gf (A h q) ([]++[.lst (a.map .p)])=Y (.nx,A t j,[]++[.lst ((a++(yJ s w (pr r x y)).map (fw B)).map .p)]):=by
   rw[efl];cases X:Em w r (s.F x y) with
   |false=>rw[X]at N;exact⟨h,q,by rw[fO (by simp[A,L,N])];simp⟩
   |true=>
    rw[X]at N;rw[ac rfl];obtain⟨ra,rb,k,c,d1,d2,_,_,hk,hc1,hc2,rfl⟩:=m.hr r hr;let R:P:=.tup [.str ra,.str rb,.str k,.int c,.bl d1,.bl d2]
    have ek:EL R=k:=by simp[EL,bI,R]
    rw[show EL (P.tup [.str ra,.str rb,.str k,.int c,.bl d1,.bl d2])=k from ek];have eu:=Lg (n:=n+3) k Q;obtain⟨j1,j2⟩:=qD (G:=λ(k:Nat)=>P.int (k:Int)) (g:=ah 10) (b:=fU (Ph (n+5))) (p:=λo=>∃h q,o=A h q) (f:=λk=>[fw B (.flaw w x y k,⟨s.H,qo s.F x y (KJ w (s.F x y) k)⟩)]) (c:=1) (M:=200000) (T:=[]) (s:=zJ k (s.F x y)) λz hz=>by
     refine⟨by simp,λo a hL hM=>?_⟩;obtain⟨h,q,rfl⟩:=hL;obtain⟨_,e1⟩:=LF (n:=n+2) hw Q (λz=>f1 z X) (wu.1 z hz);have Z:i < (rT B s.F).length:=by rw[lZ];exact K
     have e2:=sE (n:=n+3) Z (by rw[lZ];lia) (.tup (KJ w (s.F x y) z));rw[Ag m hg]at e2;refine⟨A (qi (z:Int)) q,A (qi (z:Int)) (qt (rT B (qo s.F x y (KJ w (s.F x y) z)))),rfl,?_,_,_,rfl⟩;unfold fU;rw[am (x:=A (qi (z:Int)) (qt (rT B (qo s.F x y (KJ w (s.F x y) z))))) (a:=[]++[.lst (a.map .p)]) (by simp[A,L,dA,e1,e2])];exact o7 (T:=[]) rfl (by simp[A,L,dA,fw,dP]) (by lia)
    have hu:=wu (k:=k) (l:=s.F x y);obtain⟨o,e,t,j,rfl⟩:=j2 (A h q) a ⟨_,_,rfl⟩ (by have:=Q.1;lia);refine⟨t,j,?_⟩;rw[jw (by simp[A,L,N]),bD,show eR (cf (Ph (n+5) "unlike_spots") (v2 (ab iO gc) jf)) (A h q) ([]++[.lst (a.map .p)])=Y ((zJ k (s.F x y)).map λ(k:Nat)=>P.int (k:Int),[]++[.lst (a.map .p)]) by simp[A,L,eu,bQ]];rw[al,e,Dz,cQ];rfl
  obtain⟨t,j,e⟩:=go;refine⟨L (qi (i:Int)) (U (pr r x y)) C E I l h q,A t j,rfl,?_,_,_,_,_,_,_,_,_,rfl⟩;unfold iq;rw[am (x:=L (qi (i:Int)) (U (pr r x y)) (U r) (qi (x:Int)) (qi (y:Int)) l h q) (a:=[]++[.lst (a.map .p)]) (by simp[L,pr])];rw[am (x:=A h q) (a:=[]++[.lst (a.map .p)]) (by simp[A,L,dA,hat])];exact e
 obtain⟨o,e,V,W,C,E,I,l,h,q,rfl⟩:=k2 (L Vk Vk Vk Vk Vk Vk Vk Vk) [] ⟨_,_,_,_,_,_,_,_,rfl⟩ (by simp;lia);let M:Option D->Lc:=λq3=>[U b,U (dA B s),qs w,q3,Vk,Vk,Vk,Vk,Vk,Vk,Vk,Vk]
 rw[ue,aD];show(match ka (Ph (n+5)) (M Vk) [] with|some (.rt d,_,S)=>(toP 9 d S).map (λ(x:P×aM)=>x.1)|some (.nx,_,_)=>Y P.non|_=>Vk)=_;unfold ka;rw[am (x:=L Vk Vk Vk Vk Vk Vk Vk Vk) (a:=[.lst []]) (by simp[M,L])];have eI:fN (vE (bR (aT Att) gL "pairs")) (L Vk Vk Vk Vk Vk Vk Vk Vk) [.lst []]=Y ((List.range B.PR.length).map λ(i:Nat)=>P.tup [.int (i:Int),(B.PR[i]?).getD .non],[.lst []]):=by
  have N:vE (bR (aT Att) gL "pairs") (L Vk Vk Vk Vk Vk Vk Vk Vk) [.lst []]=Y (.lst B.PR,[.lst []]):=by rw[vE,(u.fl (fo:=aj 0) rfl).2.2];simp
  rw[<- DE,fN,N];rfl
 rw[am (x:=L V W C E I l h q) (by rw[bD,eI];exact e)];have ef:(List.range B.PR.length).flatMap (λi=>(yJ s w ((B.PR[i]?).getD .non)).map (fw B))=(yI B s w).map (fw B):=by rw[yI,ff,<- uF B.PR,jb,uF]
 have tl:=lV (T:=[]) (a:=(yI B s w).map (fw B));rw[ef];show iz (λ(x:P×aM)=>x.1) (toP 9 (.ref 0) _)=_;simp only[cS,i']at tl ⊢;rw[tl];rfl
end
theorem QP{B:BD}(hP:BP B){b:P}(hb:Brd B b){n:Nat}{s:St}(hs:StO B s):(∀e ∈ pL B (n+7) s,StO B e.2)/\(pL B (n+7) s).length≤40000/\cm (Ph (n+11) "ends_on") [b,dA B s]=Y (.lst ((pL B (n+7) s).map (fw B))):=by
 obtain⟨a1,a2,a3⟩:=HC hP hb (n:=n+4) hs (w:="lose") (.inl rfl);obtain⟨d1,d2,d3⟩:=HC hP hb (n:=n+4) hs (w:="double") (.inr rfl);have h4:=gN hP;have hh:∀h ∈ List.range (ao B.fams).length,_:=λh hm=>QB hP hb (n:=n) hs (bM.mp hm);have hl:=sZ λh hm=>(hh h hm).1;rw[vU]at hl;refine⟨λe he=>?_,by unfold pL;rw[bK,bK];lia,?_⟩
 .rcases cR.mp he with he|he
  .rcases cR.mp he with he|he
   .obtain⟨h,hm,he⟩:=b_.mp he;exact(hh h hm).2.1 e he
   .exact a2 e he
  .exact d2 e he
 let L:Option D->Option D->Lc:=λq2 q3=>[U b,U (dA B s),q2,q3]
 obtain⟨k1,k2⟩:=qD (G:=λ(h:Nat)=>P.int (h:Int)) (g:=ah 3) (b:=mB (Ph (n+10))) (p:=λL'=>∃q3,L'=L (qr 0) q3) (f:=λh=>(y' B (n+7) s h).map (fw B)) (c:=6144) (M:=100000) (T:=[]) (s:=List.range (ao B.fams).length) λh hm=>by obtain⟨m1,_,m3⟩:=hh h hm;refine⟨by rw[aH];exact m1,λL' acc hL hM=>?_⟩;obtain⟨q3,rfl⟩:=hL;refine⟨L (qr 0) (qi (h:Int)),L (qr 0) (qi (h:Int)),rfl,?_,_,rfl⟩;exact oU (T:=[]) rfl (by simp[L,m3]) (by rw[aH];lia)
 obtain⟨L',e,q3,rfl⟩:=k2 (L (qr 0) Vk) [] ⟨_,rfl⟩ (by simp;lia);rw[<- ff]at e;generalize hX:(List.range (ao B.fams).length).flatMap (y' B (n+7) s)=X at e hl;have hq:(cI B.fams).length < 1000000:=by rw[kx];lia
 rw[yO,aD];show(match mD (Ph (n+10)) (L Vk Vk) [] with|some (.rt d,_,S)=>(toP 9 d S).map (λ(x:P×aM)=>x.1)|some (.nx,_,_)=>Y P.non|_=>Vk)=_;unfold mD;rw[am (x:=L (qr 0) Vk) (a:=[.lst []]) (by simp[L])];have eI:ji (d5 (bR (aT Att) gL "homes")) (L (qr 0) Vk) [.lst []]=Y ((List.range (ao B.fams).length).map λ(h:Nat)=>P.int (h:Int),[.lst []]):=by have f2:=(hb.fl (fo:=aj 0) (L:=L (qr 0) Vk) (S:=[.lst []]) rfl).2.1;have i0:=Dv (cI B.fams).length;rw[kx]at i0 hq;rw[Dr,d5,f2];simp[d_,fD,kx,hq,i0,bQ]
 rw[am (x:=L (qr 0) q3) (by rw[bD,eI];exact e)];rw[am (oU (r:=aj 2) (T:=[]) (a:=[]++X.map (fw B)) rfl (show cf (Ph (n+10) "flaw_ends") (v3 bX cw (vt "lose")) (L (qr 0) q3) _=Y (.lst ((yI B s "lose").map (fw B)),_) by simp[L,a3]) (by rw[cS,aH,aH];lia))];rw[am (oU (r:=aj 2) (T:=[]) rfl (show cf (Ph (n+10) "flaw_ends") (v3 bX cw (vt "double")) (L (qr 0) q3) _=Y (.lst ((yI B s "double").map (fw B)),_) by simp[L,d3]) (by rw[cS,bK,aH,aH,aH];lia))];have tl:=lV (T:=[]) (a:=(pL B (n+7) s).map (fw B));show iz (λ(x:P×aM)=>x.1) (toP 9 (.ref 0) _)=_;unfold pL at tl ⊢;rw[hX]at tl ⊢;simp only[cS,i',ja]at tl ⊢;rw[tl];rfl
theorem x_:∀(f:List P)(k:Nat)(s:KV)(n:List P),s.2=n.map .p->∃v:List P,(putAll k f s).2=v.map .p
 | [],k,s,n,h=>⟨n,h⟩
 |p::r,k,s,n,h=>by
  have y:∀(K:List (List ci))(x:List P),∃a:List P,(ee (f6 p) (.p (.int (k:Int))) K (x.map .p)).2=a.map .p:=by
   intro K;induction K with
   |nil=>exact λx=>⟨[.int (k:Int)],rfl⟩
   |cons q K i=>
    intro x;cases x with
    |nil=>exact⟨[.int (k:Int)],rfl⟩
    |cons w x=>
     obtain⟨a,e⟩:=i x;simp only[aC,ee];split
     .exact⟨.int (k:Int)::x,rfl⟩
     .exact⟨w::a,by rw[aC,e]⟩
  obtain⟨v,e⟩:=y s.1 n;rw[<- h]at e;exact x_ r (k+1) _ v e
theorem LP{i:Str->GF}(l:P)(a b c:D):∀(f:List P)(k:Nat)(s:KV),KVok s->s.1.length+f.length≤900000->(∀p ∈ f,∃r x y,p=.tup [r,.int x,.int y])->∀m t:Option D,∃q n,
  bx (be [ah 2,ah 3]) (hZ i) (bE (k:Int) f) [qr 0,U l,m,t,Vk] [.ins "Board" ["families","homes","pairs","places"] [a,b,c,.ref 1],.dtt s.1 s.2]=Y (.nx,[qr 0,U l,q,n,Vk],[.ins "Board" ["families","homes","pairs","places"] [a,b,c,.ref 1],.dtt (putAll k f s).1 (putAll k f s).2])
 | [],k,s,_,_,_,m,t=>⟨m,t,rfl⟩
 |p::r,k,s,h,j,g,m,t=>by
  simp only[aS]at j;obtain⟨d,x,y,rfl⟩:=g p aK;have z:=(li (f6 (.tup [d,.int x,.int y])) (.p (.int (k:Int))) s.1 s.2 h.nd h.ln).2.2.1;obtain⟨q,n,e⟩:=LP (i:=i) l a b c r (k+1) _ (h.put (f6 (.tup [d,.int x,.int y])) (.p (.int (k:Int)))) (by lia) (λp u=>g p (aL _ u)) (qi (k:Int)) (qt [d,.int x,.int y]);refine⟨q,n,?_⟩;unfold bE putAll;rw[jk]at e;refine(cq (h:=[qr 0,U l,qi (k:Int),qt [d,.int x,.int y],Vk]) rfl ?_).trans e;have v:=h.nd;have w:s.1.length≤1000000:=by lia
  simp[hZ,nL,iI,D_,d7,dH,v,w,f6]
theorem KL{n:Nat}{a:List P}{S:aM}{d x e:D}(h:S[0]? = Y (.ins "Board" bF [.p (.lst a),.p (.lst (cI a)),d,x,e])){k:Nat}{f:P}(t:(ao a)[k]? = Y f):Ph (n+2) "Board.family_of" [.ref 0,.p (.int (k:Int))] S=Y (.p f,S):=by
 obtain⟨p,s,b⟩:=uU t;have r:bR (aT Att) gL "homes" [qr 0,qi (k:Int)] S=Y (.p (.lst (cI a)),S):=by simp[h,nL,Lu]
 have c:kF (bR (aT Att) gL "homes") cw [qr 0,qi (k:Int)] S=Y (.p (.int (p:Int)),S):=by rw[kF,r];simp[bY s]
 have m:bR (aT Att) gL "families" [qr 0,qi (k:Int)] S=Y (.p (.lst a),S):=by simp[h,nL,Lu]
 rw[i5];show sI (bh (kF (bR (aT Att) gL "families") (vE (kF (bR (aT Att) gL "homes") cw))) [qr 0,qi (k:Int)] S)=_;rw[bh,kF,m,al,vE,c];simp[bY b]
noncomputable def jz(N:LS)(t:Nat)(s:Str):List Nat:=(List.range t).filter λi=>decide (N[i]? = Y s)
theorem lp(N:LS)(t:Nat)(s:Str):jz N (t+1) s=if N[t]? = Y s then jz N t s++[t] else jz N t s:=by
 unfold jz;rw[BV,List.filter_append];by_cases h:N[t]? = Y s
 .rw [ac h,wb (by simpa using h)];rfl
 .rw [ae h,wa (by simpa using h)];simp
theorem AT(h:s ∉ N.take x):jz N x s=[]:=by
 unfold jz;refine B6.mpr λi a q=>h ?_
 have a:i < x:=bM.mp a;have e:=aR q;rw[<- kW a]at e;exact bg e
structure MI(fams PR:List P)(o1:SO)(t:Nat)(mk:List ci)(mv:List D)(S:aM):Prop where
 h0:S[0]? = Y (.ins "Board" bF [.p (.lst fams),.p (.lst (cI fams)),.p (.lst PR),.ref 1,.ref 2])
 h1:S[1]? = Y o1
 h2:S[2]? = Y (.dct mk mv)
 nd:mk.Nodup
 ln:mk.length=mv.length
 le:mk.length≤t
 yes:∀s ∈ (aG fams).take t,∃j,cB (.inr s) mk mv=qr j/\3≤j/\S[j]? = Y (.lst ((bQ (jz (aG fams) t s)).map .p))
 no:∀s,s ∉ (aG fams).take t->cB (.inr s) mk mv=Vk
 all:∀k ∈ mk,∃s ∈ (aG fams).take t,k=.inr s
 inj:∀s s' j,cB (.inr s) mk mv=qr j->cB (.inr s') mk mv=qr j->s=s'
set_option tactic.hygienic true in
theorem Kn{m PR:List P}{o1:SO}{t:Nat}{mk:List ci}{u:List D}{S:aM}(h:MI m PR o1 t mk u S){n:Nat}(ht:t≤100){rs:List P}(X:∀f ∈ m,isFam rs f){f:P}(W:(ao m)[t]? = Y f)(l:P)(g y:Option D) :
  ∃r d S',MI m PR o1 (t+1) r d S'/\cV (Ph (n+2)) [qr 0,U l,g,y,qi (t:Int)] S=Y (.nx,[qr 0,U l,g,y,qi (t:Int)],S'):=by
 have N:(aG m)[t]? = Y (bt f):=by unfold aG;rw[bq,W];rfl
 have htl:t < (aG m).length:=bB N;let L:Lc:=[qr 0,U l,g,y,qi (t:Int)]
 have ef:=KL (n:=n) h.h0 W;have em:cL (mT Tb (Ph (n+2))) gL "family_of" (CF rf) L S=Y (.p f,S):=by rw[cL];show cg (Y (D.ref 0,S)) _=_;rw[al];simp only[h.h0,Uh,NR,show CF rf L S=Y ([.p (.int (t:Int))],S) from rfl,al,je,fH];exact ef
 have ek:(ab (vE (cL (mT Tb (Ph (n+2))) gL "family_of" (CF rf))) eU) L S=Y (.str (bt f),S):=by obtain⟨nm,c,rooms,V,whos,steps,_,rfl⟩:=mf X (bg W);rw[ab,gQ,vE,em];simp[bt]
 have eo:bR (aT Att) gL "members" L S=Y (.ref 2,S):=by simp[L,h.h0,nL,Lu]
 have l3:2 < S.length:=bB h.h2;have R:(aG m).take (t+1)=(aG m).take t++[bt f]:=by rw[B0,N];rfl
 have F:∀k,k < S.length->(S++[SO.lst []])[k]? = S[k]?:=λk hk=>ce hk;have K:nB (.ref 2) S=Y (2,mk,u):=by simp[nB,h.h2]
 have o:nB (.ref 2) (S++[.lst []])=Y (2,mk,u):=by simp[nB,F 2 l3,h.h2]
 have G:(mk.Nodup/\few mk=Vl):=⟨h.nd,by rw[iR];have:=h.le;lia⟩;have M:∀s,s≠bt f->s ∈ (aG m).take (t+1)->s ∈ (aG m).take t:=λs q x=>by
  rw[R]at x;rcases cR.mp x with z|z
  .exact z
  .exact absurd (cZ.mp z) q
 have mono:∀s,s ∈ (aG m).take t->s ∈ (aG m).take (t+1):=λs z=>by rw[R];exact om _ z
 by_cases v:bt f ∈ (aG m).take t
 .obtain⟨j,C,hj,e2⟩:=h.yes _ v;have Z:j < S.length:=bB e2;have E:(S++[SO.lst []])[j]? = Y (.lst ((bQ (jz (aG m) t (bt f))).map .p)):=by rw[F j Z];exact e2
  have I:(bQ (jz (aG m) t (bt f))).length≤1000000:=by have:=jP (λi=>decide ((aG m)[i]? = Y (bt f))) (List.range t);simp[bQ,jz];simp at this;lia
  refine⟨mk,u,(S++[SO.lst []]).set j (.lst ((bQ (jz (aG m) (t+1) (bt f))).map .p)),?_,?_⟩
  .have e:∀k,k < S.length->k≠j->((S++[SO.lst []]).set j (.lst ((bQ (jz (aG m) (t+1) (bt f))).map .p)))[k]? = S[k]?:=λk hk q=>by rw[a6 (λz=>q z.symm),F k hk]
   refine⟨by rw[e 0 (by lia) (by lia)];exact h.h0,by rw[e 1 (by lia) (by lia)];exact h.h1,by rw[e 2 (by lia) (by lia)];exact h.h2,h.nd,h.ln,by have:=h.le;lia,λs x=>?_,λs x=>h.no s λz=>x (mono s z),λk hk=>?_,h.inj⟩
   .by_cases q:s=bt f
    .subst q;exact⟨j,C,hj,by rw[cF (by simp;lia)]⟩
    .obtain⟨A,p,H,B⟩:=h.yes s (M s q x);have hne:A≠j:=λz=>q (h.inj s (bt f) j (z ▸ p) C);refine⟨A,p,H,?_⟩;rw[e A (bB B) hne,lp,ae λz=>q (by rw[N]at z;cases z;rfl)];exact B
   .obtain⟨s,a,b⟩:=h.all k hk;exact⟨s,mono s a,b⟩
  .unfold cV;rw[bW,bC,oX,show bR (aT Att) gL "members" [qr 0,U l,g,y,qi (t:Int)] S=_ from eo,al];simp only[K,show(ab (vE (cL (mT Tb (Ph (n+2))) gL "family_of" (CF rf))) eU) [qr 0,U l,g,y,qi (t:Int)] S=_ from ek,al];rw[show di aU [Y (D.ref 0),U l,g,y,qi (t:Int)] S=Y (.ref S.length,S++[.lst []]) by simp];simp only[al,o,dH,ac G,C,fu,E];rw[show rf [Y (D.ref 0),U l,g,y,qi (t:Int)] (S++[SO.lst []])=Y (.p (.int (t:Int)),S++[.lst []]) from rfl,al];simp only[E];rw[ac (by rw[iR,aH];exact I),lp,ac N];simp[bQ]
 .have C:=h.no _ v;obtain⟨g1,g2,g3,g4,Q⟩:=li (.inr (bt f):ci) (.ref S.length) mk u h.nd h.ln;have c0:jz (aG m) t (bt f)=[]:=AT v;let r:=(ee (Sum.inr (bt f):ci) (.ref S.length) mk u).1
  let d:=(ee (Sum.inr (bt f):ci) (.ref S.length) mk u).2
  refine⟨r,d,((S++[SO.lst []]).set 2 (SO.dct r d)).set S.length (.lst [.p (.int (t:Int))]),?_,?_⟩
  .have e:∀k,k < S.length->k≠2->(((S++[SO.lst []]).set 2 (.dct r d)).set S.length (.lst [.p (.int (t:Int))]))[k]? = S[k]?:=λk hk q=>by rw[a6 (by lia),a6 (λz=>q z.symm),F k hk]
   refine⟨by rw[e 0 (by lia) (by lia)];exact h.h0,by rw[e 1 (by lia) (by lia)];exact h.h1,by rw[a6 (by lia),cF (by simp;lia)],g1,g2,by have:=h.le;show r.length≤_;lia,λs x=>?_,λs x=>?_,λk hk=>?_,λs s' j p H=>?_⟩
   .by_cases q:s=bt f
    .subst q;refine⟨S.length,by rw[Q,ac rfl],by lia,?_⟩;rw[cF (by simp),lp,ac N,c0];rfl
    .obtain⟨A,p,H,B⟩:=h.yes s (M s q x);refine⟨A,by rw[Q,ae λz=>q (jJ z).symm];exact p,H,?_⟩;rw[e A (bB B) (by lia),lp,ae λz=>q (by rw[N]at z;cases z;rfl)];exact B
   .rw [Q,ae λz=>x (by rw[R,<- jJ z];simp)];exact h.no s λz=>x (mono s z)
   .rcases g4 k hk with rfl|hk
    .exact⟨_,by rw[R];simp,rfl⟩
    .obtain⟨s,a,b⟩:=h.all k hk;exact⟨s,mono s a,b⟩
   .have low:∀s j,cB (.inr s) mk u=qr j->j < S.length:=λs j q=>by
     by_cases w:s ∈ (aG m).take t
     .obtain⟨A,p,_,B⟩:=h.yes s w;rw[q]at p;cases p;exact bB B
     .rw [h.no s w]at q;cases q
    rw[Q]at p H;split at p
    .rename_i z1;cases p;split at H
     .rename_i z2;exact(jJ z1).symm.trans (jJ z2)
     .exact absurd (low _ _ H) (by lia)
    .split at H
     .cases H;exact absurd (low _ _ p) (by lia)
     .exact h.inj s s' j p H
  .have l1:((S++[SO.lst []]).set 2 (.dct r d))[S.length]? = Y (.lst []):=by
    rw[a6 (by lia)];exact xz _ _
   unfold cV;rw[bW,bC,oX,show bR (aT Att) gL "members" [qr 0,U l,g,y,qi (t:Int)] S=_ from eo,al];simp only[K,show(ab (vE (cL (mT Tb (Ph (n+2))) gL "family_of" (CF rf))) eU) [qr 0,U l,g,y,qi (t:Int)] S=_ from ek,al];rw[show di aU [Y (D.ref 0),U l,g,y,qi (t:Int)] S=Y (.ref S.length,S++[.lst []]) by simp];simp only[al,o,dH,ac G,C,fu,show((S++[SO.lst []]).set 2 (.dct (ee (Sum.inr (bt f):ci) (.ref S.length) mk u).1 (ee (Sum.inr (bt f):ci) (.ref S.length) mk u).2))[S.length]? = Y (.lst []) from l1];rw[show ∀T:aM,rf [Y (D.ref 0),U l,g,y,qi (t:Int)] T=Y (.p (.int (t:Int)),T) from λ_=>rfl,al];simp only[show((S++[SO.lst []]).set 2 (.dct (ee (Sum.inr (bt f):ci) (.ref S.length) mk u).1 (ee (Sum.inr (bt f):ci) (.ref S.length) mk u).2))[S.length]? = Y (.lst []) from l1];rfl
def Lz(S:aM)(j:Nat)(v:List P):Prop:=S[j]? = Y (.lst (v.map .p))\/S[j]? = Y (.fz (.lst v))
variable{S:aM}
theorem Lz.uq(h:Lz S j k)(x:Lz S j w):k=w:=by
 rcases h with h|h
 .rcases x with x|x
  .have e:k.map D.p=w.map D.p:=SO.lst.inj (b0 (h.symm.trans x));rw[<- wt k,<- wt w,e]
  .rw [h]at x;cases x
 .rcases x with x|x<;>rw[h]at x<;>cases x;rfl
theorem Lz.toP(h:Lz S j e)(n:Nat):∃a,toP (n+1) (.ref j) S=Y (.lst e,a)/\∀i w,Lz S i w->Lz a i w:=by
 rcases h with h|h
 .refine⟨_,dS h,λi w x=>?_⟩;by_cases q:j=i
  .subst q;rw[Lz.uq x (.inl h)];exact .inr (cF (bB h))
  .unfold Lz;rw[a6 q];exact x
 .exact⟨S,by simp[Ev.toP,h],λi w x=>x⟩
theorem yF(n:Nat):∀(mk:List ci)(m:List D)(S:aM),mk.length=m.length->(∀d ∈ m,∃j v,d=.ref j/\Lz S j v)->∃v s,nC (toP (n+1)) m S=Y (v,s)/\∀k j w,cB k mk m=qr j->Lz S j w->cT k mk v=Y (.lst w)
 | [],[],S,_,_=>⟨[],S,rfl,λk j w h=>by cases h⟩
 |_::_,[],S,h,_=>by simp at h
 | [],_::_,S,h,_=>by simp at h
 |e::mk,d::m,S,l,hd=>by
  obtain⟨j,u,rfl,z⟩:=hd d aK;obtain⟨f,r,p⟩:=z.toP n;obtain⟨v,c,t,g⟩:=yF n mk m f (by simpa using l) λd x=>by obtain⟨j,v,a,b⟩:=hd d (aL _ x);exact⟨j,v,a,p _ _ b⟩
  refine⟨.lst u::v,c,by simp[nC,r,t],λk i w hk hw=>?_⟩;simp only[cB]at hk;show(if e=k then Y (P.lst u) else cT k mk v)=_;by_cases q:e=k
  .rw [ac q]at hk ⊢;cases hk;rw[z.uq hw]
  .rw [ae q]at hk ⊢;exact g k i w hk (p _ _ hw)
theorem Ko(r:∀f ∈ x,isFam A f)(H:(ao x).length≤100)(p:P)(s c:Option D)(h:MI x j o 0 [] [] S) :
  ∃mk m a q,MI x j o (ao x).length mk m a/\bx (ah 4) (cV (Ph (n+2))) (intsFrom 0 (ao x).length) [qr 0,U p,s,c,Vk] S=Y (.nx,[qr 0,U p,s,c,q],a):=by
 obtain⟨z,a,e,mk,m,q,I,rfl⟩:=bN (g:=ah 4) (b:=cV (Ph (n+2))) (Inv:=λt L S=>∃mk m q,MI x j o t mk m S/\L=[qr 0,U p,s,c,q]) (s:=intsFrom 0 (ao x).length) (k:=0) (L:=[qr 0,U p,s,c,Vk]) (S:=S) (λi v L S y I=>by obtain⟨rfl,l⟩:=ints_get y;obtain⟨mk,m,q,I,rfl⟩:=I;simp only[dD];rw[cP]at I ⊢;obtain⟨d,w,a,u,e⟩:=Kn I (n:=n) (by lia) r (aY l) p s c;exact⟨_,_,a,rfl,e,d,w,_,u,rfl⟩) ⟨[],[],Vk,h,rfl⟩
 rw[cW,cP]at I;exact⟨mk,m,a,q,I,e⟩
theorem yC:∀{mk:List ci}{m:List D}{i:Nat},mk.Nodup->mk[i]? = Y k->m[i]? = Y d->cB k mk m=Y d
 | [],_,_,_,h,_=>by simp at h
 |_::_,[],_,_,_,h=>by simp at h
 |f::mk,v::m,i,s,x,a=>by
  obtain⟨n,e⟩:=cA.mp s;simp only[cB];cases i with
  |zero=>simp at x a;rw[ac x,a]
  |succ i=>simp at x a;rw[ae λz=>n (by rw[z];exact bg x)];exact yC e x a
theorem HY(m:BP B):∃b S,Brd B b/\(∀(A:uk)(L:Lc),A L []=Y ([.p (bH B)],[])->vE (ml (Ph (n+6) "Board.__init__") "Board" A) L []=Y (b,S)):=by
 let l:P:=bH B
 have W:B.PR=cz (aG B.fams) B.roads:=rfl;have hpl:B.PR.length≤2048:=nN m;have h4:=gN m;have X:=kx (f:=B.fams);obtain⟨o,H,E⟩:=LP (i:=Ph (n+5)) l (.p (.lst B.fams)) (.p (.lst (cI B.fams))) (.p (.lst B.PR)) B.PR 0 ([],[]) Kt (by simp;lia) (λp hp=>by obtain⟨r,_,a,b,rfl⟩:=Ij hp;exact⟨r,a,b,rfl⟩) Vk Vk
 rw[show((0:Nat):Int)=0 from rfl]at E;obtain⟨f,t⟩:=x_ B.PR 0 ([],[]) [] rfl;have T:=λkey d=>yc B.PR 0 ([],[]) Kt key d;have hG:=wL B.PR 0 ([],[]) Kt;generalize hkv:putAll 0 B.PR ([],[])=e at E t T hG;have V:MI B.fams B.PR (.dtt e.1 e.2) 0 [] [] [.ins "Board" bF [.p (.lst B.fams),.p (.lst (cI B.fams)),.p (.lst B.PR),.ref 1,.ref 2],.dtt e.1 e.2,.dct [] []]:=
  ⟨rfl,rfl,rfl,by simp,rfl,by simp,λs h=>(by simp at h),λs _=>rfl,λk h=>(by cases h),λs s' j h=>(by cases h)⟩
 obtain⟨mk,mv,S,q4,M,e7⟩:=Ko (n:=n+3) m.hf (by lia) l o H V;have N:(aG B.fams).length=(ao B.fams).length:=by simp[aG]
 have hN:(aG B.fams).take (ao B.fams).length=B.N:=by rw[<- N,mN];rfl
 have G:∀s,jz (aG B.fams) (ao B.fams).length s=cX B.N s:=λs=>by rw[<- N];rfl
 have hz:∀d ∈ mv,∃j us,d=.ref j/\Lz (S.set 1 (.fz (.dtt e.1 f))) j us:=λd hd=>by
  obtain⟨i,hi,rfl⟩:=ol hd;have hk:mk[i]? = Y (mk[i]'(by rw[M.ln];exact hi)):=aY _;obtain⟨s,u,K⟩:=M.all _ (bg hk);obtain⟨j,k1,k2,k3⟩:=M.yes s u;rw[K]at hk;have:=yC M.nd hk (aY hi)
  rw[k1]at this;refine⟨j,bQ (jz (aG B.fams) (ao B.fams).length s),(b0 this).symm,.inl ?_⟩;rw[a6 (by lia)];exact k3
 obtain⟨w,F,ef,hw⟩:=yF 6 mk mv (S.set 1 (.fz (.dtt e.1 f))) M.ln hz;refine⟨Iu B e.1 f mk w,(F.set 2 (.fz (.dct mk w))).set 0 (.fz (Iu B e.1 f mk w)),⟨e.1,f,mk,w,rfl,λx y r g=>?_,λx y g=>?_,λs v=>?_⟩,λA L has=>?_⟩
 .obtain⟨Z,C,rfl,hx,hy,hn⟩:=fB g;have hm:pr r x C ∈ B.PR:=lf.mpr ⟨r,Z,x,C,hx,hy,hn,rfl⟩;obtain⟨d,hd⟩:=hG [.inl (x:Int),.inl (C:Int)] (.inr ⟨_,hm,by simp[f6,pr]⟩);rcases T _ d hd with z|⟨j,p,u,K,rfl⟩
  .cases z
  .obtain⟨r',a,c,rfl,R,_⟩:=iZ m (bg u);have q:a=x/\c=C:=by simp[f6,pr]at K;lia
   obtain⟨rfl,rfl⟩:=q;rw[R]at g;cases g;refine⟨j,?_,u⟩;rw[<- t,hd,cP]
 .cases hd:cB [.inl (x:Int),.inl y] e.1 (f.map D.p) with
  |none=>rfl
  |some d=>
   rw[<- t]at hd;rcases T _ d hd with z|⟨j,p,u,K,rfl⟩
   .cases z
   .obtain⟨r',a,c,rfl,R,_⟩:=iZ m (bg u);have q:a=x/\(c:Int)=y:=by simp[f6,pr]at K;lia
    obtain⟨rfl,rfl⟩:=q;rw[R]at g;cases g
 .obtain⟨j,k1,k2,k3⟩:=M.yes s (by rw[hN];exact v);rw[<- G];refine hw _ j _ k1 (.inl ?_);rw[a6 (by lia)];exact k3
 .have e0:Ph (n+6) "Board.__init__" [.ref 0,.p l] [.ins "Board" [] []]=Y (.p .non,S):=by
   have I:=w8 (n:=n+3) m.hf m.f0.2 (.lst B.roads) (.lst B.wishes);have Q:=C5 (n:=n+2) m;rw[tq];let L:Option D->Option D->Lc:=λo H=>[qr 0,U l,o,H,Vk]
   show sI (jD (Ph (n+5)) (L Vk Vk) [.ins "Board" [] []])=_;unfold jD;rw[am (x:=L Vk Vk) (a:=[.ins "Board" ["families"] [.p (.lst B.fams)]]) (by simp[L,l,nL,Ev.putK,Ev.oE])];rw[am (x:=L Vk Vk) (a:=[.ins "Board" ["families","homes"] [.p (.lst B.fams),.p (.lst (cI B.fams))]]) (by simp[L,l,bH,I,nL,Ev.putK,Ev.oE])];rw[am (x:=L Vk Vk) (a:=[.ins "Board" ["families","homes","pairs"] [.p (.lst B.fams),.p (.lst (cI B.fams)),.p (.lst B.PR)]]) (by simp[L,l,bH,Q,W,nL,Ev.putK,Ev.oE])];rw[am (x:=L Vk Vk) (a:=[.ins "Board" ["families","homes","pairs","places"] [.p (.lst B.fams),.p (.lst (cI B.fams)),.p (.lst B.PR),.ref 1],.dtt [] []]) (by simp[L,nL,Ev.putK,Ev.oE])];rw[am (x:=L o H) (a:=[.ins "Board" ["families","homes","pairs","places"] [.p (.lst B.fams),.p (.lst (cI B.fams)),.p (.lst B.PR),.ref 1],.dtt e.1 e.2]) (by rw[bD,show fN (vE (bR (aT Att) gL "pairs")) (L Vk Vk) [.ins "Board" ["families","homes","pairs","places"] [.p (.lst B.fams),.p (.lst (cI B.fams)),.p (.lst B.PR),.ref 1],.dtt [] []]=Y (bE 0 B.PR,[.ins "Board" ["families","homes","pairs","places"] [.p (.lst B.fams),.p (.lst (cI B.fams)),.p (.lst B.PR),.ref 1],.dtt [] []]) by simp[L,fN,nL,iI]];exact E)]
   rw[am (x:=L o H) (a:=[.ins "Board" bF [.p (.lst B.fams),.p (.lst (cI B.fams)),.p (.lst B.PR),.ref 1,.ref 2],.dtt e.1 e.2,.dct [] []]) (by simp[L,nL,Ev.putK,Ev.oE,qd,bF])];have hq:(ao B.fams).length < 1000000:=by lia
   rw[bD,show ji (d5 (bR (aT Att) gL "homes")) (L o H) [.ins "Board" bF [.p (.lst B.fams),.p (.lst (cI B.fams)),.p (.lst B.PR),.ref 1,.ref 2],.dtt e.1 e.2,.dct [] []]=Y (intsFrom 0 (ao B.fams).length,[.ins "Board" bF [.p (.lst B.fams),.p (.lst (cI B.fams)),.p (.lst B.PR),.ref 1,.ref 2],.dtt e.1 e.2,.dct [] []]) by simp[L,nL,Lu,d_,fD,X,hq]];exact cE sI e7
  have eM:ml (Ph (n+6) "Board.__init__") "Board" A L []=Y (.ref 0,S):=by
   rw [ml,has,al];show (match Ph (n+6) "Board.__init__" [.ref 0,.p l] [.ins "Board" [] []] with
    |some (.p .non,F)=>Y (D.ref 0,F)
    |_=>Vk)=_
   rw[e0]
  rw[vE,eM,al];have g1:toP 8 (.ref 1) S=Y (.dtt e.1 f,S.set 1 (.fz (.dtt e.1 f))):=by have:=M.h1;rw[t]at this;simp[toP,this,mV]
  have g2:toP 8 (.ref 2) (S.set 1 (.fz (.dtt e.1 f)))=Y (.dct mk w,F.set 2 (.fz (.dct mk w))):=by
   have:(S.set 1 (.fz (.dtt e.1 f)))[2]? = Y (.dct mk mv):=by rw[a6 (by decide)];exact M.h2
   simp only[toP,this,ef,al]
  have g3:nC (toP 8) [.p (.lst B.fams),.p (.lst (cI B.fams)),.p (.lst B.PR),.ref 1,.ref 2] S=Y ([.lst B.fams,.lst (cI B.fams),.lst B.PR,.dtt e.1 f,.dct mk w],F.set 2 (.fz (.dct mk w))):=by simp only[nC,sm,al,g1,g2]
  simp only[toP,M.h0,g3,al];rfl
theorem LI{B:BD}(m:BP B){n:Nat}{s:St}(v:StO B s):(∀e ∈ pL B (n+7) s,StO B e.2)/\(pL B (n+7) s).length≤40000/\cm (Ph (n+12) "ends_from") [bH B,dA B s]=Y (.lst ((pL B (n+7) s).map (fw B))):=by obtain⟨b,f,u,e⟩:=HY m (n:=n+4);obtain⟨h,a,k⟩:=QP m u (n:=n) v;refine⟨h,a,?_⟩;have M:=e (CF gL) [U (bH B),U (dA B s)] rfl;rw[uf,aD];simp only[aS,i',ac];show(match kc (Ph (n+11)) (Ph (n+10)) [U (bH B),U (dA B s)] [] with|some (.rt d,_,S)=>(toP 9 d S).map (λ(x:P×aM)=>x.1)|some (.nx,_,_)=>Y P.non|_=>Vk)=_;unfold kc;rw[bh,O,cf,v2,bj,aB,M,al];simp[k]
variable{i:Nat}
theorem mh{x:List Nat}(h:x.length≤i):x.getD i d=d:=by rw[a8,qZ h];rfl
noncomputable def sg(a:List Nat)(k:Nat):Nat:=a.getD k k
def ta(a:List Nat)(k:Nat):Nat:=(du (aF a)).getD k k
section
variable{a:List Nat}(t:gh (aF a)=Vl)
include t
theorem Ae:a.Nodup:=by have P:=l0 _ (aF a) rfl (fL t).2;have x:(aF a).Nodup:=P.nodup_iff.mpr (eJ.mpr (jc.imp λh z=>h (by lia)));unfold aF at x;exact(eJ.mp x).imp λh z=>h (by rw[z])
theorem kj:(du (aF a)).length=a.length:=by unfold du;simp[aF]
theorem ki(s:i < a.length):ta a i < a.length/\a[ta a i]? = Y i:=by
 obtain⟨k,hk⟩:=zY t s;have l:=bB hk;have e:(aF a).idxOf (i:Int)=k:=by
  have f:(aF a).Nodup:=by unfold aF;exact eJ.mpr ((Ae t).imp λh z=>h (by lia))
  have x:k < (aF a).length:=by simpa[aF] using l
  have:=f.idxOf_getElem k x;have n:(aF a)[k]=(i:Int):=by have:=(aX.mp hk).2;simp[aF,this]
  rwa [n]at this
 have:ta a i=k:=by unfold ta du;rw[a8,bq,vW (by simpa[aF] using s)];exact e
 rw[this];exact⟨l,hk⟩
theorem g7(i:Nat):sg a (ta a i)=i:=by
 by_cases h:i < a.length
 .unfold sg;rw[a8,(ki t h).2];rfl
 .have:ta a i=i:=by unfold ta;rw[mh (by rw[kj t];lia)]
  rw[this];unfold sg;rw[mh (by lia)]
theorem gM(hk:k < a.length):sg a k < a.length/\a[k]? = Y (sg a k):=by
 have e:a[k]? = Y (sg a k):=by unfold sg;rw[a8,aY hk];rfl
 refine⟨?_,e⟩;have P:=l0 _ (aF a) rfl (fL t).2;have:((sg a k:Nat):Int) ∈ aF a:=aO.mpr ⟨_,bg e,rfl⟩
 obtain⟨z,h,x⟩:=aO.mp (P.mem_iff.mp this);have h:=bM.mp h;simp[aF]at h;lia
theorem kh(k:Nat):ta a (sg a k)=k:=by
 by_cases hk:k < a.length
 .obtain⟨f,h⟩:=gM t hk;obtain⟨b,x⟩:=ki t f;have e:=h.trans x.symm;obtain⟨i,s⟩:=aX.mp h;obtain⟨c,n⟩:=aX.mp x;exact((vQ (Ae t)).mp (n.trans s.symm))
 .have:sg a k=k:=by unfold sg;rw[mh (by lia)]
  rw[this];unfold ta;rw[mh (by rw[kj t];lia)]
theorem uw:ta a i=k↔i=sg a k:=⟨λh=>by rw[<- h,g7 t],λh=>by rw[h,kh t]⟩
end
def tW(a:List Nat)(F:Fs):Fs:=λx y=>F (ta a x) (ta a y)
def MO(a:List Nat)(H:Nat->P):Nat->P:=λi=>hB a (H (ta a i))
def g8(a:List Nat)(s:St):St:=⟨MO a s.H,tW a s.F⟩
variable{a:List Nat}
theorem Ad(t:gh (aF a)=Vl)(F:Fs)(x y:Nat)(l:List P):tW a (qo F x y l)=qo (tW a F) (sg a x) (sg a y) l:=by funext i j;simp only[tW,qo,uw t]
theorem MN(t:gh (aF a)=Vl)(H:Nat->P)(i:Nat)(x:P):MO a (Ik H i x)=Ik (MO a H) (sg a i) (hB a x):=by funext j;simp only[MO,Ik,uw t];split<;>rfl
theorem sD(t:gh (aF a)=Vl)(F:Fs)(x y:Nat):tW a F (sg a x) (sg a y)=F x y:=by simp only[tW,kh t]
theorem Ge(t:gh (aF a)=Vl)(H:Nat->P)(x:Nat):MO a H (sg a x)=hB a (H x):=by simp only[MO,kh t]
end My
namespace My
open PySem L2 Ev
variable{B:BD}
set_option tactic.hygienic true in
theorem Pu(c:BP B)(h:Ra B st):∃s,StO B s/\st=dA B s:=by
 obtain⟨b,r,rfl,h⟩:=h;have hk:=kX.mp (Rf c);let F:Fs:=λx y=>match B.PR.findIdx? λp=>decide (px p=x) && decide (py p=y) with
  |some i=>i3 (r.getD i .non)
  |none=>[]
 have u:∀(i:Nat)(n:i < B.PR.length),P.tup (F (px (B.PR[i])) (py (B.PR[i])))=r[i]'(by rw[h.hr.1];exact n):=λi n=>by
  have a:i < r.length:=by rw[h.hr.1];exact n
  obtain⟨o,_,m⟩:=h.hr.2 _ (dn a);have e:B.PR.findIdx? (λp=>decide (px p=px (B.PR[i])) && decide (py p=py (B.PR[i])))=Y i:=by
   refine oq.mpr ⟨n,by simp,λj z=>?_⟩;have:=hk j i (by lia) n z
   simpa using this
  show P.tup (match B.PR.findIdx? _ with|some i=>i3 (r.getD i .non)|none=>[])=_;rw[e];dsimp only;rw[a8,aY a,m];rfl
 have d:hT B (λk=>b.getD k .non)=b:=by refine jN (by simp[hT,h.hl]) λi g t=>?_;simp[hT,t]
 have w:rT B F=r:=jN (by rw[lZ,h.hr.1]) λi g t=>by rw[<- u i (by rw[<- h.hr.1];exact t)];simp[rT]
 refine⟨⟨λk=>b.getD k .non,F⟩,⟨λk f v=>?_,λx y=>?_⟩,by rw[dA,d,w]⟩
 .have q:k < b.length:=by rw[h.hl];exact bB v
  refine h.hh k f _ v ?_;show b[k]? = Y (b.getD k .non);rw[a8,aY q];rfl
 .show m7 (match B.PR.findIdx? (λp=>decide (px p=x) && decide (py p=y)) with|some i=>i3 (r.getD i .non)|none=>[]);split
  .rename_i i e;have n:=(oq.mp e).1;have a:i < r.length:=by rw[h.hr.1];exact n
   obtain⟨o,q,m⟩:=h.hr.2 _ (dn a);rw[a8,aY a,m];exact q
  .exact⟨by simp,λl h=>by cases h⟩
variable{s:St}
theorem Mx(h:StO B s):StL B (hT B s.H) (rT B s.F):=by
 refine⟨by simp[hT],λk f x a n=>?_,lZ,λr e=>?_⟩
 .rw [yy (bB a)]at n;cases n;exact h.hh k f a
 .unfold rT at e;obtain⟨p,_,rfl⟩:=aO.mp e;exact⟨_,h.hr _ _,rfl⟩
section
variable{B:BD}(c:BP B){a:List Nat}(u:a ∈ fq (cJ B.fams))
include c u
theorem cj:a.length=(ao B.fams).length/\gh (aF a)=Vl:=mU (lX c) u
theorem AL(k:Nat):(ao B.fams)[sg a k]? = (ao B.fams)[k]?:=by
 obtain⟨x,h⟩:=cj c u;by_cases hk:k < a.length
 .exact uT (lX c) u (gM h hk).2
 .rw [show sg a k=k from mh (by lia)]
theorem K_(k:Nat):B.N[sg a k]? = B.N[k]?:=by unfold BD.N aG;rw[bq,bq,AL c u]
theorem iQ(h:sg a x=sg a y):x=y:=by have e:=(cj c u).2;rw[<- kh e x,h,kh e]
theorem nA(x:Nat)(y:Nat):mZ B (sg a x) ((sg a y:Nat):Int)=mZ B x (y:Int):=by unfold mZ;congr 1;funext r;rw[K_ c u,fG,fG,K_ c u];congr 1;rw[eF (show(0:Int)≤((sg a y:Nat):Int) by lia),eF (show(0:Int)≤(y:Int) by lia)];congr 3;exact oa.mpr ⟨λh=>by rw[iQ c u (vg.mp h)],λh=>by rw[vg.mp h]⟩
theorem oC(r:P)(x y:Nat)(k:x < a.length)(f:y < a.length):ib a (pr r x y)=pr r (sg a x) (sg a y):=by
 obtain⟨m,n⟩:=cj c u;have e:∀z,z < a.length->a.getD z 0=sg a z:=λz b=>by rw[a8,(gM n b).2];rfl
 have h:=e x k;have s:=e y f;simp only[ib,pr,Qp,Qu,oo,on,gS,fG,h,s]
theorem o9{r:P}{x y:Nat}(h:mZ B x ((y:Nat):Int)=Y r):x < a.length/\y < a.length:=by
 obtain⟨_,f,e,n,k,_⟩:=fB h;cases (show y=f by lia);have s:B.N.length=a.length:=by rw[(cj c u).1];simp[BD.N,aG]
 exact⟨by rw[<- s];exact bB n,by rw[<- s];exact bB k⟩
theorem DP(h:mZ B x ((y:Nat):Int)=Y r):pr r x y ∈ B.PR:=by obtain⟨a,f,e,s,k,n⟩:=fB h;cases (show y=f by lia);exact lf.mpr ⟨r,a,x,y,s,k,n,rfl⟩
theorem PU(N:StO B s):BH a B.PR (hT B s.H) (rT B s.F)=dA B (g8 a s):=by
 obtain⟨f,h⟩:=cj c u;have H:jm a (hT B s.H)=hT B (g8 a s).H:=by
  refine jN (by simp[jm,hT,kj h,f]) λi R I=>?_;have b:i < a.length:=by simpa[hT,f] using I
  have e:(du (aF a))[i]'(by rw[kj h];exact b)=ta a i:=by unfold ta;rw[a8,aY (by rw[kj h];exact b)];rfl
  have A:=(ki h b).1;simp only[jm,hT,kT,qX,e,g8,MO];rw[a8,show(List.map s.H (List.range (ao B.fams).length))=hT B s.H from rfl,yy (by rw[<- f];exact A)];rfl
 have S:LX a B.PR (rT B s.F)=rT B (g8 a s).F:=by
  unfold LX lY;rw[cQ];refine gX λp D=>?_
  obtain⟨r,x,y,rfl,w,M⟩:=iZ c D;obtain⟨E,G⟩:=o9 c u w;obtain⟨d,hd⟩:=wL (B.PR.map (ib a)) 0 ([],[]) Kt (f6 (pr r x y)) (.inr (by have C:=DP c u (r:=r) (x:=ta a x) (y:=ta a y) (by rw[<- nA c u,g7 h,g7 h];exact w);refine⟨_,aO.mpr ⟨_,C,rfl⟩,?_⟩;rw[oC c u _ _ _ (ki h E).1 (ki h G).1,g7 h,g7 h]))
  rcases yc _ 0 ([],[]) Kt (f6 (pr r x y)) d hd with z|⟨j,Q,g,l,rfl⟩
  .cases z
  rw[bq]at g;obtain⟨p,o,rfl⟩:=eE.mp g;obtain⟨L,q,v,rfl,k,_⟩:=iZ c (bg o);obtain⟨m,t⟩:=o9 c u k;rw[oC c u _ _ _ m t]at l;have n:sg a q=x/\sg a v=y:=by simp[f6,pr]at l;lia
  simp only[qG,hd];have K:=pZ (F:=s.F) (r:=L) (x:=q) (y:=v) o;rw[show(iv (.int ((0+j:Nat):Int))).toNat=j by simp,a8,K,(fC r x y).1,(fC r x y).2];show P.tup (s.F q v)=.tup (s.F (ta a x) (ta a y));rw[<- n.1,<- n.2,kh h,kh h]
 unfold BH dA;rw[H,S]
theorem QG(K:n=a.length)(h:HandOk n f x):HandOk n f (hB a x):=by
 obtain⟨S,k,o,e,m,s,q,r,p,F,rfl,z,d,hw,g⟩:=h;refine⟨S,k,o,e,m,s,q,r,p,eW a F,by simp[hB],z,d,by simp[eW,hw],λw b=>?_⟩;unfold eW at b;obtain⟨v,H,rfl⟩:=aO.mp b;obtain⟨j,l,y,rfl⟩:=g v H;refine⟨j8 a j,?_,?_,by simp⟩<;>unfold j8<;>split
 .lia
 .lia
 .have:=ki (cj c u).2 (i:=0);lia
 .have t:j.toNat < a.length:=by lia
  have:=gM (cj c u).2 t;rw[a8,this.2];simp;lia
theorem Ac(b:StO B s):StO B (g8 a s):=by
 obtain⟨h,m⟩:=cj c u;refine⟨λk f n=>?_,λx y=>b.hr _ _⟩;have hk:k < a.length:=by rw[h];exact bB n
 have e:(ao B.fams)[ta a k]? = Y f:=by rw[<- AL c u,g7 m];exact n
 exact QG c u h.symm (b.hh _ f e)
theorem sC(h:StO B s):cm (Ph (n+6) "renamed") [bH B,dA B s,.tup (ag a)]=Y (dA B (g8 a s)):=by rw[<- PU c u h];exact MM c (by have:=nN c;lia) (Mx h) u
end
def Io(a:List Nat)(t:Int):Int:=if t < 0 then t else ((sg a t.toNat:Nat):Int)
def Ip(a:List Nat)(w:Wy):Wy:=(w.1.map (sg a),tW a w.2)
theorem rn(a:List Nat)(y:Nat):Io a (y:Int)=((sg a y:Nat):Int):=by unfold Io;rw[ae (by lia),fG]
variable{l:Str×Int}{h:Nat}
theorem Ai{t k:Int}:(jp B l h t F).bind (jp B l h k)=(jp B l h k F).bind (jp B l h t):=by
 by_cases q:t=k
 .rw [q]
 unfold jp;cases d:mZ B h t with
 |none=>
  cases m:mZ B h k with
  |none=>rfl
  |some p=>simp only[qN,eD];split<;>rfl
 |some r=>
  cases m:mZ B h k with
  |none=>simp only[qN,eD];split<;>rfl
  |some p=>
   obtain⟨_,y,rfl,_⟩:=fB d;obtain⟨_,x,rfl,_⟩:=fB m;have b:y≠x:=λz=>q (by rw[z]);have u:∀s,qo F h y s h x=F h x:=λs=>by simp only[qo];rw[ae λz=>b z.2.symm]
   have v:∀s,qo F h x s h y=F h y:=λs=>by simp only[qo];rw[ae λz=>b z.2]
   have w:∀s a,qo (qo F h y s) h x a=qo (qo F h x a) h y s:=λs a=>by
    funext i j;simp only[qo];by_cases n:i=h/\j=y
    .rw [ae λz=>b (n.2.symm.trans z.2),ac n,ac n]
    .by_cases f:i=h/\j=x
     .rw [ac f,ae n,ac f]
     .rw [ae f,ae n,ae n,ae f]
   simp only[eD,fG];by_cases c:999 < l.2.natAbs\/iv (bI r 3)≤((F h y).length:Int)<;>by_cases e:999 < l.2.natAbs\/iv (bI p 3)≤((F h x).length:Int)
   .rw [ac c,ac e];rfl
   .rw [ac c,ae e];simp only[qN,eD,v,ac c]
   .rw [ae c,ac e];simp only[qN,eD,u,ac e]
   .rw [ae c,ae e];simp only[eD,u,v,ae c,ae e,w]
theorem Ah(p:k.Perm n):∀F,fX B l h k F=fX B l h n F:=by
 induction p with
 |nil=>exact λ_=>rfl
 |cons t _ s=>intro F;rw[fX,fX];congr 1;funext G;exact s G
 |swap t f r=>
  intro F;have e:∀(x y:Int)(F:Fs),fX B l h (x::y::r) F=((jp B l h x F).bind (jp B l h y)).bind (fX B l h r):=λx y F=>by rw[fX,Option.bind_assoc];rfl
  rw[e,e,Ai]
 |trans _ _ i a=>exact λF=>(i F).trans (a F)
theorem LC{a s:Type}{f g:a->List s}:∀{l:List a},(∀x ∈ l,(f x).Perm (g x))->(l.flatMap f).Perm (l.flatMap g)
 | [],_=>.refl _
 |x::r,h=>by rw[dG,dG];exact(h x aK).append (LC λy e=>h y (aL _ e))
section
variable{B:BD}(c:BP B){a:List Nat}(u:a ∈ fq (cJ B.fams))
include c u
theorem JO(x:Nat)(t:Int):mZ B (sg a x) (Io a t)=mZ B x t:=by
 by_cases h:t < 0
 .have e:∀x,mZ B x t=Vk:=λx=>by
   unfold mZ;refine B1.mpr λr _=>?_
   rw[bA (show ¬(0:Int)≤t by lia)];simp
  unfold Io;rw[ac h,e,e]
 .obtain⟨y,rfl⟩:∃y:Nat,t=y:=⟨t.toNat,by lia⟩;rw[rn,nA c u]
theorem Gp(l:Str×Int)(h:Nat)(t:Int)(F:Fs):jp B l (sg a h) (Io a t) (tW a F)=(jp B l h t F).map (tW a):=by
 have x:=(cj c u).2;unfold jp;rw[JO c u];cases e:mZ B h t with
 |none=>rfl
 |some r=>
  obtain⟨_,y,rfl,_⟩:=fB e;simp only[eD,rn,fG,sD x];split
  .rfl
  .rw [iA,Ad x]
theorem x'(l:Str×Int)(h:Nat):∀(s:List Int)(F:Fs),fX B l (sg a h) (s.map (Io a)) (tW a F)=(fX B l h s F).map (tW a)
 | [],F=>rfl
 |t::s,F=>by
  rw[aC,fX,fX,Gp c u];cases jp B l h t F with
  |none=>rfl
  |some G=>rw[iA,eD,eD];exact x' l h s G
theorem Fz(l:Str×Int)(h:Nat)(w:Wy)(p:t.Perm (x.map (Io a))):wo B (sg a h) l (Ip a w) (n.map (sg a),t)=(wo B h l w (n,x)).map (Ip a):=by
 unfold wo;dsimp only[Ip];rw[Ah p,x' c u];cases fX B l h x w.2 with
 |none=>rfl
 |some G=>simp[Ip]
theorem GI(m:Str)(h:Nat):(oth B.N m (sg a h)).Perm ((oth B.N m h).map (sg a)):=by
 have n:=(cj c u).2;have d:∀h,(oth B.N m h).Nodup:=λh=>jH kU (mn _ _);refine(wf (d _) (eJ.mpr ((d h).imp λq z=>q (iQ c u z)))).mpr λx=>?_;unfold oth;rw[e_,kr,aO];constructor
 .rintro ⟨s,e⟩;refine⟨ta a x,e_.mpr ⟨kr.mpr ?_,?_⟩,g7 n x⟩
  .rw [<- K_ c u,g7 n];exact s
  .simp only[k6,vJ]at e ⊢;exact λz=>e (by rw[z,g7 n])
 .rintro ⟨y,k,rfl⟩;obtain⟨s,e⟩:=e_.mp k;rw[kr]at s;refine⟨by rw[K_ c u];exact s,?_⟩;simp only[k6,vJ]at e ⊢;exact λz=>e (iQ c u z)
theorem Pc{s b:List P}(hw:b.length=s.length)(t:∀w ∈ b,Eh (ao B.fams).length w)(m:∀x ∈ s,lQ x){D y n:Str}(A:(y="who"/\P.str n ∈ s)\/((y="all"\/y="any")/\∃r ∈ B.roads,rA r=D/\n=rB r))(l:Str×Int)(h:Nat)(w:Wy) :
  ((y9 B (sg a h) s (eW a b) y n).flatMap (wo B (sg a h) l (Ip a w))).Perm (((y9 B h s b y n).flatMap (wo B h l w)).map (Ip a)):=by
 have E:=(cj c u).1;have e:∀(S:List Wy),S++[]=S:=eZ;have H:=GI c u n h;unfold y9;rcases A with ⟨rfl,C⟩|⟨rfl|rfl,_⟩
 .rw [ac rfl,ac rfl];obtain⟨i,G,p⟩:=rj m C;have f:i < b.length:=by lia
  obtain⟨j,I,L,v⟩:=t _ (dn f);have F:iv (b.getD ((jx s (.str n)).getD 0) .non)=j:=by rw[p,gS,a8,aY f,v];rfl
  have K:iv ((eW a b).getD ((jx s (.str n)).getD 0) .non)=Io a j:=by
   rw[p,gS,a8];unfold eW;rw[bq,aY f,v];show j8 a j=Io a j;unfold j8 Io;by_cases q:j < 0
   .rw [ac q,ac q];lia
   .rw [ae q,ae q,a8,(gM (cj c u).2 (k:=j.toNat) (by lia)).2];rfl
  rw[F,K,dG,dG,qV,qV,e,e];exact .of_eq (Fz c u l h w (n:=[]) (.refl _))
 .have z:¬("all":Str)="who":=by decide +kernel
  rw[ae z,ae z,ac rfl,ac rfl,dG,dG,qV,qV,e,e];refine .of_eq (Fz c u l h w (n:=[]) ?_);have:=H.map λ(o:Nat)=>(o:Int)
  rw[cQ]at this;rw[cQ];refine this.trans (.of_eq (gX λo _=>?_));simp only[qG,rn]
 .have d:¬("any":Str)="who":=by decide +kernel
  have g:¬("any":Str)="all":=by decide +kernel
  rw[ae d,ae d,ae g,ae g];have:=(H.map λ(o:Nat)=>(([o],[(o:Int)]):List Nat×List Int)).flatMap_right (wo B (sg a h) l (Ip a w))
  refine this.trans ?_;rw[jb,jb,ff,jb];refine LC λo _=>.of_eq ?_;exact Fz c u l h w (n:=[o]) (x:=[(o:Int)]) (.of_eq (by simp[rn]))
end
def EK(a:List Nat)(z:Nat×Nat):Nat×Nat:=(sg a z.1,z.2)
def tN(a:List Nat):Dd->Dd
 | .step h n l c=>.step (sg a h) n (l.map (EK a)) (c.map (sg a))
 | .flaw w x y k=>.flaw w (sg a x) (sg a y) k
def qu(a:List Nat)(e:Dd×St):Dd×St:=(tN a e.1,g8 a e.2)
theorem Hv(a:List Nat)(x:P):bI (hB a x) 0=bI x 0/\bI (hB a x) 1=bI x 1/\i3 (bI (hB a x) 2)=eW a (i3 (bI x 2)):=⟨rfl,rfl,rfl⟩
section
variable{B:BD}(c:BP B){a:List Nat}(u:a ∈ fq (cJ B.fams))
include c u
theorem F6{m:Nat}{K:List ci}{V:List P}{h:Nat}{o k:List P}(hw:k.length=o.length)(i:∀w ∈ k,Eh (ao B.fams).length w)(e:∀x ∈ o,lQ x){v:Str}{N:List P}:∀(f:List P)(W n:List Wy),(∀s ∈ f,isSend v B.roads o N s)->n.Perm (W.map (Ip a))->(xH B m K V (sg a h) o (eW a k) f n).Perm ((xH B m K V h o k f W).map (Ip a))
 | [],W,n,_,p=>p
 |s::r,W,n,b,p=>by obtain⟨mk,t,g,d,_,_,_,y,rfl⟩:=b s aK;refine F6 hw i e r _ _ (λx q=>b x (aL _ q)) ?_;unfold uC;refine(p.flatMap_right _).trans ?_;rw[jb,ff];exact LC λw _=>Pc c u hw i e (by simpa[bI,sv] using y) _ h w
theorem Mn(F:Fs)(h s:Nat)(m:Str):xG B (tW a F) (sg a h) (sg a s) m=(xG B F h s m).map (EK a):=by
 unfold xG;rw[nA c u,sD (cj c u).2];cases mZ B s (h:Int) with
 |none=>rfl
 |some r=>simp[EK]
theorem Ml(F:Fs)(h:Nat)(t:P):(wA B (tW a F) (sg a h) t).Perm ((wA B F h t).map (iz (EK a))):=by
 unfold wA;split
 .rw [cQ];have e:(iz (EK a)) ∘ Y=Y ∘ EK a:=rfl;rw[e,<- cQ];refine List.Perm.map _ (((GI c u _ h).flatMap_right _).trans ?_);rw[jb,ff];exact LC λs _=>.of_eq (Mn c u F h s _)
 .exact .of_eq rfl
theorem tf(h:Nat):fY B (sg a h)=fY B h:=by unfold fY;rw[a8,a8,AL c u]
theorem kG{s:Nat}(h:s < a.length):j8 a (s:Int)=((sg a s:Nat):Int):=by unfold j8;rw[ae (by lia),a8,fG,(gM (cj c u).2 h).2];rfl
theorem O7{w h:List P}{t:P}{l:Option (Nat×Nat)}(x:∀s k,l=Y (s,k)->s < a.length):DV w (eW a h) t (l.map (EK a))=eW a (DV w h t l):=by
 cases l with
 |none=>rfl
 |some z=>
  obtain⟨s,k⟩:=z;show(if sv (bI t 3)="" then eW a h else (eW a h).set _ (.int ((sg a s:Nat):Int)))=eW a (if sv (bI t 3)="" then h else h.set _ (.int (s:Int)));split
  .rfl
  .unfold eW;rw[List.map_set];congr 1;rw[Qu,kG c u (x s k rfl)]
theorem Jy(F:Fs)(h:Nat)(l:Option (Nat×Nat)):lW (tW a F) (sg a h) (l.map (EK a))=tW a (lW F h l):=by
 have x:=(cj c u).2;cases l with
 |none=>rfl
 |some z=>obtain⟨s,k⟩:=z;show qo (tW a F) (sg a s) (sg a h) ((tW a F (sg a s) (sg a h)).eraseIdx k)=tW a (qo F s h ((F s h).eraseIdx k));rw[sD x,Ad x]
theorem NF(F:Fs)(h:Nat)(l:Option (Nat×Nat)):Ay (tW a F) (sg a h) (l.map (EK a))=Ay F h l:=by unfold Ay;rw[Option.map_map];congr 1;funext z;show iv (bI ((tW a F (sg a z.1) (sg a h)).getD z.2 .non) 1)=_;rw[sD (cj c u).2]
theorem PC{m:Nat}{s:St}(hs:StO B s){h:Nat}{v:Str}{q:Nat}{o f b t:List P}(F:Fam B.roads v q o f b t)(X:(ao B.fams)[h]? = Y (gI v q o f b t)){st:P}(L:st ∈ t){l:Option (Nat×Nat)}(G:RW B s.F h (bI st 3) l) :
  (wG B m (g8 a s) (sg a h) st (l.map (EK a))).Perm ((wG B m s h st l).map (qu a)):=by
 obtain⟨h1,T⟩:=cj c u;have I:∀s k,l=Y (s,k)->s < a.length:=λs' k e=>by
  rcases G with ⟨_,rfl⟩|⟨_,s2,k2,r,rfl,Z,_⟩
  .cases e
  .cases e;exact(o9 c u Z).1
 obtain⟨nm',C,H,z,R,A,e0,r,cs,ws,eH,Z,hc,hw,N⟩:=hs.hh h _ X;cases e0;have d:fY B h=gI v q o f b t:=by unfold fY;rw[a8,X];rfl
 obtain⟨x,rm,wh,Q,g,S,y,hx,W,rfl⟩:=F.hst st L;have i:i3 (bI (s.H h) 2)=ws/\i3 (bI (gI v q o f b t) 4)=b/\bI (.tup [.str x,rm,wh,Q,.lst g,.lst S,y]) 3=Q/\i3 (bI (.tup [.str x,rm,wh,Q,.lst g,.lst S,y]) 5)=S:=by rw[eH];simp[bI]
 rw [i.2.2.1] at G;obtain⟨⟨M,j⟩,_⟩:=Le (n:=0) (k:=(ao B.fams).length) F.hwh hw F.wl N W.htk (l:=l) (by
  rcases G with h|⟨D,s',k,r,E,h3,_⟩
  .exact .inl h
  .exact .inr ⟨D,s',k,E,by rw[<- h1];exact(o9 c u h3).1⟩) (gI v q o f b t) (by simp[RT]) rfl
 unfold wG;dsimp only[g8];rw[tf c u,d,Ge T,(Hv a _).2.1,(Hv a _).2.2,NF c u,O7 c u I,i.1,i.2.1,i.2.2.1,i.2.2.2];generalize RQ _ _ _ _ _=ans;unfold EJ;split
 .dsimp only;rw[Jy c u];have p:=F6 c u (m:=m) (K:=(vD (i3 (bI (gI v q o f b t) 3)) (i3 (bI (s.H h) 1)) (Ay s.F h l)).1) (V:=(vD (i3 (bI (gI v q o f b t) 3)) (i3 (bI (s.H h) 1)) (Ay s.F h l)).2) (h:=h) M j F.hwh S [([],lW s.F h l)] [([],tW a (lW s.F h l))] W.hsn (.of_eq rfl);refine(p.map _).trans ?_;rw[cQ,cQ];refine .of_eq (gX λw _=>?_);simp only[qG,Ip,qu,tN,g8,MN T,hB];rfl
 .exact .of_eq rfl
theorem QI(m:Nat)(s:St)(h:Nat)(st:P):Oy B m (g8 a s) (sg a h) st=Oy B m s h st:=by have e:∀x,bI (hB a x) 0=bI x 0/\bI (hB a x) 1=bI x 1:=λx=>⟨rfl,rfl⟩;simp only[Oy,g8,tf c u,Ge (cj c u).2,e]
theorem QA{m:Nat}{s:St}(i:StO B s){h:Nat}(v:h < (ao B.fams).length):(y' B m (g8 a s) (sg a h)).Perm ((y' B m s h).map (qu a)):=by
 obtain⟨p,n,r,e,w,t,F,q⟩:=oR c v;unfold y';rw[tf c u,ff];have f:fY B h=gI p n r e w t:=by unfold fY;rw[a8,q];rfl
 rw[f,show i3 (bI (gI p n r e w t) 5)=t by simp[bI]];refine LC λst k=>?_;unfold CU;rw[QI c u];split
 .rw [ff];refine((Ml c u s.F h _).flatMap_right _).trans ?_;rw[jb];refine LC λl d=>?_;have b:j7 p B.roads w (bI st 3):=by
   obtain⟨x,y,H,o,g,z,j,_,S,rfl⟩:=F.hst st k;simpa[bI] using S.htk
  exact PC c u i F q k (zQ b d)
 .exact .of_eq rfl
theorem K9:B.PR.Perm (B.PR.map (ib a)):=by
 have b:=(cj c u).2;have j:B.PR.Nodup:=(Rf c).imp λh z=>h (by rw[z];exact⟨rfl,rfl⟩);have k:∀p ∈ B.PR,∃r x y,p=pr r x y/\ib a p=pr r (sg a x) (sg a y)/\mZ B x ((y:Nat):Int)=Y r:=λp f=>by obtain⟨r,x,y,rfl,s,_⟩:=iZ c f;obtain⟨t,v⟩:=o9 c u s;exact⟨r,x,y,rfl,oC c u r x y t v,s⟩
 have I:∀{r x y w g i},pr r x y=pr w g i->r=w/\x=g/\y=i:=λh=>by simp[pr]at h;exact⟨h.1,by lia,by lia⟩
 have d:(B.PR.map (ib a)).Nodup:=eJ.mpr (j.imp_of_mem λ{p q} f m h z=>h (by obtain⟨r,x,y,rfl,l,_⟩:=k p f;obtain⟨w,g,i,rfl,o,_⟩:=k q m;rw[l,o]at z;obtain⟨rfl,H,S⟩:=I z;rw[iQ c u H,iQ c u S]))
 refine(wf j d).mpr λp=>?_
 .rw [aO];constructor
  .intro f;obtain⟨r,x,y,rfl,_,s⟩:=k p f;have n:mZ B (ta a x) ((ta a y:Nat):Int)=Y r:=by rw[<- nA c u,g7 b,g7 b];exact s
   refine⟨_,DP c u n,?_⟩;obtain⟨t,v⟩:=o9 c u n;rw[oC c u _ _ _ t v,g7 b,g7 b]
  .rintro ⟨q,m,rfl⟩;obtain⟨r,x,y,rfl,e,s⟩:=k q m;rw[e];exact DP c u (by rw[nA c u];exact s)
theorem LD(s:St)(w:Str):(yI B (g8 a s) w).Perm ((yI B s w).map (qu a)):=by
 have h:=(cj c u).2;unfold yI;refine((K9 c u).flatMap_right _).trans ?_;rw[jb,ff];refine LC λp n=>.of_eq ?_;obtain⟨r,x,y,rfl,e,_⟩:=iZ c n;obtain⟨f,b⟩:=o9 c u e;rw[oC c u _ _ _ f b];unfold yJ;rw[(fC r _ _).1,(fC r _ _).2,(fC r x y).1,(fC r x y).2,show ∀x y,bI (pr r x y) 0=r from λx y=>by simp[bI,pr],show ∀x y,bI (pr r x y) 0=r from λx y=>by simp[bI,pr]];simp only[g8,sD h];split
 .rw [cQ];refine gX λk _=>?_;simp only[qG,qu,tN,g8,Ad h]
 .rfl
theorem Gd:(List.range (ao B.fams).length).Perm ((List.range (ao B.fams).length).map (sg a)):=by
 obtain⟨e,h⟩:=cj c u;rw[<- e];refine(wf jc (eJ.mpr (jc.imp λq z=>q (iQ c u z)))).mpr λx=>?_;rw[bM,aO];constructor
 .exact λs=>⟨ta a x,bM.mpr (ki h s).1,g7 h x⟩
 .rintro ⟨y,n,rfl⟩;exact(gM h (bM.mp n)).1
theorem QO{m:Nat}{s:St}(e:StO B s):(pL B m (g8 a s)).Perm ((pL B m s).map (qu a)):=by unfold pL;rw[ja,ja];refine(List.Perm.append ?_ (LD c u s _)).append (LD c u s _);refine((Gd c u).flatMap_right _).trans ?_;rw[jb,ff];exact LC λh x=>QA c u e (bM.mp x)
end
def WN(t:Nat)(W:List Wy):Prop:=(∀w ∈ W,w.1.length=t)/\W.Pairwise λw h=>w.1≠h.1
theorem pu(a:z ∈ wo B h l w x):z.1=w.1++x.1:=by
 unfold wo at a;split at a
 .rw [cZ.mp a]
 .cases a
theorem FV:∀{x:List n},x.length≤1->x.Pairwise R
 | [],_=>.nil
 | [_],_=>mR ..
 |_::_::_,h=>by simp at h
theorem MB(hT:∀x ∈ T,x.1.length=dl)(k:T.Pairwise λx y=>x.1≠y.1)(n:WN t W):WN (t+dl) (uC B h l T W):=by
 refine⟨λz a=>?_,?_⟩
 .obtain⟨w,hw,a⟩:=b_.mp a;obtain⟨x,b,a⟩:=b_.mp a;rw[pu a,bK,n.1 w hw,hT x b]
 .refine jd.mpr ⟨λw _=>jd.mpr ⟨λx _=>FV FA,k.imp λq z a r s e=>q ?_⟩,n.2.imp_of_mem λ{w m} hw f q z a r s e=>q ?_⟩
  .rw [pu a,pu s]at e;exact List.append_cancel_left e
  .obtain⟨x,b,a⟩:=b_.mp a;obtain⟨p,c,s⟩:=b_.mp s;rw[pu a,pu s]at e;exact(List.append_inj e ((n.1 w hw).trans (n.1 m f).symm)).1
theorem Pd(B:BD)(h:Nat)(w s:List P)(e n:Str):∃dl,(∀x ∈ y9 B h w s e n,x.1.length=dl)/\(y9 B h w s e n).Pairwise λx y=>x.1≠y.1:=by
 unfold y9;split
 .exact⟨0,λx a=>by rw[cZ.mp a];rfl,mR ..⟩
 .split
  .exact⟨0,λx a=>by rw[cZ.mp a];rfl,mR ..⟩
  .refine⟨1,λx a=>?_,eJ.mpr ((jH kU (mn B.N n)).imp λq z=>q ?_)⟩
   .obtain⟨o,_,rfl⟩:=aO.mp a;rfl
   .simpa using z
theorem F7{B:BD}{m:Nat}{K:List ci}{V:List P}{h:Nat}{o a:List P}:∀(k:List P)(W:List Wy)(t:Nat),WN t W->(xH B m K V h o a k W).Pairwise λw f=>w.1≠f.1
 | [],W,t,x=>x.2
 |s::r,W,t,x=>by obtain⟨dl,e,n⟩:=Pd B h o a (sv (bI s 2)) (sv (bI s 3));exact F7 r _ _ (MB e n x)
theorem FH(k:Str)(l:List P):(zJ k l).Nodup:=jH kU jc
theorem Mo(r:P)(l:List P):(ux r l).Nodup:=by
 unfold ux;split
 .exact jH (vV ..) jc
 .exact FH _ _
theorem CS{B:BD}{F:Fs}{h s:Nat}{m:Str}{z:Nat×Nat}(x:z ∈ xG B F h s m):z.1=s:=by
 unfold xG at x;split at x
 .obtain⟨k,_,rfl⟩:=aO.mp x;rfl
 .cases x
theorem Mm(B:BD)(F:Fs)(h:Nat)(t:P):(wA B F h t).Nodup:=by
 unfold wA;split
 .refine eJ.mpr (List.Pairwise.imp (R:=λx y=>x≠y) (λq z=>q (b0 z)) (jd.mpr ⟨λs _=>?_,(jH kU (mn _ _)).imp λq z n k a e=>q ?_⟩))
  .unfold xG;split
   .exact eJ.mpr ((jH kU (Mo _ _)).imp λq z=>q (by simpa using z))
   .exact .nil
  .rw [<- CS n,<- CS a,e]
 .exact mR ..
abbrev Iv(e h:Dd×St):Prop:=e.1≠h.1
theorem z3{B:BD}{m:Nat}{s:St}{h:Nat}{st:P}{l:Option (Nat×Nat)}{e:Dd×St}(x:e ∈ wG B m s h st l):∃c,e.1=.step h (bI st 0) l c:=by
 unfold wG EJ at x;dsimp only at x;split at x
 .obtain⟨w,_,rfl⟩:=aO.mp x;exact⟨_,rfl⟩
 .cases x
theorem PF(B:BD)(m:Nat)(s:St)(h:Nat)(st:P)(l:Option (Nat×Nat)):(wG B m s h st l).Pairwise Iv:=by
 unfold wG EJ;dsimp only;split
 .exact eJ.mpr ((F7 _ _ 0 ⟨λw hw=>by rw[cZ.mp hw];rfl,mR ..⟩).imp λq z=>q (by simpa using z))
 .exact .nil
variable{m:Nat}{e:Dd×St}
theorem zW(x:e ∈ CU B m s h st):∃l c,e.1=.step h (bI st 0) l c:=by
 unfold CU at x;split at x
 .obtain⟨l,_,x⟩:=b_.mp x;obtain⟨c,e⟩:=z3 x;exact⟨l,c,e⟩
 .cases x
theorem AF(x:e ∈ y' B m s h):∃st ∈ i3 (bI (fY B h) 5),∃l c,e.1=.step h (bI st 0) l c:=by obtain⟨st,t,x⟩:=b_.mp x;obtain⟨l,c,e⟩:=zW x;exact⟨st,t,l,c,e⟩
theorem AK(h:e ∈ yI B s w):∃x y k,e.1=.flaw w x y k:=by
 obtain⟨p,_,h⟩:=b_.mp h;unfold yJ at h;split at h
 .obtain⟨k,_,rfl⟩:=aO.mp h;exact⟨_,_,_,rfl⟩
 .cases h
section
variable{B:BD}(c:BP B)
include c
theorem JC(l:h < (ao B.fams).length):(∀st ∈ i3 (bI (fY B h) 5),lQ (bI st 0))/\(i3 (bI (fY B h) 5)).Pairwise λa b=>bI a 0≠bI b 0:=by
 obtain⟨p,w,r,e,o,s,F,j⟩:=oR c l;have f:fY B h=gI p w r e o s:=by unfold fY;rw[a8,j];rfl
 rw[f,show i3 (bI (gI p w r e o s) 5)=s by simp[bI]];have k:∀st ∈ s,∃x,ba x=Vl/\bI st 0=.str x/\bt st=x:=λst t=>by obtain⟨x,K,D,C,g,A,S,H,_,rfl⟩:=F.hst st t;exact⟨x,H,by simp[bI],by simp[bt]⟩
 refine⟨λst t=>?_,F.sd.imp_of_mem λ{a b} u i q z=>q ?_⟩
 .obtain⟨x,n,m,_⟩:=k st t;exact⟨x,n,m⟩
 .obtain⟨x,_,n,m⟩:=k a u;obtain⟨y,_,v,d⟩:=k b i;rw[n,v]at z;rw[m,d];exact P.str.inj z
theorem QC(t:h < (ao B.fams).length):(y' B m s h).Pairwise Iv:=by
 refine jd.mpr ⟨λst _=>?_,(JC c t).2.imp λq e f r x z=>q ?_⟩
 .unfold CU;split
  .refine jd.mpr ⟨λl _=>PF ..,(Mm ..).imp λq e f r x z=>q ?_⟩;obtain⟨b,n⟩:=z3 f;obtain⟨a,k⟩:=z3 x;rw[n,k]at z;cases z;rfl
  .exact .nil
 .obtain⟨l,b,n⟩:=zW f;obtain⟨p,a,k⟩:=zW x;rw[n,k]at z;injection z
theorem LG(s:St)(w:Str):(yI B s w).Pairwise Iv:=by
 refine jd.mpr ⟨λp _=>?_,(Rf c).imp λ{p q} f e h r x z=>f ?_⟩
 .unfold yJ;split
  .exact eJ.mpr ((FH _ _).imp λq z=>q (by simpa using z))
  .exact .nil
 .have k:∀{p:P}{e:Dd×St},e ∈ yJ s w p->∃k,e.1=.flaw w (px p) (py p) k:=λ{p e} h=>by
   unfold yJ at h;split at h
   .obtain⟨k,_,rfl⟩:=aO.mp h;exact⟨_,rfl⟩
   .cases h
  obtain⟨_,a⟩:=k h;obtain⟨_,n⟩:=k x;rw[a,n]at z;injection z with _ b m;exact⟨b,m⟩
theorem QQ:(pL B m s).Pairwise Iv:=by
 have r:∀e ∈ (List.range (ao B.fams).length).flatMap (y' B m s),∃h d l p,e.1=.step h d l p:=λe x=>by obtain⟨_,_,x⟩:=b_.mp x;obtain⟨_,_,_,_,n⟩:=AF x;exact⟨_,_,_,_,n⟩
 have t:((List.range (ao B.fams).length).flatMap (y' B m s)).Pairwise Iv:=jd.mpr ⟨λh v=>QC c (bM.mp v),jc.imp λq e x k a z=>q (by obtain⟨_,_,_,_,n⟩:=AF x;obtain⟨_,_,_,_,f⟩:=AF a;rw[n,f]at z;injection z)⟩
 have b:∀w,∀e ∈ (List.range (ao B.fams).length).flatMap (y' B m s),∀k ∈ yI B s w,Iv e k:=λw e x k a z=>by obtain⟨_,_,_,_,n⟩:=r e x;obtain⟨_,_,_,f⟩:=AK a;rw[n,f]at z;cases z
 unfold pL;refine vZ.mpr ⟨vZ.mpr ⟨t,LG c s _,b _⟩,LG c s _,λe x k a z=>?_⟩;rcases cR.mp x with x|x
 .exact b _ e x k a z
 .obtain⟨_,_,_,n⟩:=AK x;obtain⟨_,_,_,f⟩:=AK a;rw[n,f]at z;injection z with z _;exact absurd z (by decide +kernel)
end
end My
namespace My
open PySem L2 Ev
def jE(n:Nat):Dd->Prop
 | .step h m l a=>h < n/\lQ m/\(∀z,l=Y z->z.1 < n)/\(∀c ∈ a,c < n)/\a.length≤100
 | .flaw w x y _=>(w="lose"\/w="double")/\x < n/\y < n
theorem F9{B:BD}{m:Nat}{K:List ci}{V:List P}{h:Nat}{a q:List P}:∀(p:List P)(W:List Wy)(t:Nat),(∀w ∈ W,w.1.length≤t/\∀c ∈ w.1,c < B.N.length)->∀w ∈ xH B m K V h a q p W,w.1.length≤t+p.length/\∀c ∈ w.1,c < B.N.length
 | [],W,t,f=>f
 |s::r,W,t,f=>λw hw=>by
  have:=F9 r (uC B h (RA m K V s) (y9 B h a q (sv (bI s 2)) (sv (bI s 3))) W) (t+1) (λz k=>?_) w hw
  .exact⟨by have:=this.1;rw[aS];lia,this.2⟩
  .obtain⟨w,hw,k⟩:=b_.mp k;obtain⟨x,n,k⟩:=b_.mp k;rw[pu k];obtain⟨u,v⟩:=f w hw;have b:x.1.length≤1/\∀c ∈ x.1,c < B.N.length:=by
    unfold y9 at n;split at n
    .rw [cZ.mp n];exact⟨by simp,λc h=>by cases h⟩
    .split at n
     .rw [cZ.mp n];exact⟨by simp,λc h=>by cases h⟩
     .obtain⟨o,d,rfl⟩:=aO.mp n;refine⟨by simp,λc e=>?_⟩;rw[cZ.mp e];exact bB (kr.mp (e_.mp d).1)
   refine⟨by rw[bK];lia,λc e=>?_⟩;rcases cR.mp e with e|e
   .exact v c e
   .exact b.2 c e
theorem QR{B:BD}(t:BP B){m:Nat}{s:St}{e:Dd×St}(a:e ∈ pL B m s):jE (ao B.fams).length e.1:=by
 have N:B.N.length=(ao B.fams).length:=by simp[BD.N,aG]
 have d:∀w:Str,(w="lose"\/w="double")->e ∈ yI B s w->jE (ao B.fams).length e.1:=λw hw a=>by
  obtain⟨p,V,a⟩:=b_.mp a;obtain⟨r,x,y,rfl,Q,_⟩:=iZ t V;unfold yJ at a;split at a
  .obtain⟨k,_,rfl⟩:=aO.mp a;rw[(fC r x y).1,(fC r x y).2];obtain⟨_,Z,e,K,X,_⟩:=fB Q;cases (show y=Z by lia);exact⟨hw,by rw[<- N];exact bB K,by rw[<- N];exact bB X⟩
  .cases a
 rcases cR.mp a with a|a
 .rcases cR.mp a with a|a
  .obtain⟨h,i,a⟩:=b_.mp a;have i:=bM.mp i;obtain⟨I,b,o,f,q,n,R,T⟩:=oR t i;have v:fY B h=gI I b o f q n:=by unfold fY;rw[a8,T];rfl
   unfold y' at a;rw[v,show i3 (bI (gI I b o f q n) 5)=n by simp[bI]]at a;obtain⟨st,S,a⟩:=b_.mp a;unfold CU at a;split at a
   .obtain⟨l,E,a⟩:=b_.mp a;obtain⟨x,L,M,C,g,A,u,K,D,rfl⟩:=R.hst st S;have F:bI (.tup [.str x,L,M,C,.lst g,.lst A,u]) 3=C:=by simp[bI]
    have H:i3 (bI (.tup [.str x,L,M,C,.lst g,.lst A,u]) 5)=A:=by simp[bI]
    rw[F]at E;have j:=zQ D.htk E;unfold wG EJ at a;dsimp only at a;split at a
    .obtain⟨w,hw,rfl⟩:=aO.mp a;have:=F9 _ _ 0 (λw hw=>by rw[cZ.mp hw];exact⟨by simp,λc h=>by cases h⟩) w hw
     rw[H]at this;refine⟨i,⟨x,K,by simp[bI]⟩,λz G=>?_,by rw[<- N];exact this.2,by have:=this.1;have:=D.sl;lia⟩;rcases j with ⟨_,rfl⟩|⟨_,s',k,r,rfl,W,_⟩
     .cases G
     .cases G;obtain⟨_,_,_,P,_⟩:=fB W;rw[<- N];exact bB P
    .cases a
   .cases a
  .exact d _ (.inl rfl) a
 .exact d _ (.inr rfl) a
section
variable{n:Nat}{a:List Nat}(u:gh (aF a)=Vl)
include u
theorem i4{x:Nat}(h:x < a.length):L2.atI (ag a) (x:Int)=Y (.int ((sg a x:Nat):Int)):=bY (by simp[ag,(gM u h).2])
omit u in
theorem sL{S:aM}{L:Lc}{i:Nat}(k:L.length=i){f:Nat->Nat}{e:EV}{x:List Nat}(h:∀c ∈ x,e (L++[qi (c:Int)]) S=Y (.int ((f c:Nat):Int),S))(l:x.length≤100){t:lC}(b:t L S=Y (ag x,S)):bp t [] 1 (ah i) eA e L S=Y (.lst (ag (x.map f)),S):=by
 have n:ag (x.map f)=(x.filter λ_=>Vl).map λc=>P.int ((f c:Nat):Int):=by rw[jW];simp[ag]
 have g:bL (ah i) eA e (ag x) (L++[Vk]) S=Y (ag (x.map f),S):=by rw[n];refine jA (F:=λ(c:Nat)=>P.int (c:Int)) (Inv:=λs=>∃d,s=L++[d]) (λc m s a=>?_) ⟨Vk,rfl⟩;obtain⟨d,rfl⟩:=a;exact⟨L++[qi (c:Int)],by rw[KG,<- k];simp,⟨_,rfl⟩,by simp,λ_=>h c m⟩
 have q:(ag x).length≤1000000:=by simp[ag];lia
 unfold bp;rw[b,al,ac (by rw[iR];exact q),show m9 [] 1 L=L++[Vk] from rfl,g];rfl
theorem rN(f:L[1]? = Y (qt (ag a)))(s:L.length=i)(b:1 < i)(n:∀c ∈ h,c < a.length)(l:h.length≤100)(k:r L S=Y (ag h,S)) :
  bp r [] 1 (ah i) eA (ab cw (vv i)) L S=Y (.lst (ag (h.map (sg a))),S):=sL s (fun c m=>by
 have x:(L++[qi (c:Int)])[1]? = Y (qt (ag a)):=by rw[ce (by lia)];exact f
 have e:(L++[Y (D.p (.int (c:Int)))])[i]? = Y (qi (c:Int)):=by rw[c_ (by lia),s];simp
 simp only[gQ,vE,rK,x,e,al,sm,KQ,i4 u (n c m)];rfl) l k
theorem PX{d:Dd}(hd:jE a.length d):cm (Ph (n+2) "renamed_deed") [dP d,.tup (ag a)]=Y (dP (tN a d)):=by
 cases d with
 |flaw w x y k=>
  obtain⟨hw,q,v⟩:=hd;have p:¬w="step":=by rcases hw with rfl|rfl<;>decide +kernel
  rw[kC,aD];simp[fQ,dP,p,i4 u q,i4 u v,tN]
 |step h m l f=>
  obtain⟨r,_,t,b,c⟩:=hd;rw[kC,aD];cases l with
  |none=>have e:=rN u (S:=[]) (L:=[U (dP (.step h m Vk f)),qt (ag a),qs "step",Vk,Vk,Vk,qi (h:Int),U m,U .non,qt (ag f)]) (i:=10) rfl rfl (by decide) b c (r:=eR jf) (by simp);simp[dP,lP]at e;simp[fQ,dP,lP,dw,fj,e,i4 u r,a_,tN]
  |some z=>obtain⟨s,k⟩:=z;have I:=t _ rfl;have e:=rN u (S:=[]) (L:=[U (dP (.step h m (Y (s,k)) f)),qt (ag a),qs "step",Vk,Vk,Vk,qi (h:Int),U m,U (lP (Y (sg a s,k))),qt (ag f)]) (i:=10) rfl rfl (by decide) b c (r:=eR jf) (by simp);simp[dP,lP]at e;simp[fQ,dP,lP,dw,fj,e,i4 u r,i4 u I,a_,tN,EK]
theorem Nu(hd:jE a.length d):cm (Ph (n+2) "_law_renamed_deed") [dP d,.tup (ag a)]=Y (dP (tN a d)):=by
 cases d with
 |flaw w x y k=>
  obtain⟨hw,v,g⟩:=hd;have q:¬w="step":=by rcases hw with rfl|rfl<;>decide +kernel
  rw[iJ,aD];simp[dL,dP,q,i4 u v,i4 u g,tN]
 |step h m l b=>
  obtain⟨t,_,p,r,c⟩:=hd;have f:L2.atI [P.str "step",.int (h:Int),m,lP l,.tup (ag b)] 4=Y (.tup (ag b)):=bn (by decide) rfl;rw[iJ,aD];cases l with
  |none=>have e:=rN u (S:=[]) (L:=[U (dP (.step h m Vk b)),qt (ag a),U .non]) (i:=3) rfl rfl (by decide) r c (r:=eR (ab bX nP)) (by simp[dP,f]);simp[dP,lP]at e f;simp[dL,dP,lP,dw,fj,e,i4 u t,a_,tN]
  |some z=>obtain⟨s,k⟩:=z;have I:=p _ rfl;have e:=rN u (S:=[]) (L:=[U (dP (.step h m (Y (s,k)) b)),qt (ag a),U (lP (Y (sg a s,k)))]) (i:=3) rfl rfl (by decide) r c (r:=eR (ab bX nP)) (by simp[dP,f]);simp[dP,lP]at e f;simp[dL,dP,lP,dw,fj,e,i4 u t,i4 u I,a_,tN,EK]
end
theorem JL(h:isRoad r):d9 2 r=Vl:=by
 obtain⟨a,b,k,c,d,e,u,g,hk,_,_,rfl⟩:=h;have:ba k=Vl:=by rcases hk with rfl|rfl<;>decide +kernel
 simp[u,g,this]
theorem QN(n:isRoad r)(a:isRoad f)(h:x=e/\y=k->r=f):DC (pr r x y) (pr f e k)=Y (decide (x=e/\y=k)):=by
 have ok:∀{r x y},isRoad r->d9 20 (pr r x y)=Vl:=λ{r x y} h=>by simp[pr,kq (JL h) (show 2≤19 by decide)]
 by_cases q:x=e/\y=k
 .obtain⟨rfl,rfl⟩:=q;rw[h ⟨rfl,rfl⟩,yL (ok a)];simp
 .rw [bA q];show(if (d9 20 (pr r x y) && d9 20 (pr f e k))=Vl then Y (de (pd (pr r x y)) (pd (pr f e k))) else Vk)=_;rw[ok n,ok a,ou,ac rfl];congr 1;show de (.tuple [pd r,.int (x:Int),.int (y:Int)]) (.tuple [pd f,.int (e:Int),.int (k:Int)])=Vm;simp only[de,xI,wj,Bool.and_eq_false_iff];by_cases s:x=e
  .right;right;have:¬(y:Int)=k:=λz=>q ⟨s,by lia⟩
   simpa using this
  .right;left;have:¬(x:Int)=e:=λz=>s (by lia)
   simpa using this
theorem C_{e b:Type}{c:e->Prop}[DecidablePred c]{g:e->b}:∀{s:List e},s.Pairwise (λx y=>¬(c x/\c y))->∀{z:e},z ∈ s->c z->(s.flatMap λx=>if c x then [g x] else [])=[g z]
 |x::r,n,z,a,h=>by
  obtain⟨p,f⟩:=B3.mp n;rw[dG];rcases bc.mp a with rfl|a
  .rw [ac h];have:(r.flatMap λx=>if c x then [g x] else [])=[]:=List.flatMap_eq_nil_iff.mpr λy k=>ae λq=>p y k ⟨h,q⟩
   rw[this];rfl
  .rw [ae λq=>p z a ⟨q,h⟩,C_ f a h];rfl
def LH(n:Nat)(a:List Nat)(H:Nat->P)(j:Nat):List P:=(List.range n).map λi=>if ta a i < j then hB a (H (ta a i)) else H i
section
variable{B:BD}(t:BP B){a:List Nat}(u:a ∈ fq (cJ B.fams)){s:St}(I:StO B s){N Q E:Option D}{Z:SO}
include t u I
theorem G1:∃N Q E:Option D,bx (be [ah 4,ah 5]) (eL (Ph (n+1))) (bE 0 (hT B s.H)) [U (bH B),U (dA B s),qt (ag a),qr 0,Vk,Vk,Vk,Vk,Vk,Vk,Vk,Vk,Vk,Vk,Vk] [.lst ((hT B s.H).map .p)] =
  Y (.nx,[U (bH B),U (dA B s),qt (ag a),qr 0,N,Q,E,Vk,Vk,Vk,Vk,Vk,Vk,Vk,Vk],[.lst ((hT B (g8 a s).H).map .p)]):=by
 obtain⟨h1,m⟩:=cj t u;have hl4:=gN t;let L:Option D->Option D->Option D->Lc:=λN Q E=>[U (bH B),U (dA B s),qt (ag a),qr 0,N,Q,E,Vk,Vk,Vk,Vk,Vk,Vk,Vk,Vk]
 have d:lI (.tup (ag a)) (.tup [.int (-1)])=Y (.tup (ag a++[.int (-1)])):=ij (by simp [ag];lia);obtain⟨f,K,e,N,Q,E,rfl,rfl⟩:=bN (g:=be [ah 4,ah 5]) (b:=eL (Ph (n+1))) (s:=bE 0 (hT B s.H)) (k:=0) (Inv:=fun j f K=>∃N Q E,f=L N Q E/\K=[.lst ((LH (ao B.fams).length a s.H j).map .p)]) (L:=L Vk Vk Vk) (S:=[.lst ((hT B s.H).map .p)]) (fun j v f K hv hI=>by
  obtain⟨N,Q,E,rfl,rfl⟩:=hI;simp only[cP];obtain⟨x,Z,rfl⟩:=gi hv;have o:j < (ao B.fams).length:=by simpa[hT] using bB Z
  rw[yy o]at Z;cases Z;obtain⟨nm,crew,rooms,C,whos,steps,h0,r,c,h,eH,hr,hc,hw,V⟩:=I.hh j _ (aY o);have W:h.length≤1000000:=by
   obtain⟨nm',M,H,l,whos',F,hF,y⟩:=oR t o;rw[aY o,h0]at y;cases y;have:=hF.wl
   lia
  let T:aM:=[.lst ((LH (ao B.fams).length a s.H j).map .p)]
  have ec:bp (eR (ab j4 gc)) [] 1 (ah 15) eA (ab (au dq (aQ (v1 (Jq uh df)))) (vv 15)) (L (qi (j:Int)) (qt [.int (r:Int),.tup c,.tup h]) E) T=Y (.lst (eW a h),T):=by
   have eg:bL (ah 15) eA (ab (au dq (aQ (v1 (Jq uh df)))) (vv 15)) h (L (qi (j:Int)) (qt [.int (r:Int),.tup c,.tup h]) E++[Vk]) T=Y (eW a h,T):=by
    have y:eW a h=(h.filter λ_=>Vl).map λw=>.int (j8 a (iv w)):=by rw[eW,jO.mpr (λ_ _=>rfl)]
    rw[y];refine dC (Inv:=λf=>∃q,f=L (qi (j:Int)) (qt [.int (r:Int),.tup c,.tup h]) E++[q]) (λw X f hL=>?_) ⟨Vk,rfl⟩;obtain⟨q,rfl⟩:=hL;obtain⟨b1,i,rfl⟩:=Ib (a:=a) (by rw[h1];exact V w X);refine⟨_,rfl,⟨qi i,rfl⟩,by simp,λ_=>?_⟩;have P:L2.atI (ag a++[.int (-1)]) i=Y (.int (j8 a i)):=b1;simp[L,d,P,iv]
   unfold bp;rw[show eR (ab j4 gc) (L (qi (j:Int)) (qt [.int (r:Int),.tup c,.tup h]) E) T=Y (h,T) by simp[L],al,ac (by rw[iR];exact W)];rw[show ∀A:Lc,m9 [] 1 A=A++[Vk] from λ_=>rfl,eg];rfl
  have hsj:=gM m (k:=j) (by lia);have p:(LH (ao B.fams).length a s.H j).set (sg a j) (.tup [.int (r:Int),.tup c,.tup (eW a h)])=LH (ao B.fams).length a s.H (j+1):=by
   refine jN (by simp[LH]) λi q1 q2=>?_;rw[vR];simp only[LH,kT,qX];by_cases q:sg a j=i
   .have:ta a i=j:=(uw m).mpr q.symm;rw[ac q,this,ac (by lia),eH];rfl
   .have:¬ta a i=j:=λz=>q ((uw m).mp z).symm;rw[ae q];by_cases G:ta a i < j
    .rw [ac G,ac (by lia)]
    .rw [ae G,ae (by lia)]
  refine⟨L (qi (j:Int)) (U (s.H j)) E,L (qi (j:Int)) (U (s.H j)) (qt (eW a h)),[.lst ((LH (ao B.fams).length a s.H (j+1)).map .p)],rfl,?_,_,_,_,rfl,rfl⟩;rw[eH];unfold eL;rw[am (x:=L (qi (j:Int)) (qt [.int (r:Int),.tup c,.tup h]) (qt (eW a h))) (a:=T) (by rw[aA,O,bj,v1,aB,ec];simp[a_,L])]
  have R:L2.Aw (LH (ao B.fams).length a s.H j).length ((sg a j:Nat):Int)=Y (sg a j):=by unfold L2.Aw;rw[ac (by lia),ac (by simp[LH];lia)];simp
  have e1:x3 rg (ab dq iL) (aQ (v3 (ab j4 eU) (ab j4 df) iO)) (L (qi (j:Int)) (qt [.int (r:Int),.tup c,.tup h]) (qt (eW a h))) T=Vk:=by simp[x3,L,T,nB,i4 m (show j < a.length by lia)]
  rw[jR,e1];rw[<- p];simp[CZ,L,T,fu,i4 m (show j < a.length by lia)];rw[R]) ⟨Vk,Vk,Vk,rfl,by simp[LH,hT]⟩
 refine⟨N,Q,E,?_⟩;have ef:LH (ao B.fams).length a s.H (0+(bE 0 (hT B s.H)).length)=hT B (g8 a s).H:=by
  refine gX λi hi=>?_;have hi:=bM.mp hi;have:=(ki m (i:=i) (by lia)).1
  rw[dB,ac (by simp[hT];lia)];rfl
 rw[<- ef];exact e
theorem G0{n:Nat}(R:P):∃S C v o H h:Option D,bx (be [ah 9,ah 10,ah 11]) (eK (Ph (n+1))) B.PR [U (bH B),qt [R,.tup (rT B s.F)],qt (ag a),qr 0,N,Q,E,ql B.PR,qr 1,Vk,Vk,Vk,Vk,Vk,Vk] ([Z]++[.lst []]) =
  Y (.nx,[U (bH B),qt [R,.tup (rT B s.F)],qt (ag a),qr 0,N,Q,E,ql B.PR,qr 1,S,C,v,o,H,h],[Z]++[.lst ((rT B (g8 a s).F).map .p)]):=by
 obtain⟨h1,W⟩:=cj t u;have hPl:=nN t;let L:Option D->Option D->Option D->Option D->Option D->Option D->Lc:=λS C v o H h=>[U (bH B),qt [R,.tup (rT B s.F)],qt (ag a),qr 0,N,Q,E,ql B.PR,qr 1,S,C,v,o,H,h]
 obtain⟨k1,k2⟩:=qD (G:=id) (g:=be [ah 9,ah 10,ah 11]) (b:=eK (Ph (n+1))) (p:=λK=>∃S C v o H h,K=L S C v o H h) (f:=λp=>[.tup ((g8 a s).F (px p) (py p))]) (c:=1) (M:=100000) (T:=[Z]) (s:=B.PR) λp hp=>by
  refine⟨by simp,λK d hL hM=>?_⟩;obtain⟨S,C,v,o,H,h,rfl⟩:=hL;obtain⟨r,x,y,rfl,er,hr⟩:=iZ t hp;rw[(fC r x y).1,(fC r x y).2];let A:Option D->Option D->Option D->Lc:=λo H h=>L (U r) (qi (x:Int)) (qi (y:Int)) o H h
  let c:Nat->Prop:=λi=>sg a (px ((B.PR[i]?).getD .non))=x/\sg a (py ((B.PR[i]?).getD .non))=y
  obtain⟨j1,j2⟩:=qD (G:=λ(i:Nat)=>P.tup [.int (i:Int),(B.PR[i]?).getD .non]) (g:=be [ah 12,ah 13]) (b:=gJ (Ph (n+1))) (p:=λK=>∃o H h,K=A o H h) (f:=λi=>if c i then [(rT B s.F).getD i .non] else []) (c:=1) (M:=200000) (T:=[Z]) (s:=List.range B.PR.length) λi I=>by
   refine⟨by split<;>simp,λK d hL hM=>?_⟩;obtain⟨o,H,h,rfl⟩:=hL;have hil:=bM.mp I;have X:B.PR[i]? = Y B.PR[i]:=aY hil;obtain⟨w,k,m,ep,V,hr'⟩:=iZ t (dn hil);obtain⟨hx',hy'⟩:=o9 t u V;rw[ep]at X;have hat:=bY (pZ (F:=s.F) (r:=w) (x:=k) (y:=m) X);have hgd:(rT B s.F).getD i .non=.tup (s.F k m):=by rw[a8,pZ (F:=s.F) (r:=w) (x:=k) (y:=m) X];rfl
   have ec:c i↔(sg a k=x/\sg a m=y):=by simp only[c,X,gS,(fC w k m).1,(fC w k m).2]
   have eq:DC (pr w (sg a k) (sg a m)) (pr r x y)=Y (decide (sg a k=x/\sg a m=y)):=QN (t.hr w hr') (t.hr r hr) λhz=>by obtain⟨z1,z2⟩:=hz;rw[<- z1,<- z2,nA t u,V]at er;exact b0 er
   have l:DC (.tup [w,.int ((sg a k:Nat):Int),.int ((sg a m:Nat):Int)]) (.tup [r,.int (x:Int),.int (y:Int)])=Y (decide (sg a k=x/\sg a m=y)):=eq;refine⟨A (qi (i:Int)) (U (pr w k m)) h,A (qi (i:Int)) (U (pr w k m)) (U (pr w (sg a k) (sg a m))),by rw[X];rfl,?_,_,_,_,rfl⟩;unfold gJ;rw[am (x:=A (qi (i:Int)) (U (pr w k m)) (U (pr w (sg a k) (sg a m)))) (a:=[Z]++[.lst (d.map .p)]) (by simp[A,L,pr,i4 W hx',i4 W hy'])];by_cases q:sg a k=x/\sg a m=y
   .rw [eF q]at l;rw[ac (ec.mpr q),hgd,jw (by simp[A,L,pr,l])];exact o7 (T:=[Z]) rfl (by simp[A,L,hat]) (by lia)
   .rw [bA q]at l;rw[ae λz=>q (ec.mp z),fO (by simp[A,L,pr,l])];simp
  have one:(List.range B.PR.length).flatMap (λi=>if c i then [(rT B s.F).getD i .non] else [])=[.tup ((g8 a s).F x y)]:=by
   have er2:mZ B (ta a x) ((ta a y:Nat):Int)=Y r:=by rw[<- nA t u,g7 W,g7 W];exact er
   obtain⟨z,hz,ez⟩:=ol (DP t u er2);have hgz:B.PR[z]? = Y (pr r (ta a x) (ta a y)):=by rw[aY hz,ez]
   have hk:=kX.mp (Rf t);have hpw:(List.range B.PR.length).Pairwise λi j=>¬(c i/\c j):=jc.imp_of_mem λ{i j} I hj hne ⟨c1,c2⟩=>by
    have I:=bM.mp I;have hj:=bM.mp hj;simp only[c,aY I,aY hj,gS]at c1 c2;have ex:=iQ t u (c1.1.trans c2.1.symm);have ey:=iQ t u (c1.2.trans c2.2.symm);rcases BJ hne with q|q
    .exact hk i j I hj q ⟨ex,ey⟩
    .exact hk j i hj I q ⟨ex.symm,ey.symm⟩
   rw[C_ (c:=c) (g:=λi=>(rT B s.F).getD i .non) hpw (bM.mpr hz) (by simp only[c,hgz,gS,(fC r (ta a x) (ta a y)).1,(fC r (ta a x) (ta a y)).2,g7 W,and_self])]
   rw[a8,pZ (F:=s.F) (r:=r) (x:=ta a x) (y:=ta a y) hgz];rfl
  rw[one]at j1 j2;obtain⟨K,e,q12',q13',q14',rfl⟩:=j2 (A o H h) d ⟨_,_,_,rfl⟩ (by simp;lia);refine⟨A o H h,A q12' q13' q14',rfl,?_,_,_,_,_,_,_,rfl⟩;unfold eK;rw[bD,show fN lO (A o H h) ([Z]++[.lst (d.map .p)])=Y ((List.range B.PR.length).map λ(i:Nat)=>P.tup [.int (i:Int),(B.PR[i]?).getD .non],[Z]++[.lst (d.map .p)]) by rw[<- DE,fN,show lO (A o H h) ([Z]++[.lst (d.map .p)])=Y (.lst B.PR,[Z]++[.lst (d.map .p)]) by simp[A,L]];rfl]
  exact e
 obtain⟨K,e,S,C,v,o,H,h,rfl⟩:=k2 (L Vk Vk Vk Vk Vk Vk) [] ⟨_,_,_,_,_,_,rfl⟩ (by simp;lia);refine⟨S,C,v,o,H,h,?_⟩;rw[mK,Dz,cS]at e;exact e
end
theorem Qt{B:BD}(t:BP B){a:List Nat}(u:a ∈ fq (cJ B.fams)){s:St}(I:StO B s){n:Nat}:cm (Ph (n+6) "_law_renamed") [bH B,dA B s,.tup (ag a)]=Y (dA B (g8 a s)):=by
 obtain⟨N,Q,E,b⟩:=G1 t u I (n:=n+4);obtain⟨h,C,v,o,H,q,c⟩:=G0 t u I (n:=n+4) (N:=N) (Q:=Q) (E:=E) (Z:=.lst ((hT B (g8 a s).H).map .p)) (.tup (hT B s.H));let L:Option D->Option D->Option D->Option D->Option D->Option D->Option D->Option D->Option D->Option D->Option D->Option D->Lc:=λG N Q E m r h C v o H q=>[U (bH B),U (dA B s),qt (ag a),G,N,Q,E,m,r,h,C,v,o,H,q]
 have p:=Dh (n:=n+1) t;have e:cm (Ph (n+5) "_law_pairs") [bH B]=Y (.lst B.PR):=p;rw[qA,aD];show(match iV (Ph (n+5)) (L Vk Vk Vk Vk Vk Vk Vk Vk Vk Vk Vk Vk) [] with|some (.rt d,_,S)=>(toP 9 d S).map (λ(x:P×aM)=>x.1)|some (.nx,_,_)=>Y P.non|_=>Vk)=_;unfold iV;rw[am (x:=L (qr 0) Vk Vk Vk Vk Vk Vk Vk Vk Vk Vk Vk) (a:=[.lst ((hT B s.H).map .p)]) (by simp[L,dA,LO])];rw[am (x:=L (qr 0) N Q E Vk Vk Vk Vk Vk Vk Vk Vk) (a:=[.lst ((hT B (g8 a s).H).map .p)]) (by rw[bD,show fN (ab cw eU) (L (qr 0) Vk Vk Vk Vk Vk Vk Vk Vk Vk Vk Vk) [.lst ((hT B s.H).map .p)]=Y (bE 0 (hT B s.H),[.lst ((hT B s.H).map .p)]) by simp[L,dA,fN]];exact b)]
 rw[am (x:=L (qr 0) N Q E (ql B.PR) Vk Vk Vk Vk Vk Vk Vk) (a:=[.lst ((hT B (g8 a s).H).map .p)]) (by simp[L,e])];rw[am (x:=L (qr 0) N Q E (ql B.PR) (qr 1) Vk Vk Vk Vk Vk Vk) (a:=[.lst ((hT B (g8 a s).H).map .p)]++[.lst []]) (by simp[L])];rw[am (x:=L (qr 0) N Q E (ql B.PR) (qr 1) h C v o H q) (a:=[.lst ((hT B (g8 a s).H).map .p)]++[.lst ((rT B (g8 a s).F).map .p)]) (by rw[bD,show eR lO (L (qr 0) N Q E (ql B.PR) (qr 1) Vk Vk Vk Vk Vk Vk) ([.lst ((hT B (g8 a s).H).map .p)]++[.lst []])=Y (B.PR,[.lst ((hT B (g8 a s).H).map .p)]++[.lst []]) by simp[L]];exact c)]
 have k:toP 9 (.ref 0) ([.lst ((hT B (g8 a s).H).map .p)]++[.lst ((rT B (g8 a s).F).map .p)])=Y (.lst (hT B (g8 a s).H),[.fz (.lst (hT B (g8 a s).H))]++[.lst ((rT B (g8 a s).F).map .p)]):=dS rfl;have f:toP 9 (.ref 1) ([.fz (.lst (hT B (g8 a s).H))]++[.lst ((rT B (g8 a s).F).map .p)])=Y (.lst (rT B (g8 a s).F),[.fz (.lst (hT B (g8 a s).H))]++[.fz (.lst (rT B (g8 a s).F))]):=dS rfl;simp only[mM,cS]at k f ⊢;simp[L,k,f,a_,dA]
variable{n:Nat}
theorem Ht(h:HandOk n f x):d9 3 x=Vl:=by
 obtain⟨u,k,o,e,b,s,_,r,m,d,rfl,_,q,_,v⟩:=h;have t:m.all (d9 1)=Vl:=bi.mpr λc a=>by obtain⟨i,_,rfl⟩:=q.2 c a;simp
 have p:d.all (d9 1)=Vl:=bi.mpr λw hw=>by obtain⟨i,_,_,rfl⟩:=v w hw;simp
 simp only[Db,mL,BO,t,p,Ki];rfl
theorem wE{B:BD}{s:St}(h:StO B s):d9 20 (dA B s)=Vl:=by
 have e:(hT B s.H).all (d9 18)=Vl:=bi.mpr λx a=>by unfold hT at a;obtain⟨k,hk,rfl⟩:=aO.mp a;have hk:=bM.mp hk;exact kq (Ht (h.hh k _ (aY hk))) (by decide)
 have n:(rT B s.F).all (d9 18)=Vl:=bi.mpr λx a=>by unfold rT at a;obtain⟨p,_,rfl⟩:=aO.mp a;exact bi.mpr λl f=>kq ((h.hr _ _).2 l f).ok (by decide)
 unfold dA;simp only[Db,mL,BO,e,n,wj]
theorem Av(h:ba x=Vl):Nk.kd (.str x)=Vl:=(fM 0 (.str x) h).1
theorem AE:(ag ch).all (d9 n)=Vl/\Nk.kds (jG (ag ch))=Vl:=by
 refine⟨bi.mpr λx hx=>?_,?_⟩
 .unfold ag at hx;obtain⟨c,_,rfl⟩:=aO.mp hx;simp
 .induction ch with
  |nil=>rfl
  |cons c r ih=>exact(ar _ _).mpr ⟨rfl,ih⟩
variable{d:Dd}
theorem mW(h:jE n d):eP (dP d)=Vl:=by
 have hst:ba "step"=Vl:=by decide +kernel
 cases d with
 |flaw w x y k=>
  have hw:ba w=Vl:=by rcases h.1 with rfl|rfl<;>decide +kernel
  have e2:Nk.kd (pd (dP (.flaw w x y k)))=Vl:=by simp only[dP,pd,jG,Nk.kd,Nk.kds,wj,ar];exact Av hw
  unfold eP;rw[e2];simp[dP,NG,hw]
 |step hh nm l ch=>
  obtain⟨_,⟨x,hx,rfl⟩,_⟩:=h;have e2:Nk.kd (pd (dP (.step hh (.str x) l ch)))=Vl:=by
   have e3:Nk.kd (pd (lP l))=Vl:=by
    cases l with
    |none=>rfl
    |some z=>rfl
   simp only[dP,pd,jG,Nk.kds,e3,Av hst,Av hx,show ∀xs,Nk.kd (.tuple xs)=Nk.kds xs from λ_=>rfl,show ∀i,Nk.kd (.int i)=Vl from λ_=>rfl];rw[(AE (n:=0)).2];rfl
  have e4:d9 7 (lP l)=Vl:=by
   cases l with
   |none=>rfl
   |some z=>simp[lP]
  unfold eP;rw[e2];simp[dP,NG,hst,hx,e4,AE.1]
theorem yv:∀{a b:List Nat},jG (ag a)=jG (ag b)->a=b
 | [],[],_=>rfl
 | [],_::_,h=>by cases h
 |_::_,[],h=>by cases h
 |x::r,y::q,h=>by injection h with e s;injection e with e;rw[yv s,vg.mp e]
theorem N1(h:jE n d)(t:jE n f)(e:pd (dP d)=pd (dP f)):d=f:=by
 cases d with
 |flaw w x y k=>
  cases f with
  |flaw H i S v=>injection e with e;simp only[jG,pd,nR,PyData.str.injEq,PyData.int.injEq,vh,and_true]at e;obtain⟨rfl,rfl,rfl,rfl⟩:=e;rfl
  |step p u l c=>injection e with e;simp[jG]at e
 |step p u l c=>
  cases f with
  |flaw w x y k=>injection e with e;simp[jG]at e
  |step q g b m=>
   obtain⟨_,⟨x,_,rfl⟩,_⟩:=h;obtain⟨_,⟨i,_,rfl⟩,_⟩:=t;injection e with e;simp only[jG,pd,nR,PyData.str.injEq,PyData.int.injEq,PyData.tuple.injEq,vh,and_true,true_and]at e;obtain⟨rfl,rfl,a,r⟩:=e;rw[yv r];have:l=b:=by
    cases l with
    |none=>
     cases b with
     |none=>rfl
     |some z=>cases a
    |some z=>
     cases b with
     |none=>cases a
     |some j=>obtain⟨s,k⟩:=z;obtain⟨o,v⟩:=j;injection a with a;simp only[jG,pd,nR,PyData.int.injEq,vh,and_true]at a;obtain⟨rfl,rfl⟩:=a;rfl
   rw[this]
theorem xk(h:jE n d)(h':jE n d'):de (pd (dP d)) (pd (dP d'))=Vl↔d=d':=by rw[Nk.eqv_kd _ _ (kA (mW h)) (kA (mW h'))];exact⟨N1 h h',λe=>by rw[e]⟩
def qx(R:List (Dd×St)):List P:=R.map λe=>dP e.1
def CI(B:BD)(R:List (Dd×St)):List D:=R.map λe=>.p (dA B e.2)
section
variable{n:Nat}
theorem NL(a:∀e ∈ R,jE n e.1)(hd:jE n d)(h:∀e ∈ R,e.1≠d):sW (dP d) (qx R)=Vm:=by unfold sW qx;rw[BQ,BX];intro e x q;exact h e x ((xk (a e x) hd).mp q)
theorem KD(x:∀e ∈ R,jE n e.1)(h:e ∈ R):sW (dP e.1) (qx R)=Vl:=by unfold sW qx;rw[BQ,og];exact⟨e,h,(xk (x e h) (x e h)).mpr rfl⟩
theorem G3:∀{R:List (Dd×St)}{e:Dd×St},(∀e ∈ R,jE n e.1)->R.Pairwise Iv->e ∈ R->sO (dP e.1) (qx R) (CI B R)=U (dA B e.2)
 |q::R,e,h,p,a=>by
  obtain⟨k,f⟩:=B3.mp p;show(if de (pd (dP q.1)) (pd (dP e.1))=Vl then Y (D.p (dA B q.2)) else sO (dP e.1) (qx R) (CI B R))=_;rcases bc.mp a with rfl|a
  .rw [ac ((xk (h _ aK) (h _ aK)).mpr rfl)]
  .rw [ae λz=>k e a ((xk (h _ aK) (h e (aL _ a))).mp z)];exact G3 (λx s=>h x (aL _ s)) f a
theorem Dp(h:∀e ∈ R,jE n e.1):(qx R).all eP=Vl:=bi.mpr λk hk=>by unfold qx at hk;obtain⟨e,x,rfl⟩:=aO.mp hk;exact mW (h e x)
end
theorem NV(h:jE n d):d9 20 (dP d)=Vl:=by have:=mW h;unfold eP at this;simp only[ar]at this;exact kq this.2.1 (by decide)
theorem yQ{a:List Nat}(u:gh (aF a)=Vl){d:Dd}(h:jE a.length d):jE a.length (tN a d):=by
 cases d with
 |flaw w x y k=>exact⟨h.1,(gM u h.2.1).1,(gM u h.2.2).1⟩
 |step v g l q=>
  obtain⟨f,b,m,r,t⟩:=h;refine⟨(gM u f).1,b,λz s=>?_,λc p=>?_,by rw[aH];exact t⟩
  .cases l with
   |none=>cases s
   |some w=>cases s;exact(gM u (m w rfl)).1
  .obtain⟨n,e,rfl⟩:=aO.mp p;exact(gM u (r n e)).1
theorem C1{B:BD}(t:BP B){a:List Nat}(u:a ∈ fq (cJ B.fams)){d b:Dd}(h:tN a d=tN a b):d=b:=by
 have f:=(cj t u).2;have j:∀{x y:List Nat},x.map (sg a)=y.map (sg a)->x=y:=by
  intro x y h;have e:∀z:List Nat,(z.map (sg a)).map (ta a)=z:=λz=>by rw[cQ,show ta a ∘ sg a=id from funext λk=>kh f k,mK]
  rw[<- e x,h,e]
 cases d with
 |flaw w x y k=>
  cases b with
  |flaw A C D p=>injection h with c f n m;rw[c,iQ t u f,iQ t u n,m]
  |step _ _ _ _=>cases h
 |step K P l F=>
  cases b with
  |flaw _ _ _ _=>cases h
  |step i o r q=>
   injection h with c f n m;rw[iQ t u c,f,j m];have:l=r:=by
    cases l with
    |none=>
     cases r with
     |none=>rfl
     |some z=>cases n
    |some z=>
     cases r with
     |none=>cases n
     |some S=>injection n with n;injection n with v g;obtain⟨s,k⟩:=z;obtain⟨H,p⟩:=S;rw[show s=H from iQ t u v,show k=p from g]
   rw[this]
abbrev LL(q:P)(B:BD)(s:St)(a b:List Nat)(G h x e C v o H:Option D):Lc:=[U q,U (bH B),U (dA B s),G,qt (ag a),qt (ag b),U (dA B (g8 a s)),h,x,e,C,v,o,H]
section
variable{B:BD}(t:BP B){a:List Nat}(u:a ∈ fq (cJ B.fams)){s:St}{q:P}{b:List Nat}{G o H:Option D}{n m:Nat}
include t u
theorem UY{E:List (Dd×St)}(V:∀e ∈ E,jE a.length e.1/\StO B e.2)(hn:E.Pairwise Iv)(hl:E.length≤40000):∃c m C,bx (be [ah 8,ah 9]) (lx (Ph (n+13))) (E.map (fw B)) (LL q B s a b G (qr 0) Vk Vk Vk Vk o H) [.dtn [] []]=Y (.nx,LL q B s a b G (qr 0) c m C Vk o H,[.dtn (qx (E.map (qu a))) (CI B (E.map (qu a)))]):=by
 obtain⟨h1,f⟩:=cj t u;obtain⟨p,w,e,c,m,C,rfl,rfl⟩:=bN (g:=be [ah 8,ah 9]) (b:=lx (Ph (n+13))) (s:=E.map (fw B)) (k:=0) (Inv:=fun j p w=>∃c m C,p=LL q B s a b G (qr 0) c m C Vk o H/\w=[.dtn (qx ((E.take j).map (qu a))) (CI B ((E.take j).map (qu a)))]) (L:=LL q B s a b G (qr 0) Vk Vk Vk Vk o H) (S:=[.dtn [] []]) (fun j v p w X hI=>by
  obtain⟨c,m,C,rfl,rfl⟩:=hI;rw[cP] at *
  rw[bq]at X;obtain⟨e,r,rfl⟩:=eE.mp X;have hm:=bg r;obtain⟨d,Z⟩:=V e hm;have e1:=PX (n:=n+11) f d;have e2:=Nu (n:=n+11) f d;have e3:=sC t u (n:=n+7) Z;have ns:=oJ (NV (yQ f d));have W:∀x ∈ (E.take j).map (qu a),jE a.length x.1:=λx N=>by obtain⟨y,Q,rfl⟩:=aO.mp N;exact yQ f (V y (mQ Q)).1
  have M:sW (dP (tN a e.1)) (qx ((E.take j).map (qu a)))=Vm:=NL W (yQ f d) λx N=>by
   obtain⟨y,Q,rfl⟩:=aO.mp N;intro z;have z:=C1 t u z;obtain⟨i,hi,T⟩:=ol Q;rw[List.getElem_take]at T;rw[gp]at hi;have I:=bB r;have:=kX.mp hn i j (by lia) I (by lia)
   rw[T,(aX.mp r).2]at this;exact this z
  have K:=mW (yQ f d);have A:=Dp W;have F:(qx ((E.take j).map (qu a))).length≤1000000:=by simp only[qx,aH,gp];lia
  refine⟨LL q B s a b G (qr 0) (U (dP e.1)) (U (dA B e.2)) C Vk o H,LL q B s a b G (qr 0) (U (dP e.1)) (U (dA B e.2)) (U (dP (tN a e.1))) Vk o H,[.dtn (qx ((E.take (j+1)).map (qu a))) (CI B ((E.take (j+1)).map (qu a)))],rfl,?_,_,_,_,rfl,rfl⟩;have et:E.take (j+1)=E.take j++[e]:=by rw[B0,r];rfl
  unfold lx;rw[am (x:=LL q B s a b G (qr 0) (U (dP e.1)) (U (dA B e.2)) (U (dP (tN a e.1))) Vk o H) (a:=[.dtn (qx ((E.take j).map (qu a))) (CI B ((E.take j).map (qu a)))]) (by simp[LL,e1])];rw[am (x:=LL q B s a b G (qr 0) (U (dP e.1)) (U (dA B e.2)) (U (dP (tN a e.1))) Vk o H) (a:=[.dtn (qx ((E.take j).map (qu a))) (CI B ((E.take j).map (qu a)))]) (fO (by simp[LL,e2,ns]))];have hp:∀(h:List P)(R:List D),h.all eP=Vl->h.length≤1000000->sW (dP (tN a e.1)) h=Vm->x2 qm iP (cf (Ph (n+13) "renamed") (v3 cw jf iL)) (LL q B s a b G (qr 0) (U (dP e.1)) (U (dA B e.2)) (U (dP (tN a e.1))) Vk o H) [.dtn h R]=Y (.nx,LL q B s a b G (qr 0) (U (dP e.1)) (U (dA B e.2)) (U (dP (tN a e.1))) Vk o H,[.dtn (h++[dP (tN a e.1)]) (R++[.p (dA B (g8 a e.2))])]):=λh R g1 g2 g3=>by
   rw[x2];have l:few h=Vl:=by rw[iR];exact g2
   simp only[LL,bj,aB,aU,vE,rK,oo,on,al,sm,e3,iA,pH,K,g1,l,g3,ou,Bool.not_false,iB,List.set_cons_zero]
  rw[hp _ _ A F M,et];simp[qx,CI,qu]) ⟨Vk,Vk,Vk,rfl,rfl⟩
 refine⟨c,m,C,?_⟩;rw[cP,aH,mN]at e;exact e
end
section
variable{B:BD}(t:BP B){a:List Nat}(u:a ∈ fq (cJ B.fams)){s:St}{q:P}{b:List Nat}{G C v o H:Option D}{n m:Nat}
include t u
theorem UX{R E:List (Dd×St)}(i:∀e ∈ E,e ∈ R)(w:∀e ∈ R,jE a.length e.1/\StO B e.2)(F:R.Pairwise Iv):∀(p d:Option D),∃c m,bx (be [ah 8,ah 9]) (nJ (Ph (n+13))) (E.map (fw B)) (LL q B s a b G (qr 0) p d C v o H) [.dtn (qx R) (CI B R)]=Y (.nx,LL q B s a b G (qr 0) c m C v o H,[.dtn (qx R) (CI B R)]):=by
 induction E with
 |nil=>exact λp d=>⟨p,d,rfl⟩
 |cons e r P=>
  intro p d;have t:=i e aK;obtain⟨c,m,j⟩:=P (λx K=>i x (aL _ K)) (U (dP e.1)) (U (dA B e.2));refine⟨c,m,?_⟩;rw[aC];refine(cq (h:=LL q B s a b G (qr 0) (U (dP e.1)) (U (dA B e.2)) C v o H) rfl ?_).trans j;have f:∀e ∈ R,jE a.length e.1:=λe S=>(w e S).1
  have g:=mW (w e t).1;have u:=Dp f;have l:=KD f t;have y:=G3 (B:=B) f F t;have N:=oJ (wE (w e t).2);unfold nJ;have z:EM (bV (fx lj (aj 8) qm)) (fh (yP qm kN) (aj 9)) (LL q B s a b G (qr 0) (U (dP e.1)) (U (dA B e.2)) C v o H) [.dtn (qx R) (CI B R)]=Y (Vm,[.dtn (qx R) (CI B R)]):=by
   generalize qx R=k at *
   generalize CI B R=h at *
   have A:fx lj (aj 8) qm (LL q B s a b G (qr 0) (U (dP e.1)) (U (dA B e.2)) C v o H) [.dtn k h]=Y (.bl Vm,[.dtn k h]):=by simp only[LL,fx,rK,oo,on,al,lj,RC,pH,g,u,ou,iB,l,iA,ov]
   have I:yP qm kN (LL q B s a b G (qr 0) (U (dP e.1)) (U (dA B e.2)) C v o H) [.dtn k h]=Y (.p (dA B e.2),[.dtn k h]):=by simp only[LL,yP,vE,rK,oo,on,al,sm,pH,Option.elim_some,g,u,ou,iB,y,iA]
   have L:fx LA (yP qm kN) (aj 9) (LL q B s a b G (qr 0) (U (dP e.1)) (U (dA B e.2)) C v o H) [.dtn k h]=Y (.bl Vm,[.dtn k h]):=by rw[fx,I,al];have M:aj 9 (LL q B s a b G (qr 0) (U (dP e.1)) (U (dA B e.2)) C v o H) [.dtn k h]=Y (.p (dA B e.2),[.dtn k h]):=rfl;rw[M,al];simp[LA,N]
   rw[EM,bV,A,al];show fh (yP qm kN) (aj 9) (LL q B s a b G (qr 0) (U (dP e.1)) (U (dA B e.2)) C v o H) [.dtn k h]=_;rw[fh,bV,L];rfl
  rw[fO z];rfl
theorem CH(q:HandOk n f x)(g:Int->Int)(h:∀j:Int,-1≤j->j < n->j8 c (j8 a j)=g j):hB c (hB a x)=.tup [bI x 0,bI x 1,.tup ((i3 (bI x 2)).map λw=>.int (g (iv w)))]:=by
 obtain⟨d,k,o,l,b,s,_,r,v,m,rfl,_,_,_,i⟩:=q;have e:eW c (eW a m)=m.map λw=>.int (g (iv w)):=by
  unfold eW;rw[cQ];refine gX λw hw=>?_
  obtain⟨j,t,p,rfl⟩:=i w hw;show P.int (j8 c (j8 a j))=.int (g j);rw[h j t p]
 simp[hB,bI,e]
theorem uB(b:∀i,i < (ao B.fams).length->s.H i=h.H i)(c:∀x y,x < (ao B.fams).length->y < (ao B.fams).length->s.F x y=h.F x y):dA B s=dA B h:=by
 have n:hT B s.H=hT B h.H:=gX λi m=>b i (bM.mp m);have k:rT B s.F=rT B h.F:=gX λp q=>by obtain⟨r,x,y,rfl,f,_⟩:=iZ t q;obtain⟨a,e⟩:=o9 t u f;rw[(cj t u).1]at a e;rw[(fC r x y).1,(fC r x y).2,c x y a e]
 rw[dA,dA,n,k]
end
section
variable{B:BD}(t:BP B){a b:List Nat}(u:a ∈ fq (cJ B.fams))(g:b ∈ fq (cJ B.fams))
include t u
theorem oY(j:Int)(h:j < 0):j8 a j=-1:=by unfold j8;rw[ac h]
theorem Ia{j:Int}(x:-1≤j)(h:j < (ao B.fams).length):(j < 0/\j=-1)\/∃k:Nat,j=k/\k < a.length:=by
 by_cases q:j < 0
 .exact .inl ⟨q,by lia⟩
 .exact .inr ⟨j.toNat,by lia,by rw[(cj t u).1];lia⟩
include g
theorem Dg:j6 a b ∈ fq (cJ B.fams):=by
 have h:=(lX t).ok;unfold uK at h;simp only[ar,bi,jK]at h;have:=(h.2 a u).2 b g
 simpa using this
theorem GU(hk:k < a.length):sg (j6 a b) k=sg b (sg a k):=by obtain⟨s,h⟩:=cj t u;obtain⟨n,x⟩:=cj t g;obtain⟨f,e⟩:=gM h hk;unfold j6;show(a.map λk=>b.getD k 0).getD k k=_;rw[a8,bq,e];show b.getD (sg a k) 0=sg b (sg a k);rw[a8,(gM x (k:=sg a k) (by lia)).2];rfl
theorem ML{s:St}(I:StO B s):dA B (g8 b (g8 a s))=dA B (g8 (j6 a b) s):=by
 obtain⟨z,h⟩:=cj t u;obtain⟨o,n⟩:=cj t g;have m:=Dg t u g;obtain⟨H,p⟩:=cj t m;have e:∀i,i < a.length->ta (j6 a b) i=ta a (ta b i):=λi v=>by have l:=(ki n (i:=i) (by lia)).1;have r:=(ki h (i:=ta b i) (by lia)).1;rw[uw p,GU t u g r,g7 h,g7 n]
 refine uB t u (λi v=>?_) λx y S F=>?_
 .have f:i < a.length:=by lia
  show hB b (hB a (s.H (ta a (ta b i))))=hB (j6 a b) (s.H (ta (j6 a b) i));rw[e i f];have l:=(ki n (i:=i) (by lia)).1;have r:=(ki h (i:=ta b i) (by lia)).1;have hk:=I.hh (ta a (ta b i)) _ (aY (by lia));rw[CH t u (c:=b) hk (λj=>j8 (j6 a b) j) λj d w=>?_]
  .rfl
  .rcases Ia t u d w with ⟨q,rfl⟩|⟨k,rfl,hk⟩
   .rw [oY t u _ q,oY t g _ q,oY t m _ q]
   .rw [kG t u hk,kG t g (by have:=(gM h hk).1;lia),kG t m (by lia),GU t u g hk]
 .show s.F (ta a (ta b x)) (ta a (ta b y))=s.F (ta (j6 a b) x) (ta (j6 a b) y);rw[e x (by lia),e y (by lia)]
omit g
theorem CV:du (aF a) ∈ fq (cJ B.fams):=by
 have h:=(lX t).ok;unfold uK at h;simp only[ar,bi,jK]at h;have:=(h.2 a u).1.2
 simpa[aF] using this
theorem JM{s:St}(I:StO B s):dA B (g8 (du (aF a)) (g8 a s))=dA B s:=by
 obtain⟨K,h⟩:=cj t u;have f:=CV t u;obtain⟨A,z⟩:=cj t f;have d:∀k,sg (du (aF a)) k=ta a k:=λk=>rfl;have n:∀i,ta (du (aF a)) i=sg a i:=λi=>by rw[uw z,d,kh h]
 refine uB t u (λi b=>?_) λx y C D=>?_
 .show hB (du (aF a)) (hB a (s.H (ta a (ta (du (aF a)) i))))=s.H i;rw[n,kh h];have hk:=I.hh i _ (aY b);rw[CH t u (c:=du (aF a)) hk (λj=>j) λj H S=>?_]
  .obtain⟨E,v,o,l,g,p,_,r,F,m,e,_,_,_,b⟩:=hk;rw[e];have:m.map (λw=>P.int (iv w))=m:=by
    have:∀w ∈ m,P.int (iv w)=id w:=λw hw=>by obtain⟨j,_,_,rfl⟩:=b w hw;rfl
    rw[gX this,mK]
   simp[bI,this]
  .rcases Ia t u H S with ⟨q,rfl⟩|⟨k,rfl,hk⟩
   .rw [oY t u _ q,oY t f _ q]
   .rw [kG t u hk,kG t f (by have:=(gM h hk).1;lia),d,kh h]
 .show s.F (ta a (ta (du (aF a)) x)) (ta a (ta (du (aF a)) y))=s.F x y;rw[n,n,kh h,kh h]
theorem NJ{i:Nat}(n:i < a.length):jx (ag a) (.int (i:Int))=Y (ta a i):=by
 obtain⟨q,x⟩:=cj t u;obtain⟨c,e⟩:=ki x n;unfold jx;have o:((ag a).all (d9 19) && d9 19 (.int (i:Int)))=Vl:=by rw[AE.1];rfl
 rw[ac o];have p:∀s:List Nat,jG (ag s)=s.map λ(k:Nat)=>PyData.int (k:Int):=λs=>by
  induction s with
  |nil=>rfl
  |cons k r b=>show _::jG (ag r)=_;rw[b];rfl
 rw[p];refine oq.mpr ⟨by simpa using c,?_,λj v=>?_⟩
 .have:=(aX.mp e).2;simp[this,pd,de]
 .have f:j < a.length:=by lia
  have h:a[j]≠i:=λz=>by
   have m:=(aX.mp e).2;have:=(vQ (Ae x)).mp (z.trans m.symm)
   lia
  have:¬((a[j]:Nat):Int)=(i:Int):=λz=>h (by lia);simp[pd,de,this]
end
theorem ya{B:BD}(t:BP B)(r:Int):0 < (tups (fq (cJ B.fams))).length/\∃a ∈ fq (cJ B.fams),L2.atI (tups (fq (cJ B.fams))) (r % ((tups (fq (cJ B.fams))).length:Int))=Y (.tup (ag a)):=by
 have n:tups (fq (cJ B.fams))≠[]:=λz=>by have h:=(lX t).ok;unfold uK at h;simp[List.map_eq_nil_iff.mp z]at h
 obtain⟨x,s,e⟩:=fF n r;obtain⟨a,u,rfl⟩:=aO.mp s;exact⟨vX.mpr n,a,u,e⟩
theorem Nw{n:Nat}(r:List Int):cm (Ph (n+14) "law") [fW r]=Y (.bl Vl):=by
 obtain⟨V,M,A,hP0,ep⟩:=J0 (n:=n+7) r;let B:BD:=⟨V,M,A,[],[]⟩
 have t:BP B:=hP0;obtain⟨st,hst,es⟩:=Mz t (n:=n+8) r;obtain⟨s,I,rfl⟩:=Pu t hst;have er:cm (Ph (n+13) "renamings") [bH B]=Y (.lst (tups (fq (cJ B.fams)))):=MQ (n:=n+10) t;have ep':cm (Ph (n+13) "_law_plan") [fW r,.int 3]=Y (bH B):=ep;have es':cm (Ph (n+13) "_law_standing") [fW r,bH B]=Y (dA B s):=es;obtain⟨c1,r1,_,d1,d2⟩:=iE (n:=n+11) r (k:=54) (p:=54) (by decide) (by decide) (by decide);obtain⟨c2,r2,_,d3,d4⟩:=iE (n:=n+11) r (k:=55) (p:=55) (by decide) (by decide) (by decide);obtain⟨tl,a,u,ea⟩:=ya t r1;obtain⟨_,b,g,eb⟩:=ya t r2;obtain⟨h1,h2⟩:=cj t u;have W:=CV t u;have hm:=Dg t u g;have K:=Ac t u I;have e1:cm (Ph (n+13) "renamed") [bH B,dA B s,.tup (ag a)]=Y (dA B (g8 a s)):=sC t u I (n:=n+7);have e2:cm (Ph (n+13) "_law_renamed") [bH B,dA B s,.tup (ag a)]=Y (dA B (g8 a s)):=Qt t u I (n:=n+7);have e3:cm (Ph (n+13) "renamed") [bH B,dA B (g8 a s),.tup (ag b)]=Y (dA B (g8 (j6 a b) s)):=(sC t g K (n:=n+7)).trans (cE Y (ML t u g I));have e4:cm (Ph (n+13) "renamed") [bH B,dA B s,.tup (ag (j6 a b))]=Y (dA B (g8 (j6 a b) s)):=sC t hm I (n:=n+7);have e5:cm (Ph (n+13) "renamed") [bH B,dA B (g8 a s),.tup (ag (du (aF a)))]=Y (dA B s):=(sC t W K (n:=n+7)).trans (cE Y (JM t u I));obtain⟨f1,f2,f3⟩:=LI t (n:=n+1) I;obtain⟨g1,g2,g3⟩:=LI t (n:=n+1) K;have pm:=QO t u (m:=n+8) I;have nd:=QQ t (m:=n+8) (s:=s);have hE:∀e ∈ pL B (n+8) s,jE a.length e.1/\StO B e.2:=λe R=>⟨h1 ▸ QR t R,f1 e R⟩;have hR:∀e ∈ (pL B (n+8) s).map (qu a),jE a.length e.1/\StO B e.2:=λe R=>by obtain⟨z,hz,rfl⟩:=aO.mp R;exact⟨yQ h2 (hE z hz).1,Ac t u (hE z hz).2⟩
 have hRn:((pL B (n+8) s).map (qu a)).Pairwise Iv:=eJ.mpr (nd.imp λh z=>h (C1 t u z));obtain⟨X,Z,C,k1⟩:=UY t u (s:=s) (q:=fW r) (b:=b) (G:=ql (tups (fq (cJ B.fams)))) (o:=Vk) (H:=Vk) (n:=n) hE nd f2;have f3':cm (Ph (n+13) "ends_from") [bH B,dA B s]=Y (.lst ((pL B (n+8) s).map (fw B))):=f3;have g3':cm (Ph (n+13) "ends_from") [bH B,dA B (g8 a s)]=Y (.lst ((pL B (n+8) (g8 a s)).map (fw B))):=g3;obtain⟨q8',q9',k2⟩:=UX t u (s:=s) (q:=fW r) (b:=b) (G:=ql (tups (fq (cJ B.fams)))) (C:=C) (v:=ql ((pL B (n+8) (g8 a s)).map (fw B))) (o:=Vk) (H:=Vk) (n:=n) (λe R=>pm.mem_iff.mp R) hR hRn X Z;have kl:((pL B (n+8) (g8 a s)).map (fw B)).length=(qx ((pL B (n+8) s).map (qu a))).length:=by rw[qx,aH,aH];exact pm.length_eq
 have n0:=oJ (wE K);have n1:=oJ (wE (Ac t hm I));have n2:=yL (wE I);generalize tups (fq (cJ B.fams))=F at *
 generalize qx ((pL B (n+8) s).map (qu a))=w at *
 generalize CI B ((pL B (n+8) s).map (qu a))=j at *
 generalize (pL B (n+8) s).map (fw B)=E1 at *
 generalize (pL B (n+8) (g8 a s)).map (fw B)=T at *
 have hl:a.length≤100:=by have:=gN t;lia
 let l:Option D->Option D->Lc:=LL (fW r) B s a b (ql F) (qr 0) q8' q9' C (ql T)
 have m1:=sL (i:=14) (S:=[.dtn w j]) (L:=l Vk Vk) rfl (f:=λc=>b.getD c 0) (e:=ab j4 (vv 14)) (x:=a) (λc W=>by obtain⟨k,hk⟩:=v7.mp W;have hkl:=bB hk;obtain⟨k1,k2⟩:=gM h2 hkl;cases hk.symm.trans k2;have k3:=i4 (cj t g).2 (x:=sg a k) (by have:=(cj t g).1;lia);have k4:=(gM (cj t g).2 (k:=sg a k) (by have:=(cj t g).1;lia)).2;rw[a8,k4];simp[l,k3]) hl (t:=eR iL) (by simp[l])
 have m2:=sL (i:=14) (S:=[.dtn w j]) (L:=l (qt (ag (j6 a b))) Vk) rfl (f:=fun c=>ta a c) (e:=wq iL (vv 14)) (x:=List.range a.length) (fun c W=>by simp [l,NJ t u (bM.mp W)]) (by simpa using hl) (t:=ji (d5 rf)) (by
  have el:(ag a).length=a.length:=by simp[ag]
  have ei:Ev.intsFrom 0 a.length=ag (List.range a.length):=by unfold Ev.intsFrom ag;simp
  show cg (cg (aj 4 (l (qt (ag (j6 a b))) Vk) [.dtn w j]) _) _=_;rw[show aj 4 (l (qt (ag (j6 a b))) Vk) [.dtn w j]=Y (.p (.tup (ag a)),[.dtn w j]) from rfl,al,show d_ (.p (.tup (ag a))) [.dtn w j]=Y a.length from cE Y el];show(if decide ((a.length:Int).natAbs < 1000000)=Vl then Y (Ev.intsFrom 0 (a.length:Int).toNat,[SO.dtn w j]) else Vk)=_;rw[ac (eF (by lia)),fG,ei])
 have ms:(List.range a.length).map (λc=>ta a c)=du (aF a):=jN (by simp[kj h2]) λi i1 i2=>by rw[kT,qX];unfold ta;rw[a8,aY i2];rfl
 rw[ms]at m2;change bp _ _ _ _ _ _ _ _=Y (.lst (ag (j6 a b)),_) at m1;let y:Option D->Option D->Option D->Option D->Option D->Option D->Lc:=λq1 q2 G N Q E=>[U (fW r),q1,q2,G,N,Q,E,Vk,Vk,Vk,Vk,Vk,Vk,Vk]
 rw[KP,aD];show(match xw (Ph (n+13)) (y Vk Vk Vk Vk Vk Vk) [] with|some (.rt d,_,S)=>(toP 9 d S).map (λ(x:P×aM)=>x.1)|some (.nx,_,_)=>Y P.non|_=>Vk)=_;unfold xw;rw[am (x:=y (U (bH B)) Vk Vk Vk Vk Vk) (a:=[]) (by simp[y,ep'])];rw[am (x:=y (U (bH B)) (U (dA B s)) Vk Vk Vk Vk) (a:=[]) (by simp[y,es'])];have d1':cm (Ph (n+13) "_law_cell_at") [fW r,.int 54]=Y (.int c1):=d1;have d2':cm (Ph (n+13) "_law_mix") [.int c1,.int 54]=Y (.int r1):=d2;have d3':cm (Ph (n+13) "_law_cell_at") [fW r,.int 55]=Y (.int c2):=d3;have d4':cm (Ph (n+13) "_law_mix") [.int c2,.int 55]=Y (.int r2):=d4;rw[am (x:=y (U (bH B)) (U (dA B s)) (ql F) Vk Vk Vk) (a:=[]) (by simp[y,er])];rw[am (x:=y (U (bH B)) (U (dA B s)) (ql F) (qt (ag a)) Vk Vk) (a:=[]) (by simp[y,d1',d2',d_,fD,tl,DJ,ea])];rw[am (x:=y (U (bH B)) (U (dA B s)) (ql F) (qt (ag a)) (qt (ag b)) Vk) (a:=[]) (by simp[y,d3',d4',d_,fD,tl,DJ,eb])];rw[am (x:=LL (fW r) B s a b (ql F) Vk Vk Vk Vk Vk Vk Vk) (a:=[]) (by simp[y,e1])];rw[am (x:=LL (fW r) B s a b (ql F) Vk Vk Vk Vk Vk Vk Vk) (a:=[]) (by rw[fO (by simp[e2,n0])];rfl)];rw[am (x:=LL (fW r) B s a b (ql F) (qr 0) Vk Vk Vk Vk Vk Vk) (a:=[.dtn [] []]) rfl];rw[am (x:=LL (fW r) B s a b (ql F) (qr 0) X Z C Vk Vk Vk) (a:=[.dtn w j]) (by rw[bD,show eR (cf (Ph (n+13) "ends_from") (v2 cw dq)) (LL (fW r) B s a b (ql F) (qr 0) Vk Vk Vk Vk Vk Vk) [.dtn [] []]=Y (E1,[.dtn [] []]) by simp[f3']];exact k1)]
 rw[am (x:=LL (fW r) B s a b (ql F) (qr 0) X Z C (ql T) Vk Vk) (a:=[.dtn w j]) (by simp[g3'])];rw[am (x:=LL (fW r) B s a b (ql F) (qr 0) X Z C (ql T) Vk Vk) (a:=[.dtn w j]) (by rw[fO (by simp[d_,fD,pH,kl])];rfl)];rw[am (x:=l Vk Vk) (a:=[.dtn w j]) (by rw[bD,show eR kf (LL (fW r) B s a b (ql F) (qr 0) X Z C (ql T) Vk Vk) [.dtn w j]=Y (T,[.dtn w j]) by simp];exact k2)]
 rw[am (x:=l (qt (ag (j6 a b))) Vk) (a:=[.dtn w j]) (by simp only[aA,O,bj,aB,aU,m1,al];simp[a_,l])]
 rw[am (x:=l (qt (ag (j6 a b))) Vk) (a:=[.dtn w j]) (by rw[fO (by simp[l,e3,e4,n1])];rfl)];rw[am (x:=l (qt (ag (j6 a b))) (qt (ag (du (aF a))))) (a:=[.dtn w j]) (by simp only[aA,O,bj,aB,aU,m2,al];simp[a_,l])]
 simp[l,e5,n2]
theorem G4{K:FG}{H:Hp}{a:Addr}{s:List Int}(l:s.length≤63)(h:L2.EI H)(S:L2.lB K H a (s.map L2.V.int)):Ev.tM K (Ev.Rb My.Gv My.Att My.Tb 200 "law") [.ref a] H (λv _=>v=.bl Vl) (λ_ _ _=>False):=
 Ev.Nx h S (Nw (n:=186) s)
end My
set_option tactic.hygienic true
namespace PySem.W.Fast
def tw9513950429075630219:=Nat
def tw7894998687001611920:=Nat
def tw18117749155087327558:=Nat
def tw17058544536458183599:=Nat
def tw5125307127261417391:=Nat
def tw11508285331518667619:=Nat
def tw7711261574082750080:=Nat
def tw880311941002141838:=Nat
def tw4473836405674434518:=Nat
def tw5948998574751551034:=Nat
def tw14370652192922323825:=Nat
def tw774700182621874363:=Nat
def tw16485828195195122077:=Nat
def tw4021806195214619188:=Nat
def tw10183889527330006367:=Nat
def tw520676450552012454:=Nat
def tw5351774800797875457:=Nat
def tw6860199580367374434:=Nat
def tw14179697254714245611:=Nat
def tw2612708235920638321:=Nat
def tw4841926496247776714:=Nat
def tw7719583043014851889:=Nat
def tw3152879110913546885:=Nat
def tw539716404869642338:=Nat
def tw7199071574633270375:=Nat
def tw7055550665636113039:=Nat
def tw1468702797186772349:=Nat
def tw10618854502949345103:=Nat
def tw18243035985281976885:=Nat
def tw12349343387578160276:=Nat
def tw5382550597552660554:=Nat
def tw9328886077825417122:=Nat
def tw13685396304666810594:=Nat
def tw14988609098235227718:=Nat
def tw4478755263363531589:=Nat
def tw1365614350636864931:=Nat
def tw11299344327954624546:=Nat
def tw14494124503560887622:=Nat
def tw13257924728049373971:=Nat
def tw6173596587833414313:=Nat
def tw10010326992604633171:=Nat
def tw18397527904000466925:=Nat
def tw474569990108197412:=Nat
def tw3039338295416571116:=Nat
def tw17840986342732872364:=Nat
def tw8980144118600568344:=Nat
def tw3814448004637066787:=Nat
def tw17548279991130662921:=Nat
def tw16994911881926705019:=Nat
def tw11940173308817923432:=Nat
def tw17116363960070474620:=Nat
def tw1251201542931104007:=Nat
def tw18043252948908398635:=Nat
def tw9664433739199968457:=Nat
def tw1704051823667725364:=Nat
def tw7153467108164705962:=Nat
def tw16538711412223319582:=Nat
def tw10056785675849621657:=Nat
def tw1472945429167896763:=Nat
def tw986435249701686911:=Nat
def tw6725528017458696258:=Nat
def tw17629750155162245308:=Nat
def tw15628496700166202706:=Nat
def tw14219712730184193288:=Nat
def tw16078017434084080534:=Nat
def tw9504111372453718006:=Nat
def tw8121235368825545215:=Nat
def tw1669834206969502104:=Nat
def tw13791701895898316212:=Nat
def tw13900504254392575661:=Nat
def tw4935121890328230626:=Nat
def tw16730175795480308200:=Nat
def tw5711434141327841200:=Nat
def tw8259957323698223848:=Nat
def tw547644465412072142:=Nat
def tw4185472388559478937:=Nat
def tw5771800570385328248:=Nat
def tw15074620820132534916:=Nat
def tw4886367712538221627:=Nat
def tw8149649390253009854:=Nat
def tw305849580360356766:=Nat
def tw5220132224891171875:=Nat
def tw11628202207537698463:=Nat
def tw1819892015832352505:=Nat
def tw6431382541651157269:=Nat
def tw14549632115209055945:=Nat
def tw14174047292096577014:=Nat
def tw5976419273868131395:=Nat
def tw9828263909712964967:=Nat
def tw5941190444667520862:=Nat
def tw17930390630928543413:=Nat
def tw454733008091618645:=Nat
def tw2332843977083610757:=Nat
def tw14789934279758809435:=Nat
def tw809850999564186313:=Nat
def tw6515964532914529356:=Nat
def tw13646714143677799616:=Nat
def tw3710695514225372226:=Nat
def tw10758617093627533851:=Nat
def tw2604126579813963400:=Nat
def tw9957777212434147971:=Nat
def tw16014902184480304027:=Nat
def tw17693525652785457207:=Nat
def tw12212096785503681886:=Nat
def tw17128754848160012350:=Nat
def tw8448448236998522372:=Nat
def tw4010691678085896184:=Nat
def tw4563314907641708468:=Nat
def tw17563316664078017578:=Nat
def tw11037084457223543153:=Nat
def tw2925973796958968109:=Nat
def tw148274096266977684:=Nat
def tw5540781057574042320:=Nat
def tw3091184774864343893:=Nat
def tw3361038907790075438:=Nat
def tw9112890528371360165:=Nat
def tw7334902657389348121:=Nat
def tw3971293926312388151:=Nat
def tw15319884708152517692:=Nat
def tw17366017048015693054:=Nat
def tw14004837427699633870:=Nat
def tw302509459649320371:=Nat
def tw7439132543245787254:=Nat
def tw18306033647935723602:=Nat
def tw6920344572862234701:=Nat
def tw11955963190426028806:=Nat
def tw16638508873623067038:=Nat
def tw10824326160221319631:=Nat
def tw12442687510062215533:=Nat
def tw9169288083544960738:=Nat
def tw11473405483168010733:=Nat
def tw8231798653965336152:=Nat
def tw1255014287796254244:=Nat
def tw1538060478641407583:=Nat
def tw4239161982653972429:=Nat
def tw15872433916911186327:=Nat
def tw2392565905270962790:=Nat
def tw16900394023720673160:=Nat
def tw14740663416202253079:=Nat
def tw4584215362682068738:=Nat
def tw4631772768171158551:=Nat
def tw7166448065870280887:=Nat
def tw13432848710033130231:=Nat
def tw15766827634431496287:=Nat
def tw11189968370425546781:=Nat
def tw15870064507724134895:=Nat
def tw8096826449172246455:=Nat
def tw14748277988756013458:=Nat
def tw17992767600428497807:=Nat
def tw3820455466670446932:=Nat
def tw7999561494408089535:=Nat
def tw2625208116150172158:=Nat
def tw17777403703378848680:=Nat
def tw11998326526817426710:=Nat
def tw3505833328169970573:=Nat
def tw6739263495601172624:=Nat
def tw12880684220032923428:=Nat
def tw6510242964684358501:=Nat
def tw18106337541273941730:=Nat
def tw16229440693606873074:=Nat
def tw2502227310390513910:=Nat
def tw1367994193139227552:=Nat
def tw16957606017919069743:=Nat
def tw17534204918323476386:=Nat
def tw5099070464497830168:=Nat
def tw14855208304871876493:=Nat
def tw1885400418768248290:=Nat
def tw13078628088119104527:=Nat
def tw3841379656303169966:=Nat
def tw11561227626748800644:=Nat
def tw14978646256344428020:=Nat
def tw2405360499789808886:=Nat
def tw6111707782257770283:=Nat
def tw110949769267545715:=Nat
def tw9658311380081228635:=Nat
def tw8016726901094319516:=Nat
def tw2914112963478651723:=Nat
def tw826553666167149216:=Nat
def tw17970339854102453137:=Nat
def tw9707049142292817105:=Nat
def tw9303116139752397696:=Nat
def tw4233149265337907585:=Nat
def tw8636779491795721407:=Nat
def tw12086474665682682565:=Nat
def tw3443426347711576031:=Nat
def tw4035480730441191124:=Nat
def tw10478483191312284311:=Nat
def tw5698280064390823087:=Nat
def tw2505440671377374055:=Nat
def tw10937674535267076614:=Nat
def tw14700332342460803623:=Nat
def tw11382162037543020630:=Nat
def tw14592169010029749480:=Nat
def tw11384645935810839766:=Nat
def tw6799233726212777294:=Nat
def tw1536792558263298548:=Nat
def tw4587626449155542935:=Nat
def tw12393530005094468703:=Nat
def tw3516249679916688232:=Nat
def tw4116124856268417238:=Nat
def tw7490594261636738637:=Nat
def tw15272111458890188913:=Nat
def tw1467771014393077167:=Nat
def tw10310023557498262456:=Nat
def tw13777799036691021217:=Nat
def tw10750979703372003963:=Nat
end PySem.W.Fast
open PySem PySem.W PyProof.Rows
set_option maxRecDepth 100000 in
set_option maxHeartbeats 0 in
theorem PySem.Challenge.cw_roadsall_k36_whole_renamed_goes_renamed_holds : PySem.Challenge.rw_roadsall_k36_whole_renamed_goes_renamed.Holds := by
 w_on;o_law;k_head;(case hw=>w_witness2)
 k_fill
 refine L2.FC (l:=PySem.Challenge.rw_roadsall_k36_whole_renamed_goes_renamed) (n:=63) (k:=200) (x:="_law_script") (CX:=L2.u9) (sp:=fun K=>Ev.tM K (Ev.Rb My.Gv My.Att My.Tb 200 "law")) rfl (by decide) rfl ⟨rfl,by decide,by decide⟩ (fun w h Y=>PySem.W.km_in_of Y) (fun w=>by kernel_rfl) (fun w h Y=>My.Jz Y (by kernel_rfl) (by kernel_rfl)) ?F ?S ?C
 case F=>
  intro w mg fa h KX G hmg
  have T:Ev.TOk w My.Gv My.Att My.Tb (L2.Uy KX) mg:=by
   dsimp only [L2.Uy]
   refine' My.Of KX G ?cb ?cr ?hh ?lmk ?gv0 ?gv1 ?z
   case cb=>exact⟨⟨by k_is,by k_is,by k_is,by k_is,by k_is,by k_is,by k_is⟩,by k_is,by k_is,by k_is,by k_is,by k_is,⟨_,_,_,_,_,_,_,_,_,_,by k_is,by k_is,by k_is,by k_is,by k_is⟩,⟨_,_,_,_,_,_,_,_,_,_,by k_is,by k_is,by k_is,by k_is,by k_is⟩,⟨_,_,_,_,_,_,_,_,_,_,by k_is,by k_is,by k_is,by k_is,by k_is⟩⟩
   case cr=>exact⟨⟨by k_is,by k_is,by k_is,by k_is,by k_is,by k_is,by k_is⟩,by k_is,by k_is,by k_is,by k_is,⟨_,_,_,_,_,_,_,_,_,_,by k_is,by k_is,by k_is,by k_is,by k_is⟩,⟨_,_,_,_,_,_,_,_,_,_,by k_is,by k_is,by k_is,by k_is,by k_is⟩,⟨_,_,_,_,_,_,_,_,_,_,by k_is,by k_is,by k_is,by k_is,by k_is⟩⟩
   case hh=>
    intro d hd
    simp only [My.OG,List.mem_cons,List.not_mem_nil,or_false] at hd
    rcases hd with rfl|rfl|rfl|rfl|rfl|rfl|rfl|rfl|rfl|rfl|rfl|rfl|rfl|rfl|rfl|rfl|rfl|rfl|rfl|rfl|rfl|rfl|rfl|rfl|rfl|rfl|rfl|rfl|rfl|rfl|rfl|rfl|rfl|rfl|rfl|rfl|rfl|rfl|rfl|rfl|rfl|rfl|rfl <;> (dsimp only [My.rM,My.ke,My.Ry];exact⟨_,_,_,_,_,_,_,_,_,_,by k_is,by k_is,by k_is,by k_is⟩)
   case lmk=>kernel_rfl
   case gv0=>exact⟨_,by k_is⟩
   case gv1=>exact⟨_,by k_is⟩
   case z=>
    intro x hx
    simp only [Ev.K4,List.mem_cons,List.not_mem_nil,or_false] at hx
    rcases hx with rfl|rfl|rfl|rfl|rfl|rfl|rfl|rfl|rfl|rfl|rfl|rfl|rfl|rfl|rfl|rfl|rfl|rfl|rfl <;> k_is
  obtain⟨f,fd,h1⟩:=T.fn My.rM (by simp [My.Tb,My.OG])
  have e0:=hmg.symm.trans (h1.gl (by decide +kernel))
  cases e0
  refine⟨fd,?_,fun base kb nb=>(Ev.DF T 200).1 My.rM (by simp [My.Tb,My.OG]) _ fd h1.fn⟩
  obtain⟨kV,doc,pm,an,cdv,ct,rfl⟩:=h1.pl (by decide +kernel)
  exact fun s v=>.of_eq rfl
 case S=>exact fun w H a ns hl hO hS=>My.G4 hl hO hS
 case C=>exact fun _ _ _ _ z=>z
