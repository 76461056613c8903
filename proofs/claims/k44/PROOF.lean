import PyProof.Rows.All
import Wide.All
import OpenK.AllK
import Wide.FinOn
import Lean
import PyProof.EqAt
import PyProof.EqKinds
import PyProof.TupleCall
import PySem.Challenge.RW_roadsall_k44_tickets_end
set_option Elab.async false
set_option linter.all false
set_option maxRecDepth 100000
set_option maxHeartbeats 4000000
noncomputable section
abbrev VP:=PySem.Value->PySem.Shared->Prop
abbrev PN:=List (PySem.Addr×PySem.Obj)
abbrev SV:=PySem.Str->Option PySem.Value
abbrev Aa:=PySem.Addr->Prop
abbrev LS:=List PySem.Str
abbrev LV:=List PySem.Value
abbrev Ab:=List PySem.Expr
abbrev OV:=Option PySem.Value
abbrev FG:=PySem.W.Frag
open PySem.PyData renaming eqv->b_,depthAll->mG,canLayAll0->qW,depth->oh,eqvAll->qV,canLay0->yX
open PySem.Builtin.Tuple renaming tupleExact->uZ,tupleItemsOf->yW,tupleHashOf->Ei,tupleTooMany->HC
open PySem.W renaming findIn->bP,keepIn->cC,emptyDict->gI,codeIn->fN,instObj->ij,fnOf->fM,callWith_K->mF,plainGet->mE,nsIn->kr,tabObj->mD,CodeHd->mB,hasDictIn->pM,lookIn->pK,plainGet_of->tZ,plainOver->tY,methodObj->tX,isFn->pF,codeHdIn->tW,takerIn->tU,makesIn->tT,mg_of->pq,noTabs->tS,mem_of_lookupK->y_,cellsFrom_some->y9,methodCall_KW->y8,pyHash_slot->y7,codeHd_of_K->y6,specialIn->y4,handedIn->y3,OpenLaw->y0,KasFin->yZ,WalkO->yY
open PySem renaming wpAny_bind->ac,wpAny_pure->am,wpAny_mono->bv,wpAny_field->cg,wpAny_Call_Name_kw->eI,wpAny_holding->cZ,wpAny_seqItems->fL,wpAny_truthy_bool->ii,call_meets->dD,wpAny_callSpecial?_slot->my,wpAny_passesOwn->jq,wpAny_loadPart'->jo,mem_of_lookup->mx,wpAny_call_entry->kq,wpAny_setField_rec->mw,tupleKind_room_in1->mv,wpAny_typeOf->jn,wpAny_newObj_type->mu,codeAny_mono->ko,wpAny_pyIter_tuple->o7,wpAny_pyIter_list->o6,wpAny_pyIter_enum->o5,sizeLine_eq->kn,wpAny_nextOf_list_item->tR,wpAny_Call_method_late->tP,call_meetsIn->mq,wpAny_execs_nil->o4,codeAny_builtin->o3,builtinLookup_eq_fast->tN,wpAny_loadName_local->tM,wpAny_standAt->o0,plainId_quiet->oZ,wpAny_rule->mn,wpAny_call->ml,wpAny_Name->mj,typeIs_int->mi,wpAny_assign_Name->tL,wpAny_Call_method->tK,slot_dict_getitem->tJ,wpAny_pyIter_zip->tH,noFill_tuple_add->tG,typeLookup_type->tF,Within->tD,wpAny_newTuple->tB,wpAny_letOwnedTupleGo_enum->yV,wpAny_binaryOp_repeat_ref->yU,wpAny_onRaise->tz,seq_tuple_add->tw,wpAny_pyNext_list_item->yS,wpAny_Assign_Subscript->yR,seqSlot_of->yQ,seqIndex_neg->tu,concat_meets->tt,wpAny_pyNext_list_end->yP,wpAny_notOrdered_dict->yO,wpAny_nextOf_list_end->yN,exec_Assign_Name_used->yM,wpAny_updateSeq_pair->yL,wpAny_newFunctionEnv->w5,seqIndex_of->pZ,wpAny_loadName_free->w4,wpAny_loadName_cell->w1,wpAny_setItem_heap->wZ,wpAny_getItem_heap->wY,wpAny_dictSet_heap->wX,sub_AttributeError->wW,wpAny_sequenceKey->wV,slot_list_getitem->wU,wpAny_pyHash_str->wT,wpAny_pyHash_int->wS,wpAny_isInstance->wR,wpAny_forIn_list->wQ,wpAny_execs_cons->wP,wpAny_eqBool_str->wO,wpAny_eqBool_int->wN,wpAny_Dict_empty->wM,kt_code_dict_new->wL,beq_builtin_none->wK,wpAny_tryCatch->wJ,wpAny_setField->wI,callType_codes->wH,wpAny_newList->wG,rangeSize_one->wF,eval_ListComp->wE,evalPart_none->wD,call_list_seq->wC
open Array renaming length_toList->lY,forIn_toList->lX,getElem?_eq_getElem->wB,toList->pY,size_append->wA
open PySem.Around renaming in1_units->iT,under_plainId->lW,under->pX,frames_deeper->wz
open Bool renaming and_eq_true->aq,false_ne_true->aY,eq_iff_iff->gH,false_eq_true->jM,not_eq_true'->jL,false_or->iR,not_true->lV,or_eq_true->pW
open List renaming getElem?_eq_some_iff->a9,map_cons->az,getElem?_append_right->bb,mem_cons_of_mem->aW,size_toArray->aP,getElem?_append_left->bu,mem_cons_self->aV,mem_cons->aH,length_map->a8,getElem?_set_ne->bG,length_append->bw,all_eq_true->bt,replicate_succ->bS,length_cons->bC,getElem?_set_self->cy,not_mem_nil->bF,mem_of_getElem?->cx,nodup_cons->bN,append_nil->b9,eq_nil_of_length_eq_zero->fx,mem_append_right->dL,getElem?_map->cR,flatten_cons->cQ,getElem?_take_of_lt->fw,length_set->cP,any_cons->cw,getD_eq_getElem?_getD->iQ,mem_append->dJ,find?_cons->dI,length_take->fq,map_append->fj,forIn_cons->fh,foldl_cons->fg,mem_map->dH,lookup->da,mem_filterMap->iP,append_assoc->iN,filterMap_cons->jK,all_cons->gG,nil_append->iM,nodup_append->jJ,getElem?_eq_none->lU,isEmpty_iff->jI,length_nil->jH,nodup_nil->jG,range'_succ->lT,lookup_cons->lS,getElem?_replicate->pV,getElem?_cons_zero->pU,getElem?_cons_succ->pT,any_eq_true->lR,find?_cons_of_neg->pS,mem_filter->lQ,range'->jF,mem_range->lP,map_nil->lO,drop_length->pR,length->lN,range_succ->pQ,of_mem_zip->pP,foldl->lM,drop_zero->pO,drop_drop->pN,mem_of_find?_eq_some->wy,getElem?_eq_none_iff->wx,drop_eq_getElem_cons->ww,getElem?_eq_getElem->wv,map_map->pL,find?_cons_of_pos->wu,length_replicate->wt,mem_append_left->wr,zip_cons_cons->wq,map_inj_right->wo,take_sublist->wn,take_length->wm,mem_reverse->wl,length_drop->wk,cons_append->wj,find?_some->wh,forIn_nil->wg
abbrev aD:=@of_decide_eq_true
abbrev ae:=@if_pos
abbrev ag:=@if_neg
abbrev aU:=@decide_eq_false
abbrev eD:=@beq_eq_false_iff_ne
abbrev bE:=@or_false
abbrev bR:=@congrArg
abbrev ff:=@decide_eq_true
abbrev cG:=@if_true
abbrev dG:=@if_false
abbrev eC:=@not_or
abbrev pJ:=@decide_eq_true_iff
abbrev jE:=@beq_iff_eq
abbrev pI:=@decide_eq_true_eq
open PySem.SeqAt renaming readOf->gF,eqv_refl->wf,readsAll_map->we,items_eqAt->wd,shaped->wc,eqAt_reads->Cv
open PySem.Heap renaming get?_push_of_some->aE,lt_size->ar,get?_push_size->aS,SameBut->cq,size_push->jD,get?_update_self->pH,get?_update_other->wb,get?_none_of_le->wa,ExtBut->pG,NewAttrErr->v_,IsTuple->v9
open Option.some renaming inj->cO,injEq->Cu
open Nat renaming le_refl->ai,lt_of_lt_of_le->a_,le_trans->aI,ne_of_lt->aL,ne_of_gt->bf,zero_le->br,lt_succ_self->c_,lt_irrefl->cN,le_of_lt->cM,lt_of_le_of_lt->gE,le_succ->e_,lt_trans->iL,mul_comm->lL,le_of_succ_le->pE,ble->gC,succ_mul->pD,ble_eq_true_of_le->v7,not_lt->pC,eq_zero_or_pos->v6,le_succ_of_le->v5,lt_or_ge->v4,le_of_eq->v3,log2_lt->v0
open Ne renaming symm->aG
open PySem.Calls renaming spliced_cons->bM,spliced_nil->cL,callWith_builtin->gB,evalArgs_plain->iK,Name_function_global->pB,loadGlobal_global->vZ
open PyProof.Rows renaming callWith_type1->e7,slot_tuple_getitem->gA,boot_list->pA,boot_dict->vY,boot_zip->vX,tail_any->jC,reads_list_at->pu,subscriptTail_builtinR->vW,lt_int->vV,entry_tuple_getitem->vU,args_tuple_getitem->vT,get?_update_seq->vS,callWith_builtin1->Ct,boot_tuple->Cs,boot_sorted->Cr,boot_min->Cq,boot_max->Cp,boot_int->Co,boot_abs->Cm,slicePart_none->vR,boot_enumerate->vQ,UnaryOp_->pj,tupleItemsOf_->vP,listUpdate_at->vO
open PySem.EqNone renaming ne_str_none->Cj,ne_none_str->Ci,ne_none_none->Ch,ne_none_int->Cg,ne_none_bool->Cf,ne_int_none->Ce,ne_bool_none->Cd,eq_str_none->Cc,eq_none_str->Cb,eq_none_none->Ca,eq_none_int->B',eq_none_bool->B_,eq_int_none->B9,eq_bool_none->B8
open PySem.EqMixed renaming ne_str_int->B7,ne_str_bool->B6,ne_int_str->B5,ne_bool_str->B4,eq_str_int->B3,eq_str_bool->B2,eq_int_str->B1,eq_bool_str->B0
open Option renaming map_eq_some_iff->b8,bind_eq_some_iff->jB,isSome_iff_exists->lK,map->gy,bind_some->lJ,isSome_map->vN,getD_none->vM
open PySem.F renaming slot_dict_get->iJ,plainAttrs_list->jA,slot_tuple_iterator_next->lI,slot_tuple_mul->lH,entry_dict_get->lG,slot_int_rmul->lF,args_tuple_add_2->pi,plainAttrs_dict->ph,entry_tuple_add->pf,slot_tuple_add->pe,slot_list_getattribute->pc,slot_zip_getattribute->pb,slot_dict_setdefault->vL,slot_tuple_index->vK,args_tuple_mul_2->vJ,slot_tuple_rmul->vI,slot_list_index->vH,slot_list_count->vG,entry_tuple_mul->vF,args_dict_get_3->vD,args_dict_get_2->vA,args_tuple_iterator_next_1->vx,type_dict_get->vw,entry_tuple_iterator_next->vv,slot_list_extend->vu,slot_list_append->vt,slot_list_clear->vr,args_int_rmul_2->vq,slot_int_index->vp,entry_int_rmul->vo,fills_int_mul->vn,kt_typeCall_dict_1->vm,args_dict_init_2->vl,entry_dict_init->vk,kt_called_dict->vj,slot_zip_next->vi
open PySem.Builtin.Slice renaming slicePlaces->lE,sliceAdjust->pa,sliceApplied->vh,slicePartIndex->BZ,sliceFields->BY
open PySem.Str renaming length->lD,ofString_eq_toList->vg
open PySem.Obj renaming mapSeq->gx,mapFields->vd
open PySem.Builtin.List renaming listTooLong->lC
open Int renaming emod_nonneg->lB,toNat_natCast->o_,zero_add->o9,toNat_of_nonneg->vc,emod_lt_of_pos->u_,natCast_mul->u9,le_of_lt->u7
open PySem.AutoSeq1 renaming wpAny_loadPart'->o8,sub_tuple_tuple->u6,idx_int->u5
open PySem.Heap.SameBut renaming update->jz
open PySem.Builtin.SmallTypes renaming nextOf->c0,ownedTupleIsFree->lA,ownedTupleHandOut->BX
open PySem.Builtin.Dict renaming updateFrom->lz,selfAndRest->u4,addKeywords->u3,pairItems->u0
set_option tactic.hygienic false
namespace Nk
open PySem
mutual
noncomputable def kd:PyData->Bool
 | .none=>true
 | .int _=>true
 | .str x=>yX (.str x)
 | .tuple xs=>yf xs
 | .bool _=>false
 | .list _=>false
 | .dict _=>false
noncomputable def yf:List PyData->Bool
 | []=>true
 |x::xs=>kd x && yf xs
end
mutual
noncomputable def hk(w:World):PyData->Int
 | .none=>PySem.W.hashW w.params .none
 | .int i=>hashInt i
 | .str x=>hashStr w x
 | .tuple xs=>reduceHash (Ei (JE w xs))
 | .bool _=>0
 | .list _=>0
 | .dict _=>0
noncomputable def JE(w:World):List PyData->List Int
 | []=>[]
 |x::xs=>hk w x::JE w xs
end
mutual
noncomputable def dr:PyData->Nat
 | .tuple xs=>drs xs+1
 | .none=>1
 | .int _=>1
 | .str _=>1
 | .bool _=>0
 | .list _=>0
 | .dict _=>0
noncomputable def drs:List PyData->Nat
 | []=>0
 |x::xs=>dr x+drs xs
end
noncomputable instance decPD:DecidableEq PyData:=λa b=>Classical.propDecidable (a=b)
section
variable{prog:Program}{w:World}{E:VP}
mutual
theorem xG:∀(d:PyData)(v:Value)(as:List Addr)(A:Around)(s:Shared)(Q:Int->Shared->Prop),kd d=true->Reads s.heap v d as->A.units+d.depth < cLine->Q (hk w d) { s with toks:=s.toks+dr d }->wpAny (model prog w) A (pyHash v) Q E s
 | .none,_,_,A,s,Q,_,r,hu,h=>by cases r;exact y7 (T:="NoneType") rfl F.slot_NoneType_hash F.entry_NoneType_hash (F.args_NoneType_hash_1 _) (wK _) (.inr (by lia)) (ac (am (ac (wpAny_mkInt (am ⟨_,_,rfl,h⟩)))))
 | .int _,_,_,_,_,_,_,r,_,h=>by cases r;exact wS h
 | .str _,_,_,_,_,_,_,r,_,h=>by cases r;exact wT h
 | .tuple xs,_,_,A,s,Q,k,r,hu,h=>by
  cases r with
  | @tuple a o vs n _ _ g1 g2 g3 g4=>simp only[oh]at hu;refine y7 ⟨o,g1,g2⟩ F.slot_tuple_hash F.entry_tuple_hash (F.args_tuple_hash_1 _) (wK _) (.inr (by lia)) ?_;show wpAny _ _ (yW (.ref a) >>= _) _ _ s;refine ac (wpAny_tupleItemsOf g1 g3 (ac ?_));rw[<- lX];refine sv xs vs.toList _ A.in1 s #[] _ k g4 (by rw[iT];lia) λb e=>?_;show wpAny _ _ (retInt (Ei b.toList)) _ _ _;rw[e];exact ac (wpAny_mkInt (am ⟨_,_,rfl,h⟩))
 | .bool _,_,_,_,_,_,k,_,_,_ | .list _,_,_,_,_,_,k,_,_,_ | .dict _,_,_,_,_,_,k,_,_,_=>nomatch k
theorem sv:∀(xs:List PyData)(vs:LV)(as:List Addr)(A:Around)(s:Shared)(b:Array Int)(Q:Array Int->Shared->Prop),yf xs=true->ReadsAll s.heap vs xs as->A.units+mG xs < cLine ->
  (∀b',b'.toList=b.toList++JE w xs->Q b' { s with toks:=s.toks+drs xs })->wpAny (model prog w) A (forIn vs b λx r=>do let h <- pyHash x;pure PUnit.unit;pure (ForInStep.yield (r.push h))) Q E s
 | [],_,_,_,s,b,_,_,r,_,h=>by cases r;exact am (h b (by simp[JE]))
 |d::xs,_,_,A,s,b,Q,k,r,hu,h=>by
  cases r with
  |cons r1 r2=>
   simp only[yf,aq]at k;simp only[mG]at hu;rw[fh];refine ac (ac (xG d _ _ A s _ k.1 r1 (by lia) ?_));refine am (sv xs _ _ A { s with toks:=s.toks+dr d } _ Q k.2 r2 (by lia) λb' e=>?_);have:=h b' (by rw[e];simp[JE])
   simpa[drs,Nat.add_assoc] using this
end
end
mutual
theorem DC:∀d:PyData,kd d=true->d.canLay0=true
 | .none,_ | .int _,_=>rfl
 | .str _,k=>k
 | .tuple xs,k=>by have:=sg xs k;simpa[yX] using this
 | .bool _,k | .list _,k | .dict _,k=>nomatch k
theorem sg:∀xs:List PyData,yf xs=true->qW xs=true
 | [],_=>rfl
 |d::xs,k=>by simp only[yf,aq]at k;simp[qW,DC d k.1,sg xs k.2]
end
mutual
theorem eqv_kd:∀a b:PyData,kd a=true->kd b=true->(b_ a b=true↔a=b)
 | .none,.none,_,_=>by simp[b_]
 | .none,.int _,_,_ | .none,.str _,_,_ | .none,.tuple _,_,_=>by simp[b_]
 | .int _,.none,_,_ | .int _,.str _,_,_ | .int _,.tuple _,_,_ | .int _,.int _,_,_=>by simp[b_]
 | .str _,.none,_,_ | .str _,.str _,_,_ | .str _,.tuple _,_,_ | .str _,.int _,_,_=>by simp[b_]
 | .tuple _,.none,_,_ | .tuple _,.str _,_,_ | .tuple _,.int _,_,_=>by simp[b_]
 | .tuple xs,.tuple ys,h,k=>by have:=xH xs ys h k;simp[b_,this]
 | .bool _,_,k,_ | .list _,_,k,_ | .dict _,_,k,_=>nomatch k
 | .none,.bool _,_,k | .none,.list _,_,k | .none,.dict _,_,k | .int _,.bool _,_,k | .int _,.list _,_,k | .int _,.dict _,_,k=>nomatch k
 | .str _,.bool _,_,k | .str _,.list _,_,k | .str _,.dict _,_,k | .tuple _,.bool _,_,k | .tuple _,.list _,_,k | .tuple _,.dict _,_,k=>nomatch k
theorem xH:∀xs ys:List PyData,yf xs=true->yf ys=true->(qV xs ys=true↔xs=ys)
 | [],[],_,_=>by simp[qV]
 | [],_::_,_,_|_::_,[],_,_=>by simp[qV]
 |x::xs,y::ys,h,k=>by simp only[yf,aq]at h k;simp[qV,eqv_kd x y h.1 k.1,xH xs ys h.2 k.2]
end
mutual
theorem stay:∀(x:PyData){h h':Heap}{v:Value}{as:List Addr},kd x=true->Reads h v x as->(∀b o,h.get? b=some o->o.cls=.type "tuple"->(∃vs n,o.data=.seq vs n)->h'.get? b=some o)->Reads h' v x as
 | .none,_,_,_,_,_,r,_ | .int _,_,_,_,_,_,r,_ | .str _,_,_,_,_,_,r,_=>by cases r;constructor
 | .tuple xs,_,_,_,_,k,r,q=>by
  cases r with
  |tuple g1 g2 g3 g4=>exact .tuple (q _ _ g1 g2 ⟨_,_,g3⟩) g2 g3 (stays xs k g4 q)
 | .bool _,_,_,_,_,k,_,_ | .list _,_,_,_,_,k,_,_ | .dict _,_,_,_,_,k,_,_=>nomatch k
theorem stays:∀(xs:List PyData){h h':Heap}{vs:LV}{as:List Addr},yf xs=true->ReadsAll h vs xs as->(∀b o,h.get? b=some o->o.cls=.type "tuple"->(∃vs n,o.data=.seq vs n)->h'.get? b=some o)->ReadsAll h' vs xs as
 | [],_,_,_,_,_,r,_=>by cases r;constructor
 |x::xs,_,_,_,_,k,r,q=>by
  simp only[yf,aq]at k;cases r with
  |cons r1 r2=>exact .cons (stay x k.1 r1 q) (stays xs k.2 r2 q)
end
section
variable{prog:Program}{w:World}{E:VP}
mutual
theorem rK:∀(d:PyData)(n:Nat)(v:Value)(as:List Addr)(A:Around)(s:Shared)(Q:Bool->Shared->Prop),kd d=true->d.depth≤n->Reads s.heap v d as->Q true s->wpAny (model prog w) A (eqIsQuiet n v) Q E s
 | .none,n,_,_,_,_,_,_,_,r,q | .int _,n,_,_,_,_,_,_,_,r,q | .str _,n,_,_,_,_,_,_,_,r,q=>by cases r;rw[eqIsQuiet_byValue n rfl];exact am q
 | .tuple xs,n,_,_,A,s,Q,k,l,r,q=>by
  simp only[oh]at l;obtain⟨n,rfl⟩:∃m,n=m+1:=⟨n-1,by lia⟩;cases r with
  | @tuple a o vs m _ _ g1 g2 g3 g4=>
   have T:s.TypeIs (.ref a) "tuple":=⟨o,g1,g2⟩;unfold eqIsQuiet;refine ac (wpAny_specialOf T F.slot_tuple_eq.lookup ?_);show wpAny _ _ (isInstance (.ref a) (.type "tuple") >>= _) _ _ s;refine ac (wR T isSubtype_tuple_tuple ?_);simp only[lV,jM,dG];refine ac (fL g1 g3 (ac ?_));show wpAny _ _ (forIn vs _ _) _ _ s;rw[<- lX];have all:=oy xs n vs.toList _ A s k (by lia) g4;refine wQ _ (λrest r s'=>r.1=none/\s'=s/\∀v ∈ rest,∀Q:Bool->Shared->Prop,Q true s->wpAny (model prog w) A (eqIsQuiet n v) Q E s) _ ?_ ?_ _ _ ⟨rfl,rfl,λv hv Q=>all v hv Q⟩
   .rintro v rest ⟨r1,r2⟩ s' ⟨e1,e2,hall⟩;subst e2;refine ac (hall v aV _ ?_);simp only[lV,jM,dG];exact am ⟨rfl,rfl,λu hu=>hall u (aW _ hu)⟩
   .rintro ⟨r1,r2⟩ s' ⟨e1,e2,_⟩;cases e1;cases e2;exact am q
 | .bool _,_,_,_,_,_,_,k,_,_,_ | .list _,_,_,_,_,_,_,k,_,_,_ | .dict _,_,_,_,_,_,_,k,_,_,_=>nomatch k
theorem oy:∀(xs:List PyData)(n:Nat)(vs:LV)(as:List Addr)(A:Around)(s:Shared),yf xs=true->mG xs≤n->ReadsAll s.heap vs xs as->∀v ∈ vs,∀Q:Bool->Shared->Prop,Q true s->wpAny (model prog w) A (eqIsQuiet n v) Q E s
 | [],_,_,_,_,_,_,_,r,v,hv,_,_=>by cases r;cases hv
 |x::xs,n,_,_,A,s,k,l,r,v,hv,Q,q=>by
  simp only[yf,aq]at k;simp only[mG]at l;cases r with
  |cons r1 r2=>
   rcases aH.mp hv with rfl|hv
   .exact rK x n _ _ A s Q k.1 (by lia) r1 q
   .exact oy xs n _ _ A s k.2 (by lia) r2 v hv Q q
end
end
def nest(prog:Program)(w:World):HeapKind prog w PyData where
 is:=λh d a=>kd d=true/\d.depth≤8/\∃n,Reads h (.ref a) d n
 hash:=hk w
 draws:=dr
 room:=λA=>A.units+8 < cLine
 inj:=λx y=>by obtain⟨k,_,_,r⟩:=x;obtain⟨_,_,_,m⟩:=y;exact PySem.SeqAt.Reads.unique _ _ _ _ _ (DC _ k) r m
 keeps:=λx u v z=>by obtain⟨k,l,n,r⟩:=x;refine⟨k,l,n,stay _ k r λb o c _ f=>?_⟩;refine(z.2 b λe=>?_).trans c;subst e;obtain⟨_,_,f⟩:=f;rw[u]at c;cases c;rw[v]at f;cases f
 pyHash:=λg x q=>by obtain⟨k,l,n,r⟩:=x;exact xG _ _ _ _ _ _ k r (by lia) q
 eqBool:=λ{A E s x y a b Q} g i j q=>by
  obtain⟨k,l,n,r⟩:=i;obtain⟨t,H,p,m⟩:=j;have e:=Cv x y A s _ _ n p r m (DC _ k) (DC _ t) (by lia);refine e prog w E Q ?_;have:b_ x y=decide (x=y):=by rw[gH,eqv_kd x y k t,pJ]
  rw[this];exact q
 quiet:=λx q=>by obtain⟨k,l,n,r⟩:=x;exact rK _ 8 _ _ _ _ _ k l r q
end Nk
set_option Elab.async false
set_option linter.all false
set_option maxRecDepth 100000
namespace L2
open PySem PySem.Spec PyProof.Rows
noncomputable abbrev cn:=Sum Int Str
noncomputable def oF:cn->Value->Bool
 | .inl k,v=>Value.isInt k v
 | .inr x,v=>Value.isStrOf x v
noncomputable def Mh(w:World):cn->Int
 | .inl k=>hashInt k
 | .inr x=>hashStr w x
theorem bU:∀{k:cn}{v:Value},oF k v=true->(∃i t,k=Sum.inl i/\v=Value.int i t)\/(∃x t,k=Sum.inr x/\v=Value.str x t)
 | .inl i,v,h=>by obtain⟨t,e⟩:=Value.isInt_shape (k:=i) (v:=v) h;exact .inl ⟨i,t,rfl,e⟩
 | .inr x,v,h=>by obtain⟨t,e⟩:=Value.isStrOf_shape (x:=x) (v:=v) h;exact .inr ⟨x,t,rfl,e⟩
theorem ye(i:Int)(t:Tok):oF (.inl i) (.int i t)=true:=by simp[oF,Value.isInt]
theorem yd(x:Str)(t:Tok):oF (.inr x) (.str x t)=true:=by simp[oF,Value.isStrOf]
theorem GK(a b:Int):decide ((Sum.inl a:cn)=Sum.inl b)=(a == b):=by
 by_cases e:a=b
 .subst e;simp
 .have h:¬(Sum.inl a:cn)=Sum.inl b:=λq=>e (Sum.inl.inj q);rw[aU h];exact(eD.mpr e).symm
theorem GH(a b:Str):decide ((Sum.inr a:cn)=Sum.inr b)=decide (a=b):=by
 by_cases e:a=b
 .subst e;simp
 .have h:¬(Sum.inr a:cn)=Sum.inr b:=λq=>e (Sum.inr.inj q);rw[aU h,aU e]
theorem GJ(a:Int)(b:Str):decide ((Sum.inl a:cn)=Sum.inr b)=false:=aU (λq=>nomatch q)
theorem GI(a:Str)(b:Int):decide ((Sum.inr a:cn)=Sum.inl b)=false:=aU (λq=>nomatch q)
def bx(prog:Program)(w:World):PySem.KeyKind prog w cn where
 is:=oF
 hash:=Mh w
 inj:=λv a b c f=>by
  rcases bU c with ⟨i,t,rfl,rfl⟩|⟨x,t,rfl,rfl⟩
  .rcases bU f with ⟨j,u,rfl,e⟩|⟨y,u,rfl,e⟩
   .injection e with s _;rw[s]
   .exact nomatch e
  .rcases bU f with ⟨j,u,rfl,e⟩|⟨y,u,rfl,e⟩
   .exact nomatch e
   .injection e with s _;rw[s]
 byValue:=λk v h=>by rcases bU h with ⟨i,t,rfl,rfl⟩|⟨x,t,rfl,rfl⟩<;>rfl
 pyHash:=λn h=>by
  rcases bU n with ⟨i,t,rfl,rfl⟩|⟨x,t,rfl,rfl⟩
  .exact wS h
  .exact wT h
 eqBool:=λm n h=>by
  rcases bU m with ⟨i,t,rfl,rfl⟩|⟨x,t,rfl,rfl⟩
  .rcases bU n with ⟨j,u,rfl,rfl⟩|⟨y,u,rfl,rfl⟩
   .rw [GK]at h;exact wN h
   .rw [GJ]at h;exact SeqAt.EqAt.int_str i t y u _ _ _ _ h
  .rcases bU n with ⟨j,u,rfl,rfl⟩|⟨y,u,rfl,rfl⟩
   .rw [GI]at h;exact SeqAt.EqAt.str_int x t j u _ _ _ _ h
   .rw [GH]at h;exact wO h
 «strs»:=λk x t v h=>by
  rcases bU h with ⟨i,u,rfl,e⟩|⟨y,u,rfl,e⟩
  .exact nomatch e
  .injection e with s _;subst s;cases v<;>rfl
theorem rZ(prog:Program)(w:World)(i:Int)(t:Tok):(bx prog w).is (.inl i) (.int i t)=true:=ye i t
theorem rY(prog:Program)(w:World)(x:Str)(t:Tok):(bx prog w).is (.inr x) (.str x t)=true:=yd x t
inductive V where
 |non|bl (b:Bool)|int (i:Int)|str (x:Str)|byt (b:Array UInt8)|flt (b:UInt64)|ref (a:Addr)|ty (n:String)
 deriving DecidableEq
def RelV:V->Value->Prop
 | .non,u=>u=Value.none
 | .bl b,u=>u=Value.bool b
 | .int i,u=>∃t,u=Value.int i t
 | .str x,u=>∃t,u=Value.str x t
 | .byt b,u=>∃t,u=Value.bytes b t
 | .flt b,u=>∃t,u=Value.float b t
 | .ref a,u=>u=Value.ref a
 | .ty n,u=>u=Value.type n
abbrev aM:List V->LV->Prop:=Paired RelV
variable{G:LV}
theorem aM.length(r:aM xs G):xs.length=G.length:=Paired.length r
theorem aM.get:∀{xs:List V}{G:LV}{i:Nat}{x:V},aM xs G->xs[i]? = some x->∃u,G[i]? = some u/\RelV x u
 |_,_,_,_,.nil,e=>by simp at e
 |_,_,0,_,.cons r _,e=>by simp at e;subst e;exact⟨_,rfl,r⟩
 |_,_,i+1,x,.cons _ t,e=>by obtain⟨u,h1,h2⟩:=aM.get (i:=i) (x:=x) t (by simpa using e);exact⟨u,by simpa using h1,h2⟩
variable{u:Value}
theorem aM.set(r:RelV x u):∀{xs:List V}{G:LV}(i:Nat),aM xs G->aM (xs.set i x) (G.set i u)
 |_,_,_,.nil=>.nil
 |_,_,0,.cons _ t=>.cons r t
 |_,_,i+1,.cons q t=>.cons q (aM.set r i t)
theorem aM.append:∀{xs ys:List V}{G w:LV},aM xs G->aM ys w->aM (xs++ys) (G++w)
 |_,_,_,_,.nil,s=>s
 |_,_,_,_,.cons r t,s=>.cons r (aM.append t s)
theorem aM.take:∀{xs:List V}{G:LV}(n:Nat),aM xs G->aM (xs.take n) (G.take n)
 |_,_,0,_=>.nil
 |_,_,_+1,.nil=>.nil
 |_,_,n+1,.cons r t=>.cons r (aM.take n t)
theorem aM.drop:∀{xs:List V}{G:LV}(n:Nat),aM xs G->aM (xs.drop n) (G.drop n)
 |_,_,0,r=>r
 |_,_,_+1,.nil=>.nil
 |_,_,n+1,.cons _ t=>aM.drop n t
def ib:Option V->OV->Prop
 |some v,some u=>RelV v u
 |none,none=>True
 |_,_=>False
def KV:List (κ×V)->List (κ×Value)->Prop:=Paired λ(p:κ×V)(q:κ×Value)=>p.1=q.1/\RelV p.2 q.2
noncomputable def kV:cn->V
 | .inl i=>.int i
 | .inr x=>.str x
def kR(h:Heap)(a:Addr)(i:Array Value):Prop:=∃o,h.get? a=some o/\(o.cls=.type "tuple"/\∃n,o.data=.seq i n)/\o.dict=none
variable{h:Heap}{a:Addr}
theorem kR.tup(x:kR h a q):IsTup h a q:=by obtain⟨o,e,c,_⟩:=x;exact⟨o,e,c⟩
theorem kR.lt(x:kR h a q):a < h.objs.size:=x.tup.lt
theorem kR.new(h:Heap)(i:Array Value):kR (h.push { cls:=.type "tuple",data:=.seq i }) h.objs.size i:=⟨_,aS _ rfl,⟨rfl,_,rfl⟩,rfl⟩
inductive HO where
 |lst (xs:List V)
 |tup (xs:List V)
 |dK (kvs:List (cn×V))|dT (kvs:List (List cn×V))|dN (kvs:List (PyData×V×V))
 |set (S:Int->Bool) (n:Nat)
 |ins (C dx:Addr) (fs:List (Str×V))
 |own (x:Addr)
 |xd (fs:List (Str×V))
 |met (f x:Addr)
 |rng (lo hi:Int)
 |frz (o:Obj) (u:HO)
 |tbl
 |ext (φ:Heap->Prop)
noncomputable abbrev Hp:=Addr->Option HO
noncomputable def a7(H:Hp)(a:Addr)(o:HO):Hp:=λb=>if b=a then some o else H b
variable{H:Hp}
theorem au:a7 H a o a=some o:=by unfold a7;rw[ae rfl]
variable{b:Addr}
theorem al(h:b≠a):a7 H a o b=H b:=by unfold a7;rw[ag h]
theorem Jq{H:Hp}{a b:Addr}{o u:HO}(h:H a=some o)(h':H b=some u)(d:o≠u):a≠b:=by intro e;subst e;rw[h]at h';exact d (cO h')
theorem aN(h:H a=some o)(h':H b=none):a≠b:=by intro e;subst e;rw[h]at h';cases h'
noncomputable def AL:Str:="coming_rows"
noncomputable def uA:Str:="coming_rows.<locals>.<lambda>"
noncomputable def qx:Pos:=⟨232,36,232,77⟩
def zE(p:Addr×Obj):Option Addr:=match p.2.data with
 | .fields v=>match (v[1]?:OV),(v[11]?:OV) with
  |some (.str q _),some (.ref P)=>if q=AL then some P else none
  |_,_=>none
 |_=>none
def bz(K:FG):List Addr:=K.filterMap zE
def uC(o:Obj):Prop:=∃v t,o.data=.fields v/\v[1]? = some (.str uA t)
def nL(H:Hp)(h:Heap)(a:Addr):Prop:=∃ps,h.get? a=some (mD ps)/\(ps=#[]\/∃c o,ps=#[rawInt qx.line,rawInt qx.col,.ref c]/\H c=some (.frz o (.own a))/\uC o)
section
variable(P:Program)(w:World)
def bX(H:Hp)(h:Heap)(a:Addr):HO->Prop
 | .lst xs=>xs.length≤sizeLine/\∃(its:LV)(n:Nat),aM xs its/\h.get? a=some { cls:=.type "list",data:=.seq its.toArray n }
 | .tup xs=>xs.length≤sizeLine/\∃its:LV,aM xs its/\kR h a its.toArray
 | .dK kvs=>kvs.length≤sizeLine/\(a == sysModules)=false/\∃vs,KV kvs vs/\h.DictOf (bx P w) a vs
 | .dT kvs=>kvs.length≤sizeLine/\(a == sysModules)=false/\∃xs:List (List cn×Addr×Value),
   Paired (λ(p:List cn×V)(q:List cn×Addr×Value)=>p.1=q.1/\H q.2.1=some (.tup (p.1.map kV))/\RelV p.2 q.2.2) kvs xs /\
   ∃o es ep,h.get? a=some o/\o.ExactDict/\o.data=.dict es ep/\es.toList=xs.map (entryOfKey (tupleKind (bx P w)))/\(xs.map (·.1)).Nodup
 | .dN kvs=>kvs.length≤sizeLine/\(a == sysModules)=false/\∃xs:List (PyData×Addr×Value),Paired (λ(p:PyData×V×V)(q:PyData×Addr×Value)=>p.1=q.1/\p.2.1=V.ref q.2.1/\RelV p.2.2 q.2.2) kvs xs /\
   ∃o es ep,h.get? a=some o/\o.ExactDict/\o.data=.dict es ep/\es.toList=xs.map (entryOfKey (Nk.nest P w))/\(xs.map (·.1)).Nodup
 | .set S n=>h.SetOf (intKind P w) a S n
 | .ins C dx fs=>H dx=some (.own a)/\fs.length≤1000/\dx≠a/\h.get? a=some (ij C dx) /\
   ∃mA,h.Ns1 dx mA/\(∀f,ib (fs.lookup f) (mA f))/\tD mA (fs.map (·.1))
 | .own _=>∃o,h.get? a=some o
 | .xd fs=>∃mA,h.Ns1 a mA/\∀f,ib (fs.lookup f) (mA f)
 | .rng lo hi=>∃t u v,h.get? a=some { cls:=.type "range",data:=.fields #[.int lo t,.int hi u,.int 1 v] }
 | .frz o u=>h.get? a=some o/\bX H h a u
 | .tbl=>nL H h a
 | .met f x=>h.get? a=some (tX (.ref f) (.ref x))
 | .ext φ=>φ h/\(∃o,h.get? a=some o)/\∀h1 h2:Heap,φ h1->(∀o,h1.get? a=some o->h2.get? a=some o)->φ h2
def ga(H:Hp)(h:Heap):Prop:=∀a o,H a=some o->bX P w H h a o
end
section
variable{P:Program}{w:World}{H H':Hp}{h h':Heap}{a:Addr}{o:HO}
theorem bX.lt(x:bX P w H h a o):a < h.objs.size:=by
 cases o with
 |lst xs=>obtain⟨_,_,_,_,e⟩:=x;exact ar e
 |tup xs=>obtain⟨_,_,_,p⟩:=x;exact p.lt
 |dK kvs=>obtain⟨_,_,_,_,o,_,_,e,_⟩:=x;exact ar e
 |dT kvs=>obtain⟨_,_,_,_,o,_,_,e,_⟩:=x;exact ar e
 |dN kvs=>obtain⟨_,_,_,_,o,_,_,e,_⟩:=x;exact ar e
 |set S n=>obtain⟨o,_,_,_,e,_⟩:=x;exact ar e
 |ins C dx fs=>obtain⟨_,_,_,e,_⟩:=x;exact ar e
 |own y=>obtain⟨_,e⟩:=x;exact ar e
 |xd fs=>obtain⟨_,⟨_,_,_,e,_⟩,_⟩:=x;exact ar e
 |rng lo hi=>obtain⟨_,_,_,e⟩:=x;exact ar e
 |frz ob u=>obtain⟨e,_⟩:=x;exact ar e
 |tbl=>obtain⟨_,e,_⟩:=(show nL H h a from x);exact ar e
 |met f y=>exact ar (show h.get? a=some _ from x)
 |ext φ=>obtain⟨_,⟨_,e⟩,_⟩:=x;exact ar e
theorem Paired.mapP:∀{l:List α}{h:List z},Paired F l h->(∀a b,F a b->q a b)->Paired q l h
 |_,_,.nil,_=>.nil
 |_,_,.cons r t,f=>.cons (f _ _ r) (Paired.mapP t f)
theorem bX.stay(x:bX P w H h a o)(k:∀b u,(b=a\/H b=some (.own a))->h.get? b=some u->h'.get? b=some u)
  (ho:∀b,H b=some (.own a)->H' b=some (.own a)) (ht:∀b xs,H b=some (.tup xs)->H' b=some (.tup xs))
  (hf:∀b oc,H b=some (.frz oc (.own a))->H' b=some (.frz oc (.own a)):=by first|exact λ_ _ q=>q|exact λ_ _ q=>(al (aN q (by assumption))).trans q):bX P w H' h' a o:=by
 induction o with
 |lst xs=>obtain⟨z,its,n,r,e⟩:=x;exact⟨z,its,n,r,k _ _ (.inl rfl) e⟩
 |tup xs=>obtain⟨z,its,r,ob,e,c⟩:=x;exact⟨z,its,r,ob,k _ _ (.inl rfl) e,c⟩
 |dK kvs=>obtain⟨z,y,vs,r,ob,es,ep,e,c⟩:=x;exact⟨z,y,vs,r,ob,es,ep,k _ _ (.inl rfl) e,c⟩
 |dT kvs=>obtain⟨z,y,xs,r,ob,es,ep,e,c⟩:=x;exact⟨z,y,xs,Paired.mapP r λp q z=>⟨z.1,ht _ _ z.2.1,z.2.2⟩,ob,es,ep,k _ _ (.inl rfl) e,c⟩
 |dN kvs=>obtain⟨z,y,xs,r,ob,es,ep,e,c⟩:=x;exact⟨z,y,xs,r,ob,es,ep,k _ _ (.inl rfl) e,c⟩
 |set S n=>obtain⟨ob,es,ep,t,e,c⟩:=x;exact⟨ob,es,ep,t,k _ _ (.inl rfl) e,c⟩
 |ins C dx fs=>obtain⟨d,z,ne,e,mA,⟨od,es,ep,e2,c⟩,r⟩:=x;exact⟨ho _ d,z,ne,k _ _ (.inl rfl) e,mA,⟨od,es,ep,k _ _ (.inr d) e2,c⟩,r⟩
 |own y=>obtain⟨ob,e⟩:=x;exact⟨ob,k _ _ (.inl rfl) e⟩
 |xd fs=>obtain⟨mA,⟨od,es,ep,e,c⟩,r⟩:=x;exact⟨mA,⟨od,es,ep,k _ _ (.inl rfl) e,c⟩,r⟩
 |rng lo hi=>obtain⟨t,u,v,e⟩:=x;exact⟨t,u,v,k _ _ (.inl rfl) e⟩
 |frz ob u ih=>obtain⟨e,q⟩:=x;exact⟨k _ _ (.inl rfl) e,ih q⟩
 |tbl=>obtain⟨ps,e,z⟩:=(show nL H h a from x);refine⟨ps,k a _ (.inl rfl) e,z.imp id ?_⟩;rintro ⟨c,oc,e1,e2,e3⟩;exact⟨c,oc,e1,hf _ _ e2,e3⟩
 |met f y=>have e:h.get? a=some (tX (.ref f) (.ref y)):=x;show h'.get? a=some (tX (.ref f) (.ref y));exact k a _ (.inl rfl) e
 |ext φ=>obtain⟨p,⟨o,e⟩,st⟩:=x;exact⟨st _ _ p λo q=>k _ _ (.inl rfl) q,⟨o,k _ _ (.inl rfl) e⟩,st⟩
theorem ga.lt(x:ga P w H h)(e:H a=some o):a < h.objs.size:=(x a o e).lt
theorem ga.fresh(x:ga P w H h)(e:h.objs.size≤a):H a=none:=by
 cases q:H a with
 |none=>rfl
 |some u=>exact absurd (a_ (x.lt q) e) (cN _)
theorem ga.kept(x:ga P w H h)(k:∀b u,h.get? b=some u->h'.get? b=some u):ga P w H h':=λa o e=>
 (x a o e).stay (λb u _ q=>k b u q) (λ_ q=>q) λ_ _ q=>q
theorem ga.laid(x:ga P w H h)(k:∀b u,h.get? b=some u->h'.get? b=some u)(p:h.objs.size≤a)(n:bX P w (a7 H a o) h' a o):ga P w (a7 H a o) h':=λb u e=>by
 have f:=x.fresh p;by_cases s:b=a
 .subst s;rw[au]at e;cases e;exact n
 .rw [al s]at e;exact(x b u e).stay (λc v _ q=>k c v q) (λc q=>by rw[al (aN q f)];exact q) λc xs q=>by rw[al (aN q f)];exact q
end
def Rd(H:Hp)(a:Addr)(u:HO):Prop:=H a=some u\/∃o,H a=some (.frz o u)
theorem Rd.ok{P:Program}{w:World}{H:Hp}{h:Heap}{a:Addr}{u:HO}(r:Rd H a u)(x:ga P w H h):bX P w H h a u:=by
 rcases r with r|⟨o,r⟩
 .exact x a u r
 .obtain⟨_,q⟩:=x a _ r;exact q
def Ki:Option HO->Prop
 |some (.lst _)=>True
 |some (.dK _)=>True
 |some (.dT _)=>True
 |some (.dN _)=>True
 |some (.set _ _)=>True
 |some (.ins _ _ _)=>True
 |some (.ext _)=>True
 |_=>False
section
variable{P:Program}{w:World}{H:Hp}{h h':Heap}{x e:Addr}{o':HO}
theorem ga.write(ok:ga P w H h)(m:Ki (H x))(i:e=x\/H e=some (.own x))(k:∀b u,b≠e->h.get? b=some u->h'.get? b=some u)(d:∃u,h'.get? e=some u)
  (g:bX P w (a7 H x o') h' x o'):ga P w (a7 H x o') h':=λb u q=>by
 have n:∀c y,H c=some (.own y)->c≠x:=λc y r z=>by subst z;rw[r]at m;exact m
 have t:∀c xs,H c=some (.tup xs)->c≠x:=λc xs r z=>by subst z;rw[r]at m;exact m
 have f:∀c o u,H c=some (.frz o u)->c≠x:=λc o u r z=>by subst z;rw[r]at m;exact m
 by_cases s:b=x
 .subst s;rw[au]at q;cases q;exact g
 .rw [al s]at q;by_cases a:b=e
  .have j:H b=some (.own x):=by
    rcases i with z|z
    .exact absurd (a.trans z) s
    .rw [a];exact z
   rw[q]at j;cases j;obtain⟨v,l⟩:=d;exact⟨v,by rw[a];exact l⟩
  .refine (ok b u q).stay (λc v p r=>k c v ?_ r) (λc r=>by rw[al (n c b r)];exact r) (λc xs r=>by rw[al (t c xs r)];exact r) (λc S r=>by rw[al (f c _ _ r)];exact r);rcases p with rfl|p
   .exact a
   .rintro rfl;rcases i with z|z
    .exact n c b p z
    .rw [p]at z;cases z;exact s rfl
end
structure Un(fs ex:List Addr)(H H':Hp)(h h':Heap):Prop where
 keep:∀b o,h.get? b=some o->H b=none->b ∉ fs->b ∉ ex->h'.get? b=some o
 slot:∀b o,h.get? b=some o->H b=none->b ∈ fs->b ∉ ex->∃sl,h'.get? b=some { o with slots:=sl }
 free:∀b o,h.get? b=some o->H b=none->b ∉ ex->H' b=none
 there:∀b o,h.get? b=some o->b ∉ ex->∃o',h'.get? b=some o'
 tups:∀b xs,H b=some (.tup xs)->H' b=some (.tup xs)
 frzs:∀b o u,H b=some (.frz o u)->H' b=some (.frz o u)
 tbls:∀b,H b=some .tbl->H' b=some .tbl
section
variable{fs fs' ex ex':List Addr}{H H1 H2:Hp}{h h1 h2 h':Heap}{a x e:Addr}{o:HO}
theorem Un.any(u:Un fs ex H H1 h h1)(q:h.get? b=some z)(n:H b=none)(a:b ∉ ex):∃s,h1.get? b=some { z with slots:=s }:=by
 by_cases x:b ∈ fs
 .exact u.slot b z q n x a
 .exact⟨z.slots,u.keep b z q n x a⟩
theorem Un.kept(k:∀b u,h.get? b=some u->h'.get? b=some u):Un fs ex H H h h':=
 ⟨λb o q _ _ _=>k b o q,λb o q _ _ _=>⟨o.slots,k b o q⟩,λ_ _ _ n _=>n,λb o q _=>⟨o,k b o q⟩,λ_ _ q=>q,λ_ _ _ q=>q,λ_ q=>q⟩
theorem Un.refl:Un fs ex H H h h:=Un.kept λ_ _ q=>q
theorem Un.laid(k:∀b u,h.get? b=some u->h'.get? b=some u)(p:h.objs.size≤a)(x:H a=none):Un fs ex H (a7 H a o) h h' where
 keep:=λb u q _ _ _=>k b u q
 slot:=λb u q _ _ _=>⟨u.slots,k b u q⟩
 free:=λb u q n _=>by rw[al (aL (a_ (ar q) p))];exact n
 there:=λb u q _=>⟨u,k b u q⟩
 tups:=λb xs q=>by rw[al (aN q x)];exact q
 frzs:=λb u xs q=>by rw[al (aN q x)];exact q
 tbls:=λb q=>by rw[al (aN q x)];exact q
theorem Un.write(m:Ki (H x))(p:e=x\/H e=some (.own x))(k:∀b u,b≠e->h.get? b=some u->h'.get? b=some u)(s:∃u,h'.get? e=some u):Un fs ex H (a7 H x o) h h':=by
 have t:∀b,H b=none->b≠x:=λb n z=>by subst z;rw[n]at m;exact m
 have c:∀b,H b=none->b≠e:=λb n z=>by
  subst z;rcases p with r|r
  .exact t b n r
  .rw [n]at r;cases r
 have f:∀b u,H b=some u->¬Ki (some u)->b≠x:=λb u q nm z=>by subst z;rw[q]at m;exact nm m
 refine⟨fun b u q n _ _=>k b u (c b n) q,fun b u q n _ _=>⟨u.slots,k b u (c b n) q⟩,fun b u q n _=>by rw [al (t b n)];exact n,fun b u q _=>?_,
  λb xs q=>by rw[al (f b _ q λz=>z)];exact q,λb u xs q=>by rw[al (f b _ q λz=>z)];exact q,λb q=>by rw[al (f b _ q λz=>z)];exact q⟩
 by_cases a:b=e
 .subst a;exact s
 .exact⟨u,k b u a q⟩
end
noncomputable def trk(h:Heap)(H:Hp):List Addr:=(List.range h.objs.size).filter λa=>(H a).isSome
def qD(h:Heap)(H:Hp):Heap:=PySem.W.hideAll h (trk h H)
theorem yj(h:Heap)(H:Hp):(qD h H).objs.size=h.objs.size:=PySem.W.hideAll_size _ _
variable{o:Obj}
theorem A5(e:h.get? b=some o)(n:H b=none):(qD h H).get? b=some o:=
 PySem.W.hideAll_get _ e λm=>by have q:(H b).isSome=true:=(lQ.mp m).2;rw[n]at q;simp at q
theorem Du(e:(qD h H).get? b=some o):h.get? b=some o/\H b=none:=by
 have a:h.get? b=some o:=PySem.W.of_hideAll (trk h H) e;refine⟨a,?_⟩;cases q:H b with
 |none=>rfl
 |some x=>have m:b ∈ trk h H:=lQ.mpr ⟨lP.mpr (ar a),by simp[q]⟩;have z:(qD h H).get? b=none:=PySem.W.hideAll_none (trk h H) m;rw[z]at e;cases e
noncomputable def kf(g h:Heap)(L:Addr):PN:=(List.range h.objs.size).filterMap λa=>if a=L\/(g.get? a).isSome=true then none else (h.get? a).map λo=>(a,o)
variable{g:Heap}{L:Addr}
theorem r9(h1:a≠L)(h2:g.get? a=none)(x:h.get? a=some o):(a,o) ∈ kf g h L:=
 iP.mpr ⟨a,lP.mpr (ar x),by simp[h1,h2,x]⟩
set_option tactic.hygienic true in
theorem mW(x:p ∈ kf g h L):p.1≠L/\g.get? p.1=none/\h.get? p.1=some p.2:=by
 obtain⟨b,_,e⟩:=iP.mp x;split at e
 .cases e
 .rename_i n;cases q:h.get? b with
  |none=>rw[q]at e;simp at e
  |some u=>
   rw[q]at e;simp only[Option.map_some,Cu]at e;subst e;refine⟨λz=>n (.inl z),?_,q⟩;show g.get? b=none;cases r:g.get? b with
   |none=>rfl
   |some v=>exact(n (.inr (by simp[r]))).elim
theorem Ay:News g L h (kf g h L):=λp x=>let ⟨a,b,c⟩:=mW x;⟨c,a,b⟩
structure Mod(K:FG)(mg:SV)(base:Heap):Prop where
 kin:K.In base
 glob:base.Ns mainGlobals mg
 blt:∃mb,base.Ns builtinsNs mb/\∀x:Str,x≠"__name__"->mb x=bootBuiltins x
 nolimit:base.NoLimit
 bmain:∃bm ob,mg "__builtins__"=some (.ref bm)/\bm≠builtinsNs/\base.get? bm=some ob/\ob.cls=.type "module"/\ob.dict=some builtinsNs/\ob.data=.plain
structure Cx where
 p:Program
 w:World
 K:FG
 g:SV
 b:Heap
 A:Around
 N:LS
 z:Shared
 y:Hp
 e:Env
 o:List Env
 k:List Env
 ex:List Addr
 fn:Str->Bool
 c:Bool
 pn:PN
 xe:VP
noncomputable def yn(l:List Env):List Addr:=l.filterMap (·.frame)
abbrev Cx.fs(X:Cx):List Addr:=yn X.o
def Ee(sc:Scope)(x:Str):Prop:=sc.names.lookup x=some .local\/sc.names.lookup x=some .cell\/sc.names.lookup x=some .free
def Loc(sc:Scope)(x:Str):Prop:=sc.names.lookup x=some .local\/sc.names.lookup x=some .cell
def Look(e:Env)(h:Heap)(m:SV)(x:Str)(u:Value):Prop:=
 (e.kindOf x=some .local/\m x=some u)\/((e.kindOf x=some .cell\/e.kindOf x=some .free)/\∃c,e.cells.lookup x=some c/\h.IsCell c (some u))
structure Cx.Ok(X:Cx):Prop where
 mod:Mod X.K X.g X.b
 kind:X.e.scope.kind=.function
 glob:X.e.globals=mainGlobals
 blt:X.e.builtins=builtinsNs
 above:X.z.heap.objs.size≤X.e.locals
 inj:∀x y c,X.e.cells.lookup x=some c->X.e.cells.lookup y=some c->x=y
 has:∀x,(X.e.kindOf x=some .cell\/X.e.kindOf x=some .free)->∃c,X.e.cells.lookup x=some c
 cab:∀x c,X.fn x=true->X.e.cells.lookup x=some c->X.z.heap.objs.size≤c
 hd:X.c=true->X.A.handled=none
 frames:X.A.frames=some X.k
 stk:X.k=X.o\/(X.k=X.e::X.o/\X.e.frame=some X.e.locals)
 exf:∀b ∈ X.ex,b≠X.e.locals/\∀x c,X.e.cells.lookup x=some c->c≠b
 bs:∀b o,X.b.get? b=some o->X.z.heap.get? b=some o/\X.y b=none
 bsz:X.b.objs.size≤X.z.heap.objs.size
 noex:∀b o,X.b.get? b=some o->b ∉ X.ex
 exfs:∀b ∈ X.ex,b ∉ X.fs
 funs:X.z.heap.FunFrames X.b X.o
 frf:∀b ∈ X.fs,X.y b=none
 tab:∀P ∈ bz X.K,X.y P=some .tbl
structure Inv(X:Cx)(pins:PN)(J:List (Option V))(H:Hp)(s:Shared):Prop where
 o:X.Ok
 os:s.os=X.z.os
 bare:AllBare s.gens
 base:Un X.fs X.ex X.y H X.z.heap s.heap
 loc:∃m,s.heap.Ns X.e.locals m/\∀(i:Nat)(x:Str)(v:V),X.N[i]? = some x->J[i]? = some (some v)->Ee X.e.scope x->∃u,RelV v u/\Look X.e s.heap m x u
 cell:∀x c,X.e.cells.lookup x=some c->∃v,s.heap.IsCell c v
 free:H X.e.locals=none
 freeC:∀x c,X.e.cells.lookup x=some c->H c=none
 pin:∀p ∈ X.pn++pins,s.heap.get? p.1=some p.2/\H p.1=none/\p.1≠X.e.locals/\p.1 ∉ X.fs/\∀v,p.2.data≠.cell v
 h:ga X.p X.w H s.heap
 len:J.length=X.N.length
section
variable{X:Cx}{pins:PN}{J:List (Option V)}{H H':Hp}{s:Shared}{h':Heap}
theorem Cx.Ok.nofr(ok:X.Ok)(e:X.b.get? b=some o):b ∉ X.fs:=λh=>by have:=(ok.funs.mem h).1;rw[e]at this;cases this
theorem Inv.bs(I:Inv X pins J H s):∀b o,X.b.get? b=some o->s.heap.get? b=some o/\H b=none:=λb o e=>
 ⟨I.base.keep b o (I.o.bs b o e).1 (I.o.bs b o e).2 (I.o.nofr e) (I.o.noex b o e),I.base.free b o (I.o.bs b o e).1 (I.o.bs b o e).2 (I.o.noex b o e)⟩
theorem Inv.bk(I:Inv X pins J H s):∀b o,X.b.get? b=some o->s.heap.get? b=some o:=λb o e=>(I.bs b o e).1
theorem Inv.mod(I:Inv X pins J H s):Mod X.K X.g X.b:=I.o.mod
theorem Inv.kIn(I:Inv X pins J H s):X.K.In s.heap:=I.o.mod.kin.keeps I.bk
theorem Inv.nolimit(I:Inv X pins J H s):s.heap.NoLimit:=I.o.mod.nolimit.keeps I.bk
theorem Inv.fr(I:Inv X pins J H s):∃m,Fr X.b X.e.locals s.heap m:=
 let ⟨m,h,_⟩:=I.loc
 ⟨m,h,I.bk,aI I.o.bsz I.o.above⟩
theorem Inv.lt(I:Inv X pins J H s):X.e.locals < s.heap.objs.size:=let ⟨_,h,_⟩:=I.loc;h.lt
theorem Inv.sz(I:Inv X pins J H s):X.z.heap.objs.size≤s.heap.objs.size:=aI I.o.above (cM I.lt)
theorem Inv.nofs(I:Inv X pins J H s)(h:s.heap.objs.size≤a):a ∉ X.fs:=λb=>by obtain⟨_,o,x,_⟩:=I.o.funs.mem b;exact absurd (a_ (ar x) (aI I.sz h)) (cN _)
theorem Inv.cne(I:Inv X pins J H s):∀x c,X.e.cells.lookup x=some c->c≠X.e.locals:=λx c e z=>by obtain⟨v,o,n,d⟩:=I.cell x c e;obtain⟨m,⟨o',es,p,a,h,_⟩,_⟩:=I.loc;rw[z,a]at n;cases n;rw[h]at d;cases d
theorem Inv.funs(I:Inv X pins J H s):s.heap.FunFrames X.b X.o:=by
 have all:∀(l:List Env),(∀b ∈ yn l,b ∈ X.fs)->X.z.heap.FunFrames X.b l->s.heap.FunFrames X.b l:=by
  intro l;induction l with
  |nil=>intro _ _;trivial
  |cons n r i=>
   intro a k;obtain⟨hk,⟨L,o,f,c,m,d⟩,t⟩:=k;have h:L ∈ X.fs:=a L (by unfold yn;rw[jK,f];exact aV);obtain⟨p,e⟩:=I.base.slot L o m (I.o.frf L h) h λz=>I.o.exfs L z h
   exact⟨hk,⟨L,_,f,c,e,d⟩,i (λb x=>a b (by unfold yn;rw[jK,f];exact aW _ x)) t⟩
 exact all X.o (λ_ x=>x) I.o.funs
theorem Inv.stack(I:Inv X pins J H s):s.heap.FunFrames X.b X.k:=by
 rcases I.o.stk with e|⟨e,h⟩
 .rw [e];exact I.funs
 .rw [e];obtain⟨m,n,_⟩:=I.loc;refine .cons (by rw[I.o.kind];decide) h n ?_ I.funs;exact wa (aI I.o.bsz I.o.above)
theorem Inv.stkSub(I:Inv X pins J H s):∀b ∈ yn X.k,b ∈ X.e.locals::X.fs:=λb h=>by
 rcases I.o.stk with e|⟨e,f⟩
 .rw [e]at h;exact aW _ h
 .rw [e]at h;unfold yn at h;rw[jK,f]at h;exact h
theorem Inv.stkFree(I:Inv X pins J H s):∀b ∈ yn X.k,H b=none:=λb h=>by
 rcases aH.mp (I.stkSub b h) with e|h
 .rw [e];exact I.free
 .obtain⟨_,o,x,_⟩:=I.o.funs.mem h;exact I.base.free b o x (I.o.frf b h) λz=>I.o.exfs b z h
theorem Inv.step{g':Array GenState}{t':Nat}{d':Drawn}{ch:List Addr}(I:Inv X pins J H s)
  (a:∀b ∈ ch,(b ∈ X.ex\/X.z.heap.objs.size≤b)/\b≠X.e.locals/\(∀x c,X.e.cells.lookup x=some c->c≠b)/\∀p ∈ X.pn++pins,p.1≠b)
  (t:∀b o,b≠X.e.locals->b ∉ X.fs->b ∉ ch->s.heap.get? b=some o->H b=none->h'.get? b=some o)
  (slot:∀b o,b≠X.e.locals->b ∈ X.fs->b ∉ ch->s.heap.get? b=some o->H b=none->∃G,h'.get? b=some { o with slots:=G }) (f:∀b o,b ∉ ch->s.heap.get? b=some o->H b=none->H' b=none)
  (y:∀b o,b ∉ ch->s.heap.get? b=some o->∃o',h'.get? b=some o')
  (A:∀b xs,H b=some (.tup xs)->H' b=some (.tup xs)) (F:∀b o u,H b=some (.frz o u)->H' b=some (.frz o u)) (P:∀b,H b=some .tbl->H' b=some .tbl)
  (ns:∀m,s.heap.Ns X.e.locals m->h'.Ns X.e.locals m) (E:ga X.p X.w H' h') (W:AllBare g') :
  Inv X pins J H' { s with heap:=h',gens:=g',drawn:=d',toks:=t' }:=by
 have L:∀b o,X.z.heap.get? b=some o->b≠X.e.locals:=λb o e=>aL (a_ (ar e) I.o.above);have C:∀b o,X.z.heap.get? b=some o->b ∉ X.ex->b ∉ ch:=λb o e h j=>by
  rcases(a b j).1 with z|z
  .exact h z
  .exact absurd (a_ (ar e) z) (cN _)
 have K:∀x c,X.e.cells.lookup x=some c->∀v,s.heap.IsCell c v->h'.IsCell c v:=λx c e v hz=>by
  obtain⟨o,S,D⟩:=hz;have w:c ∉ ch:=λz=>(a c z).2.2.1 x c e rfl;by_cases N:c ∈ X.fs
  .obtain⟨G,q⟩:=slot c o (I.cne x c e) N w S (I.freeC x c e);exact⟨_,q,D⟩
  .exact⟨o,t c o (I.cne x c e) N w S (I.freeC x c e),D⟩
 refine⟨I.o,I.os,W,⟨λb o e n j h=>?_,λb o e n j h=>?_,λb o e n h=>?_,λb o e h=>?_,λb xs e=>A b xs (I.base.tups b xs e),λb o xs e=>F b o xs (I.base.frzs b o xs e),λb e=>P b (I.base.tbls b e)⟩,?_,λx c e=>?_,?_,λx c e=>?_,λp Q=>?_,E,I.len⟩
 .exact t b o (L b o e) j (C b o e h) (I.base.keep b o e n j h) (I.base.free b o e n h)
 .obtain⟨G,g⟩:=I.base.slot b o e n j h;obtain⟨M,B⟩:=slot b _ (L b o e) j (C b o e h) g (I.base.free b o e n h);exact⟨M,B⟩
 .obtain⟨o',g⟩:=I.base.there b o e h;exact f b o' (C b o e h) g (I.base.free b o e n h)
 .obtain⟨o',g⟩:=I.base.there b o e h;exact y b o' (C b o e h) g
 .obtain⟨m,hn,Z⟩:=I.loc;refine⟨m,ns m hn,λi x v g B V=>?_⟩;obtain⟨u,r,l⟩:=Z i x v g B V;refine⟨u,r,?_⟩;rcases l with l|⟨k,c,e,z⟩
  .exact .inl l
  .exact .inr ⟨k,c,e,K x c e _ z⟩
 .obtain⟨v,z⟩:=I.cell x c e;exact⟨v,K x c e v z⟩
 .obtain⟨m,⟨o,_,_,S,_⟩,_⟩:=I.loc;exact f _ o (λz=>(a _ z).2.1 rfl) S I.free
 .obtain⟨v,o,S,D⟩:=I.cell x c e;exact f c o (λz=>(a c z).2.2.1 x c e rfl) S (I.freeC x c e)
 .obtain⟨e,n,R,T,d⟩:=I.pin p Q;have w:p.1 ∉ ch:=λz=>(a p.1 z).2.2.2 p Q rfl;exact⟨t p.1 p.2 R T w e n,f p.1 p.2 w e n,R,T,d⟩
theorem Inv.un{t':Nat}(I:Inv X pins J H s)(u:Un X.fs [] H H' s.heap h')(k:ga X.p X.w H' h'):Inv X pins J H' { s with heap:=h',toks:=t' }:=by
 obtain⟨m,⟨o,es,q,f,r⟩,_⟩:=id I.loc;obtain⟨l,L⟩:=u.any f I.free (by simp);exact I.step (g':=s.gens) (d':=s.drawn) (ch:=[]) (λ_ z=>nomatch z) (λb o _ a _ e n=>u.keep b o e n a (by simp)) (λb o _ a _ e n=>u.slot b o e n a (by simp)) (λb o _ e n=>u.free b o e n (by simp)) (λb o _ e=>u.there b o e (by simp)) u.tups u.frzs u.tbls (λv c=>by obtain⟨o',x,p,h,t⟩:=c;rw[f]at h;cases h;exact⟨_,x,p,L,t⟩) k I.bare
theorem Inv.call{g':Array GenState}{t':Nat}{d':Drawn}{ch:List Addr}(I:Inv X pins J H s)(u:Un (yn X.k) ch H H' s.heap h')(q:ga X.p X.w H' h')(g:AllBare g')
  (a:∀b ∈ ch,(b ∈ X.ex\/X.z.heap.objs.size≤b)/\b≠X.e.locals/\(∀x c,X.e.cells.lookup x=some c->c≠b)/\∀p ∈ X.pn++pins,p.1≠b) :
  Inv X pins J H' { s with heap:=h',gens:=g',drawn:=d',toks:=t' }:=by
 obtain⟨m,⟨o,es,j,v,r⟩,_⟩:=id I.loc;obtain⟨y,L⟩:=u.any v I.free λz=>(a _ z).2.1 rfl;exact I.step (ch:=ch) a (λb o L d h e n=>u.keep b o e n (λz=>(aH.mp (I.stkSub b z)).elim L d) h) (λb o _ _ h e n=>u.any e n h) (λb o h e n=>u.free b o e n h) (λb o h e=>u.there b o e h) u.tups u.frzs u.tbls (λl w=>by obtain⟨o',t,f,k,i⟩:=w;rw[v]at k;cases k;exact⟨_,t,f,L,i⟩) q g
theorem Inv.turned{t':Nat}{i:Addr}(I:Inv X pins J H s)(k:∀b o,b≠i->s.heap.get? b=some o->h'.get? b=some o)(g:H i=none)(L:i≠X.e.locals)
  (h1:i ∈ X.ex\/X.z.heap.objs.size≤i) (h2:∀x c,X.e.cells.lookup x=some c->c≠i) (f:∀p ∈ X.pn++pins,p.1≠i):Inv X pins J H { s with heap:=h',toks:=t' }:=by
 have t:∀b u,H b=some u->b≠i:=λb u e z=>by rw[z,g]at e;cases e
 refine I.step (g':=s.gens) (d':=s.drawn) (ch:=[i]) (λb d=>?_) (λb o _ _ h e _=>k b o (λz=>h (by simp[z])) e) (λb o _ _ h e _=>⟨o.slots,k b o (λz=>h (by simp[z])) e⟩) (λ_ _ _ _ n=>n)
  (λb o h e=>⟨o,k b o (λz=>h (by simp[z])) e⟩) (λ_ _ e=>e) (λ_ _ _ e=>e) (λ_ e=>e) (λm w=>?_) (λb u e=>?_) I.bare
 .have e:b=i:=by simpa using d
  subst e;exact⟨h1,L,h2,f⟩
 .obtain⟨o,es,a,j,r⟩:=w;exact⟨o,es,a,k _ o (aG L) j,r⟩
 .refine (I.h b u e).stay (λc v h q=>k c v ?_ q) (λ_ q=>q) λ_ _ q=>q;rcases h with z|z
  .rw [z];exact t b u e
  .exact t c _ z
theorem Inv.tok(I:Inv X pins J H s)(t:Nat):Inv X pins J H { s with toks:=t }:=I.un (h':=s.heap) (t':=t) Un.refl I.h
theorem Inv.kept{t':Nat}(I:Inv X pins J H s)(k:∀b u,s.heap.get? b=some u->h'.get? b=some u):Inv X pins J H { s with heap:=h',toks:=t' }:=I.un (Un.kept k) (I.h.kept k)
theorem Inv.laid{a:Addr}{o:HO}{t':Nat}(I:Inv X pins J H s)(k:∀b u,s.heap.get? b=some u->h'.get? b=some u)(h:s.heap.objs.size≤a)(n:bX X.p X.w (a7 H a o) h' a o) :
  Inv X pins J (a7 H a o) { s with heap:=h',toks:=t' }:=I.un (Un.laid k h (I.h.fresh h)) (I.h.laid k h n)
theorem Inv.write{x e:Addr}{o:HO}{t:Nat}(I:Inv X pins J H s)(m:Ki (H x))(a:e=x\/H e=some (.own x))(k:∀b u,b≠e->s.heap.get? b=some u->h'.get? b=some u)(h:∃u,h'.get? e=some u)
  (n:bX X.p X.w (a7 H x o) h' x o):Inv X pins J (a7 H x o) { s with heap:=h',toks:=t }:=I.un (Un.write m a k h) (I.h.write m a k h n)
theorem Inv.pins_of(I:Inv X pins J H s)(h:∀p ∈ q,s.heap.get? p.1=some p.2/\H p.1=none/\p.1≠X.e.locals/\p.1 ∉ X.fs/\∀v,p.2.data≠.cell v):Inv X q J H s:=
 ⟨I.o,I.os,I.bare,I.base,I.loc,I.cell,I.free,I.freeC,λp x=>(dJ.mp x).elim (λz=>I.pin p (wr _ z)) (h p),I.h,I.len⟩
theorem rW{N:LS}(s:N.Nodup){i j:Nat}{x:Str}(a:N[i]? = some x)(b:N[j]? = some x):i=j:=by obtain⟨h1,e⟩:=a9.mp a;obtain⟨h2,h⟩:=a9.mp b;exact(List.getElem_inj s).mp (e.trans h.symm)
theorem kB{M:Model}{A:Around}{E:VP}{i:Nat}{x:Str}{v:V}{u:Value}{Q:Unit->Shared->Prop}(I:Inv X pins J H s)(hN:X.N.Nodup)(hi:X.N[i]? = some x)(l:Loc X.e.scope x)(r:RelV v u)
  (h:∀s',Inv X pins (J.set i (some v)) H s'->(∃a,cq a s.heap s'.heap/\(a=X.e.locals\/X.e.cells.lookup x=some a))->Q () s') (hf:X.fn x=true\/X.e.scope.names.lookup x=some .local:=by first|exact .inl rfl|exact .inr rfl|assumption):wpAny M A (storeName X.e x u) Q E s:=by
 obtain⟨m,hn,hl⟩:=id I.loc;have L:(X.e.scope.kind == .class ||(X.e.scope.kind == .module && X.e.locals != X.e.globals))=false:=by rw[I.o.kind];rfl
 have N:i < J.length:=by rw[I.len];exact(a9.mp hi).1
 have K:=I.cne;have w:∀{a:Addr}{h':Heap},(∃o,s.heap.get? a=some o/\H a=none)->cq a s.heap h'->ga X.p X.w H h':=λ{a h'} ha f b ob e=>by
  obtain⟨_,_,S⟩:=ha;refine(I.h b ob e).stay (λc w' g q=>(f.2 c ?_).trans q) (λ_ q=>q) λ_ _ q=>q;rintro rfl;rcases g with rfl|g
  .rw [S]at e;cases e
  .rw [S]at g;cases g
 rcases l with hk|hk
 .refine wpAny_storeName_local hk hn (λh' hn' f=>?_) L;obtain⟨oL,_,_,hoL,_⟩:=id hn;refine h _ ⟨I.o,I.os,I.bare,⟨λb o e n P l=>?_,λb o e n P l=>?_,I.base.free,λb o e l=>?_,I.base.tups,I.base.frzs,I.base.tbls⟩,⟨_,hn',λj y v' t F e3=>?_⟩,λy c e=>?_,I.free,I.freeC,λp hp=>?_,w ⟨oL,hoL,I.free⟩ f,by simpa using I.len⟩ ⟨_,f,.inl rfl⟩
  .exact (f.2 b (aL (a_ (ar e) I.o.above))).trans (I.base.keep b o e n P l)
  .obtain⟨sl,t⟩:=I.base.slot b o e n P l;exact⟨sl,(f.2 b (aL (a_ (ar e) I.o.above))).trans t⟩
  .obtain⟨o',t⟩:=I.base.there b o e l;exact⟨o',(f.2 b (aL (a_ (ar e) I.o.above))).trans t⟩
  .by_cases C:j=i
   .subst C;rw[hi]at t;cases t;rw[cy N]at F;cases F;exact⟨u,r,.inl ⟨hk,by simp⟩⟩
   .rw [bG (aG C)]at F;obtain⟨u',r',q⟩:=hl j y v' t F e3;refine⟨u',r',?_⟩;rcases q with ⟨k,e⟩|⟨k,c,e,z⟩
    .refine .inl ⟨k,?_⟩;have:y≠x:=λe=>C (rW hN t (e ▸ hi));simp[this,e]
    .exact .inr ⟨k,c,e,z.sameBut f (K y c e)⟩
  .obtain⟨w',z⟩:=I.cell y c e;exact⟨w',z.sameBut f (K y c e)⟩
  .obtain⟨e,n,Z,nf,d⟩:=I.pin p hp;exact⟨(f.2 p.1 Z).trans e,n,Z,nf,d⟩
 .have B:X.fn x=true:=by
   rcases hf with z|z
   .exact z
   .rw [z]at hk;cases hk
  obtain⟨c,g⟩:=I.o.has x (.inl hk);obtain⟨w',z⟩:=I.cell x c g;refine wpAny_storeName_cell I.o.kind hk g z (λh' D f=>?_);obtain⟨oc,R,T⟩:=id z;refine h { s with heap:=h' } ⟨I.o,I.os,I.bare,⟨λb o e n P l=>?_,λb o e n P l=>?_,I.base.free,λb o e l=>?_,I.base.tups,I.base.frzs,I.base.tbls⟩,⟨m,hn.sameBut f (aG (K x c g)),λj y v' t F e3=>?_⟩,λy W e=>?_,I.free,I.freeC,λp hp=>?_,w ⟨oc,R,I.freeC x c g⟩ f,by simpa using I.len⟩ ⟨c,f,.inr g⟩
  .exact (f.2 b (aL (a_ (ar e) (I.o.cab x c B g)))).trans (I.base.keep b o e n P l)
  .obtain⟨sl,t⟩:=I.base.slot b o e n P l;exact⟨sl,(f.2 b (aL (a_ (ar e) (I.o.cab x c B g)))).trans t⟩
  .obtain⟨o',t⟩:=I.base.there b o e l;exact⟨o',(f.2 b (aL (a_ (ar e) (I.o.cab x c B g)))).trans t⟩
  .by_cases C:j=i
   .subst C;rw[hi]at t;cases t;rw[cy N]at F;cases F;exact⟨u,r,.inr ⟨.inl hk,c,g,D⟩⟩
   .rw [bG (aG C)]at F;obtain⟨u',r',q⟩:=hl j y v' t F e3;refine⟨u',r',?_⟩;rcases q with q|⟨k,W,e,z'⟩
    .exact .inl q
    .refine .inr ⟨k,W,e,z'.sameBut f ?_⟩;rintro rfl;exact C (rW hN t (I.o.inj _ _ _ e g ▸ hi))
  .by_cases G:W=c
   .subst G;exact⟨_,D⟩
   .obtain⟨w2,z2⟩:=I.cell y W e;exact⟨w2,z2.sameBut f G⟩
  .obtain⟨e,n,Z,nf,d⟩:=I.pin p hp;refine⟨(f.2 p.1 ?_).trans e,n,Z,nf,d⟩;intro q;rw[q,R]at e;have q':oc=p.2:=cO e;exact d w' (by rw[<- q'];exact T)
theorem mN(I:Inv X pins J H s)(N:X.N.Nodup)(hi:X.N[i]? = some x)(e:Loc X.e.scope x)(r:RelV v u)
  (h:∀s',Inv X pins (J.set i (some v)) H s'->Q () s') (f:X.fn x=true\/X.e.scope.names.lookup x=some .local:=by first|exact .inl rfl|exact .inr rfl|assumption):wpAny M A (storeName X.e x u) Q E s:=
 kB I N hi e r (λs' a _=>h s' a) f
theorem Inv.call'(I:Inv X pins J H s)(n:s'.os=s.os)(u:Un (yn X.k) q H H' s.heap s'.heap)(o:ga X.p X.w H' s'.heap)(a:AllBare s'.gens)
  (h:∀b ∈ q,(b ∈ X.ex\/X.z.heap.objs.size≤b)/\b≠X.e.locals/\(∀x c,X.e.cells.lookup x=some c->c≠b)/\∀p ∈ X.pn++pins,p.1≠b):Inv X pins J H' s':=by
 obtain⟨h',g,d,t,o'⟩:=s';have e:o'=s.os:=n;subst e;exact I.call (g':=g) (t':=t) (d':=d) u o a h
end
noncomputable abbrev XK:=Value->Option Addr->Hp->Prop
noncomputable abbrev St:=List (Option V)
noncomputable abbrev VK:=V->Hp->Prop
noncomputable abbrev TE:=St->Hp->VK->Prop
noncomputable abbrev TT:=St->Hp->(Bool->Hp->Prop)->Prop
noncomputable abbrev TA:=St->Hp->(List V->Hp->Prop)->Prop
structure Ends where
 nx:St->Hp->Prop
 rt:VK
 bk:St->Hp->Prop:=λ_ _=>False
 ct:St->Hp->Prop:=λ_ _=>False
noncomputable abbrev TS:=Ends->St->Hp->Prop
def EP(X:Cx)(pins:PN)(J:St)(Q:VK)(u:Value)(s':Shared):Prop:=∃v H',Inv X pins J H' s'/\RelV v u/\Q v H'
def TP(X:Cx)(pins:PN)(J:St)(Q:Bool->Hp->Prop)(b:Bool)(s':Shared):Prop:=∃H',Inv X pins J H' s'/\Q b H'
def AP(X:Cx)(pins:PN)(J:St)(Q:List V->Hp->Prop)(G:LV)(s':Shared):Prop:=∃v H',Inv X pins J H' s'/\aM v G/\Q v H'
def SP(X:Cx)(pins:PN)(D:Ends)(f:Flow)(s':Shared):Prop:=
 match f with
 | .next=>∃h H',Inv X pins h H' s'/\D.nx h H'
 | .brk=>∃h H',Inv X pins h H' s'/\D.bk h H'
 | .cont=>∃h H',Inv X pins h H' s'/\D.ct h H'
 | .ret u=>∃v h H',Inv X pins h H' s'/\RelV v u/\D.rt v H'
def Y(X:Cx)(e:Expr)(t:TE):Prop:=
 ∀(pins:PN)(s:Shared)(J:St)(H:Hp)(Q:VK),Inv X pins J H s->t J H Q->wpAny (model X.p X.w) X.A (eval e X.e) (EP X pins J Q) X.xe s
def PT(X:Cx)(e:Expr)(t:TT):Prop:=
 ∀(pins:PN)(s:Shared)(J:St)(H:Hp)(Q:Bool->Hp->Prop),Inv X pins J H s->t J H Q->wpAny (model X.p X.w) X.A (isTrue e X.e (eval e X.e)) (TP X pins J Q) X.xe s
def PW(X:Cx)(e:Expr)(t:TT):Prop:=
 ∀(w:Sem Value)(pins:PN)(s:Shared)(J:St)(H:Hp)(Q:Bool->Hp->Prop),Inv X pins J H s->t J H Q->wpAny (model X.p X.w) X.A (isTrue e X.e w) (TP X pins J Q) X.xe s
variable{X:Cx}{e:Expr}
theorem PW.pt(h:PW X e t):PT X e t:=h _
def PA(X:Cx)(es:Ab)(t:TA):Prop:=
 ∀(B:Pos)(pins:PN)(s:Shared)(J:St)(H:Hp)(Q:List V->Hp->Prop),Inv X pins J H s->t J H Q->wpAny (model X.p X.w) X.A (spliced (backTo B (starEach es X.e))) (AP X pins J Q) X.xe s
def PS(X:Cx)(st:Stmt)(t:TS):Prop:=
 ∀(pins:PN)(s:Shared)(J:St)(H:Hp)(D:Ends),Inv X pins J H s->t D J H->wpAny (model X.p X.w) X.A (exec st X.e) (SP X pins D) X.xe s
def kT(X:Cx)(st:List Stmt)(t:TS):Prop:=
 ∀(pins:PN)(s:Shared)(J:St)(H:Hp)(D:Ends),Inv X pins J H s->t D J H->wpAny (model X.p X.w) X.A (execs st X.e) (SP X pins D) X.xe s
variable{M:Model}{A:Around}{E:VP}{s:Shared}
theorem bB(h:wpAny M A t Q E s)(e:∀a s,Q a s->q a s):wpAny M A t q E s:=bv h e λ_ _ x=>x
section
variable{X:Cx}
noncomputable def LD(i:Nat):TE:=λJ H Q=>∃v,J[i]? = some (some v)/\Q v H
noncomputable def tC(v:V):TE:=λ_ H Q=>Q v H
theorem F6(N:X.N[i]? = some x)(p:Ee X.e.scope x)(n:(x == ("__debug__":Str))=false:=by decide)(d:(x == ("__classdict__":Str))=false:=by decide):Y X (.Name x B) (LD i):=by
 intro pins s J H Q I h;obtain⟨v,e,h⟩:=h;obtain⟨m,t,f⟩:=I.loc;obtain⟨u,r,l⟩:=f i x v N e p;have ew:EP X pins J Q u s:=⟨v,H,I,r,h⟩;rcases l with ⟨hk,b⟩|⟨hk,c,k,a⟩
 .exact mj (tM I.o.kind hk t b ew) n
 .rcases hk with hk|hk
  .exact mj (w1 I.o.kind hk k a ew) n
  .exact mj (w4 I.o.kind hk k a ew d) n
theorem Ga {i q B}:Y X (.Constant (.int i) q B) (tC (.int i)):=λ_ _ _ H _ I h=>wpAny_Constant_int ⟨.int i,H,I.tok _,⟨_,rfl⟩,h⟩
theorem IZ {b q B}:Y X (.Constant (.bool b) q B) (tC (.bl b)):=λ_ _ _ H _ I h=>Constant_bool ⟨.bl b,H,I,rfl,h⟩
theorem F_ {q B}:Y X (.Constant .none q B) (tC .non):=λ_ _ _ H _ I h=>Constant_none ⟨.non,H,I,rfl,h⟩
theorem F7 {x q B}:Y X (.Constant (.str x) q B) (tC (.str x)):=λ_ _ _ H _ I h=>Calls.Constant_str ⟨.str x,H,I.tok _,⟨_,rfl⟩,h⟩
def Gl(X:Cx)(x:Str):Prop:=X.e.kindOf x=some .globalImplicit
theorem l0(I:Inv X pins J H s)(g:Gl X x)(m:X.g x=some u)(h:Q u s)
  (d:(x == ("__debug__":Str))=false:=by decide):wpAny (model X.p X.w) X.A (eval (.Name x B) X.e) Q E s:=
 pB I.o.kind g (vZ (by rw[I.o.glob];exact I.mod.glob.keeps I.bk) m h) d
theorem gO(I:Inv X pins J H s)(g:Gl X x)(m:X.g x=none)(v:bootBuiltins x=some u)(h:Q u s)
  (n:x≠"__name__":=by decide) (d:(x == ("__debug__":Str))=false:=by decide):wpAny (model X.p X.w) X.A (eval (.Name x B) X.e) Q E s:=by
 obtain⟨b,h1,h2⟩:=I.mod.blt;exact pB I.o.kind g (Calls.loadGlobal_builtin (by rw[I.o.glob];exact I.mod.glob.keeps I.bk) m (by rw[I.o.blt];exact h1.keeps I.bk) ((h2 x n).trans v) h) d
theorem Do(g:Gl X x)(m:X.g x=some u)(r:RelV v u)(d:(x == ("__debug__":Str))=false:=by decide):Y X (.Name x B) (tC v):=
 λ_ _ _ H _ I h=>l0 I g m ⟨v,H,I,r,h⟩ d
variable{a b:Expr}{ta tb:TE}{B:Pos}
variable{tA tB':TT}{rest:Ab}
noncomputable def LU(t u:TT):TT:=λJ H Q=>t J H λc H1=>if c=true then u J H1 Q else Q false H1
noncomputable def Nu(t u:TT):TT:=λJ H Q=>t J H λc H1=>if c=true then Q true H1 else u J H1 Q
noncomputable def LJ(t:TT):TT:=λJ H Q=>t J H λc H1=>Q (!c) H1
theorem C_(x:PT X a tA):PW X (.BoolOp .And [a] B) tA:=by
 intro w pins s J H Q I h;refine isTrue_and (bB (x pins s J H Q I h) λc n e=>?_);cases c with
 |true=>exact isTrue_and_nil e
 |false=>exact e
theorem FO(x:PT X a tA):PW X (.BoolOp .Or [a] B) tA:=by
 intro w pins s J H Q I h;refine isTrue_or (bB (x pins s J H Q I h) λc n e=>?_);cases c with
 |false=>exact isTrue_or_nil e
 |true=>exact e
theorem FP(e:PT X a tA)(n:PW X (.BoolOp .And (b::rest) B) tB'):PW X (.BoolOp .And (a::b::rest) B) (LU tA tB'):=by
 intro w pins s J H Q I h;refine isTrue_and (bB (e pins s J H _ I h) λc k z=>?_);obtain⟨H1,x,q⟩:=z;cases c with
 |true=>exact n w pins k J H1 Q x q
 |false=>exact⟨H1,x,q⟩
theorem IT(e:PT X a tA)(n:PW X (.BoolOp .Or (b::rest) B) tB'):PW X (.BoolOp .Or (a::b::rest) B) (Nu tA tB'):=by
 intro w pins s J H Q I h;refine isTrue_or (bB (e pins s J H _ I h) λc k z=>?_);obtain⟨H1,x,q⟩:=z;cases c with
 |true=>exact⟨H1,x,q⟩
 |false=>exact n w pins k J H1 Q x q
theorem FS(x:PT X a tA):PT X (.UnaryOp .Not a B) (LJ tA):=by intro pins s J H Q I h;exact isTrue_not (x pins s J H (λc H1=>Q (!c) H1) I h)
noncomputable def IH(ta tb:TE):TE:=λJ H Q=>ta J H λx H1=>∃c,x=.bl c/\if c=true then tb J H1 Q else Q (.bl false) H1
noncomputable def LI(ta tb:TE):TE:=λJ H Q=>ta J H λx H1=>∃c,x=.bl c/\if c=true then Q (.bl true) H1 else tb J H1 Q
noncomputable def Iy(ta:TE):TE:=λJ H Q=>ta J H λx H1=>∃c,x=.bl c/\Q (.bl (!c)) H1
theorem Ae {q} (h:Y X a t):Y X (.BoolOp q [a] B) t:=λpins s J H Q I w=>BoolOp_one (h pins s J H Q I w)
theorem Gd(n:Y X a ta)(k:Y X (.BoolOp .And (b::rest) B) tb):Y X (.BoolOp .And (a::b::rest) B) (IH ta tb):=by
 intro pins s J H Q I h;refine BoolOp_and (bB (n pins s J H _ I h) λv f z=>?_);obtain⟨x,H1,e,r,q⟩:=z;obtain⟨c,rfl,q⟩:=q;cases r;refine ii ?_;cases c with
 |true=>exact k pins f J H1 Q e q
 |false=>exact⟨.bl false,H1,e,rfl,q⟩
theorem IY(n:Y X a ta)(k:Y X (.BoolOp .Or (b::rest) B) tb):Y X (.BoolOp .Or (a::b::rest) B) (LI ta tb):=by
 intro pins s J H Q I h;refine BoolOp_or (bB (n pins s J H _ I h) λv f z=>?_);obtain⟨x,H1,e,r,q⟩:=z;obtain⟨c,rfl,q⟩:=q;cases r;refine ii ?_;cases c with
 |false=>exact k pins f J H1 Q e q
 |true=>exact⟨.bl true,H1,e,rfl,q⟩
theorem F9(n:Y X a ta):Y X (.UnaryOp .Not a B) (Iy ta):=by intro pins s J H Q I h;refine pj (bB (n pins s J H _ I h) λv k z=>?_);obtain⟨x,H1,e,r,q⟩:=z;obtain⟨c,rfl,q⟩:=q;cases r;exact not_of (ii ⟨.bl (!c),H1,e,rfl,q⟩)
noncomputable def Nv(t:TT)(ta tb:TE):TE:=λJ H Q=>t J H λc H1=>if c=true then ta J H1 Q else tb J H1 Q
theorem rO(f:PT X c tA)(n:Y X a ta)(k:Y X b tb):Y X (.IfExp c a b B) (Nv tA ta tb):=by
 intro pins s J H Q I h;refine wpAny_IfExp (bB (f pins s J H _ I h) λd e z=>?_);obtain⟨H1,x,q⟩:=z;cases d with
 |true=>exact n pins e J H1 Q x q
 |false=>exact k pins e J H1 Q x q
end
def dw(K:FG)(H:Hp)(a:Addr)(xs:List V):Prop:=
 Rd H a (.lst xs) \/
  ∃(o:Obj)(i:Array Value)(n:Nat),K.lookup a=some o/\o.cls=.type "list"/\o.dict=none/\o.data=.seq i n/\i.size≤sizeLine/\aM xs i.toList
def kg(K:FG)(H:Hp)(a:Addr)(xs:List V):Prop:=
 Rd H a (.tup xs) \/
  ∃(o:Obj)(i:Array Value)(n:Nat),K.lookup a=some o/\o.cls=.type "tuple"/\o.dict=none/\o.data=.seq i n/\i.size≤sizeLine/\aM xs i.toList
noncomputable def MB:Value->Option V
 | .none=>some .non
 | .bool b=>some (.bl b)
 | .int i _=>some (.int i)
 | .str x _=>some (.str x)
 | .bytes b _=>some (.byt b)
 | .float b _=>some (.flt b)
 | .ref a=>some (.ref a)
 | .type n=>some (.ty n)
 |_=>none
theorem RelV.abs(r:RelV x u):MB u=some x:=by
 cases x with
 |non=>cases r;rfl
 |bl _=>cases r;rfl
 |int _=>obtain⟨t,rfl⟩:=r;rfl
 |str _=>obtain⟨t,rfl⟩:=r;rfl
 |byt _=>obtain⟨t,rfl⟩:=r;rfl
 |flt _=>obtain⟨t,rfl⟩:=r;rfl
 |ref _=>cases r;rfl
 |ty _=>cases r;rfl
variable{y:V}
theorem RelV.inj(r:RelV x u)(q:RelV y u):x=y:=cO (r.abs.symm.trans q.abs)
theorem aM.inj:∀{xs ys:List V}{G:LV},aM xs G->aM ys G->xs=ys
 |_,_,_,.nil,.nil=>rfl
 |_,_,_,.cons r t,.cons h x=>by rw[r.inj h,aM.inj t x]
section
variable{X:Cx}{pins:PN}{J:St}{H:Hp}{s:Shared}{a:Addr}{xs ys:List V}
theorem dw.of{K:FG}(h:H a=some (.lst xs)):dw K H a xs:=.inl (.inl h)
theorem Inv.list(I:Inv X pins J H s)(h:dw X.K H a xs):∃i:LV,aM xs i/\PlainL s.heap a i.toArray/\xs.length≤sizeLine:=by
 rcases h with h|⟨o,i,n,hk,c,d,x,k,r⟩
 .obtain⟨z,i,n,r,e⟩:=h.ok I.h;exact⟨i,r,⟨_,n,e,rfl,rfl,rfl⟩,z⟩
 .refine⟨i.toList,r,⟨o,n,I.kIn a o hk,c,d,by simpa using x⟩,?_⟩;have e:=r.length;simp only[lY]at e;lia
theorem Inv.tuple(I:Inv X pins J H s)(h:kg X.K H a xs):∃i:LV,aM xs i/\IsTup s.heap a i.toArray/\xs.length≤sizeLine:=by
 rcases h with h|⟨o,i,n,hk,c,_,x,k,r⟩
 .obtain⟨z,i,r,p⟩:=h.ok I.h;exact⟨i,r,p.tup,z⟩
 .refine⟨i.toList,r,⟨o,I.kIn a o hk,c,n,by simpa using x⟩,?_⟩;have e:=r.length;simp only[lY]at e;lia
theorem Inv.tupleN(I:Inv X pins J H s)(h:kg X.K H a xs):∃its:LV,aM xs its/\kR s.heap a its.toArray:=by
 rcases h with q|⟨ob,vs,m,e1,e2,e3,e4,_,rv⟩
 .exact⟨_,(q.ok I.h).2.choose_spec⟩
 .exact⟨vs.toList,rv,ob,I.kIn a ob e1,⟨e2,m,by simpa using e4⟩,e3⟩
theorem Inv.list_inj(I:Inv X pins J H s)(h:dw X.K H a xs)(h':dw X.K H a ys):xs=ys:=by
 obtain⟨t,r,⟨o,n,e,_,_,d⟩,_⟩:=I.list h;obtain⟨i,b,⟨o',c,k,_,_,x⟩,_⟩:=I.list h';rw[e]at k;cases k;rw[d]at x;injection x with f _;have:t=i:=by simpa using bR pY f
 subst this;exact r.inj b
theorem Inv.tuple_inj(I:Inv X pins J H s)(h:kg X.K H a xs)(h':kg X.K H a ys):xs=ys:=by
 obtain⟨t,r,⟨o,e,_,n,d⟩,_⟩:=I.tuple h;obtain⟨i,b,⟨o',k,_,c,x⟩,_⟩:=I.tuple h';rw[e]at k;cases k;rw[d]at x;injection x with f _;have:t=i:=by simpa using bR pY f
 subst this;exact r.inj b
end
noncomputable abbrev Cx.wish(X:Cx)(E:VP):Cx:={ X with xe:=E }
abbrev Cx.nox(X:Cx):Cx:=X.wish λ_ _=>False
theorem Cx.Ok.wish(ok:X.Ok)(E:VP):(X.wish E).Ok:=
 ⟨ok.mod,ok.kind,ok.glob,ok.blt,ok.above,ok.inj,ok.has,ok.cab,ok.hd,ok.frames,ok.stk,ok.exf,ok.bs,ok.bsz,ok.noex,ok.exfs,ok.funs,ok.frf,ok.tab⟩
theorem Cx.Ok.unwish(ok:(X.wish E).Ok):X.Ok:=
 ⟨ok.mod,ok.kind,ok.glob,ok.blt,ok.above,ok.inj,ok.has,ok.cab,ok.hd,ok.frames,ok.stk,ok.exf,ok.bs,ok.bsz,ok.noex,ok.exfs,ok.funs,ok.frf,ok.tab⟩
section
variable{X:Cx}{pins:PN}{J:St}{H:Hp}{s:Shared}{E:VP}
theorem Inv.wish(I:Inv X pins J H s)(E:VP):Inv (X.wish E) pins J H s:=⟨I.o.wish E,I.os,I.bare,I.base,I.loc,I.cell,I.free,I.freeC,I.pin,I.h,I.len⟩
theorem Inv.unwish(I:Inv (X.wish E) pins J H s):Inv X pins J H s:=⟨I.o.unwish,I.os,I.bare,I.base,I.loc,I.cell,I.free,I.freeC,I.pin,I.h,I.len⟩
set_option tactic.hygienic true in
theorem SP.unwish(h:SP (X.wish E) pins D f s'):SP X pins D f s':=by
 cases f with
 |next=>obtain⟨x,H',I,q⟩:=h;exact⟨x,H',I.unwish,q⟩
 |brk=>obtain⟨x,H',I,q⟩:=h;exact⟨x,H',I.unwish,q⟩
 |cont=>obtain⟨x,H',I,q⟩:=h;exact⟨x,H',I.unwish,q⟩
 |ret u=>obtain⟨v,x,H',I,r,q⟩:=h;exact⟨v,x,H',I.unwish,r,q⟩
theorem kT.nox{st:List Stmt}{t:TS}(h:kT X.nox st t):kT X st t:=λpins s J H D I w=>
 bv (h pins s J H D (I.wish _) w) (λ_ _ q=>q.unwish) λ_ _ z=>False.elim z
end
section
variable{X:Cx}{st:Stmt}{rest:List Stmt}{t u:TS}{e:Expr}{te:TE}{B:Pos}
noncomputable def IA:TS:=λD J H=>D.nx J H
noncomputable def LG(t u:TS):TS:=λD J H=>t { D with nx:=u D } J H
theorem Dc:kT X [] IA:=λ_ _ J H _ I h=>o4 ⟨J,H,I,h⟩
set_option tactic.hygienic true in
theorem z6(h1:PS X st t)(h2:kT X rest u):kT X (st::rest) (LG t u):=by
 intro pins s J H D I h;refine wP (bB (h1 pins s J H { D with nx:=u D } I h) λf e q=>?_);cases f with
 |next=>obtain⟨a,H',x,q⟩:=q;exact h2 pins e a H' D x q
 |ret v=>exact q
 |brk=>exact q
 |cont=>exact q
set_option tactic.hygienic true in
theorem Db(h1:PS X st t):kT X [st] t:=by
 intro pins s J H D I h;refine wP (bB (h1 pins s J H D I h) λf x q=>?_);cases f with
 |next=>exact o4 q
 |ret v=>exact q
 |brk=>exact q
 |cont=>exact q
noncomputable def Fw:TS:=λD J H=>D.bk J H
noncomputable def ID:TS:=λD J H=>D.ct J H
theorem z9:PS X (.Break B) Fw:=λ_ _ J H _ I h=>wpAny_Break ⟨J,H,I,h⟩
theorem rL:PS X (.Continue B) ID:=λ_ _ J H _ I h=>wpAny_Continue ⟨J,H,I,h⟩
theorem Inv.quiet(I:Inv X pins J H s):interactive X.e=false:=by simp[interactive,I.o.kind]
noncomputable def IC(te:TE):TS:=λD J H=>te J H λ_ H1=>D.nx J H1
theorem De(n:Y X e te)(k:swapsWith e none B.line X.e=pure false:=by rfl):PS X (.Expr e B) (IC te):=by intro pins s J H D I h;exact wpAny_Expr_any (bB (n pins s J H _ I h) λv f z=>by obtain⟨x,H1,a,r,q⟩:=z;exact⟨J,H1,a,q⟩) I.quiet k
noncomputable def LH(te:TE):TS:=λD J H=>te J H D.rt
theorem FU(n:Y X e te):PS X (.Return (some e) B) (LH te):=by intro pins s J H D I h;exact wpAny_Return_some (bB (n pins s J H _ I h) λv k z=>by obtain⟨x,H1,a,r,q⟩:=z;exact⟨x,J,H1,a,r,q⟩)
noncomputable def LM(c:TT)(t u:TS):TS:=λD J H=>c J H λb H1=>if b=true then t D J H1 else u D J H1
theorem IW{c:Expr}{a b:List Stmt}{tc:TT}(f:PT X c tc)(n:kT X a t)(k:kT X b u):PS X (.If c a b B) (LM tc t u):=by
 intro pins s J H D I h;refine wpAny_If (bB (f pins s J H _ I h) λd e z=>?_);obtain⟨H1,x,q⟩:=z;cases d with
 |true=>exact n pins e J H1 D x q
 |false=>exact k pins e J H1 D x q
noncomputable def zH:TS:=λ_ _ _=>False
theorem z8:PS X st zH:=λ_ _ _ _ _ _ h=>h.elim
theorem x4:kT X q zH:=λ_ _ _ _ _ _ h=>h.elim
end
noncomputable abbrev TG:=V->St->Hp->(St->Hp->Prop)->Prop
noncomputable abbrev Hh:=List V->St->Hp->(St->Hp->Prop)->Prop
def PG(X:Cx)(a:Expr)(t:TG):Prop:=
 ∀(pins:PN)(s:Shared)(J:St)(H:Hp)(v:V)(u:Value)(Q:St->Hp->Prop),Inv X pins J H s->RelV v u->t v J H Q ->
  wpAny (model X.p X.w) X.A (assign a X.e u) (λ_ s'=>∃h H',Inv X pins h H' s'/\Q h H') X.xe s
def Kh(X:Cx)(x:Ab)(t:Hh):Prop:=
 ∀(pins:PN)(s:Shared)(J:St)(H:Hp)(v:List V)(G:LV)(Q:St->Hp->Prop),Inv X pins J H s->aM v G->t v J H Q ->
  wpAny (model X.p X.w) X.A (assignInOrder ((assignEach x X.e).map (·.2)) G) (λ_ s'=>∃h H',Inv X pins h H' s'/\Q h H') X.xe s
noncomputable abbrev Hg:=V->V->V->Hp->(Hp->Prop)->Prop
def Kf(X:Cx)(t:Hg):Prop:=
 ∀(pins:PN)(s:Shared)(J:St)(H:Hp)(o i v:V)(x h u:Value)(Q:Hp->Prop),Inv X pins J H s->RelV o x->RelV i h->RelV v u->t o i v H Q ->
  wpAny (model X.p X.w) X.A (setItem x h u) (λ_ s'=>∃H',Inv X pins J H' s'/\Q H') X.xe s
noncomputable abbrev ME:=V->V->Hp->VK->Prop
def M'(X:Cx)(o:Operator)(t:ME):Prop:=
 ∀(pins:PN)(s:Shared)(J:St)(H:Hp)(x y:V)(v u:Value)(Q:VK),Inv X pins J H s->RelV x v->RelV y u->t x y H Q ->
  wpAny (model X.p X.w) X.A (inplaceOp o v u) (EP X pins J Q) X.xe s
section
variable{X:Cx}{B:Pos}
noncomputable def Ez(i:Nat):TG:=λv J H Q=>Q (J.set i (some v)) H
theorem Dm(N:X.N.Nodup)(hi:X.N[i]? = some x)(e:Loc X.e.scope x)(f:X.fn x=true\/X.e.scope.names.lookup x=some .local:=by first|exact .inl rfl|exact .inr rfl|assumption):PG X (.Name x B) (Ez i):=by intro pins s J H v u Q I r h;exact tL (mN I N hi e r (λs' a=>⟨_,H,a,h⟩) f)
noncomputable def Mq:Hh:=λv J H Q=>v=[]/\Q J H
noncomputable def JJ(t:TG)(u:Hh):Hh:=λs J H Q=>∃v r,s=v::r/\t v J H λh H'=>u r h H' Q
theorem Dl:Kh X [] Mq:=by intro pins s J H v G Q I r h;obtain⟨e,h⟩:=h;subst e;cases r;exact assignInOrder_nil ⟨J,H,I,h⟩
theorem Ad{e:Expr}{es:Ab}{t:TG}{u:Hh}(h1:PG X e t)(h2:Kh X es u)
  (k:(assignEach (e::es) X.e).map (·.2)=assign e X.e::(assignEach es X.e).map (·.2):=by rfl):Kh X (e::es) (JJ t u):=by
 intro pins s J H m G Q I r h;obtain⟨v,c,n,h⟩:=h;subst n;cases r with
 |cons r f=>rw[k];refine assignInOrder_cons (bB (h1 pins s J H _ _ _ I r h) λ_ b z=>?_);obtain⟨a,H1,x,q⟩:=z;exact h2 pins b a H1 _ _ Q x f q
noncomputable def Mo(K:FG)(n:Nat)(t:Hh):TG:=λv J H Q=>∃a xs,v=.ref a/\kg K H a xs/\xs.length=n/\t xs J H Q
theorem F0(p:X.c=true)(h:Kh X es t)
  (q:(assignEach es X.e).length=n:=by rfl) (x:(assignEach es X.e).findIdx? (·.1)=none:=by rfl):PG X (.Tuple es k B) (Mo X.K n t):=by
 intro pins s J H v u Q I r w;obtain⟨a,xs,m,d,l,w⟩:=w;subst m;cases r;obtain⟨j,f,g,z⟩:=I.tuple d;refine assign_Tuple_tuple (I.o.hd p) g (by simp[q,<- l,f.length]) x λh' i=>?_
 have c:Inv X pins J H { s with heap:=h' }:=I.kept (t':=s.toks) λb o e=>i b o (aL (ar e)) e;exact h pins _ J H xs _ Q c (by simpa using f) w
noncomputable def Mp(to x:TE)(t:Hg):TG:=λv J H Q=>to J H λo H1=>x J H1 λi H2=>t o i v H2 λh=>Q J h
theorem F5{o i:Expr}{to a:TE}{t:Hg}(c:Y X o to)(hi:Y X i a)(m:Kf X t)
  (b:∀v,assign (.Subscript o i B) X.e v=(do
   let q <- holding [v] (eval o X.e)
   let N <- holding [v,q] (eval i X.e)
   standAt B
   holding [v,q,N] (setItem q N v)
   release [v,q,N] []):=by intro _;rfl):PG X (.Subscript o i B) (Mp to a t):=by
 intro pins s J H v u Q I r h;rw[b];refine ac (cZ (bB (c pins s J H _ I h) λq l z=>?_));obtain⟨x,H1,n,g,p⟩:=z;refine ac (cZ (bB (hi pins l J H1 _ n p) λN S z=>?_));obtain⟨y,H2,k,j,d⟩:=z;refine ac (o0 (ac (cZ (bB (m pins S J H2 x y v q N u _ k g j r d) λ_ F z=>?_))));obtain⟨e,f,w⟩:=z;exact wpAny_release ⟨J,e,f,w⟩
noncomputable def IG(te:TE)(g:TG):TS:=λD J H=>te J H λx H1=>g x J H1 D.nx
theorem z_{tg e:Expr}{te:TE}{g:TG}(n:Y X e te)(k:PG X tg g)(f:swapsWithSole [tg] e B.line X.e=pure false:=by rfl)(w:swappedStores [tg] e X.e=pure none:=by rfl)
  (h1:(assignEach [tg] X.e).map (·.2)=[assign tg X.e]:=by rfl):PS X (.Assign [tg] e B) (IG te g):=by
 intro pins s J H D I h;refine wpAny_Assign_stores (bB (n pins s J H _ I h) λv c z=>?_) f w;obtain⟨x,H1,a,r,b⟩:=z;rw[h1];exact bB (k pins c J H1 x v _ a r b) λ_ m q=>q
theorem FT(N:X.N.Nodup)(hi:X.N[i]? = some x)(c:Loc X.e.scope x)(k:Y X e te)(b:swapsWith e (some (.Name x pos')) B.line X.e=pure false:=by rfl)(f:X.fn x=true\/X.e.scope.names.lookup x=some .local:=by first|exact .inl rfl|exact .inr rfl|assumption) :
  PS X (.Assign [.Name x pos'] e B) (IG te (Ez i)):=by
 intro pins s J H D I h;refine wpAny_Assign_Name (bB (k pins s J H _ I h) λv m z=>?_) b;obtain⟨y,H1,a,r,q⟩:=z;exact mN a N hi c r (λt n=>⟨_,H1,n,q⟩) f
noncomputable def LR(i:Nat)(te:TE)(t:ME):TS:=λD J H=>∃x,J[i]? = some (some x)/\te J H λy H1=>t x y H1 λz H2=>D.nx (J.set i (some z)) H2
set_option tactic.hygienic true in
theorem FX(N:X.N.Nodup)(hi:X.N[i]? = some x)(b:Loc X.e.scope x)(K:Y X e te)(G:M' X q ti)(P:X.fn x=true\/X.e.scope.names.lookup x=some .local:=by first|exact .inl rfl|exact .inr rfl|assumption) :
  PS X (.AugAssign (.Name x pos') q e B) (LR i te ti):=by
 intro pins s J H D I h;obtain⟨v,S,h⟩:=h;obtain⟨m,E,A⟩:=I.loc;have p:Ee X.e.scope x:=by rcases b with k|k;exact .inl k;exact .inr (.inl k)
 obtain⟨u,r,l⟩:=A i x v hi S p;refine wpAny_AugAssign_Name ?_;have g:wpAny (model X.p X.w) X.A (eval e X.e) (λw n=>wpAny (model X.p X.w) X.A (inplaceOp q u w) (λr f=>wpAny (model X.p X.w) X.A (storeName X.e x r) (λ_=>SP X pins D .next) X.xe f) X.xe n) X.xe s:=by refine bB (K pins s J H _ I h) λw T t=>?_;obtain⟨y,H1,d,Q,L⟩:=t;refine bB (G pins T J H1 v y u w _ d r Q L) λz V t=>?_;obtain⟨Z,H2,j,R,M⟩:=t;exact mN j N hi b R (λW o=>⟨_,H2,o,M⟩) P
 rcases l with ⟨hk,C⟩|⟨hk,c,F,a⟩
 .exact tM I.o.kind hk E C g
 .rcases hk with hk|hk
  .exact w1 I.o.kind hk F a g
  .rcases b with k|k
   .have:X.e.scope.names.lookup x=some .free:=hk;rw[k]at this;cases this
   .have:X.e.scope.names.lookup x=some .free:=hk;rw[k]at this;cases this
noncomputable def NF(f:Int->Int->Int):ME:=λx y H Q=>∃i j,x=.int i/\y=.int j/\Q (.int (f i j)) H
theorem GQ:M' X .Add (NF λi j=>i+j):=by intro pins s J H x y v u Q I r n h;obtain⟨i,j,e,a,q⟩:=h;subst e;subst a;obtain⟨t,rfl⟩:=r;obtain⟨k,rfl⟩:=n;exact iadd_int ⟨.int _,H,I.tok _,⟨_,rfl⟩,q⟩
end
section
variable{X:Cx}{B:Pos}
noncomputable def Fp(c:TT)(tb:TS):TS:=λD J H=>∃W:Nat->St->Hp->Prop,(∃m,W m J H)/\∀m J H,W m J H ->
 c J H λb H1=>if b=true then ∃N:St->Hp->Prop,(∀h H',N h H'->∃x,x < m/\W x h H')/\tb { D with nx:=N,ct:=N,bk:=D.nx } J H1 else D.nx J H1
set_option tactic.hygienic true in
theorem z7(l:PassesOwn (model X.p X.w) X.A X.e X.xe)(o:PT X c tc)(z:kT X q tb):PS X (.While c q [] B) (Fp tc tb):=by
 intro pins s J H D I h;obtain⟨W,⟨F,A⟩,t⟩:=h;refine wpAny_While (codeAny_whileLoop (λn s'=>∃i H',Inv X pins i H' s'/\W n i H') ?_ F ⟨J,H,I,A⟩);rintro n K ⟨e,H1,y,C⟩;refine jq l (bB (o pins K e H1 _ y (t n e H1 C)) λb P S=>?_);obtain⟨H2,g,k⟩:=S;cases b with
 |true=>
  obtain⟨N,j,k⟩:=k;rw[ae rfl];refine jq l (bB (z pins P e H2 _ g k) λf E m=>?_);cases f with
  |next=>obtain⟨a,x,r,w⟩:=m;obtain⟨d,p,u⟩:=j a x w;exact⟨d,p,a,x,r,u⟩
  |cont=>obtain⟨a,x,r,w⟩:=m;obtain⟨d,p,u⟩:=j a x w;exact⟨d,p,a,x,r,u⟩
  |brk=>exact m
  |ret v=>exact m
 |false=>rw[ag aY];exact o4 ⟨e,H2,g,k⟩
end
structure It where
 go:Nat->Hp->Prop
 yld:Nat->Hp->V->Hp->Prop
 stop:Nat->Hp->Prop
def nO(X:Cx)(pins:PN)(H:Hp)(b:Addr):Prop:=
 H b=none/\b≠X.e.locals/\b ∉ X.fs/\(b ∈ X.ex\/X.z.heap.objs.size≤b)/\(∀x c,X.e.cells.lookup x=some c->c≠b)/\∀p ∈ X.pn++pins,p.1≠b
variable{pins:PN}{J:St}
theorem Inv.fpOk(I:Inv X pins J H s)(h:s.heap.objs.size≤b)(n:H' b=none):nO X pins H' b:=by
 refine⟨n,bf (a_ I.lt h),I.nofs h,.inr (aI I.sz h),λx c e z=>?_,λp a z=>?_⟩
 .obtain⟨v,q⟩:=I.cell x c e;exact absurd (a_ q.lt (by rw[z];exact h)) (cN _)
 .exact absurd (a_ (ar (I.pin p a).1) (by rw[z];exact h)) (cN _)
structure Turn(P:Program)(w:World)(K:FG)(tg:Expr)(J9:It)(fp:List Addr)(it:Addr)(tn:Nat->Heap->Prop):Prop where
 mem:it ∈ fp
 obj:∀i h,tn i h->∀b ∈ fp,∃o,h.get? b=some o/\∀v,o.data≠.cell v
 keep:∀i h h',tn i h->(∀b ∈ fp,∀o,h.get? b=some o->h'.get? b=some o)->tn i h'
 item:∀(X:Cx),X.p=P->X.w=w->X.K=K->X.c=true->∀(i:Nat)(pins:PN)(s:Shared)(J:St)(H:Hp)(E:VP),Inv X pins J H s->(∀b ∈ fp,nO X pins H b)->tn i s.heap->J9.go i H ->
  wpAny (model P w) X.A (pyNext (.ref it)) (fun r s1=>∃u,r=some u /\
   wpAny (model P w) X.A (letOwnedTupleGo tg (.ref it) u) (λ_ s2=>∃x H',Inv X pins J H' s2/\RelV x u/\J9.yld i H x H'/\tn (i+1) s2.heap/\∀b ∈ fp,H' b=none) E s1) E s
 done:∀(X:Cx),X.p=P->X.w=w->X.K=K->X.c=true->∀(i:Nat)(pins:PN)(s:Shared)(J:St)(H:Hp)(E:VP),Inv X pins J H s->(∀b ∈ fp,nO X pins H b)->tn i s.heap->J9.stop i H ->
  wpAny (model P w) X.A (pyNext (.ref it)) (λr s1=>r=none/\Inv X pins J H s1) E s
 self:∀(A:Around)(i:Nat)(s:Shared)(Q:VP)(E:VP),tn i s.heap->Q (.ref it) s->wpAny (model P w) A (pyIter (.ref it)) Q E s
noncomputable abbrev TI:=St->Hp->(It->Hp->Prop)->Prop
def Kg(X:Cx)(pins:PN)(J:St)(tg:Expr)(R:It->Hp->Prop)(i:Value)(s:Shared):Prop:=
 ∃(t:Addr)(f:List Addr)(n:Nat->Heap->Prop)(h:It)(H':Hp),i=.ref t/\Inv X pins J H' s/\Turn X.p X.w X.K tg h f t n/\n 0 s.heap/\(∀b ∈ f,nO X pins H' b)/\R h H'
def PI(X:Cx)(tg iter:Expr)(w:TI):Prop:=
 ∀(pins:PN)(s:Shared)(J:St)(H:Hp)(R:It->Hp->Prop),Inv X pins J H s->w J H R ->
  wpAny (model X.p X.w) X.A (eval iter X.e) (λv h=>wpAny (model X.p X.w) X.A (pyIter v) (Kg X pins J tg R) X.xe h) X.xe s
variable{tg:Expr}
theorem A7(e:s.heap.get? q=some o)(c:o.cls=.type n)(d:o.data=.fields z)
    (a:["enumerate","zip","dict_itemiterator","dict_reverseitemiterator","odict_iterator","itertools.zip_longest","itertools.pairwise"].contains n=false) (x:Q () s):wpAny M A (letOwnedTupleGo tg (.ref q) u) Q E s:=by
  unfold letOwnedTupleGo;cases tg<;>first
    |exact am x
    | (cases u <;> first
        |exact am x
        | (refine ac (wpAny_load e ?_)
           rw[c,d];show wpAny M A (if (["enumerate","zip","dict_itemiterator","dict_reverseitemiterator","odict_iterator","itertools.zip_longest","itertools.pairwise"].contains n && z[0]? == some (rawInt _))=true then _ else _) Q E s;rw[ag (by intro h;rw[a,Bool.false_and]at h;cases h)];exact am x))
noncomputable def Kj(K:FG)(a:Addr):It:=
 ⟨λi H=>∃xs x,dw K H a xs/\xs[i]? = some x,λi H x H'=>H'=H/\∀xs,dw K H a xs->xs[i]? = some x,λi H=>∃xs,dw K H a xs/\xs.length≤i⟩
noncomputable def Nc(K:FG)(a:Addr):It:=
 ⟨λi H=>∃xs x,kg K H a xs/\xs[i]? = some x,λi H x H'=>H'=H/\∀xs,kg K H a xs->xs[i]? = some x,λi H=>∃xs,kg K H a xs/\xs.length≤i⟩
noncomputable def K3(lo:Int)(n:Nat):It:=⟨λi _=>i < n,λi H x H'=>H'=H/\x=.int (lo+i),λi _=>n≤i⟩
variable{w:World}{K:FG}
theorem oq(a t:Addr):Turn P w K tg (Kj K a) [t] t (λi h=>h.IsListIter t a i) where
 mem:=by simp
 obj:=λi h st b n=>by
  have e:b=t:=by simpa using n
  subst e;obtain⟨o,e,c,d⟩:=st;exact⟨o,e,λv z=>by rw[d]at z;cases z⟩
 keep:=λi h h' st k=>st.at λo e=>k t (by simp) o e
 item:=by
  intro X F B S L i pins s J H E I m st A;subst F B S;obtain⟨xs,x,q,C⟩:=A;obtain⟨D,G,p,V⟩:=I.list q;obtain⟨u,R,W⟩:=G.get C;obtain⟨r,g,Q,j,l,y⟩:=m t (by simp);refine yS st p.isList (x:=u) (by simpa using R) λh' f Z=>?_
  have M:Inv X pins J H { s with heap:=h' }:=I.turned (t':=s.toks) (λb o n e=>(Z.2 b n).trans e) r g j l y;obtain⟨o,e,c,d⟩:=id f;exact⟨u,rfl,A7 (s:={ s with heap:=h' }) e c d (by decide) ⟨x,H,M,W,⟨rfl,λys T=>by rw[I.list_inj T q];exact C⟩,f,λb n=>(m b n).1⟩⟩
 done:=by intro X F B S L i pins s J H E I m st A;subst F B S;obtain⟨xs,q,C⟩:=A;obtain⟨D,G,p,V⟩:=I.list q;obtain⟨r,g,Q,j,l,y⟩:=m t (by simp);have hl:=G.length;exact yP (I.o.hd L) st p.isList (by simp;lia) λh' N=>⟨rfl,I.turned (t':=s.toks) (λb o n e=>N b o n e) r g j l y⟩
 self:=λ_ _ _ _ _ st h=>wpAny_pyIter_listiter st h
theorem t6(a t:Addr):Turn P w K tg (Nc K a) [t] t (λi h=>h.IsTupleIter t a i) where
 mem:=by simp
 obj:=λi h st b n=>by
  have e:b=t:=by simpa using n
  subst e;obtain⟨o,e,c,d⟩:=st;exact⟨o,e,λv z=>by rw[d]at z;cases z⟩
 keep:=λi h h' st k=>st.at λo e=>k t (by simp) o e
 item:=by
  intro X A C F L i pins s J H E I r st B;subst A C F;obtain⟨xs,x,q,D⟩:=B;obtain⟨f,G,p,V⟩:=I.tuple q;obtain⟨u,R,W⟩:=G.get D;obtain⟨g,j,Q,l,y,S⟩:=r t (by simp);refine wpAny_pyNext_tuple_item st (show s.heap.IsTuple a f.toArray from p) (x:=u) (by simpa using R) λh' m Z=>?_
  have M:Inv X pins J H { s with heap:=h' }:=I.turned (t':=s.toks) (λb o n e=>(Z.2 b n).trans e) g j l y S;obtain⟨o,e,c,d⟩:=id m;exact⟨u,rfl,A7 (s:={ s with heap:=h' }) e c d (by decide) ⟨x,H,M,W,⟨rfl,λys T=>by rw[I.tuple_inj T q];exact D⟩,m,λb n=>(r b n).1⟩⟩
 done:=by intro X A C F L i pins s J H E I r st B;subst A C F;obtain⟨xs,q,D⟩:=B;obtain⟨f,G,p,V⟩:=I.tuple q;obtain⟨g,j,Q,l,y,S⟩:=r t (by simp);have hl:=G.length;exact wpAny_pyNext_tuple_end (I.o.hd L) st (show s.heap.IsTuple a f.toArray from p) (by simp;lia) λh' N=>⟨rfl,I.turned (t':=s.toks) (λb o n e=>N b o n e) g j l y S⟩
 self:=λ_ _ _ _ _ st h=>wpAny_pyIter_tupleiter st h
theorem t8(x:Addr)(lo:Int)(n:Nat):Turn P w K tg (K3 lo n) [x] x (λi h=>IsRangeIter h x (lo+(i:Nat) * 1) ((n:Int)-(i:Nat)) 1) where
 mem:=by simp
 obj:=λi h st b a=>by
  have e:b=x:=by simpa using a
  subst e;exact⟨_,st,λv z=>by have D:Data.fields _=Data.cell v:=z;cases D⟩
 keep:=λi h h' st k=>k x (by simp) _ st
 item:=by
  intro X g y u j i pins s J H E I c st l;subst g y u;obtain⟨m,r,A,p,q,d⟩:=c x (by simp);have W:=Walks.range (prog:=X.p) (w:=X.w) (I.o.hd j) x lo 1 n;refine W.item i s _ _ l st λv h' tk B f C=>?_
  obtain⟨t,rfl⟩:=B;have S:Inv X pins J H { s with heap:=h',toks:=tk }:=I.turned (λb o a e=>C b o (by simpa using a) e) m r p q d;refine⟨_,rfl,A7 (s:={ s with heap:=h',toks:=tk }) (n:="range_iterator") f rfl rfl (by decide) ⟨.int (lo+i),H,S,⟨t,?_⟩,⟨rfl,rfl⟩,f,λb a=>(c b a).1⟩⟩;rw[Int.mul_one]
 done:=by intro X g y u j i pins s J H E I c st l;subst g y u;obtain⟨m,r,A,p,q,d⟩:=c x (by simp);exact wpAny_pyNext_range_end (I.o.hd j) st (by have:n≤i:=l;lia) λh' F=>⟨rfl,I.turned (t':=s.toks) (λb o a e=>F b o a e) m r p q d⟩
 self:=λ_ _ _ _ _ st h=>wpAny_pyIter_rangeiter st h
section
variable{X:Cx}{tg:Expr}
noncomputable def JD(K:FG)(tl:TE):TI:=λJ H R=>tl J H λx H1=>∃a,x=.ref a/\(∃xs,dw K H1 a xs)/\R (Kj K a) H1
theorem Dk(c:Y X l tl):PI X tg l (JD X.K tl):=by
 intro pins s J H R I h;refine bB (c pins s J H _ I h) λv k z=>?_
 obtain⟨x,H1,n,t,r⟩:=z;obtain⟨a,e,⟨xs,m⟩,q⟩:=r;subst e;cases t;obtain⟨i,d,p,z⟩:=n.list m;refine o6 p.isList ?_;refine⟨k.heap.objs.size,[k.heap.objs.size],_,_,H1,rfl,n.kept (t':=k.toks) λb o e=>aE _ e,oq a _,⟨_,aS _ rfl,rfl,rfl⟩,λb f=>?_,q⟩;have e:b=k.heap.objs.size:=by simpa using f
 subst e;exact n.fpOk (ai _) (n.h.fresh (ai _))
theorem z0{lo hi:Int}{t u v:Tok}{tk:Nat}(I:Inv X pins J H s)(h1:-(2 ^ 62)≤lo)(h2:lo < 2 ^ 62)(n:-(2 ^ 62)≤hi)(k:hi < 2 ^ 62)
  (q:R (K3 lo (hi-lo).toNat) H):wpAny (model X.p X.w) X.A (pyIter (.ref s.heap.objs.size)) (Kg X pins J tg R) E { s with heap:=s.heap.push { cls:=.type "range",data:=.fields #[.int lo t,.int hi u,.int 1 v] },toks:=tk }:=by
 refine wpAny_pyIter_range (IsRange.new ..) (small_one h1 h2 n k) ?_;have h:Inv X pins J H { s with heap:=s.heap.push { cls:=.type "range",data:=.fields #[.int lo t,.int hi u,.int 1 v] },toks:=tk }:=I.kept fun b o e=>aE _ e;refine⟨(s.heap.push { cls:=.type "range",data:=.fields #[.int lo t,.int hi u,.int 1 v] }).objs.size,[(s.heap.push { cls:=.type "range",data:=.fields #[.int lo t,.int hi u,.int 1 v] }).objs.size],_,_,H,rfl,
  h.kept (t':=tk) λb o e=>aE _ e,t8 _ lo (hi-lo).toNat,?_,λb f=>?_,q⟩
 .have x:lo+((0:Nat):Int) * 1=lo:=by simp
  have a:(((hi-lo).toNat:Nat):Int)-((0:Nat):Int)=Builtin.Range.rangeSize lo hi 1:=by rw[wF];split<;>lia
  show IsRangeIter _ _ (lo+((0:Nat):Int) * 1) ((((hi-lo).toNat:Nat):Int)-((0:Nat):Int)) 1;rw[x,a];exact aS _ rfl
 .have e:b=(s.heap.push { cls:=.type "range",data:=.fields #[.int lo t,.int hi u,.int 1 v] }).objs.size:=by simpa using f
  subst e;exact h.fpOk (ai _) (h.h.fresh (ai _))
noncomputable def JC(ta:TA):TI:=λJ H R=>ta J H λv H1=>∃j:Int,v=[.int j]/\-(2 ^ 62)≤j/\j < 2 ^ 62/\R (K3 0 j.toNat) H1
theorem x8{a:Expr}{ta:TA}{p B:Pos}(g:Gl X "range")(m:X.g "range"=none)(k:PA X [a] ta)(f:starEach [a] X.e=[(false,eval a X.e)]:=by rfl):PI X tg (.Call (.Name "range" p) [a] [] B) (JC ta):=by
 intro pins s J H R I h;refine Call_ (gO I g m boot_range (e7 (bB (k B pins s J H _ I h) λG d z=>?_) f rfl));obtain⟨w,H1,n,c,x⟩:=z;obtain⟨j,e,x,b,q⟩:=x;subst e;cases c with
 |cons r v=>cases v;obtain⟨t,rfl⟩:=r;exact call_range_1 (z0 n (by lia) (by lia) x b (by simpa using q))
noncomputable def LN(w:TI)(g:TG)(tb:TS):TS:=λD J H=>w J H λh H1=>∃W:Nat->Nat->St->Hp->Prop,(∃m,W 0 m J H1)/\∀i m J H,W i m J H ->
 (h.stop i H/\D.nx J H)\/(h.go i H/\∃N:St->Hp->Prop,(∀a H',N a H'->∃e,e < m/\W (i+1) e a H')/\∀x H',h.yld i H x H'->g x J H' λs H2=>tb { D with nx:=N,ct:=N,bk:=D.nx } s H2)
noncomputable def kF(f:List Addr)(h:Heap):PN:=f.filterMap λb=>(h.get? b).map λo=>(b,o)
theorem gM(x:b ∈ q)(e:h.get? b=some o):(b,o) ∈ kF q h:=iP.mpr ⟨b,x,by rw[e];rfl⟩
theorem x9(s:p ∈ kF z h):p.1 ∈ z/\h.get? p.1=some p.2:=by
 obtain⟨b,a,e⟩:=iP.mp s;cases q:h.get? b with
 |none=>rw[q]at e;cases e
 |some o=>rw[q]at e;have x:(b,o)=p:=cO e;subst x;exact⟨a,q⟩
theorem Inv.pinned(I:Inv X pins J H s)(k:∀b ∈ q,nO X pins H b)(c:∀b ∈ q,∃o,s.heap.get? b=some o/\∀v,o.data≠.cell v):Inv X (pins++kF q s.heap) J H s:=
 I.pins_of λp m=>(dJ.mp m).elim (λz=>I.pin p (dL _ z)) λz=>by obtain⟨x,e⟩:=x9 z;obtain⟨f,a,n,_⟩:=k p.1 x;obtain⟨o,h,d⟩:=c p.1 x;rw[e]at h;cases h;exact⟨e,f,a,n,d⟩
theorem Inv.unpinned(I:Inv X (pins++q) J H s):Inv X pins J H s:=I.pins_of λp h=>I.pin p (dL _ (wr _ h))
set_option tactic.hygienic true in
theorem FV{iter:Expr}{y:List Stmt}{wi:TI}{g:TG}{tb:TS}{B:Pos}(F:PassesOwn (model X.p X.w) X.A X.e X.xe)(hc:X.c=true)(hi:PI X tg iter wi)(hg:PG X tg g)(t:kT X y tb)
  (hs:∀x,foldedSetIterable iter X.e x=pure x:=by intro _;rfl):PS X (.For tg iter y [] B) (LN wi g tb):=by
 intro pins s J H D I h;refine wpAny_For (bB (hi pins s J H _ I h) λv s1 h1=>bB h1 λitv s2 h2=>?_) hs;obtain⟨it,l,tn,J9,H2,e,I2,T,Q,Z,W,⟨m0,w0⟩,A⟩:=h2;subst e;have p:∀{H':Hp},(∀b ∈ l,H' b=none)->∀b ∈ l,nO X pins H' b:=λhn b t=>⟨hn b t,(Z b t).2⟩
 refine codeAny_forLoop_any (λn s'=>∃i w H',Inv X pins w H' s'/\tn i s'.heap/\(∀b ∈ l,H' b=none)/\W i n w H') ?_ m0 ⟨0,J,H2,I2,Q,λb t=>(Z b t).1,w0⟩;rintro n s3 ⟨i,j,C,V,qj,S,w3⟩;rcases A i n j C w3 with ⟨P,qn⟩|⟨go,N,hN,step⟩
 .refine jq F (bB (T.done X rfl rfl rfl hc i pins s3 j C X.xe V (p S) qj P) λr s4 z=>?_);obtain⟨L,I4⟩:=z;subst L;exact o4 ⟨j,C,I4,qn⟩
 .refine jq F (bB (T.item X rfl rfl rfl hc i pins s3 j C X.xe V (p S) qj go) λr s4 z=>?_);obtain⟨u,L,h4⟩:=z;subst L;refine jq F (bB h4 λ_ s5 z=>?_);obtain⟨x,R,I5,r5,y5,II,G⟩:=z;have E:=I5.pinned (p G) (T.obj _ _ II);refine jq F (bB (hg _ s5 j R x u _ E r5 (step x R y5)) λ_ s6 z=>?_);obtain⟨J6,H6,I6,q6⟩:=z;refine jq F (bB (t _ s6 J6 H6 _ I6 q6) λf M q=>?_);have again:∀{c:St}{a:Hp},Inv X (pins++kF l s5.heap) c a M->N c a->∃m,m < n/\∃i w H',Inv X pins w H' M/\tn i M.heap/\(∀b ∈ l,H' b=none)/\W i m w H':=λ{c a} k K=>by
   obtain⟨m',hm,w7⟩:=hN c a K;refine⟨m',hm,i+1,c,a,k.unpinned,T.keep _ _ _ II λb t o e=>(k.pin (b,o) (dL _ (dL _ (gM t e)))).1,λb t=>?_,w7⟩;obtain⟨o,e,d⟩:=T.obj _ _ II b t;exact(k.pin (b,o) (dL _ (dL _ (gM t e)))).2.1
  cases f with
  |next=>obtain⟨c,a,k,K⟩:=q;exact again k K
  |cont=>obtain⟨c,a,k,K⟩:=q;exact again k K
  |brk=>obtain⟨c,a,k,q⟩:=q;exact⟨c,a,k.unpinned,q⟩
  |ret v=>obtain⟨x7,c,a,k,r7,q⟩:=q;exact⟨x7,c,a,k.unpinned,r7,q⟩
end
noncomputable abbrev R2:=V->V->Hp->VK->Prop
def fK(X:Cx)(f:Value->Value->Sem Value)(r:R2):Prop:=
 ∀(pins:PN)(s:Shared)(J:St)(H:Hp)(x y:V)(v u:Value)(Q:VK),Inv X pins J H s->RelV x v->RelV y u->r x y H Q ->
  wpAny (model X.p X.w) X.A (f v u) (EP X pins J Q) X.xe s
def MC(X:Cx)(f:Value->Sem Value)(r:V->Hp->VK->Prop):Prop:=
 ∀(pins:PN)(s:Shared)(J:St)(H:Hp)(x:V)(v:Value)(Q:VK),Inv X pins J H s->RelV x v->r x H Q ->
  wpAny (model X.p X.w) X.A (f v) (EP X pins J Q) X.xe s
def cm(X:Cx)(f:Value)(r:List V->Hp->VK->Prop):Prop:=
 ∀(pins:PN)(s:Shared)(J:St)(H:Hp)(xs:List V)(G:LV)(Q:VK),Inv X pins J H s->aM xs G->r xs H Q ->
  wpAny (model X.p X.w) X.A (call f G) (EP X pins J Q) X.xe s
def MD(X:Cx)(r:V->Hp->(Bool->Hp->Prop)->Prop):Prop:=
 ∀(pins:PN)(s:Shared)(J:St)(H:Hp)(x:V)(v:Value)(Q:Bool->Hp->Prop),Inv X pins J H s->RelV x v->r x H Q ->
  wpAny (model X.p X.w) X.A (truthy v) (TP X pins J Q) X.xe s
noncomputable def Fq(r:R2)(ta tb:TE):TE:=λJ H Q=>ta J H λx H1=>tb J H1 λy H2=>r x y H2 Q
noncomputable def Nr(r:V->Hp->VK->Prop)(ta:TE):TE:=λJ H Q=>ta J H λx H1=>r x H1 Q
noncomputable def rI(C:Int->Int->Prop)(g:Int->Int->V):R2:=λx y H Q=>∃i j,x=.int i/\y=.int j/\C i j/\Q (g i j) H
noncomputable def C7(g:Int->Int->V):R2:=λx y H Q=>∃i j,x=.int i/\y=.int j/\Q (g i j) H
def rU(g:Int->V):V->Hp->VK->Prop:=λx H Q=>∃i,x=.int i/\Q (g i) H
section
variable{X:Cx}{a b c:Expr}{ta tb tc:TE}{B:Pos}
theorem Hd(r:Y X a ta)(t:Y X b tb){pins:PN}{s:Shared}{J:St}{H:Hp}{R:V->V->Hp->Prop}(I:Inv X pins J H s)
  (h:ta J H λx H1=>tb J H1 λy H2=>R x y H2) {Q:VP}{f:Value->Value->Sem Value}
  (p:∀v u k x y H2,Inv X pins J H2 k->RelV x v->RelV y u->R x y H2->wpAny (model X.p X.w) X.A (f v u) Q X.xe k) :
  wpAny (model X.p X.w) X.A (eval a X.e) (λv e=>wpAny (model X.p X.w) X.A (eval b X.e) (λu n=>wpAny (model X.p X.w) X.A (f v u) Q X.xe n) X.xe e) X.xe s:=by
 refine bB (r pins s J H _ I h) λv i z=>?_;obtain⟨x,H1,c,w,q⟩:=z;refine bB (t pins i J H1 _ c q) λu k z=>?_;obtain⟨y,H2,m,g,d⟩:=z;exact p v u k x y H2 m w g d
theorem Ep{o:Operator}{r:R2}(f:fK X (binaryOp o) r)(n:Y X a ta)(k:Y X b tb):Y X (.BinOp a o b B) (Fq r ta tb):=by intro pins s J H Q I h;exact wpAny_BinOp (Hd n k I h λv u t x y H2 e c m q=>f pins t J H2 x y v u Q e c m q)
theorem IX(o:MC X (unaryOp q) r)(n:Y X a ta):Y X (.UnaryOp q a B) (Nr r ta):=by intro pins s J H Q I h;exact pj (bB (n pins s J H _ I h) λv b z=>by obtain⟨x,H1,e,f,k⟩:=z;exact o pins b J H1 x v Q e f k)
theorem Kt{f:Value->Value->Sem Value}{C:Int->Int->Prop}{g:Int->Int->Int}
  (rule:∀(i j:Int)(t u:Tok)(s:Shared)(Q:VP)(E:VP),C i j->Q (.int (g i j) s.toks) { s with toks:=s.toks+1 }->wpAny (model X.p X.w) X.A (f (.int i t) (.int j u)) Q E s) :
  fK X f (rI C λi j=>.int (g i j)):=by
 intro pins s J H x y v u Q I r a h;obtain⟨i,j,rfl,rfl,c,q⟩:=h;obtain⟨t,rfl⟩:=r;obtain⟨e,rfl⟩:=a;exact rule i j t e s _ _ c ⟨.int (g i j),H,I.tok _,⟨_,rfl⟩,q⟩
theorem Jl{f:Value->Value->Sem Value}{g:Int->Int->Int}
  (rule:∀(i j:Int)(t u:Tok)(s:Shared)(Q:VP)(E:VP),Q (.int (g i j) s.toks) { s with toks:=s.toks+1 }->wpAny (model X.p X.w) X.A (f (.int i t) (.int j u)) Q E s) :
  fK X f (C7 λi j=>.int (g i j)):=by
 intro pins s J H x y v u Q I r a h;obtain⟨i,j,rfl,rfl,q⟩:=h;obtain⟨t,rfl⟩:=r;obtain⟨e,rfl⟩:=a;exact rule i j t e s _ _ ⟨.int (g i j),H,I.tok _,⟨_,rfl⟩,q⟩
theorem Dt{f:Value->Value->Sem Value}{g:Int->Int->Bool}
  (rule:∀(i j:Int)(t u:Tok)(s:Shared)(Q:VP)(E:VP),Q (.bool (g i j)) s->wpAny (model X.p X.w) X.A (f (.int i t) (.int j u)) Q E s) :
  fK X f (C7 λi j=>.bl (g i j)):=by
 intro pins s J H x y v u Q I r a h;obtain⟨i,j,rfl,rfl,q⟩:=h;obtain⟨t,rfl⟩:=r;obtain⟨e,rfl⟩:=a;exact rule i j t e s _ _ ⟨.bl (g i j),H,I,rfl,q⟩
def MK(i j:Int):Prop:=0≤j/\j≤1000000/\i.natAbs < 2 ^ 64
theorem Gk:fK X (binaryOp .Add) (C7 λi j=>.int (i+j)):=Jl λ_ _ _ _ _ _ _ q=>add_int q
theorem Ge:fK X (binaryOp .Sub) (C7 λi j=>.int (i-j)):=Jl λ_ _ _ _ _ _ _ q=>sub_int q
theorem Gg:fK X (binaryOp .Mod) (rI (λ_ j=>0 < j) λi j=>.int (i % j)):=Kt λi j _ _ _ _ _ h q=>by have h1:(0:Int) < j:=h;exact mod_int' (by lia) (by rw[Int.fmod_eq_emod_of_nonneg i (by lia)];exact q)
theorem Gf:fK X (binaryOp .Pow) (rI MK λi j=>.int (i ^ j.toNat)):=Kt λ_ _ _ _ _ _ _ h q=>pow_int_small h.1 h.2.1 h.2.2 q
theorem Np{f:Value->Sem Value}{g:Int->Int}
  (rule:∀(i:Int)(t:Tok)(s:Shared)(Q:VP)(E:VP),Q (.int (g i) s.toks) { s with toks:=s.toks+1 }->wpAny (model X.p X.w) X.A (f (.int i t)) Q E s) :
  MC X f (rU λi=>.int (g i)):=by
 intro pins s J H x v Q I r h;obtain⟨i,rfl,q⟩:=h;obtain⟨t,rfl⟩:=r;exact rule i t s _ _ ⟨.int (g i),H,I.tok _,⟨_,rfl⟩,q⟩
theorem Ff:MC X (unaryOp .USub) (rU λi=>.int (-i)):=Np λ_ _ _ _ _ q=>neg_int q
end
noncomputable def IM:V->V->Bool
 | .non,.non=>true | .non,.int _=>true | .int _,.non=>true | .non,.bl _=>true | .bl _,.non=>true | .non,.str _=>true | .str _,.non=>true
 | .int _,.int _=>true | .bl _,.bl _=>true | .str _,.str _=>true | .byt _,.byt _=>true
 | .int _,.str _=>true | .str _,.int _=>true | .bl _,.str _=>true | .str _,.bl _=>true
 |_,_=>false
def NA:R2:=λx y H Q=>IM x y=true/\Q (.bl (decide (x=y))) H
def Nz:R2:=λx y H Q=>IM x y=true/\Q (.bl (!decide (x=y))) H
theorem xM{i j:Int}:decide (V.int i=V.int j)=(i == j):=by rw[gH];simp
theorem Bs:decide (V.bl i=V.bl q)=(i == q):=by rw[gH];simp
theorem xL:decide (V.str i=V.str q)=(i == q):=by rw[gH];simp
theorem xN:decide (V.byt i=V.byt q)=(i.toList == q.toList):=by rw[gH];cases i;cases q;simp
section
variable{X:Cx}{a b c:Expr}{ta tb tc:TE}{B:Pos}
theorem ba(I:Inv X pins J H s)(q:Q (.bl k) H)(e:k=z):EP X pins J Q (.bool z) s:=by subst e;exact⟨.bl k,H,I,rfl,q⟩
theorem Ar:fK X (compareOp .Eq) NA:=by
 intro pins s J H x y v u Q I n r h;obtain⟨e,q⟩:=h;cases x with
 |non=>
  cases n;cases y with
  |non=>cases r;exact Ca (ba I q (by simp))
  |bl j=>cases r;exact B_ (ba I q (by simp))
  |int j=>obtain⟨a,rfl⟩:=r;exact B' (ba I q (by simp))
  |str j=>obtain⟨a,rfl⟩:=r;exact Cb (ba I q (by simp))
  |_=>exact absurd (show false=true from e) aY
 |bl i=>
  cases n;cases y with
  |non=>cases r;exact B8 (ba I q (by simp))
  |bl j=>cases r;exact eq_bool (ba I q Bs)
  |str j=>obtain⟨a,rfl⟩:=r;exact B0 (ba I q (by simp))
  |_=>exact absurd (show false=true from e) aY
 |int i=>
  obtain⟨t,rfl⟩:=n;cases y with
  |non=>cases r;exact B9 (ba I q (by simp))
  |int j=>obtain⟨a,rfl⟩:=r;exact eq_int (ba I q xM)
  |str j=>obtain⟨a,rfl⟩:=r;exact B1 (ba I q (by simp))
  |_=>exact absurd (show false=true from e) aY
 |str i=>
  obtain⟨t,rfl⟩:=n;cases y with
  |non=>cases r;exact Cc (ba I q (by simp))
  |bl j=>cases r;exact B2 (ba I q (by simp))
  |int j=>obtain⟨a,rfl⟩:=r;exact B3 (ba I q (by simp))
  |str j=>obtain⟨a,rfl⟩:=r;exact eq_str (ba I q xL)
  |_=>exact absurd (show false=true from e) aY
 |byt i=>
  obtain⟨t,rfl⟩:=n;cases y with
  |byt j=>obtain⟨a,rfl⟩:=r;exact PySem.W.eq_bytes (ba I q xN)
  |_=>exact absurd (show false=true from e) aY
 |_=>cases y<;>exact absurd (show false=true from e) aY
theorem Ap:fK X (compareOp .NotEq) Nz:=by
 intro pins s J H x y v u Q I n r h;obtain⟨e,q⟩:=h;cases x with
 |non=>
  cases n;cases y with
  |non=>cases r;exact Ch (ba I q (by simp))
  |bl j=>cases r;exact Cf (ba I q (by simp))
  |int j=>obtain⟨a,rfl⟩:=r;exact Cg (ba I q (by simp))
  |str j=>obtain⟨a,rfl⟩:=r;exact Ci (ba I q (by simp))
  |_=>exact absurd (show false=true from e) aY
 |bl i=>
  cases n;cases y with
  |non=>cases r;exact Cd (ba I q (by simp))
  |bl j=>cases r;exact ne_bool (ba I q (bR not Bs))
  |str j=>obtain⟨a,rfl⟩:=r;exact B4 (ba I q (by simp))
  |_=>exact absurd (show false=true from e) aY
 |int i=>
  obtain⟨t,rfl⟩:=n;cases y with
  |non=>cases r;exact Ce (ba I q (by simp))
  |int j=>obtain⟨a,rfl⟩:=r;exact ne_int (ba I q (bR not xM))
  |str j=>obtain⟨a,rfl⟩:=r;exact B5 (ba I q (by simp))
  |_=>exact absurd (show false=true from e) aY
 |str i=>
  obtain⟨t,rfl⟩:=n;cases y with
  |non=>cases r;exact Cj (ba I q (by simp))
  |bl j=>cases r;exact B6 (ba I q (by simp))
  |int j=>obtain⟨a,rfl⟩:=r;exact B7 (ba I q (by simp))
  |str j=>obtain⟨a,rfl⟩:=r;exact ne_str (ba I q (bR not xL))
  |_=>exact absurd (show false=true from e) aY
 |byt i=>
  obtain⟨t,rfl⟩:=n;cases y with
  |byt j=>obtain⟨a,rfl⟩:=r;exact PySem.W.ne_bytes (ba I q (bR not xN))
  |_=>exact absurd (show false=true from e) aY
 |_=>cases y<;>exact absurd (show false=true from e) aY
theorem I_:fK X (compareOp .Lt) (C7 λi j=>.bl (decide (i < j))):=Dt λ_ _ _ _ _ _ _ q=>vV q
theorem Ja:fK X (compareOp .LtE) (C7 λi j=>.bl (decide (i≤j))):=Dt λ_ _ _ _ _ _ _ q=>le_int q
theorem Jb:fK X (compareOp .Gt) (C7 λi j=>.bl (decide (j < i))):=Dt λ_ _ _ _ _ _ _ q=>gt_int q
theorem Jc:fK X (compareOp .GtE) (C7 λi j=>.bl (decide (j≤i))):=Dt λ_ _ _ _ _ _ _ q=>ge_int q
theorem Gh:fK X (compareOp .Is) (λx y H Q=>y=.non/\Q (.bl (decide (x=.non))) H):=by
 intro pins s J H x y v u Q I r a h;obtain⟨rfl,q⟩:=h;cases a;refine is_none_gen (ba I q ?_);cases x<;>first
  |(cases r;rfl)
  |(obtain⟨t,rfl⟩:=r;rfl)
theorem Dp:fK X (compareOp .IsNot) (λx y H Q=>y=.non/\Q (.bl (!decide (x=.non))) H):=by
 intro pins s J H x y v u Q I r a h;obtain⟨rfl,q⟩:=h;cases a;refine isnot_none_gen (ba I q ?_);cases x<;>first
  |(cases r;rfl)
  |(obtain⟨t,rfl⟩:=r;rfl)
theorem xo{o:CmpOp}{r:R2}(f:fK X (compareOp o) r)(n:Y X a ta)(k:Y X b tb)(m:behindInMarks o b=false):Y X (.Compare a [o] [b] B) (Fq r ta tb):=by intro pins s J H Q I h;exact wpAny_Compare1 (Hd n k I h λv u p x y H2 e c t q=>f pins p J H2 x y v u Q e c t q) m
noncomputable def zG(t:TE):TT:=λJ H Q=>t J H λx H'=>∃k,x=.bl k/\Q k H'
theorem xk(o:fK X (compareOp q) r)(p:Y X a ta)(d:Y X b tb)(w:behindInMarks q b=false):PT X (.Compare a [q] [b] B) (zG (Fq r ta tb)):=by
 intro pins s J H Q I h;refine wpAny_isTrue_Compare1 (bB (p pins s J H _ I h) fun v K ⟨x,H1,f,l,g⟩=>bB (d pins K J H1 _ f g) fun u P ⟨y,H2,m,S,i⟩=>
  bB (o pins P J H2 x y v u _ m l S i) λc A ⟨z,n,t,F,k,e,j⟩=>?_) w
 subst e;cases F;exact ii ⟨n,t,j⟩
noncomputable def ua(r e:R2)(ta tb tc:TE):TE:=λJ H Q=>ta J H λx H1=>tb J H1 λy H2=>r x y H2 λz h=>∃k,z=.bl k /\
 (if k=true then tc J h λw a=>e y w a Q else Q (.bl false) h)
theorem Ak(K:fK X (compareOp N) r)(o:fK X (compareOp q) r')(j:Y X a ta)(l:Y X b tb)(S:Y X c tc)
  (F:lastMarks [N,q] [b,c]=false:=by with_unfolding_all rfl):Y X (.Compare a [N,q] [b,c] B) (ua r r' ta tb tc):=by
 intro pins s J H Q I h;refine Compare_chain (bB (j pins s J H _ I h) fun v L ⟨x,H1,w,D,P⟩=>chain_link (bB (l pins L J H1 _ w P) fun u M ⟨y,H2,g,t,A⟩=>
  bB (K pins M J H2 x y v u _ g D t A) λd R ⟨z,n,f,E,k,e,m⟩=>?_)) F
 subst e;cases E;refine ii ?_;cases k with
 |false=>exact ite_ff ⟨.bl false,n,f,rfl,m⟩
 |true=>exact ite_tt (chain_last (bB (S pins R J n _ f m) λV T ⟨W,p,i,G,C⟩=>o pins T J p y W u V Q i t G C))
theorem z5(D:fK X (compareOp N) r)(o:fK X (compareOp q) r')(K:Y X a ta)(P:Y X b tb)(A:Y X c tc)
  (C:lastMarks [N,q] [b,c]=false:=by with_unfolding_all rfl):PT X (.Compare a [N,q] [b,c] B) (zG (ua r r' ta tb tc)):=by
 intro pins s J H Q I h;refine isTrue_chain (bB (K pins s J H _ I h) fun v s1 ⟨x,H1,g,V,L⟩=>test_link (bB (P pins s1 J H1 _ g L) fun u s2 ⟨y,H2,i,t,M⟩=>
  bB (D pins s2 J H2 x y v u _ i V t M) λd s3 ⟨z,n,f,W,k,e,m⟩=>?_)) C
 subst e;cases W;refine ii ?_;cases k with
 |false=>obtain⟨k',S,G⟩:=m;cases S;exact ite_ff ⟨n,f,G⟩
 |true=>refine ite_tt (test_last (bB (A pins s3 J n _ f m) λw' s4 ⟨z',p,j,Z,R⟩=>bB (o pins s4 J p y z' u w' _ j t Z R) λd' s5 E=>?_));obtain⟨z2,w,l,r5,k2,F,T⟩:=E;subst F;cases r5;exact ii ⟨w,l,T⟩
def Hf(K:FG)(x:V)(H:Hp)(k:Bool):Prop:=
 match x with
 | .non=>k=false
 | .bl b=>k=b
 | .int i=>k=(i != 0)
 | .str y=>y.length≤sizeLine/\k=((y.length:Int) != 0)
 | .byt y=>y.size≤sizeLine/\k=((y.size:Int) != 0)
 | .ref p=>(∃xs,dw K H p xs/\k=!xs.isEmpty)\/(∃xs,kg K H p xs/\k=!xs.isEmpty)\/∃kvs,H p=some (.dK kvs)/\k=!kvs.isEmpty
 |_=>False
theorem uD(r:KV kvs q):(!q.isEmpty)=!kvs.isEmpty:=by cases r<;>rfl
theorem ng(r:aM xs q):(!q.toArray.isEmpty)=!xs.isEmpty:=by cases r<;>simp
theorem ip:(sizeLine:Nat) < 2 ^ 63:=by rw[kn];decide
theorem p_:MD X (λx H Q=>∃k,Hf X.K x H k/\Q k H):=by
 intro pins s J H x v Q I rx h;obtain⟨k,e,q⟩:=h;have hl:=ip;have hs:sizeLine=16777216:=kn;cases x with
 |non=>cases rx;have e':k=false:=e;subst e';exact truthy_none ⟨H,I,q⟩
 |bl b=>cases rx;have e':k=b:=e;subst e';exact ii ⟨H,I,q⟩
 |int i=>obtain⟨t,rfl⟩:=rx;have e':k=(i != 0):=e;subst e';exact PySem.P.truthy_int ⟨H,I,q⟩
 |str y=>obtain⟨t,rfl⟩:=rx;obtain⟨hy,e'⟩:y.length≤sizeLine/\k=((y.length:Int) != 0):=e;subst e';exact PySem.P.truthy_str (by lia) ⟨H,I.tok _,q⟩
 |byt y=>obtain⟨t,rfl⟩:=rx;obtain⟨hy,e'⟩:y.size≤sizeLine/\k=((y.size:Int) != 0):=e;subst e';exact PySem.W.truthy_bytes (by lia) ⟨H,I.tok _,q⟩
 |ref p=>
  cases rx;have e':(∃xs,dw X.K H p xs/\k=!xs.isEmpty)\/(∃xs,kg X.K H p xs/\k=!xs.isEmpty)\/∃kvs,H p=some (.dK kvs)/\k=!kvs.isEmpty:=e;rcases e' with ⟨xs,hx,e'⟩|⟨xs,hx,e'⟩|⟨kvs,hx,e'⟩
  .subst e';obtain⟨its,r,pl,hz⟩:=I.list hx;have hlen:=r.length;exact wpAny_truthy_list pl.isList (by simp only[aP];lia) ⟨H,I.tok _,by rw[ng r];exact q⟩
  .subst e';obtain⟨its,r,pl,hz⟩:=I.tuple hx;have hlen:=r.length;exact truthy_tuple pl (by simp only[aP];lia) ⟨H,I.tok _,by rw[ng r];exact q⟩
  .subst e';obtain⟨hz,hS,vs,r,m⟩:kvs.length≤sizeLine/\(p == sysModules)=false/\∃vs,KV kvs vs/\s.heap.DictOf (bx X.p X.w) p vs:=I.h p _ hx;have hlen:kvs.length=vs.length:=Paired.length r;exact wpAny_truthy_dict hS m (by lia) ⟨H,I.tok _,by rw[uD r];exact q⟩
 |_=>exact(show False from e).elim
theorem z4(n:Y X a ta)(f:∀w,isTrue a X.e w=(do let v <- w;standAt a.pos;holding [v] (truthy v))) :
  PT X a (λJ H Q=>ta J H λx H'=>∃k,Hf X.K x H' k/\Q k H'):=by
 intro pins s J H Q I h;exact isTrue_plain (bB (n pins s J H _ I h) λv b z=>by obtain⟨x,H1,e,r,q⟩:=z;exact p_ pins b J H1 x v Q e r q) (f _)
theorem ur:fK X (binaryOp .Add) (λx y H Q=>∃i j,x=.str i/\y=.str j/\i.length+j.length≤sizeLine/\Q (.str (i++j)) H):=by intro pins s J H x y v u Q I r a h;obtain⟨i,j,rfl,rfl,z,q⟩:=h;obtain⟨t,rfl⟩:=r;obtain⟨e,rfl⟩:=a;exact add_str (λe tk=>⟨.str (i++j),H,I.tok _,⟨_,rfl⟩,q⟩) z
theorem vals1(r:aM [x] G):∃u,G=[u]/\RelV x u:=by
 cases r with
 |cons h a=>cases a;exact⟨_,rfl,h⟩
theorem vals2(r:aM [x,y] G):∃u w,G=[u,w]/\RelV x u/\RelV y w:=by
 cases r with
 |cons h a=>
  cases a with
  |cons e s=>cases s;exact⟨_,_,rfl,h,e⟩
theorem Bz:cm X (.builtin "abs") (λxs H Q=>∃i,xs=[.int i]/\Q (.int (if i < 0 then -i else i)) H):=by intro pins s J H xs G Q I r h;obtain⟨i,rfl,q⟩:=h;obtain⟨u,rfl,t,rfl⟩:=vals1 r;exact call_abs_int λu tk=>⟨.int (if i < 0 then -i else i),H,I.tok _,⟨_,rfl⟩,q⟩
theorem yA(c:X.c=true):cm X (.builtin "max") (λxs H Q=>∃i j,xs=[.int i,.int j]/\Q (.int (if j > i then j else i)) H):=by
 intro pins s J H xs G Q I r h;obtain⟨i,j,rfl,q⟩:=h;obtain⟨u,w,rfl,⟨t,rfl⟩,⟨a,rfl⟩⟩:=vals2 r;refine max_two_ints (I.o.hd c) λh' tk k=>⟨_,H,I.kept k,?_,q⟩
 by_cases x:j > i
 .rw [ae x,ae x];exact⟨_,rfl⟩
 .rw [ag x,ag x];exact⟨_,rfl⟩
theorem yz(c:X.c=true):cm X (.builtin "min") (λxs H Q=>∃i j,xs=[.int i,.int j]/\Q (.int (if j < i then j else i)) H):=by
 intro pins s J H xs G Q I r h;obtain⟨i,j,rfl,q⟩:=h;obtain⟨u,w,rfl,⟨t,rfl⟩,⟨a,rfl⟩⟩:=vals2 r;refine min_two_ints (I.o.hd c) λh' tk k=>⟨_,H,I.kept k,?_,q⟩
 by_cases x:j < i
 .rw [ae x,ae x];exact⟨_,rfl⟩
 .rw [ag x,ag x];exact⟨_,rfl⟩
theorem oU:cm X (.type "int") (λxs H Q=>(∃i,xs=[.int i]/\Q (.int i) H)\/∃k,xs=[.bl k]/\Q (.int (if k then 1 else 0)) H):=by
 intro pins s J H xs G Q I r h;rcases h with ⟨i,rfl,q⟩|⟨k,rfl,q⟩
 .obtain⟨u,rfl,t,rfl⟩:=vals1 r;exact call_int_int ⟨.int i,H,I,⟨_,rfl⟩,q⟩
 .obtain⟨u,rfl,x⟩:=vals1 r;cases x;exact call_int_bool ⟨.int (if k then 1 else 0),H,I.tok _,⟨_,rfl⟩,q⟩
end
structure ObjM(h:Heap)(x dx C:Addr)(mA:SV):Prop where
 obj:h.get? x=some (ij C dx)
 ns:h.Ns1 dx mA
 ne:dx≠x
set_option tactic.hygienic true in
theorem yc(n:h.Ns1 dx mA):∃d,h.get? dx=some d/\∀j,pK j d=some (mA j):=by
 obtain⟨o,es,p,f,s,hk,_,m⟩:=n;refine⟨o,f,λj=>?_⟩;have e:=m j;unfold nsFind findBy at e;rw[<- Array.find?_toList]at e;unfold pK;rw[s];dsimp only;split
 .rename_i y q;rw[q]at e;exact bR some e
 .rename_i q;rw[q]at e;have a:es.toList.any (·.refKey)=false:=by
   rw[List.any_eq_false];intro y b;obtain⟨z,t,k⟩:=hk y (Array.mem_toList_iff.mp b);simp[DictEntry.refKey,k]
  have x:¬es.toList.any (·.refKey)=true:=by rw[a];exact aY
  rw[ag x];exact bR some e
variable{C:Addr}
theorem ObjM.look(I:ObjM h x dx C mA):∃o,PySem.W.InstAt h x (ij C dx) C (some o)/\∀j,pK j o=some (mA j):=
 let ⟨o,a,l⟩:=yc I.ns
 ⟨o,⟨I.obj,rfl,rfl,a⟩,l⟩
section
variable{prog:Program}{w:World}{A:Around}{E:VP}{s:Shared}{K:FG}{x dx C f:Addr}{mA:SV}{j:Str}{v:Value}
theorem DO(X:K.In s.heap)(I:ObjM s.heap x dx C mA)(g:mE K C j=true)(k:pM K C=true)
  (n:bP K (.ref C) j=some none) (f:mA j=some v) (a:y3 v=true) (h:Q v { s with toks:=s.toks+1 }) :
  wpAny (model prog w) A (getAttr (.ref x) j q) Q E s:=by
 obtain⟨o,e,l⟩:=I.look;exact PySem.W.get_value X e (tZ g).1 (PySem.W.findObj_own k n rfl (by rw[l,f])) a h
theorem A9(X:K.In s.heap)(I:ObjM s.heap x dx C mA)(g:mE K C j=true)
  (e:bP K (.ref C) j=some (some (.ref f))) (t:pF K (.ref f)=true) (v:mA j=none) (h:Q (.ref f,[.ref x]) s) :
  wpAny (model prog w) A (getMethod (.ref x) j q) Q E s:=by
 obtain⟨o,a,l⟩:=I.look;exact PySem.W.method_fn X a (tZ g).1 (tZ g).2 e (jE.mp t) (by show(pK j o).map (·.isSome)=some false;rw[l,v];rfl) h
theorem CZ(X:K.In s.heap)(I:ObjM s.heap x dx C mA)
  (u:bP K (.ref C) "__setattr__"=some (some (.builtin "object.__setattr__"))) (q:tY K C=true) (g:tU K C j=some none) (t:pM K C=true)
  (i:tD mA N) (z:N.length≤sizeLine)
  (h:∀h',ObjM h' x dx C (λy=>if y=j then some v else mA y)->cq dx s.heap h'->Q () { s with heap:=h',toks:=s.toks+2 }) :
  wpAny (model prog w) A (setAttr (.ref x) j v) Q E s:=by
 obtain⟨P,k,S⟩:=I.look;refine PySem.W.set_plain X k u (PySem.W.osa_open (s:={ s with toks:=s.toks+1 }) (r:=none) X k q g λb=>?_);obtain⟨H,m,d⟩:=PySem.W.any_some t;have l:s.heap.get? x=some ⟨.ref C,some dx,.plain,#[]⟩:=I.obj;refine ac (am (ac (ac (wpAny_loadPart l (ac (PySem.W.Looks.here (s:={ s with toks:=s.toks+1 }) (PySem.W.looks_clsIn X m) ?_))))));rw[d];refine am (a:=some dx) (ac (am (ac ?_)));refine wpAny_nsSet1 (s:={ s with toks:=s.toks+1 }) I.ns λh' n e=>?_;obtain⟨F,f,p,o,D,c⟩:=n.count (PySem.Within.cons j v i);refine ac (wpAny_lookBehind o (by rw[D];exact pastItsLine_dict (aI c (by rw[bC];lia))) ?_);exact am (h _ ⟨(e.2 _ (aG I.ne)).trans I.obj,n,I.ne⟩ e)
theorem AF(X:K.In s.heap)(m:tT K C=true)
  (hi:bP K (.ref C) "__init__"=some (some (.ref f))) (x:PySem.W.typeIn K (.ref f)=some (.type "function"))
  (h:codeAny (model prog w) (A.under (.builtin "type.__call__" ⟨.ref C::q,kw⟩)) (.call (.ref f) ⟨.ref (s.heap.objs.size+1)::q,kw⟩) (PySem.W.InitBack (s.heap.objs.size+1) R)
   { s with heap:=(s.heap.push gI).push (ij C s.heap.objs.size) }) :
  codeAny (model prog w) A (.call (.ref C) ⟨q,kw⟩) R s:=by
 obtain⟨a,g,d,t,os⟩:=s;exact PySem.W.make_core (PySem.W.makes_of X m) (PySem.W.looks_findIn X hi) (λe=>PySem.W.bind_fn X e x) (.inl rfl) h
end
noncomputable def fP(f:Str)(v:V):List (Str×V)->List (Str×V)
 | []=>[(f,v)]
 |(g,x)::r=>if g=f then (g,v)::r else (g,x)::fP f v r
theorem kX(f g:Str)(v:V):∀fs:List (Str×V),(fP f v fs).lookup g=if g=f then some v else fs.lookup g
 | []=>by
  show da g [(f,v)]=_;by_cases h:g=f
  .have b:(g == f)=true:=jE.mpr h;simp only[da,b,ae h]
  .have b:(g == f)=false:=eD.mpr h;simp only[da,b,ag h]
 |(k,x)::r=>by
  have i:=kX f g v r;rw[show fP f v ((k,x)::r)=(if k=f then (k,v)::r else (k,x)::fP f v r) from rfl];by_cases hk:k=f
  .rw [ae hk];by_cases h:g=k
   .have b:(g == k)=true:=jE.mpr h;simp only[da,b,ae (h.trans hk)]
   .have b:(g == k)=false:=eD.mpr h;simp only[da,b,ag (λe:g=f=>h (e.trans hk.symm))]
  .rw [ag hk];by_cases h:g=k
   .have b:(g == k)=true:=jE.mpr h;simp only[da,b,ag (λe:g=f=>hk (h.symm.trans e))]
   .have b:(g == k)=false:=eD.mpr h;simp only[da,b];exact i
theorem kH(f:Str)(v:V):∀fs:List (Str×V),f ∈ (fP f v fs).map (·.1)/\∀g,g ∈ fs.map (·.1)->g ∈ (fP f v fs).map (·.1)
 | []=>⟨by simp[fP],λg h=>by simp at h⟩
 |(k,x)::r=>by
  obtain⟨i,a⟩:=kH f v r;rw[show fP f v ((k,x)::r)=(if k=f then (k,v)::r else (k,x)::fP f v r) from rfl];by_cases hk:k=f
  .rw [ae hk];subst hk;exact⟨by simp,λg h=>by simpa using h⟩
  .rw [ag hk];refine⟨?_,λg h=>?_⟩
   .rw [az];exact aW _ i
   .rw [az]at h ⊢;rcases aH.mp h with e|e
    .exact aH.mpr (.inl e)
    .exact aW _ (a g e)
theorem kY(f:Str)(v:V):∀fs:List (Str×V),(fP f v fs).length≤fs.length+1
 | []=>by simp[fP]
 |(k,x)::r=>by
  have i:=kY f v r;rw[show fP f v ((k,x)::r)=(if k=f then (k,v)::r else (k,x)::fP f v r) from rfl];by_cases hk:k=f
  .rw [ae hk,bC,bC];lia
  .rw [ag hk,bC,bC];lia
theorem ib.some_of{v:V}{o:OV}(r:ib (some v) o):∃u,o=some u/\RelV v u:=by
 cases o with
 |none=>exact(show False from r).elim
 |some u=>exact⟨u,rfl,r⟩
theorem ib.none_of{o:OV}(r:ib none o):o=none:=by
 cases o with
 |none=>rfl
 |some u=>exact(show False from r).elim
variable{v:V}
theorem yk(r:RelV v u):y3 u=true:=by
 cases v with
 |non=>cases (show u=Value.none from r);rfl
 |bl b=>cases (show u=Value.bool b from r);rfl
 |int i=>obtain⟨t,e⟩:=(show ∃t,u=Value.int i t from r);cases e;rfl
 |str x=>obtain⟨t,e⟩:=(show ∃t,u=Value.str x t from r);cases e;rfl
 |byt b=>obtain⟨t,e⟩:=(show ∃t,u=Value.bytes b t from r);cases e;rfl
 |flt b=>obtain⟨t,e⟩:=(show ∃t,u=Value.float b t from r);cases e;rfl
 |ref a=>cases (show u=Value.ref a from r);rfl
 |ty n=>cases (show u=Value.type n from r);rfl
section
variable{P:Program}{w:World}{H H':Hp}{h h':Heap}{a C dx:Addr}{fs fs':List (Str×V)}
theorem qC(o:ga P w H h)(e:H a=some (.ins C dx fs)):∃mA,ObjM h a dx C mA/\(∀f,ib (fs.lookup f) (mA f))/\tD mA (fs.map (·.1))/\fs.length≤1000/\H dx=some (.own a):=by obtain⟨d,z,x,b,mA,n,r,q⟩:=(show bX P w H h a (.ins C dx fs) from o a _ e);exact⟨mA,⟨b,n,x⟩,r,q,z,d⟩
end
structure Cls(K:FG)(C:Addr):Prop where
 pg:mE K C Str.empty=true
 hd:pM K C=true
 po:tY K C=true
 sa:bP K (.ref C) "__setattr__"=some (some (.builtin "object.__setattr__"))
theorem Cls.get(c:Cls K C)(f:Str):mE K C f=true:=c.pg
def jy(K:FG)(C:Addr)(f:Str):Prop:=bP K (.ref C) f=some none
theorem jy.taker(n:jy K C f):tU K C f=some none:=by unfold tU;rw[show bP K (.ref C) f=some none from n];rfl
structure Con(K:FG)(C:Addr)(f:Str)(v:V)(u:Value):Prop where
 at_:bP K (.ref C) f=some (some u)
 rel:RelV v u
 get:y4 K u "__get__"=some none
 cp:PySem.W.copiedNames.contains f=false
structure Meth(K:FG)(C:Addr)(m:Str)(f:Addr):Prop where
 at_:bP K (.ref C) m=some (some (.ref f))
 fn:pF K (.ref f)=true
 kp:cC K (.ref f)=true
section
variable{X:Cx}{pins:PN}{J:St}{H:Hp}{s:Shared}{a C dx:Addr}{fs:List (Str×V)}{f:Str}{v:V}{A:Around}{E:VP}
theorem uI{b:Bool}{Q:VP}(I:Inv X pins J H s)(e:H a=some (.ins C dx fs))(c:Cls X.K C)(n:jy X.K C f)(l:fs.lookup f=some v)
  (h:∀u s',Inv X pins J H s'->RelV v u->Q u s'):wpAny (model X.p X.w) A (getAttr (.ref a) f b) Q E s:=by
 obtain⟨mA,k,r,_,_,_⟩:=qC I.h e;obtain⟨u,m,x⟩:=ib.some_of (v:=v) (o:=mA f) (by rw[<- l];exact r f);exact DO I.kIn k (c.get f) c.hd n m (yk x) (h u _ (I.tok _) x)
theorem nl{m:Str}{g:Addr}{p:Sem Bool}{Q:Value×LV->Shared->Prop}(I:Inv X pins J H s)(e:H a=some (.ins C dx fs))(c:Cls X.K C)(k:Meth X.K C m g)(l:fs.lookup m=none)
  (h:Q (.ref g,[.ref a]) s):wpAny (model X.p X.w) A (getMethod (.ref a) m p) Q E s:=by
 obtain⟨mA,x,r,_,_,_⟩:=qC I.h e;have n:mA m=none:=ib.none_of (by rw[<- l];exact r m);exact A9 I.kIn x (c.get m) k.at_ k.fn n h
theorem ug(I:Inv X pins J H s)(e:H a=some (.ins C dx fs))(c:Cls X.K C)(n:jy X.K C f)(hl:fs.length < 1000)(ry:RelV y u)
  (h:∀s',Inv X pins J (a7 H a (.ins C dx (fP f y fs))) s'->Q () s'):wpAny (model X.p X.w) A (setAttr (.ref a) f u) Q E s:=by
 obtain⟨mA,O9,r,wi,_,ho⟩:=qC I.h e;have hz:(fs.map (·.1)).length≤sizeLine:=by rw[a8,kn];lia
 refine CZ I.kIn O9 c.sa c.po n.taker c.hd wi hz λh' O' sb=>h _ ?_;have hd:∃o,h'.get? dx=some o:=let ⟨o,_,_,e',_⟩:=O'.ns;⟨o,e'⟩
 refine I.write (x:=a) (e:=dx) (by rw[e];exact True.intro) (.inr ho) (λb q hb z=>(sb.2 b hb).trans z) hd ?_;refine⟨by rw[al O9.ne];exact ho,?_,O9.ne,O'.obj,_,O'.ns,λg=>?_,λg hg=>?_⟩
 .have:=kY f y fs;lia
 .show ib ((fP f y fs).lookup g) (if g=f then some u else mA g);rw[kX];by_cases q:g=f
  .rw [ae q,ae q];exact ry
  .rw [ag q,ag q];exact r g
 .by_cases q:g=f
  .rw [q];exact(kH f y fs).1
  .refine (kH f y fs).2 g (wi g λz=>hg ?_);show(if g=f then some u else mA g)=none;rw[ag q];exact z
theorem Inv.made(I:Inv X pins J H s):Inv X pins J (a7 (a7 H s.heap.objs.size (.own (s.heap.objs.size+1))) (s.heap.objs.size+1) (.ins C s.heap.objs.size []))
  { s with heap:=(s.heap.push gI).push (ij C s.heap.objs.size) }:=by
 have h:(s.heap.push gI).get? s.heap.objs.size=some gI:=aS s.heap rfl;have k:((s.heap.push gI).push (ij C s.heap.objs.size)).get? (s.heap.objs.size+1)=some (ij C s.heap.objs.size):=by have:=aS (s.heap.push gI) (o:=ij C s.heap.objs.size) rfl;rwa [jD]at this
 have f:(s.heap.push gI).Ns s.heap.objs.size (λ_=>none):=⟨gI,#[],_,h,rfl,(λe c=>absurd c (by simp)),λ_=>rfl⟩;have x:=I.laid (a:=s.heap.objs.size) (o:=.own (s.heap.objs.size+1)) (h':=s.heap.push gI) (t':=s.toks) (λb u q=>aE _ q) (ai _) ⟨_,h⟩;refine x.laid (a:=s.heap.objs.size+1) (o:=.ins C s.heap.objs.size []) (t':=s.toks) (λb u q=>aE _ q) (v3 (jD _ _)) ?_;have n:s.heap.objs.size≠s.heap.objs.size+1:=aL (c_ _);refine⟨by rw[al n,au],br _,n,k,λ_=>none,(Heap.Ns1.of_empty f).at λo q=>aE _ q,λ_=>True.intro,λy m=>absurd rfl m⟩
theorem D_(b:attributeBase e f q (eval e q)=eval e q)
  (h:wpAny (model prog w) A (eval e q) (λo x=>wpAny (model prog w) A (getAttr o f true) Q E x) E s):wpAny (model prog w) A (eval (.Attribute e f B) q) Q E s:=
 Attribute_any_ h (by rw[arm_eval_Attribute,b])
end
def LO(K:FG)(ta:TE)(f:Str):TE:=λJ H Q=>ta J H λx H1=>∃a C dx fs v,x=.ref a/\H1 a=some (.ins C dx fs)/\Cls K C/\jy K C f/\fs.lookup f=some v/\Q v H1
def LW(K:FG)(ta tv:TE)(f:Str):TS:=λD J H=>tv J H λy H1=>ta J H1 λx H2=>∃a C dx fs,x=.ref a/\H2 a=some (.ins C dx fs)/\Cls K C/\jy K C f/\fs.length < 1000 /\
 D.nx J (a7 H2 a (.ins C dx (fP f y fs)))
section
variable{X:Cx}{o e value:Expr}{f:Str}{B pos' tpos:Pos}{ta tv:TE}
theorem Gb(t:Y X e ta)(r:attributeBase e f X.e (eval e X.e)=eval e X.e):Y X (.Attribute e f B) (LO X.K ta f):=by intro pins s J H Q I h;refine D_ r (bB (t pins s J H _ I h) λu w z=>?_);obtain⟨x,H1,k,d,a,C,dx,fs,v,ex,m,c,n,l,q⟩:=z;subst ex;obtain rfl:u=Value.ref a:=d;exact uI k m c n l λi g b p=>⟨v,H1,b,p,q⟩
theorem FW(r:Y X o ta)(v:Y X value tv)(t:swapsWith value (some (.Attribute o f pos')) B.line X.e=pure false):PS X (.Assign [.Attribute o f pos'] value B) (LW X.K ta tv f):=by intro pins s J H D I h;refine plainObj_wpAny_Assign_Attribute (bB (v pins s J H _ I h) λu i ⟨y,H1,e,g,q⟩=>bB (r pins i J H1 _ e q) λp j z=>?_) t;obtain⟨x,H2,k,w,a,C,dx,fs,ex,m,c,n,l,d⟩:=z;subst ex;obtain rfl:p=Value.ref a:=w;exact ug k m c n l g λS b=>⟨J,_,b,d⟩
end
section
variable{X:Cx}{pins:PN}{J:St}{H:Hp}{s:Shared}{A:Around}{E:VP}{Q:VP}{c:Value}{b:Bool}
inductive TyOf(K:FG)(H:Hp):V->Value->Prop where
 |non:TyOf K H .non (.type "NoneType")
 |bl (x:Bool):TyOf K H (.bl x) (.type "bool")
 |int (i:Int):TyOf K H (.int i) (.type "int")
 |str (x:Str):TyOf K H (.str x) (.type "str")
 |flt (x:UInt64):TyOf K H (.flt x) (.type "float")
 |lst {a:Addr}{xs:List V} (e:H a=some (.lst xs)):TyOf K H (.ref a) (.type "list")
 |frz {a:Addr}{o:Obj}{xs:List V} (e:H a=some (.frz o (.lst xs))):TyOf K H (.ref a) (.type "list")
 |tup {a:Addr}{xs:List V} (e:H a=some (.tup xs)):TyOf K H (.ref a) (.type "tuple")
 |dK {a:Addr}{kvs:List (cn×V)} (e:H a=some (.dK kvs)):TyOf K H (.ref a) (.type "dict")
 |dT {a:Addr}{kvs:List (List cn×V)} (e:H a=some (.dT kvs)):TyOf K H (.ref a) (.type "dict")
 |ins {a C dx:Addr}{fs:List (Str×V)} (e:H a=some (.ins C dx fs)) (cl:Cls K C) (ha:bP K (.ref C) "__class__"=some (some (.builtin "object.__class__")))
   (hn:y4 K (.builtin "object.__class__") "__get__"=some (some (.builtin "getset_descriptor.__get__"))) (htk:PySem.W.takesIn K (.builtin "object.__class__")=some true)
   (hm:PySem.W.mroIn K C (.type "object")=some true):TyOf K H (.ref a) (.ref C)
end
structure Room(k:Nat)(A:Around):Prop where
 hd:A.handled=none
 dp:A.depth+3 * k+5 < recursionLimit
 un:A.units+16 * k+200 < cLine
variable{k:Nat}
theorem Room.mono(r:Room k A)(h:q≤k):Room q A:=⟨r.hd,by have:=r.dp;lia,by have:=r.un;lia⟩
theorem Room.deeper(r:Room (k+1) A)(e:Env):Room k (A.deeper e):=
 ⟨r.hd,by have:=r.dp;show A.depth+1+3 * k+5 < _;lia,by have:=r.un;show A.units+3+16 * k+200 < _;lia⟩
variable{kw:List (Str×Value)}
theorem uw:(A.under (.builtin "type.__call__" ⟨.ref C::G,kw⟩)).depth=A.depth+1:=by first|rfl|simp[pX,Code.weight,Code.isCreation,Code.isGuard,Code.isCaller,Code.frames,Code.isFrame,guardIds]
theorem uv:(A.under (.builtin "type.__call__" ⟨.ref C::G,kw⟩)).units=A.units+1:=by first|rfl|simp[pX,Code.cUnits,Code.frames,Code.isFrame]
theorem Room.make(r:Room (k+1) A)(C:Addr)(G:LV)(kw:List (Str×Value)):Room k (A.under (.builtin "type.__call__" ⟨.ref C::G,kw⟩)):=
 ⟨r.hd,by have:=r.dp;rw[uw];lia,by have:=r.un;rw[uv];lia⟩
theorem Room.depth(r:Room k A):A.depth < recursionLimit:=by have:=r.dp;lia
noncomputable def Iz:TA:=λ_ H Q=>Q [] H
noncomputable def IE(ta:TE)(tr:TA):TA:=λJ H Q=>ta J H λx H1=>tr J H1 λxs H2=>Q (x::xs) H2
section
variable{X:Cx}{e:Expr}{es:Ab}{te:TE}{t:TA}{B:Pos}
theorem eP:PA X [] Iz:=λ_ _ _ _ H Q I h=>cL ⟨[],H,I,.nil,h⟩
theorem dh(k:Y X e te)(r:PA X es t)(f:starEach (e::es) X.e=(false,eval e X.e)::starEach es X.e:=by rfl):PA X (e::es) (IE te t):=by intro B pins s J H Q I h;rw[f];show wpAny _ _ (spliced ((false,eval e X.e)::backTo B (starEach es X.e))) _ _ s;refine bM (bB (k pins s J H _ I h) λu p z=>?_);obtain⟨x,H1,a,c,q⟩:=z;exact bB (r B pins p J H1 _ a q) λG v z=>by obtain⟨xs,H2,n,m,b⟩:=z;exact⟨x::xs,H2,n,.cons c m,b⟩
def LF(t:TA):TE:=λJ H Q=>t J H λxs H1=>xs.length≤sizeLine/\∀p,H1 p=none->Q (.ref p) (a7 H1 p (.tup xs))
def LK(t:TA):TE:=λJ H Q=>t J H λxs H1=>xs.length≤sizeLine/\∀p,H1 p=none->Q (.ref p) (a7 H1 p (.lst xs))
theorem qp {N} (h:PA X es t):Y X (.Tuple es N B) (LF t):=by intro pins s J H Q I n;refine wpAny_Tuple_spliced (bB (h B pins s J H _ I n) λG x k=>?_);obtain⟨xs,H1,a,r,z,q⟩:=k;refine⟨by rw[<- r.length];exact z,?_⟩;have f:H1 x.heap.objs.size=none:=a.h.fresh (ai _);refine⟨.ref x.heap.objs.size,a7 H1 x.heap.objs.size (.tup xs),a.laid (t':=x.toks) (λb u e=>aE _ e) (ai _) ?_,rfl,q _ f⟩;exact⟨z,G,r,kR.new _ _⟩
theorem uq(h:PA X es t):Y X (.List es B) (LK t):=by intro pins s J H Q I n;refine wpAny_List_spliced (bB (h B pins s J H _ I n) λG x k=>?_);obtain⟨xs,H1,a,r,z,q⟩:=k;refine⟨by rw[<- r.length];exact z,?_⟩;have f:H1 x.heap.objs.size=none:=a.h.fresh (ai _);refine⟨.ref x.heap.objs.size,a7 H1 x.heap.objs.size (.lst xs),a.laid (t':=x.toks) (λb u e=>aE _ e) (ai _) ?_,rfl,q _ f⟩;exact⟨z,G,0,r,aS _ rfl⟩
end
noncomputable abbrev Sp:=List V->Hp->VK->XK->Prop
noncomputable abbrev yK:=List Env->Hp->Shared->XK->VP
structure Env0(P:Program)(w:World)(K:FG)(mg:SV)(base:Heap)(A:Around)(outer:List Env)(s:Shared)(H:Hp):Prop where
 frames:A.frames=some outer
 mod:Mod K mg base
 bs:∀b o,base.get? b=some o->s.heap.get? b=some o/\H b=none
 bsz:base.objs.size≤s.heap.objs.size
 funs:s.heap.FunFrames base outer
 frf:∀b ∈ yn outer,H b=none
 tab:∀P ∈ bz K,H P=some .tbl
 h:ga P w H s.heap
 bare:AllBare s.gens
def CE(o:List Env)(P:Program)(w:World)(H:Hp)(s:Shared)(Q:VK)(u:Value)(s':Shared):Prop:=
 ∃v H',s'.os=s.os/\AllBare s'.gens/\Un (yn o) [] H H' s.heap s'.heap/\ga P w H' s'.heap/\RelV v u/\Q v H'
def CR(CX:yK)(o:List Env)(P:Program)(w:World)(H:Hp)(s:Shared)(Q:VK)(E:XK)(r:Result)(s':Shared):Prop:=
 match r with
 | .ok (.ret u)=>CE o P w H s Q u s'
 | .ok _=>False
 | .error e=>CX o H s E e s'
structure FnOk(P:Program)(w:World)(K:FG)(mg:SV)(base:Heap)(CX:yK)(k:Nat)(f:Addr)(fd:FuncData)(ps:LS)(sp:Sp):Prop where
 len:∀vs H Q E,sp vs H Q E->vs.length=ps.length
 run:∀(A:Around)(outer:List Env)(s:Shared)(H:Hp)(args:Args)(us:LV)(vs:List V)(Q:VK)(E:XK),Room k A->Env0 P w K mg base A outer s H->BindsTo s fd args (ps.zip us)->aM vs us->sp vs H Q E ->
  codeAny (model P w) A (.call (.ref f) args) (CR CX outer P w H s Q E) s
variable{mg:SV}{base:Heap}{fd:FuncData}{ps:LS}
theorem FnOk.mono(F:FnOk P w K mg base CX q f fd ps sp)(h:q≤k) :
  FnOk P w K mg base CX k f fd ps sp:=⟨F.len,λA o s H a G v Q E r=>F.run A o s H a G v Q E (r.mono h)⟩
theorem FnOk.imp(F:FnOk P w K mg base CX k f fd ps sp)
  (h:∀v H Q E,z v H Q E->sp v H Q E):FnOk P w K mg base CX k f fd ps z:=
 ⟨λv H Q E q=>F.len v H Q E (h _ _ _ _ q),λA o s H a G v Q E r e b n x=>F.run A o s H a G v Q E r e b n (h _ _ _ _ x)⟩
theorem Env0.make(e:Env0 P w K mg base A q s H)(C:Addr)(G:LV)(kw:List (Str×Value)) :
  Env0 P w K mg base (A.under (.builtin "type.__call__" ⟨.ref C::G,kw⟩)) q s H:=⟨by first|exact e.frames|(simpa[pX,Code.envs,Code.isFrame,pushEnvs] using e.frames),e.mod,e.bs,e.bsz,e.funs,e.frf,e.tab,e.h,e.bare⟩
section
variable{X:Cx}{pins:PN}{J:St}{H:Hp}{s s':Shared}
theorem Inv.env0(I:Inv X pins J H s):Env0 X.p X.w X.K X.g X.b X.A X.k s H:=
 ⟨I.o.frames,I.o.mod,I.bs,aI I.o.bsz I.sz,I.stack,I.stkFree,λP h=>I.base.tbls P (I.o.tab P h),I.h,I.bare⟩
theorem Inv.after(I:Inv X pins J H s)(h:CE X.k X.p X.w H s Q u s'):EP X pins J Q u s':=by obtain⟨v,H',os,a,un,o,r,q⟩:=h;obtain⟨e,g,d,t,x⟩:=s';obtain rfl:x=s.os:=os;exact⟨v,H',I.call (h':=e) (g':=g) (d':=d) (t':=t) (ch:=[]) un o a (λb z=>absurd z (by simp)),r,q⟩
end
noncomputable def IF(sp:Sp)(dvs:List V)(E:XK)(t:TA):TE:=λJ H Q=>t J H λv H1=>sp (v++dvs) H1 Q E
def zI(C:Addr)(m:Str)(sp:Sp)(dvs:List V)(E:XK)(ta:TE)(t:TA):TE:=λJ H Q=>ta J H λx H1=>∃a dx fs,x=.ref a/\H1 a=some (.ins C dx fs)/\fs.lookup m=none /\
 t J H1 λv H2=>sp (x::(v++dvs)) H2 Q E
def IB(C:Addr)(sp:Sp)(dvs:List V)(E:XK)(t:TA):TE:=λJ H Q=>t J H λs H1=>∀x dx,H1 x=none->H1 dx=none->dx≠x ->
 sp (.ref x::(s++dvs)) (a7 (a7 H1 dx (.own x)) x (.ins C dx [])) (λv H2=>v=.non/\Q (.ref x) H2) E
def Binds(K:FG)(fd:FuncData)(ps:LS)(ds:LV):Prop:=
 ∀(s:Shared)(G:LV),K.In s.heap->(G++ds).length=ps.length->BindsTo s fd ⟨G,[]⟩ (ps.zip (G++ds))
theorem Binds.all(h:∀G:LV,G.length=ps.length->bindArgs fd ⟨G,[]⟩=pure (ps.zip G)):Binds K fd ps []:=λs G _ l=>by rw[b9]at l ⊢;exact .of_eq (h G l)
def jx(CX:yK)(X:Cx)(E:XK):Prop:=∀(pins:PN)(J:St)(H:Hp)(s:Shared)(e:Value)(s':Shared),Inv X pins J H s->CX X.k H s E e s'->X.xe e s'
section
variable{X:Cx}{CX:yK}{k:Nat}{f C:Addr}{fd:FuncData}{ps:LS}{sp:Sp}{dvs:List V}{ds:LV}{E:XK}{x m:Str}{p B apos:Pos}{e o:Expr}{es:Ab}{ta:TE}{t:TA}
set_option tactic.hygienic true in
theorem ui(F:FnOk X.p X.w X.K X.g X.b CX k f fd ps sp)(n:Room k X.A)(b:Binds X.K fd ps ds)(d:aM dvs ds)(c:jx CX X E)
  (I:Inv X pins J H s) (r:aM z G) (h:sp (z++dvs) H Q E):wpAny (model X.p X.w) X.A (call (.ref f) G) (EP X pins J Q) X.xe s:=by
 have x:aM (z++dvs) (G++ds):=r.append d;have a:(G++ds).length=ps.length:=by rw[<- x.length];exact F.len _ _ _ _ h
 refine ml (ko (F.run X.A X.k s H ⟨G,[]⟩ (G++ds) (z++dvs) Q E n I.env0 (b s G I.kIn a) x h) λr s' q=>?_);cases r with
 |error e=>exact c pins J H s e s' I q
 |ok l=>
  cases l with
  |ret u=>exact I.after q
  |next=>exact False.elim q
  |brk=>exact False.elim q
  |cont=>exact False.elim q
theorem qq(F:FnOk X.p X.w X.K X.g X.b CX k f fd ps sp)(w:Room k X.A)(g:Gl X x)(v:X.g x=some (.ref f))(hk:cC X.K (.ref f)=true)(b:Binds X.K fd ps ds)(c:aM dvs ds)(u:jx CX X E)
  (n:PA X (e::es) t) (d:(x == ("__debug__":Str))=false:=by decide) (m:starEach (e::es) X.e=(false,eval e X.e)::starEach es X.e:=by rfl) (l:(backTo B (starEach es X.e)).any (·.1)=false:=by rfl) :
  Y X (.Call (.Name x p) (e::es) [] B) (IF sp dvs E t):=by
 intro pins s J H Q I h;refine eI (l0 I g v ?_ d);refine mF (h₀:=X.b) I.o.mod.kin hk (bB (n B pins s J H _ I h) λG i z=>?_) m l;obtain⟨j,H1,a,r,q⟩:=z;refine⟨a.kIn,?_⟩;exact ui F w b c u a r q
theorem Dn(y:Y X o ta)(c:Cls X.K C)(d:Meth X.K C m f)(F:FnOk X.p X.w X.K X.g X.b CX k f fd ps sp)(S:Room k X.A)(i:Binds X.K fd ps ds)(j:aM dvs ds)(P:jx CX X E)(g:PA X (e::es) t)
  (n:starEach (e::es) X.e=(false,eval e X.e)::starEach es X.e:=by rfl) (p:(backTo B (starEach es X.e)).any (·.1)=false:=by rfl)
  (K:eval (.Call (.Attribute o m apos) (e::es) [] B) X.e=(do
   let N <- eval o X.e
   standAt apos.atName
   let (f,first) <- holding [N] (getMethod N m pl)
   callWith B f first (backTo B (starEach (e::es) X.e)) (backToKw B (keywordEach [] X.e))):=by rfl) :
  Y X (.Call (.Attribute o m apos) (e::es) [] B) (zI C m sp dvs E ta t):=by
 intro pins s J H Q I h;refine y8 (pl:=pl) (bB (y pins s J H _ I h) λu L z=>?_) K;obtain⟨x,H1,b,D,a,dx,fs,ex,w,l,q⟩:=z;subst ex;obtain rfl:u=Value.ref a:=D;refine nl b w c d l ?_;refine mF (first:=[.ref a]) (h₀:=X.b) I.o.mod.kin d.kp (bB (g B pins L J H1 _ b q) λG R z=>?_) n p;obtain⟨M,H2,v,r,A⟩:=z;refine⟨v.kIn,?_⟩;exact ui (G:=.ref a::G) (z:=.ref a::M) F S i j P v (.cons rfl r) A
theorem Af(t:Y X o ta)(c:Cls X.K C)(n:Meth X.K C m f)(F:FnOk X.p X.w X.K X.g X.b CX k f fd ps sp)(p:Room k X.A)(r:Binds X.K fd ps ds)(d:aM dvs ds)(w:jx CX X E)
  (v:eval (.Call (.Attribute o m apos) [] [] B) X.e=(do
   let z <- eval o X.e
   standAt apos.atName
   let (f,first) <- holding [z] (getMethod z m N)
   callWith B f first (backTo B (starEach [] X.e)) (backToKw B (keywordEach [] X.e))):=by rfl) :
  Y X (.Call (.Attribute o m apos) [] [] B) (zI C m sp dvs E ta Iz):=by
 intro pins s J H Q I h;refine y8 (pl:=N) (bB (t pins s J H _ I h) λu j g=>?_) v;obtain⟨x,H1,e,i,a,dx,fs,ex,b,l,q⟩:=g;subst ex;obtain rfl:u=Value.ref a:=i;refine nl e b c n l ?_;exact PySem.W.callWith_K0 (first:=[.ref a]) e.kIn n.kp (ui (G:=[.ref a]) (z:=[.ref a]) F p r d w e (.cons rfl .nil) q)
structure Mk(K:FG)(C f:Addr):Prop where
 makes:tT K C=true
 init:bP K (.ref C) "__init__"=some (some (.ref f))
 fn:pF K (.ref f)=true
 kp:cC K (.ref C)=true
set_option tactic.hygienic true in
theorem zV(M:Mk X.K C f)(F:FnOk X.p X.w X.K X.g X.b CX k f fd ps sp)(w:Room (k+1) X.A)(t:Binds X.K fd ps ds)(d:aM dvs ds)
  (g:jx CX X E) (I:Inv X pins J H s) (r:aM z G)
  (h:∀x dx,H x=none->H dx=none->dx≠x->sp (.ref x::(z++dvs)) (a7 (a7 H dx (.own x)) x (.ins C dx [])) (λv H2=>v=.non/\Q (.ref x) H2) E) :
  wpAny (model X.p X.w) X.A (call (.ref C) G) (EP X pins J Q) X.xe s:=by
 have n:=h (s.heap.objs.size+1) s.heap.objs.size (I.h.fresh (e_ _)) (I.h.fresh (ai _)) (aL (c_ _));have a:=Inv.made (C:=C) I;have b:aM (V.ref (s.heap.objs.size+1)::(z++dvs)) (Value.ref (s.heap.objs.size+1)::(G++ds)):=.cons rfl (r.append d);have p:(Value.ref (s.heap.objs.size+1)::G++ds).length=ps.length:=by have e:=b.length;rw[F.len _ _ _ _ n]at e;exact e.symm
 refine ml (AF (f:=f) I.kIn M.makes M.init (jE.mp M.fn) (ko (F.run _ X.k _ _ ⟨Value.ref (s.heap.objs.size+1)::G,[]⟩ (Value.ref (s.heap.objs.size+1)::(G++ds)) _ _ E (w.make C G [])
  (a.env0.make C G []) (t _ (Value.ref (s.heap.objs.size+1)::G) a.kIn p) b n) λr s' q=>?_))
 cases r with
 |error e=>exact g pins J _ _ e s' a q
 |ok l=>
  cases l with
  |ret u=>obtain⟨v,H',c,j,m,i⟩:=a.after q;subst m;exact⟨j,⟨V.ref (s.heap.objs.size+1),H',c,rfl,i⟩⟩
  |next=>exact False.elim q
  |brk=>exact False.elim q
  |cont=>exact False.elim q
theorem xm(M:Mk X.K C f)(F:FnOk X.p X.w X.K X.g X.b CX k f fd ps sp)(w:Room (k+1) X.A)(g:Gl X x)(v:X.g x=some (.ref C))(b:Binds X.K fd ps ds)(c:aM dvs ds)(u:jx CX X E)
  (n:PA X (e::es) t) (d:(x == ("__debug__":Str))=false:=by decide) (m:starEach (e::es) X.e=(false,eval e X.e)::starEach es X.e:=by rfl) (l:(backTo B (starEach es X.e)).any (·.1)=false:=by rfl) :
  Y X (.Call (.Name x p) (e::es) [] B) (IB C sp dvs E t):=by
 intro pins s J H Q I h;refine eI (l0 I g v ?_ d);refine mF (h₀:=X.b) I.o.mod.kin M.kp (bB (n B pins s J H _ I h) λG i z=>?_) m l;obtain⟨j,H1,a,r,q⟩:=z;refine⟨a.kIn,?_⟩;exact zV M F w b c u a r q
end
section
variable{X:Cx}{CX:yK}{k:Nat}{f C:Addr}{fd:FuncData}{ps ks:LS}{sp:Sp}{E:XK}{x m:Str}{p B apos kpos:Pos}{e o:Expr}{es:Ab}{kws:List Keyword}{te ta:TE}{t tk:TA}{nm:Option Str}
structure KBinds(K:FG)(fd:FuncData)(ps ks:LS)(g:LV->LV->LV)(gV:List V->List V->List V):Prop where
 to:∀(s:Shared)(us ws:LV),K.In s.heap->(g us ws).length=ps.length->BindsTo s fd ⟨us,ks.zip ws⟩ (ps.zip (g us ws))
 rel:∀{vs:List V}{us:LV}{zs:List V}{ws:LV},aM vs us->aM zs ws->aM (gV vs zs) (g us ws)
variable{g:LV->LV->LV}{gV:List V->List V->List V}
end
structure FnScope(N P:LS)(sc:Scope):Prop where
 kind:sc.kind=.function
 co:sc.isCoroutine=false
 gen:sc.isGenerator=false
 nd:N.Nodup
 pre:N.take P.length=P
 par:∀x ∈ P,sc.names.lookup x=some .local\/sc.names.lookup x=some .cell
 nofree:∀y ∈ sc.names,y.2≠.free
theorem oV{kindOf:Str->Option NameKind}{x:Str}:∀{b:List (Str×Value)}{m:SV},(∀v,(x,v) ∉ b)->bindL kindOf b m x=m x
 | [],_,_=>rfl
 |(n,v)::r,m,h=>by
  unfold bindL;rw[oV λw a=>h w (aW _ a)];split
  .have:x≠n:=by rintro rfl;exact h v aV
   simp[this]
  .rfl
theorem oX{kindOf:Str->Option NameKind}{x:Str}:∀{b:List (Str×Value)}{m:SV},(∀v,(x,v) ∉ b)->bindC kindOf b m x=m x
 | [],_,_=>rfl
 |(n,v)::r,m,h=>by
  unfold bindC;rw[oX λw a=>h w (aW _ a)];split
  .rfl
  .have:x≠n:=by rintro rfl;exact h v aV
   simp[this]
theorem oW{kindOf:Str->Option NameKind}{x:Str}{v:Value}:∀{P:LS}{s:LV}{i:Nat}{m:SV},P.Nodup->P[i]? = some x->s[i]? = some v->kindOf x=some .local ->
  bindL kindOf (P.zip s) m x=some v
 | [],_,_,_,_,h,_,_=>by simp at h
 |_::_,[],_,_,_,_,h,_=>by simp at h
 |p::P,w::s,0,m,n,h1,h2,hk=>by simp at h1 h2;subst h1;subst h2;show bindL kindOf ((p,w)::P.zip s) m p=_;unfold bindL;rw[oV λv a=>(bN.mp n).1 (pP a).1,ae hk];simp
 |p::P,w::s,i+1,m,n,h1,h2,hk=>by show bindL kindOf ((p,w)::P.zip s) m x=_;unfold bindL;exact oW (i:=i) (bN.mp n).2 (by simpa using h1) (by simpa using h2) hk
theorem oY{kindOf:Str->Option NameKind}{x:Str}{v:Value}:∀{P:LS}{s:LV}{i:Nat}{m:SV},P.Nodup->P[i]? = some x->s[i]? = some v->kindOf x≠some .local ->
  bindC kindOf (P.zip s) m x=some v
 | [],_,_,_,_,h,_,_=>by simp at h
 |_::_,[],_,_,_,_,h,_=>by simp at h
 |p::P,w::s,0,m,n,h1,h2,hk=>by simp at h1 h2;subst h1;subst h2;show bindC kindOf ((p,w)::P.zip s) m p=_;unfold bindC;rw[oX λv a=>(bN.mp n).1 (pP a).1,ag hk];simp
 |p::P,w::s,i+1,m,n,h1,h2,hk=>by show bindC kindOf ((p,w)::P.zip s) m x=_;unfold bindC;exact oY (i:=i) (bN.mp n).2 (by simpa using h1) (by simpa using h2) hk
noncomputable def start(N:LS)(v:List V):St:=v.map some++List.replicate (N.length-v.length) none
noncomputable def sO(CX:yK)(P:Program)(w:World)(K:FG)(mg:SV)(base:Heap)(N:LS)(q:Str)(h:Scope)(f:Addr)(d:Value)(A:Around)(u:List Env)(s:Shared)(H:Hp)(E:XK):Cx where
 p:=P
 w:=w
 K:=K
 g:=mg
 b:=base
 A:=A.deeper (envOfC q h s.heap.objs.size f d)
 N:=N
 z:=s
 y:=H
 e:=envOfC q h s.heap.objs.size f d
 o:=u
 k:=envOfC q h s.heap.objs.size f d::u
 ex:=[]
 c:=true
 fn:=λ_=>true
 pn:=[]
 xe:=λe s'=>wpAny (model P w) (A.deeper (envOfC q h s.heap.objs.size f d)) (leaving (envOfC q h s.heap.objs.size f d) e) (λ_ x=>CX u H s E e x) (λa x=>CX u H s E a x) s'
variable{x:Str}
theorem sW{sc:Scope}(h:sc.names.lookup x=some .cell):∃c,(cellsFrom n sc.names []).lookup x=some c:=by have q:=y9 sc.names n [] (.inl h);exact lK.mp q
theorem yh{CX:yK}{P:Program}{w:World}{K:FG}{mg:SV}{base:Heap}{N ps:LS}{l:Str}{o:Scope}{f:Addr}{B:Value}{A:Around}{t:List Env}{s D:Shared}{H:Hp}{E:XK}{G:LV}{j:List V}
  (S:FnScope N ps o) (L:A.handled=none) (m:Env0 P w K mg base A t s H) (T:j.length=ps.length) (r:aM j G)
  (x:InCallC s s.heap.objs.size (bindL (envOfC l o s.heap.objs.size f B).kindOf (ps.zip G) λ_=>none) (cellsFrom (s.heap.objs.size+1) o.names []) (bindC (envOfC l o s.heap.objs.size f B).kindOf (ps.zip G) λ_=>none) D) :
  Inv (sO CX P w K mg base N l o f B A t s H E) [] (start N j) H D:=by
 have M:ps.length≤N.length:=by have:=bR lN S.pre;rw[fq]at this;lia
 obtain⟨h1,tk,rfl,hk⟩:=x.done;have g:∀b:Addr,b ∉ (sO CX P w K mg base N l o f B A t s H E).ex:=fun b z=>absurd (show b ∈ ([]:List Addr) from z) (by simp);refine⟨⟨m.mod,S.kind,rfl,rfl,ai _,fun y z c h1 h2=>?_,fun y d=>?_,fun y c _ h=>?_,fun _=>L,wz m.frames,.inr ⟨rfl,rfl⟩,fun b z=>absurd z (g b),m.bs,m.bsz,fun b _ _=>g b,fun b z=>absurd z (g b),m.funs,m.frf,m.tab⟩,
  rfl,m.bare,Un.kept hk,⟨_,x.toInCall.ns,λi y v h1 h2 R=>?_⟩,λy c h=>⟨_,x.cell y c h⟩,m.h.fresh (ai _),λy c h=>?_,λp F=>absurd (show p ∈ ([]:PN) from F) (by simp),m.h.kept hk,?_⟩
 .exact name_of_addr x.apart (mx h1) (mx h2)
 .have d:o.names.lookup y=some .cell\/o.names.lookup y=some .free:=d;rcases d with d|d
  .exact sW d
  .exact absurd rfl (S.nofree _ (mx d))
 .exact cM (x.above y c (mx h))
 .have hi:i < j.length:=by
   unfold start at h2;by_cases hi:i < j.length
   .exact hi
   .rw [bb (by simpa using hi)]at h2;rw[pV]at h2;split at h2<;>cases h2
  have I:j[i]? = some v:=by
   unfold start at h2;rw[bu (by simpa using hi),cR]at h2;cases e:j[i]? with
   |none=>rw[e]at h2;cases h2
   |some a=>rw[e]at h2;cases h2;rfl
  obtain⟨u,C,Q⟩:=r.get I;have F:ps[i]? = some y:=by rw[<- S.pre,fw (by lia)];exact h1
  have Eu:ps.Nodup:=by rw[<- S.pre];exact S.nd.sublist (wn _ _)
  refine⟨u,Q,?_⟩;rcases S.par y (cx F) with k|k
  .exact .inl ⟨k,oW Eu F C k⟩
  .obtain⟨c,e⟩:=sW (n:=s.heap.objs.size+1) k;refine .inr ⟨.inl k,c,e,?_⟩;have q:=x.cell y c e;rw[oY Eu F C (by show o.names.lookup y≠_;rw[k];decide)]at q;exact q
 .exact m.h.fresh (cM (x.above y c (mx h)))
 .unfold start;show _=N.length;rw[bw,a8,wt];lia
set_option tactic.hygienic true in
theorem JK{CX:yK}{P:Program}{w:World}{K:FG}{mg:SV}{base:Heap}{k:Nat}{f:Addr}{j a:Str}{p:Arguments}{m:List Stmt}{c:Scope}{dV kV B pm d ct oc:Value}{an od:Option Addr}
  {W:Array (OV)}{N ps:LS}{sp:Sp} (lk:K.lookup f=some ⟨oc,od,.func (fM j a p m c dV kV B pm an d ct),W⟩) (M:fN K d a=true) (S:FnScope N ps c)
  (len:∀g H Q E,sp g H Q E->g.length=ps.length)
  (l:∀(A:Around) (h:List Env) (s:Shared) (H:Hp) (g:List V) (Q:VK) (E:XK),Room k (A.deeper (envOfC a c s.heap.objs.size f d))->sp g H Q E ->
   ∃t,kT (sO CX P w K mg base N a c f d A h s H E) m t/\t { nx:=λ_ H'=>Q .non H',rt:=Q } (start N g) H) :
  FnOk P w K mg base CX (k+1) f (fM j a p m c dV kV B pm an d ct) ps sp:=by
 refine⟨len,λA h s H args G g Q E R C hb r D=>?_⟩;have hl:=len _ _ _ _ D;have Z:K.In s.heap:=C.mod.kin.keeps λb o e=>(C.bs b o e).1;have T:s.heap.NoLimit:=C.mod.nolimit.keeps λb o e=>(C.bs b o e).1;have z:∀y ∈ ps.zip G,c.names.lookup y.1=some .local\/(c.names.lookup y.1=some .cell/\((cellsFrom (s.heap.objs.size+1) c.names []).lookup y.1).isSome=true):=λ⟨n,v⟩ hy=>by
  rcases S.par n (pP hy).1 with q|q
  .exact .inl q
  .exact .inr ⟨q,y9 _ _ _ (.inl q)⟩
 refine codeAny_call_function R.depth (Z _ _ lk) rfl S.co S.gen rfl (PySem.W.codeRec_of Z M) (hb _ _ _ _ ?_);refine wpAny_newFunctionEnv_cells S.kind z λenv he s1 x=>?_;subst he;refine⟨T.keeps x.toInCall.keep,codeAny_func ?_⟩;obtain⟨t,ht,hq⟩:=l A h s H g Q E (R.deeper _) D;have I:Inv (sO CX P w K mg base N a c f d A h s H E) [] (start N g) H s1:=yh S R.hd C hl r x;refine bv (ht [] s1 (start N g) H _ I hq) (λfl s' F=>?_) λe s' F=>F;have ew:∀{L:St}{H':Hp}{v:V}{u:Value},Inv (sO CX P w K mg base N a c f d A h s H E) [] L H' s'->RelV v u->Q v H'->CE h P w H s Q u s':=
  λ{L H' v u} i X q=>⟨v,H',i.os,i.bare,i.base,i.h,X,q⟩
 cases fl with
 |ret u=>obtain⟨v,L,H',i,X,q⟩:=F;exact ew i X q
 |next=>obtain⟨L,H',i,q⟩:=F;exact ew (v:=V.non) (u:=Value.none) i rfl q
 |brk=>obtain⟨_,_,_,q⟩:=F;exact False.elim q
 |cont=>obtain⟨_,_,_,q⟩:=F;exact False.elim q
section
variable{X:Cx}{x:Str}{p B:Pos}{e:Expr}{es:Ab}{t:TA}{id T:String}{r:List V->Hp->VK->Prop}
noncomputable def MO(r:List V->Hp->VK->Prop)(t:TA):TE:=λJ H Q=>t J H λv H1=>r v H1 Q
theorem mU(c:cm X (.builtin id) r)(g:Gl X x)(m:X.g x=none)(v:bootBuiltins x=some (.builtin id))(n:PA X (e::es) t)(f:x≠"__name__":=by decide)(d:(x == ("__debug__":Str))=false:=by decide)
  (k:starEach (e::es) X.e=(false,eval e X.e)::starEach es X.e:=by rfl) (l:(backTo B (starEach es X.e)).any (·.1)=false:=by rfl):Y X (.Call (.Name x p) (e::es) [] B) (MO r t):=by
 intro pins s J H Q I h;refine eI (gO I g m v ?_ f d);exact Ct (bB (n B pins s J H _ I h) λG w z=>by obtain⟨u,H1,a,b,q⟩:=z;exact c pins w J H1 u G Q a b q) k l
theorem iV(c:cm X (.type T) r)(g:Gl X x)(m:X.g x=none)(v:bootBuiltins x=some (.type T))(n:PA X (e::es) t)(f:x≠"__name__":=by decide)(d:(x == ("__debug__":Str))=false:=by decide)
  (k:starEach (e::es) X.e=(false,eval e X.e)::starEach es X.e:=by rfl) (l:(backTo B (starEach es X.e)).any (·.1)=false:=by rfl):Y X (.Call (.Name x p) (e::es) [] B) (MO r t):=by
 intro pins s J H Q I h;refine eI (gO I g m v ?_ f d);exact e7 (bB (n B pins s J H _ I h) λG w z=>by obtain⟨u,H1,a,b,q⟩:=z;exact c pins w J H1 u G Q a b q) k l
end
end L2
set_option tactic.hygienic true
namespace HT
open PySem PyProof.Rows
section
variable{prog:Program}{w:World}{A:Around}{E:VP}{s:Shared}
theorem D1(i:IsTup s.heap t z.toArray)(g:IsTup s.heap b q.toArray)(v:z≠[])
  (h1:q=[]->Q (.ref t) s) (h2:q≠[]->Q (.ref s.heap.objs.size) { s with heap:=s.heap.push { cls:=.type "tuple",data:=.seq (z++q).toArray } })
  (k:z.length+q.length≤sizeLine):wpAny (model prog w) A (binaryOp .Add (.ref t) (.ref b)) Q E s:=by
 obtain⟨⟨N,dd,I,u⟩,o,m,n,r⟩:=id i;obtain⟨⟨f,d,data2,l⟩,h,c,p,x⟩:=id g;simp only at m r c x;subst m r c x;have e:z.toArray++q.toArray=(z++q).toArray:=by simp
 by_cases a:q=[]
 .exact tt ⟨_,o,rfl⟩ ⟨_,h,rfl⟩ tG tw pe pf (pi _ _)
   (tuple_addW1 t b z.toArray q.toArray n p dd d u l (by simpa using v) (by simp[a])) ⟨o,h,h1 a⟩
 .refine tt ⟨_,o,rfl⟩ ⟨_,h,rfl⟩ tG tw pe pf (pi _ _)
   (tuple_addW2 t b z.toArray q.toArray n p dd d u l (by simpa using v) (by simpa using a) (by rw[aP,aP];exact k)) ⟨o,h,?_⟩
  rw[e];exact h2 a
noncomputable def cW(n d:Nat):Option Int->Nat
 |none=>d
 |some v=>if v < 0 then (v+(n:Int)).toNat else min v.toNat n
theorem FJ(n d:Nat)(x:d≤n)(o:Option Int):cW n d o≤n:=by
 cases o with
 |none=>exact x
 |some v=>
  show(if v < 0 then (v+(n:Int)).toNat else min v.toNat n)≤n;by_cases h:v < 0
  .rw [ae h];lia
  .rw [ag h];exact Nat.min_le_right _ _
theorem xO(v:Int)(n d:Nat):(if v < 0 then max (v+(n:Int)) 0 else min v (n:Int))=((cW n d (some v):Nat):Int):=by
 show(if v < 0 then max (v+(n:Int)) 0 else min v (n:Int))=(((if v < 0 then (v+(n:Int)).toNat else min v.toNat n):Nat):Int);by_cases h:v < 0
 .simp only[ae h];lia
 .simp only[ag h];lia
theorem uY(lo hi:Option Int)(n:Nat):pa lo hi 1 (n:Int)=(((cW n 0 lo:Nat):Int),((cW n n hi:Nat):Int)):=by
 have h1:¬((1:Int) < 0):=by lia
 unfold pa;simp only[h1,dG];refine Prod.ext ?_ ?_
 .cases lo with
  |none=>rfl
  |some v=>exact xO v n 0
 .cases hi with
  |none=>rfl
  |some v=>exact xO v n n
theorem uo(i j:Nat):lE (i:Int) (j:Int) 1=j-i:=by
 unfold lE;have h1:(1:Int) > 0:=by lia
 simp only[h1,cG,Int.ediv_one];split<;>lia
theorem mP(p:IsPart v o)(h:Q o s):wpAny (model prog w) A (BZ v) Q E s:=by
 cases p with
 |none=>exact vR h
 |int i t=>exact slicePart_int h
theorem gb{l:Addr}{v u:Value}{lo hi:Option Int}{n:Nat}{Q:Int×Int×Nat->Shared->Prop}(a:s.heap.IsSliceOf l v u .none)(p:IsPart v lo)(e:IsPart u hi)
  (h:Q (((cW n 0 lo:Nat):Int),1,cW n n hi-cW n 0 lo) s):wpAny (model prog w) A (vh (.ref l) (pure (n:Int))) Q E s:=by
 obtain⟨os,o,c,d⟩:=id a;unfold vh BY;refine ac (ac (cg o d (x:=v) rfl (ac (cg o d (x:=u) rfl (ac (cg o d (x:=.none) rfl (am ?_)))))));refine ac (vR ?_);show wpAny _ _ (if ((1:Int) == 0)=true then _ else _) _ _ s;rw[ag (by decide)];refine ac (mP p (ac (mP e (ac (am ?_)))));show wpAny _ _ (match pa lo hi 1 (n:Int) with|(lo,hi)=>pure (lo,(1:Int),lE lo hi 1)) _ _ s;rw[uY lo hi n];show wpAny _ _ (pure (((cW n 0 lo:Nat):Int),(1:Int),lE ((cW n 0 lo:Nat):Int) ((cW n n hi:Nat):Int) 1)) _ _ s;rw[uo];exact am h
theorem Ac(xs:Array Value)(i k:Nat):((List.range k).filterMap λ(m:Nat)=>xs[((i:Int)+(m:Int) * 1).toNat]?).toArray=((xs.toList.drop i).take k).toArray:=by
 have e:(λ(m:Nat)=>xs[((i:Int)+(m:Int) * 1).toNat]?)=λm=>xs[i+m]?:=by
  funext m;have:((i:Int)+(m:Int) * 1).toNat=i+m:=by lia
  rw[this]
 rw[e];have:=pick_run xs i k
 rw[List.filterMap_map]at this;have h:((λx=>xs[x]?) ∘ λx=>i+x)=λm=>xs[i+m]?:=rfl;rw[h]at this;rw[this]
theorem jW{t l:Addr}{i:Array Value}{v u:Value}{lo hi:Option Int}{Q:VP}(x:IsTup s.heap t i)(e:s.heap.IsSliceOf l v u .none)(p:IsPart v lo)(f:IsPart u hi)
  (k:¬(cW i.size 0 lo=0/\cW i.size i.size hi=i.size))
  (h:Q (.ref s.heap.objs.size) { s with heap:=s.heap.push { cls:=.type "tuple",data:=.seq ((i.toList.drop (cW i.size 0 lo)).take (cW i.size i.size hi-cW i.size 0 lo)).toArray } })
  (z:i.size≤sizeLine):wpAny (model prog w) A (getItem (.ref t) (.ref l)) Q E s:=by
 have a:sizeOk (.seq ((i.toList.drop (cW i.size 0 lo)).take (cW i.size i.size hi-cW i.size 0 lo)).toArray):=by show((i.toList.drop (cW i.size 0 lo)).take (cW i.size i.size hi-cW i.size 0 lo)).toArray.size≤sizeLine;rw[aP,fq,wk,lY];lia
 have b:cW i.size i.size hi≤i.size:=FJ _ _ (ai _) hi;obtain⟨os,o,c,d⟩:=id e;have T:s.TypeIs (.ref l) "slice":=⟨os,o,c⟩;unfold getItem;try with_reducible refine cZ ?_
 first|refine ac (am ?_)|skip
 refine ac (wV x.typeIs (by decide) ?_);refine ac (my (name:=Str.ofString "__getitem__") x.typeIs gA
  (kq gA x.typeIs vU ?_ (vT _ _)))
 show wpAny _ _ (yW (.ref t) >>= _) _ _ s;refine ac (vP x ?_);refine ac (jn T ?_);rw[ae (by decide)];refine ac (gb e p f ?_);have n:¬((((cW i.size 0 lo:Nat):Int) == 0 && (1:Int) == 1 && (cW i.size i.size hi-cW i.size 0 lo) == i.size)=true):=by intro q;rw[aq,aq]at q;have r:((cW i.size 0 lo:Nat):Int)=0:=eq_of_beq q.1.1;have g:cW i.size i.size hi-cW i.size 0 lo=i.size:=eq_of_beq q.2;exact k ⟨by lia,by lia⟩
 show wpAny _ _ (if (((cW i.size 0 lo:Nat):Int) == 0 && (1:Int) == 1 && (cW i.size i.size hi-cW i.size 0 lo) == i.size)=true then _ else _) _ _ s;rw[ag n,Ac];first
  |exact ac (m:=uZ _) (mu (am ⟨_,rfl,am h⟩) a)
  |exact ac (m:=uZ _) (mu (ac (am (am ⟨_,rfl,am h⟩))) a)
  |exact ac (ac (m:=uZ _) (mu (am (am ⟨_,rfl,am h⟩)) a))
  |exact ac (ac (m:=uZ _) (mu (am ⟨_,rfl,am h⟩) a))
end
end HT
set_option tactic.hygienic false
namespace L2
open PySem PySem.Spec PyProof.Rows
noncomputable abbrev TO:=St->Hp->(Option Int->Hp->Prop)->Prop
def PO(X:Cx)(e:Option Expr)(t:TO):Prop:=
 ∀(pins:PN)(s:Shared)(J:St)(H:Hp)(Q:Option Int->Hp->Prop),Inv X pins J H s->t J H Q ->
  wpAny (model X.p X.w) X.A (evalPart e X.e) (λu s'=>∃o H',Inv X pins J H' s'/\IsPart u o/\Q o H') X.xe s
noncomputable def CU:TO:=λ_ H Q=>Q none H
noncomputable def Ix(t:TE):TO:=λJ H Q=>t J H λx H1=>∃i,x=.int i/\Q (some i) H1
section
variable{X:Cx}{e:Expr}{te:TE}{lo hi:Option Expr}{tl th:TO}{B p2:Pos}
theorem Di:PO X none CU:=by intro pins s J H Q I h;rw[wD];exact am ⟨none,H,I,.none,h⟩
theorem Dh(h:Y X e te):PO X (some e) (Ix te):=by
 intro pins s J H Q I w;rw[evalPart_some];refine bB (h pins s J H _ I w) λu k z=>?_
 obtain⟨x,H1,a,r,n⟩:=z;obtain⟨i,rfl,q⟩:=n;obtain⟨t,rfl⟩:=r;exact⟨some i,H1,a,.int i t,q⟩
def EH(X:Cx)(r:V->Option Int->Option Int->Hp->VK->Prop):Prop:=
 ∀(pins:PN)(s:Shared)(J:St)(H:Hp)(x:V)(v h u:Value)(lo hi:Option Int)(l:Addr)(Q:VK),Inv X pins J H s->RelV x v->s.heap.IsSliceOf l h u .none->IsPart h lo->IsPart u hi->r x lo hi H Q ->
  ∃T id,typeLookup (.type T) "__getitem__"=pure (some (.builtin id))/\s.TypeIs v T/\wpAny (model X.p X.w) X.A (getItem v (.ref l)) (EP X pins J Q) X.xe s
theorem EH.or(h:EH X r)(h':EH X z):EH X (λx lo hi H Q=>r x lo hi H Q\/z x lo hi H Q):=by
 intro pins s J H x v n k lo hi l Q I e a p u q;rcases q with q|q
 .exact h pins s J H x v n k lo hi l Q I e a p u q
 .exact h' pins s J H x v n k lo hi l Q I e a p u q
noncomputable def Nt(r:V->Option Int->Option Int->Hp->VK->Prop)(te:TE)(tl th:TO):TE:=λJ H Q=>te J H λx H1=>tl J H1 λl H2=>th J H2 λu h=>r x l u h Q
theorem rN(j:EH X r)(w:Y X e te)(i:PO X lo tl)(o:PO X hi th):Y X (.Subscript e (.Slice lo hi none p2) B) (Nt r te tl th):=by
 intro pins s J H Q I h;refine Subscript_ (bB (w pins s J H _ I h) λv D z=>?_);obtain⟨x,H1,c,C,K⟩:=z;refine wpAny_Slice (bB (i pins D J H1 _ c K) λn E ⟨l,H2,m,S,P⟩=>bB (o pins E J H2 _ m P) λk a z=>?_);obtain⟨u,f,t,F,A⟩:=z;rw[wD];refine am ?_;have p:Inv X pins J f { a with heap:=a.heap.push { cls:=.type "slice",data:=.fields #[n,k,.none] } }:=t.kept (t':=a.toks) λb G q=>aE _ q
 obtain⟨T,id,d,y,g⟩:=j pins { a with heap:=a.heap.push { cls:=.type "slice",data:=.fields #[n,k,.none] } } J f x v n k l u a.heap.objs.size Q p C (Heap.IsSliceOf.new ..) S F A;show wpAny (model X.p X.w) X.A (subscriptTail e (.Slice lo hi none p2) v (.ref a.heap.objs.size)) (EP X pins J Q) X.xe { a with heap:=a.heap.push { cls:=.type "slice",data:=.fields #[n,k,.none] } };exact jC (ops:=[.ref a.heap.objs.size,v]) y d g (by with_unfolding_all rfl)
def sP(xs:List V)(lo hi:Option Int):List V:=(xs.drop (HT.cW xs.length 0 lo)).take (HT.cW xs.length xs.length hi-HT.cW xs.length 0 lo)
theorem lg(xs:List V)(lo hi:Option Int):(sP xs lo hi).length≤xs.length:=by unfold sP;rw[fq,wk];lia
def LX(K:FG):V->Option Int->Option Int->Hp->VK->Prop:=λx lo hi H Q=>∃a xs,x=.ref a/\kg K H a xs /\
 ¬(HT.cW xs.length 0 lo=0/\HT.cW xs.length xs.length hi=xs.length)/\∀p,H p=none->Q (.ref p) (a7 H p (.tup (sP xs lo hi)))
theorem FD:EH X (LX X.K):=by
 intro pins s J H x v m d lo hi c Q I k e p u h;obtain⟨a,xs,rfl,n,w,q⟩:=h;cases k;obtain⟨i,r,t,z⟩:=I.tuple n;have l:i.toArray.size=xs.length:=by rw[aP];exact r.length.symm
 refine⟨"tuple",_,gA.lookup,t.typeIs,?_⟩;refine HT.jW t e p u (by rw[l];exact w) ?_ (by rw[l];exact z);rw[l];refine⟨.ref s.heap.objs.size,_,I.laid (t':=s.toks) (o:=.tup (sP xs lo hi)) (λb f q=>aE _ q) (ai _) ?_,rfl,q _ (I.h.fresh (ai _))⟩;exact⟨aI (lg xs lo hi) z,_,(r.drop (HT.cW xs.length 0 lo)).take (HT.cW xs.length xs.length hi-HT.cW xs.length 0 lo),kR.new _ _⟩
def IS(K:FG):R2:=λx y H Q=>∃a b xs ys,x=.ref a/\y=.ref b/\kg K H a xs/\kg K H b ys/\xs≠[]/\xs.length+ys.length≤sizeLine /\
 (ys=[]->Q (.ref a) H)/\(ys≠[]->∀p,H p=none->Q (.ref p) (a7 H p (.tup (xs++ys))))
theorem aM.nil_iff(r:aM xs G):G=[]↔xs=[]:=by
 cases r with
 |nil=>simp
 |cons _ _=>simp
theorem Dr:fK X (binaryOp .Add) (IS X.K):=by intro pins s J H x y v u Q I g j h;obtain⟨a,b,xs,ys,rfl,rfl,k,f,c,n,m,d⟩:=h;cases g;cases j;obtain⟨t,e,p,_⟩:=I.tuple k;obtain⟨i,r,p2,_⟩:=I.tuple f;refine HT.D1 p p2 (λz=>c (e.nil_iff.mp z)) (λz=>⟨.ref a,H,I,rfl,m (r.nil_iff.mp z)⟩) (λz=>?_) (by rw[<- e.length,<- r.length];exact n);refine⟨.ref s.heap.objs.size,_,I.laid (t':=s.toks) (o:=.tup (xs++ys)) (λb l q=>aE _ q) (ai _) ?_,rfl,d (λw=>z (r.nil_iff.mpr w)) _ (I.h.fresh (ai _))⟩;exact⟨by rw[bw];exact n,_,e.append r,kR.new _ _⟩
end
noncomputable def AO(n:Nat)(i:Int):Option Nat:=if 0≤i then (if i < n then some i.toNat else none) else if -(n:Int)≤i then some (i+n).toNat else none
variable{α:Type}
def atI(xs:List α)(i:Int):Option α:=(AO xs.length i).bind λj=>xs[j]?
variable{n:Nat}
theorem xD{i:Int}(h:AO n i=some q):seqIndex? i n=some q/\q < n/\-(n:Int)≤i/\i < n:=by
 unfold AO at h;by_cases x:0≤i
 .rw [ae x]at h;by_cases h1:i < n
  .rw [ae h1]at h;have e:i.toNat=q:=cO h;exact⟨by rw[pZ x h1,e],by lia,by lia,h1⟩
  .rw [ag h1]at h;cases h
 .rw [ag x]at h;by_cases h1:-(n:Int)≤i
  .rw [ae h1]at h;have e:(i+n).toNat=q:=cO h;exact⟨by rw[tu (by lia) h1,e],by lia,h1,by lia⟩
  .rw [ag h1]at h;cases h
theorem qS{i:Int}(h:atI xs i=some v):∃j,seqIndex? i xs.length=some j/\xs[j]? = some v/\j < xs.length/\-(xs.length:Int)≤i/\i < xs.length:=by
 unfold atI at h;cases e:AO xs.length i with
 |none=>rw[e]at h;cases h
 |some j=>rw[e]at h;obtain⟨h1,h2,x,a⟩:=xD e;exact⟨j,h1,h,h2,x,a⟩
def i4(b:Expr):Prop:=∀o i,subscripted b false o i=operate [o,i] (getItem o i)
def yI(X:Cx)(r:R2):Prop:=
 ∀(value l:Expr)(pins:PN)(s:Shared)(J:St)(H:Hp)(x y:V)(v u:Value)(Q:VK),Inv X pins J H s->RelV x v->RelV y u->r x y H Q ->
  subscripted l false v u=operate [v,u] (getItem v u)->wpAny (model X.p X.w) X.A (subscriptTail value l v u) (EP X pins J Q) X.xe s
def Na(X:Cx)(id:String)(r:V->List V->Hp->VK->Prop):Prop:=
 ∀(pins:PN)(s:Shared)(J:St)(H:Hp)(x:V)(xs:List V)(v:Value)(G:LV)(Q:VK),Inv X pins J H s->RelV x v->aM xs G->r x xs H Q ->
  wpAny (model X.p X.w) X.A (call (.builtin id) (v::G)) (EP X pins J Q) X.xe s
section
variable{X:Cx}{a b:Expr}{ta tb:TE}{B:Pos}
theorem yI.or(h:yI X r)(h':yI X z):yI X (λx y H Q=>r x y H Q\/z x y H Q):=by
 intro value l pins s J H x y v u Q I e n q a;rcases q with q|q
 .exact h value l pins s J H x y v u Q I e n q a
 .exact h' value l pins s J H x y v u Q I e n q a
theorem xn(f:yI X r)(n:Y X a ta)(k:Y X b tb)(c:i4 b):Y X (.Subscript a b B) (Fq r ta tb):=by intro pins s J H Q I h;exact Subscript_ (Hd n k I h λv u p x y H2 e m t q=>f a b pins p J H2 x y v u Q e m t q (c _ _))
def L4(K:FG):R2:=λx y H Q=>∃p xs i v,x=.ref p/\y=.int i/\dw K H p xs/\atI xs i=some v/\Q v H
def L0(K:FG):R2:=λx y H Q=>∃p xs i v,x=.ref p/\y=.int i/\kg K H p xs/\atI xs i=some v/\Q v H
def L3:R2:=λx y H Q=>∃z i c,x=.str z/\y=.int i/\z.length≤sizeLine/\atI z.cps.toList i=some c/\Q (.str ⟨#[c]⟩) H
theorem qz:yI X (L4 X.K):=by
 intro value c pins s J H x y v u Q I F K h b;obtain⟨p,xs,i,z,rfl,rfl,S,g,q⟩:=h;cases F;obtain⟨t,rfl⟩:=K;obtain⟨e,r,l,B⟩:=I.list S;obtain⟨j,h1,h2,P,m,d⟩:=qS g;obtain⟨w,k,n⟩:=r.get h2;have o:=r.length;have A:=ip;have ew:EP X pins J Q w s:=⟨z,H,I,n,q⟩;by_cases f:0≤i
 .have a:i.toNat=j:=by
   rw[pZ f d]at h1;exact cO h1
  exact item_listR l.isList f (by lia) (by rw[a];simpa using k) ew b
 .have a:(i+(e.toArray.size:Int)).toNat=j:=by
   rw[tu (by lia) m]at h1;rw[aP,<- o];exact cO h1
  exact vW (x:=w) l.isList.typeIs wU.lookup
   (wpAny_getItem_list_neg (Q:=λr s'=>r=w/\EP X pins J Q r s') l.isList (by lia) (by rw[aP]<;>lia) (by lia) (by rw[a];simpa using k) ⟨rfl,ew⟩) b
theorem AN:yI X (L0 X.K):=by
 intro value l pins s J H x y v u Q I d g h c;obtain⟨p,xs,i,z,rfl,rfl,b,k,q⟩:=h;cases d;obtain⟨t,rfl⟩:=g;obtain⟨m,r,e,P⟩:=I.tuple b;obtain⟨j,h1,h2,o,S,F⟩:=qS k;obtain⟨w,n,a⟩:=r.get h2;have f:=r.length;have K:=ip;have ew:EP X pins J Q w s:=⟨z,H,I,a,q⟩;exact vW (x:=w) e.typeIs gA.lookup
  (getItem_tuple (j:=j) (Q:=λr s'=>r=w/\EP X pins J Q r s') e (by lia) (by lia) (by rw[aP,<- f];exact h1) (by simpa using n) ⟨rfl,ew⟩) c
theorem GL:yI X L3:=by
 intro value l pins s J H x y v u Q I r p h m;obtain⟨z,i,c,rfl,rfl,g,f,q⟩:=h;obtain⟨t,rfl⟩:=r;obtain⟨o,rfl⟩:=p;obtain⟨j,h1,h2,d,n,k⟩:=qS f;have b:z.cps.toList.length=z.length:=by simp[lD]
 rw[b]at h1 n k;have w:=ip;exact jC (typeIs_str s z t) slot_str_getitem.lookup (getItem_str (c:=c) (by have e:decide (i < -(2 ^ 63:Int))=false:=aU (by lia);have a:decide (i ≥ 2 ^ 63)=false:=aU (by lia);rw[e,a,Bool.or_false]) (by rw[h1];simpa using h2) ⟨.str ⟨#[c]⟩,H,I.tok _,⟨_,rfl⟩,q⟩) m
theorem ut(i:LV)(n j:Nat)(u:Value):gx (·.setIfInBounds j u) { cls:=.type "list",data:=.seq i.toArray n }={ cls:=.type "list",data:=.seq (i.set j u).toArray n }:=by simp[gx]
theorem Inv.lst(I:Inv X pins J H s)(h:H p=some (.lst xs)) :
  ∃(i:LV)(n:Nat),aM xs i/\s.heap.get? p=some { cls:=.type "list",data:=.seq i.toArray n }/\xs.length≤sizeLine:=by
 obtain⟨z,i,n,r,e⟩:=I.h p _ h;exact⟨i,n,r,e,z⟩
theorem Inv.lstUpd{i:LV}(I:Inv X pins J H s)(h:H p=some (.lst xs))
  (o:s.heap.get? p=some { cls:=.type "list",data:=.seq i.toArray n }) (a:f { cls:=.type "list",data:=.seq i.toArray n }={ cls:=.type "list",data:=.seq z.toArray N }) (r:aM ys z) (c:ys.length≤sizeLine) (t:Nat) :
  Inv X pins J (a7 H p (.lst ys)) { s with heap:=s.heap.update p f,toks:=t }:=by
 have e:(s.heap.update p f).get? p=some { cls:=.type "list",data:=.seq z.toArray N }:=by rw[pH f o (by rw[a]<;>rfl),a]
 refine I.write (x:=p) (e:=p) (by rw[h];trivial) (.inl rfl) (λb u k q=>(wb _ _ (aG k)).trans q) ⟨_,e⟩ ?_;exact⟨c,z,N,r,e⟩
def IR:V->V->V->Hp->(Hp->Prop)->Prop:=λo i v H Q=>∃p xs k j,o=.ref p/\i=.int k/\H p=some (.lst xs)/\AO xs.length k=some j/\Q (a7 H p (.lst (xs.set j v)))
theorem zM:Kf X IR:=by
 intro pins s J H o i v K F u Q I g w y h;obtain⟨p,xs,k,j,rfl,rfl,m,d,q⟩:=h;cases g;obtain⟨t,rfl⟩:=w;obtain⟨x,n,r,a,z⟩:=I.lst m;obtain⟨h1,h2,b,c⟩:=xD d;have l:=r.length;have S:=ip;have e:Inv X pins J (a7 H p (.lst (xs.set j v))) { s with heap:=s.heap.update p (gx (·.setIfInBounds j u)) }:=
  I.lstUpd m a (ut x n j u) (r.set y j) (by rw[cP];exact z) s.toks
 by_cases f:0≤k
 .have hk:k.toNat=j:=by
   rw[pZ f c]at h1;exact cO h1
  exact PySem.W.ki_setAt a f (by lia) (by rw[aP,<- l];exact c) (by rw[hk];exact⟨_,e,q⟩)
 .have hk:(k+(x.toArray.size:Int)).toNat=j:=by
   rw[tu (by lia) b]at h1;rw[aP,<- l];exact cO h1
  exact PySem.W.ki_setBack a (by lia) (by rw[aP,<- l];exact b) (by lia) (by rw[hk];exact⟨_,e,q⟩)
theorem qk(lo hi:Option Int)(n:Nat):(sliceBounds lo hi none n).1=((HT.cW n 0 lo:Nat):Int)/\(sliceBounds lo hi none n).2.1=((HT.cW n n hi:Nat):Int)/\(sliceBounds lo hi none n).2.2=1:=by
 refine⟨?_,?_,rfl⟩
 .cases lo with
  |none=>simp[sliceBounds,HT.cW]
  |some i=>
   simp only[sliceBounds,HT.cW,vM,show(1:Int) > 0 by decide,cG];by_cases h:i < 0
   .simp only[h,cG]<;>lia
   .simp only[h,dG]<;>lia
 .cases hi with
  |none=>simp[sliceBounds,HT.cW]
  |some i=>
   simp only[sliceBounds,HT.cW,vM,show(1:Int) > 0 by decide,cG];by_cases h:i < 0
   .simp only[h,cG]<;>lia
   .simp only[h,dG]<;>lia
theorem nR(i:LV)(lo hi:Option Int):slicePick i.toArray lo hi none=((i.drop (HT.cW i.length 0 lo)).take (HT.cW i.length i.length hi-HT.cW i.length 0 lo)).toArray:=by obtain⟨h1,h2,h⟩:=qk lo hi i.toArray.size;unfold slicePick;rw[h1,h2,h];simp only[sliceRange_one,pick_run,aP]<;>rfl
def LY(K:FG):V->Option Int->Option Int->Hp->VK->Prop:=λx lo hi H Q=>∃a xs,x=.ref a/\dw K H a xs/\∀p,H p=none->Q (.ref p) (a7 H p (.lst (sP xs lo hi)))
theorem xf:EH X (LY X.K):=by intro pins s J H x v m d lo hi c Q I k e p u h;obtain⟨a,xs,rfl,n,q⟩:=h;cases k;obtain⟨i,r,t,z⟩:=I.list n;have l:=r.length;refine⟨"list",_,wU.lookup,t.isList.typeIs,?_⟩;refine wpAny_getItem_list_slice t.isList e p u .none (by simp) ?_ (by rw[aP]<;>lia);rw[nR,<- l];refine⟨.ref s.heap.objs.size,_,I.laid (t':=s.toks) (o:=.lst (sP xs lo hi)) (λb f q=>aE _ q) (ai _) ?_,rfl,q _ (I.h.fresh (ai _))⟩;exact⟨aI (lg xs lo hi) z,_,0,(r.drop (HT.cW xs.length 0 lo)).take (HT.cW xs.length xs.length hi-HT.cW xs.length 0 lo),aS _ rfl⟩
theorem qO:cm X (.builtin "len") (λxs H Q=>∃p ys,xs=[.ref p]/\(dw X.K H p ys\/kg X.K H p ys)/\Q (.int ys.length) H):=by
 intro pins s J H xs G Q I r h;obtain⟨p,ys,rfl,x,q⟩:=h;obtain⟨u,rfl,n⟩:=vals1 r;cases n;have k:=ip;rcases x with x|x
 .obtain⟨i,e,a,z⟩:=I.list x;have l:=e.length;exact Calls.call_len_list a.isList (by simp only[aP]<;>lia) ⟨.int ys.length,H,I.tok _,⟨s.toks+1,by rw[aP,l]⟩,q⟩
 .obtain⟨i,e,a,z⟩:=I.tuple x;have l:=e.length;exact len_tuple a (by simp only[aP]<;>lia) ⟨.int ys.length,H,I.tok _,⟨s.toks+1,by rw[aP,l]⟩,q⟩
theorem qN:cm X (.builtin "len") (λxs H Q=>∃z,xs=[.str z]/\z.length≤sizeLine/\Q (.int z.length) H):=by intro pins s J H xs G Q I r h;obtain⟨z,rfl,x,q⟩:=h;obtain⟨u,rfl,t,rfl⟩:=vals1 r;have n:=ip;exact len_str (by lia) ⟨.int z.length,H,I.tok _,⟨_,rfl⟩,q⟩
theorem cm.or(h:cm X f r)(h':cm X f z):cm X f (λxs H Q=>r xs H Q\/z xs H Q):=by
 intro pins s J H xs G Q I x q;rcases q with q|q
 .exact h pins s J H xs G Q I x q
 .exact h' pins s J H xs G Q I x q
theorem gU:cm X (.type "list") (λxs H Q=>∃p ys,xs=[.ref p]/\(dw X.K H p ys\/kg X.K H p ys)/\∀l,H l=none->Q (.ref l) (a7 H l (.lst ys))):=by
 intro pins s J H xs G Q I r h;obtain⟨p,ys,rfl,k,q⟩:=h;obtain⟨u,rfl,w⟩:=vals1 r;cases w;have ew:∀(i:LV),aM ys i->ys.length≤sizeLine->∀(h':Heap)(c:Nat),(∀b o',s.heap.get? b=some o'->h'.get? b=some o') ->
   h'.get? s.heap.objs.size=some { cls:=.type "list",dict:=none,data:=.seq i.toArray c,slots:=#[] }->EP X pins J Q (.ref s.heap.objs.size) { s with heap:=h' }:=λi x z h' c f e=>
  ⟨.ref s.heap.objs.size,_,I.laid (t':=s.toks) f (ai _) (show bX X.p X.w _ h' _ (.lst ys) from ⟨z,i,c,x,e⟩),rfl,q _ (I.h.fresh (ai _))⟩
 rcases k with k|k
 .obtain⟨i,x,v,z⟩:=I.list k;have a:=x.length;obtain⟨o,t,m,n,d⟩:=v.isList;exact wC p (.inl rfl) t m d (λh' c f e=>ew i x z h' c f e) (by simp only[aP]<;>lia)
 .obtain⟨i,x,v,z⟩:=I.tuple k;have a:=x.length;obtain⟨o,t,m,n,d⟩:=v;exact wC p (.inr rfl) t m d (λh' c f e=>ew i x z h' c f e) (by simp only[aP]<;>lia)
theorem jk:cm X (.type "tuple") (λxs H Q=>∃p ys,xs=[.ref p]/\((dw X.K H p ys/\∀l,H l=none->Q (.ref l) (a7 H l (.tup ys)))\/(kg X.K H p ys/\Q (.ref p) H))):=by
 intro pins s J H xs G Q I r h;obtain⟨p,ys,rfl,h⟩:=h;obtain⟨u,rfl,t⟩:=vals1 r;cases t;rcases h with ⟨x,q⟩|⟨x,q⟩
 .obtain⟨i,n,a,z⟩:=I.list x;have f:=n.length;refine call_tuple_list a.isList (λh' m=>?_) (by simp only[aP]<;>lia);have k:Inv X pins J H { s with heap:=h' }:=I.kept (t':=s.toks) m;have c:Inv X pins J (a7 H h'.objs.size (.tup ys)) { s with heap:=h'.push { cls:=.type "tuple",data:=.seq i.toArray } }:=
   k.laid (t':=s.toks) (λb o e=>aE _ e) (ai _) (show bX X.p X.w _ _ _ (.tup ys) from ⟨z,i,n,kR.new _ _⟩)
  exact⟨.ref h'.objs.size,_,c,rfl,q _ (k.h.fresh (ai _))⟩
 .obtain⟨i,n,a,z⟩:=I.tuple x;exact call_tuple_same a ⟨.ref p,H,I,rfl,q⟩
def tyV(K:FG)(T:String)(x:V)(H:Hp):Prop:=match x with
 | .str _=>T="str"
 | .int _=>T="int"
 | .ref p=>(T="list"/\∃xs,dw K H p xs)\/(T="tuple"/\∃o,K.lookup p=some o/\o.cls=.type "tuple"/\o.dict=none) \/
   (T="dict"/\((∃kvs,H p=some (.dK kvs))\/∃kvs,H p=some (.dT kvs)))\/(T="set"/\∃S n,H p=some (.set S n))
 |_=>False
theorem zx(I:Inv X pins J H s)(r:RelV x v)(ty:tyV X.K T x H) :
  s.TypeIs v T/\∀a,v=.ref a->∃b,s.heap.get? a=some b/\b.dict=none:=by
 cases x with
 |str z=>obtain⟨t,rfl⟩:=r;cases (show T="str" from ty);exact⟨typeIs_str s z t,λ_ e=>nomatch e⟩
 |int i=>obtain⟨t,rfl⟩:=r;cases (show T="int" from ty);exact⟨mi s i t,λ_ e=>nomatch e⟩
 |ref p=>
  cases r;rcases ty with ⟨rfl,xs,q⟩|⟨rfl,o,hk,k,d⟩|⟨rfl,hk⟩|⟨rfl,S,n,hk⟩
  .obtain⟨f,_,l,_⟩:=I.list q;refine⟨l.isList.typeIs,λa e=>?_⟩;cases e;obtain⟨o,n,e,c,d,_⟩:=l;exact⟨o,e,d⟩
  .refine⟨⟨o,I.kIn p o hk,k⟩,λa e=>?_⟩;cases e;exact⟨o,I.kIn _ o hk,d⟩
  .have z:∃o,s.heap.get? p=some o/\o.ExactDict:=by
    rcases hk with ⟨kvs,hk⟩|⟨kvs,hk⟩
    .obtain⟨_,_,_,_,o,_,_,e,ex,_⟩:=I.h p _ hk;exact⟨o,e,ex⟩
    .obtain⟨_,_,_,_,o,_,_,e,ex,_⟩:=I.h p _ hk;exact⟨o,e,ex⟩
   obtain⟨o,e,ex⟩:=z;refine⟨⟨o,e,ex.1⟩,λa h=>?_⟩;cases h;exact⟨o,e,ex.2.1⟩
  .obtain⟨o,_,_,_,e,ex,_⟩:=I.h p _ hk;refine⟨⟨o,e,ex.1⟩,λa h=>?_⟩;cases h;exact⟨o,e,ex.2.1⟩
 |_=>exact False.elim ty
noncomputable def LQ(K:FG)(T:String)(r:V->List V->Hp->VK->Prop)(to:TE):TE:=λJ H Q=>to J H λx H1=>tyV K T x H1/\r x [] H1 Q
noncomputable def Nx(K:FG)(T:String)(r:V->List V->Hp->VK->Prop)(to:TE)(t:TA):TE:=λJ H Q=>to J H λx H1=>tyV K T x H1/\t J H1 λxs H2=>r x xs H2 Q
variable{o e:Expr}{es:Ab}{to:TE}{t:TA}{j:Str}{apos cpos:Pos}{T id:String}{r:V->List V->Hp->VK->Prop}
theorem Gc(p:PlainAttrs T)(slot:Slot T j id)(t:typeOf (.builtin id)=pure (.type "method_descriptor"))(m:Na X id r)(n:Y X o to)
  (b:attributeBase o j X.e (eval o X.e)=eval o X.e:=by rfl) (l:(apos.endLine == cpos.line)=true:=by rfl):Y X (.Call (.Attribute o j apos) [] [] cpos) (LQ X.K T r to):=by
 intro pins s J H Q I h;refine wpAny_Call_method0_late b l (bB (n pins s J H _ I h) λv k z=>?_);obtain⟨x,H1,a,e,ty,q⟩:=z;obtain⟨h1,h2⟩:=zx a e ty;exact⟨T,id,p,slot,t,h1,h2,gB rfl (PySem.evalArgs_none (m pins k J H1 x [] v [] Q a e .nil q))⟩
theorem Er(w:PlainAttrs T)(slot:Slot T j id)(y:typeOf (.builtin id)=pure (.type "method_descriptor"))(m:Na X id r)(q:Y X o to)(c:PA X (e::es) t)
  (b:attributeBase o j X.e (eval o X.e)=eval o X.e:=by rfl)
  (f:((backTo cpos (starEach (e::es) X.e)).all (fun x=>!x.1) && (backToKw cpos (keywordEach [] X.e)).all (fun x=>x.1.isSome)
   && decide ((e::es).length+([]:List Keyword).length+(if ([]:List Keyword).isEmpty then 0 else 1) < 30))=true:=by rfl)
  (l:(apos.endLine == cpos.line)=true:=by rfl) (d:starEach (e::es) X.e=(false,eval e X.e)::starEach es X.e:=by rfl) (p:(backTo cpos (starEach es X.e)).any (·.1)=false:=by rfl) :
  Y X (.Call (.Attribute o j apos) (e::es) [] cpos) (Nx X.K T r to t):=by
 intro pins s J H Q I h;refine tP b f l rfl (bB (q pins s J H _ I h) λv S z=>?_);obtain⟨x,H1,a,n,ty,u⟩:=z;obtain⟨h1,h2⟩:=zx a n ty;refine⟨T,id,w,slot,y,h1,h2,?_⟩;have A:=c cpos pins S J H1 _ a u;rw[d]at A ⊢;refine gB (by show(false ||(backTo cpos (starEach es X.e)).any (·.1))=false;rw[p]<;>rfl) (iK ?_);exact bB A λG F z=>by obtain⟨K,H2,k,i,g⟩:=z;exact m pins F J H2 x K v G Q k n i g
end
def MF(X:Cx)(id:String)(r:V->List V->Hp->VK->Prop):Prop:=
 ∀(pins:PN)(s:Shared)(J:St)(H:Hp)(x:V)(xs:List V)(v:Value)(G:LV)(Q:VK),Inv X pins J H s->RelV x v->aM xs G->r x xs H Q ->
  wpAny (model X.p X.w) X.A (call (.builtin id) (v::G)) (EP X pins J Q) X.xe s
theorem aM.one:∀{x:V}{G:LV},aM [x] G->∃u,G=[u]/\RelV x u
 |_,_,.cons r .nil=>⟨_,rfl,r⟩
theorem aM.zero:∀{G:LV},aM [] G->G=[]
 |_,.nil=>rfl
theorem aM.rep(h:aM xs G):∀k:Nat,aM (List.replicate k xs).flatten (List.replicate k G).flatten
 |0=>.nil
 |k+1=>by rw[bS,bS,cQ,cQ];exact aM.append h (aM.rep h k)
theorem foldl_rep(i:LV):∀(k:Nat)(a:LV),
  lM (λx s=>x++s) a.toArray (List.replicate k i.toArray)=(a++(List.replicate k i).flatten).toArray
 |0,a=>by simp
 |k+1,a=>by
  have e:a.toArray++i.toArray=(a++i).toArray:=by simp
  have h:(a++i)++(List.replicate k i).flatten=a++(List.replicate (k+1) i).flatten:=by rw[bS,cQ,iN]
  rw[<- h,<- foldl_rep i k (a++i),<- e,bS,fg]
section
variable{X:Cx}{pins:PN}{J:St}{H:Hp}{s:Shared}{l b:Addr}{xs ys zs:List V}
theorem Inv.lset{i:LV}{t:Nat}(I:Inv X pins J H s)(h:H l=some (.lst xs))
  (e:s.heap.get? l=some { cls:=.type "list",data:=.seq i.toArray n }) (a:f i.toArray=z.toArray) (v:aM ys z) (c:ys.length≤sizeLine) :
  Inv X pins J (a7 H l (.lst ys)) { s with heap:=s.heap.update l (gx f),toks:=t }:=by
 have q:=PySem.IsL.update e f;rw[a]at q;refine I.write (x:=l) (e:=l) (by rw[h];exact trivial) (.inl rfl) (λm u b k=>(wb s.heap (gx f) (aG b)).trans k) ⟨_,q⟩ ?_;exact⟨c,z,_,v,q⟩
theorem Inv.lnew{t:Nat}(I:Inv X pins J H s)(h:aM ys z)(x:ys.length≤sizeLine) :
  Inv X pins J (a7 H s.heap.objs.size (.lst ys)) { s with heap:=s.heap.push { cls:=.type "list",data:=.seq z.toArray },toks:=t }:=
 I.laid (λ_ _ q=>aE _ q) (ai _) ⟨x,z,0,h,aS _ rfl⟩
theorem Inv.fresh(I:Inv X pins J H s):H s.heap.objs.size=none:=I.h.fresh (ai _)
theorem Inv.lstM(I:Inv X pins J H s)(h:H l=some (.lst xs)):xs.length≤sizeLine/\∃(i:LV)(n:Nat),aM xs i/\xs.length=i.length/\s.heap.get? l=some { cls:=.type "list",data:=.seq i.toArray n }:=by obtain⟨z,i,n,r,e⟩:=I.h l _ h;exact⟨z,i,n,r,r.length,e⟩
theorem rV(h:n≤sizeLine):lC n=false:=by unfold lC;exact aU (by lia)
end
section
variable{X:Cx}
def C9:V->List V->Hp->VK->Prop:=λx v H Q=>∃l xs y,x=.ref l/\v=[y]/\H l=some (.lst xs)/\xs.length < sizeLine/\Q .non (a7 H l (.lst (xs++[y])))
theorem oD:MF X "list.append" C9:=by intro pins s J H x t v G Q I b f h;obtain⟨l,xs,y,rfl,rfl,a,m,q⟩:=h;cases b;obtain⟨u,rfl,k⟩:=f.one;obtain⟨z,i,n,r,c,e⟩:=I.lstM a;refine dD vt ⟨_,e,rfl⟩ F.entry_list_append (F.args_list_append_2 _ _) (PySem.list_append l i.toArray n u (by rw[aP];lia)) ⟨e,?_⟩;refine⟨.non,_,I.lset (z:=i++[u]) a e (by simp) (r.append (.cons k .nil)) ?_,rfl,q⟩;rw[bw,List.length_singleton];lia
def C8:V->List V->Hp->VK->Prop:=λx v H Q=>∃l b xs zs,x=.ref l/\v=[.ref b]/\H l=some (.lst xs)/\H b=some (.lst zs)/\xs.length+zs.length≤sizeLine/\Q .non (a7 H l (.lst (xs++zs)))
theorem yb:MF X "list.extend" C8:=by
 intro pins s J H x S v G Q I g w h;obtain⟨l,b,xs,zs,rfl,rfl,k,B,y,q⟩:=h;cases g;obtain⟨u,rfl,d⟩:=w.one;cases d;obtain⟨z,t,n,r,j,e⟩:=I.lstM k;obtain⟨K,i,m,p,c,f⟩:=I.lstM B;have a:t.toArray.size+i.toArray.size≤sizeLine:=by rw[aP,aP];lia
 have o:¬(!t.toArray.isEmpty && lC (t.toArray.size+i.toArray.size))=true:=by rw[rV a,Bool.and_false];exact aY
 refine dD vu ⟨_,e,rfl⟩ F.entry_list_extend (F.args_list_extend_2 _ _)
  (AutoSeq1.list_extend_list_list_0 l t.toArray n b i.toArray m o (by rw[aP];lia) (by lia)) ⟨e,f,?_⟩
 refine⟨.non,_,I.lset (z:=t++i) k e (by simp) (r.append p) ?_,rfl,q⟩;rw[bw];lia
def FN:V->List V->Hp->VK->Prop:=λx v H Q=>∃l xs,x=.ref l/\v=[]/\H l=some (.lst xs)/\Q .non (a7 H l (.lst []))
theorem AC:MF X "list.clear" FN:=by intro pins s J H x c v G Q I f k h;obtain⟨l,xs,rfl,rfl,a,q⟩:=h;cases f;have u:=k.zero;subst u;obtain⟨z,i,n,r,b,e⟩:=I.lstM a;refine dD vr ⟨_,e,rfl⟩ F.entry_list_clear (F.args_list_clear_1 _) (AutoSeq1.list_clear_list_0 l i.toArray n (by rw[aP];lia)) ⟨e,?_⟩;exact⟨.non,_,I.lset (z:=[]) (ys:=[]) a e rfl .nil (br _),rfl,q⟩
def L5:R2:=λx y H Q=>∃l b xs zs,x=.ref l/\y=.ref b/\H l=some (.lst xs)/\H b=some (.lst zs)/\xs.length+zs.length≤sizeLine/\∀p,H p=none->Q (.ref p) (a7 H p (.lst (xs++zs)))
theorem Gj:fK X (binaryOp .Add) L5:=by
 intro pins s J H x y v u Q I p d h;obtain⟨l,b,xs,zs,rfl,rfl,f,B,g,q⟩:=h;cases p;cases d;obtain⟨z,t,n,r,w,e⟩:=I.lstM f;obtain⟨o,i,j,m,c,a⟩:=I.lstM B;refine PySem.P.add_list e a ?_ (by rw[aP,aP];lia);have k:t.toArray++i.toArray=(t++i).toArray:=by simp
 rw[k];exact⟨.ref _,_,I.lnew (t:=s.toks) (r.append m) (by rw[bw];lia),rfl,q _ I.fresh⟩
def LZ:R2:=λx y H Q=>∃l k xs,x=.ref l/\y=.int k/\H l=some (.lst xs)/\-(2 ^ 63)≤k/\k < 2 ^ 63/\xs.length * k.toNat≤sizeLine /\
 ∀p,H p=none->Q (.ref p) (a7 H p (.lst (List.replicate k.toNat xs).flatten))
theorem DB(xs:List α)(k:Nat):(List.replicate k xs).flatten.length=k * xs.length:=by
 induction k with
 |zero=>simp
 |succ k i=>rw[bS,cQ,bw,i,pD,Nat.add_comm]
theorem Ao:fK X (binaryOp .Mult) LZ:=by
 intro pins s J H x y v u Q I P A h;obtain⟨l,k,xs,rfl,rfl,S,h1,h2,g,q⟩:=h;cases P;obtain⟨t,rfl⟩:=A;obtain⟨z,i,n,r,K,e⟩:=I.lstM S;have b:i.toArray.size * k.toNat≤sizeLine:=by rw[aP,<- K];exact g
 have c:¬i.toArray.size * k.toNat > (2 ^ 63-1) / 8:=by
  have:(sizeLine:Nat)≤(2 ^ 63-1) / 8:=by decide
  lia
 have f:¬(!Builtin.List.listFitsIndex k)=true:=by rw[fitsIndex_both h1 h2];exact aY
 have o:¬lC (i.toArray.size * k.toNat)=true:=by rw[rV b];exact aY
 have w:lM (λp d=>p++d) #[] (List.replicate (if i.toArray.isEmpty=true then 0 else k.toNat) i.toArray)=(List.replicate k.toNat i).flatten.toArray:=by
  have j:∀m:Nat,lM (λp d=>p++d) #[] (List.replicate m i.toArray)=(List.replicate m i).flatten.toArray:=λm=>by have:=foldl_rep i m [];rw[iM]at this;exact this
  rw[j];cases i with
  |nil=>simp
  |cons a B=>rw[ag (by simp)]
 refine yU (T:="list") (U:="int") (by decide) ⟨_,e,rfl⟩ (λs'=>mi s' k t) noFill_list_mul vn lF repeat_list vp.lookup
  (dD lF (mi s k t) vo (vq _ _) (int___rmul___int_list k t l i.toArray n)
   ⟨e,rfl,⟨_,e,rfl⟩,dD F.slot_list_mul ⟨_,e,rfl⟩ F.entry_list_mul (F.args_list_mul_2 _ _) (AutoListH.list___mul___list_int_3 l i.toArray n k t f c o) ⟨e,?_⟩⟩)
 rw[w];exact⟨.ref _,_,I.lnew (t:=s.toks) (r.rep k.toNat) (by rw[DB,lL];exact g),rfl,q _ I.fresh⟩
end
section
variable{κ:Type}[DecidableEq κ]
noncomputable def dX(kvs:List (κ×V))(k:κ):Option V:=(kvs.find? λv=>decide (v.1=k)).map (·.2)
noncomputable def putK(kvs:List (κ×V))(k:κ)(v:V):List (κ×V):=
 if (kvs.any λh=>decide (h.1=k))=true then kvs.map (λh=>if h.1=k then (h.1,v) else h) else kvs++[(k,v)]
theorem eJ{p:κ×V}{r:List (κ×V)}{k:κ}(e:p.1=k):dX (p::r) k=some p.2:=by simp[dX,dI,e]
theorem dW{p:κ×V}{r:List (κ×V)}{k:κ}(e:¬p.1=k):dX (p::r) k=dX r k:=by simp[dX,dI,e]
theorem rh(k:κ):∀kvs:List (κ×V),(kvs.any λv=>decide (v.1=k))=(dX kvs k).isSome
 | []=>rfl
 |p::r=>by
  rw[cw];by_cases e:p.1=k
  .simp only[eJ e,ff e,Bool.true_or,Option.isSome_some]
  .rw [dW e,aU e,iR];exact rh k r
theorem iq(kvs:List (κ×V))(k:κ)(v:V):(putK kvs k v).length≤kvs.length+1:=by
 unfold putK;split
 .rw [a8];lia
 .rw [bw,bC,jH];lia
theorem ib.isSome_eq(r:ib o u):o.isSome=u.isSome:=by
 cases o with
 |none=>cases u with
  |none=>rfl
  |some _=>exact(show False from r).elim
 |some _=>cases u with
  |none=>exact(show False from r).elim
  |some _=>rfl
theorem ib.getD(r:ib o u)(h:RelV d q):RelV (o.getD d) (u.getD q):=by
 cases o with
 |none=>cases u with
  |none=>exact h
  |some _=>exact(show False from r).elim
 |some _=>cases u with
  |none=>exact(show False from r).elim
  |some _=>exact r
theorem KV.val{kvs:List (κ×V)}{v:List (κ×Value)}(r:KV kvs v)(k:κ):ib (dX kvs k) (valueAt v k):=by
 unfold KV at r;induction r with
 |nil=>exact True.intro
 | @cons p q ps s h t i=>
  obtain⟨h1,h2⟩:=h;by_cases e:p.1=k
  .have x:q.1=k:=h1.symm.trans e;have b:valueAt (q::s) k=some q.2:=by simp[valueAt,dI,x]
   rw[eJ e,b];exact h2
  .have x:¬q.1=k:=λz=>e (h1.trans z);have b:valueAt (q::s) k=valueAt s k:=by simp[valueAt,dI,x]
   rw[dW e,b];exact i
theorem KV.any(r:KV kvs q)(k:κ):(kvs.any λv=>decide (v.1=k))=q.any λv=>decide (v.1=k):=by
 unfold KV at r;induction r with
 |nil=>rfl
 |cons h t i=>rw[cw,cw,i,h.1]
theorem KV.repl(r:KV kvs I)(k:κ)(x:RelV y u) :
  KV (kvs.map λv=>if v.1=k then (v.1,y) else v) (I.map λv=>if v.1=k then (v.1,u) else v):=by
 unfold KV at r ⊢;induction r with
 |nil=>exact .nil
 | @cons p q ps s h t i=>
  rw[az,az];refine .cons ?_ i;obtain⟨h1,h2⟩:=h;by_cases e:p.1=k
  .rw [ae e,ae (h1.symm.trans e)];exact⟨h1,x⟩
  .rw [ag e,ag (λz=>e (h1.trans z))];exact⟨h1,h2⟩
theorem KV.put(r:KV kvs q)(k:κ)(h:RelV y u):KV (putK kvs k y) (stored q k u):=by
 unfold putK stored;rw[r.any k];by_cases e:(q.any λv=>decide (v.1=k))=true
 .rw [ae e,ae e];exact r.repl k h
 .rw [ag e,ag e];exact Paired.snoc r ⟨rfl,h⟩
theorem KV.length(r:KV kvs q):kvs.length=q.length:=Paired.length r
end
variable{w:World}{u:Value}
theorem kZ(r:RelV (kV k) u):(bx P w).is k u=true:=by
 cases k with
 |inl i=>obtain⟨t,e⟩:=(show ∃t,u=Value.int i t from r);subst e;exact rZ P w i t
 |inr x=>obtain⟨t,e⟩:=(show ∃t,u=Value.str x t from r);subst e;exact rY P w x t
theorem oG:∀{ks:List cn}{G:LV},aM (ks.map kV) G->ItemsAre (bx P w) ks G
 | [],_,r=>by rw[lO]at r;cases r;exact .nil
 |k::ks,_,r=>by
  rw[az]at r;cases r with
  |cons h t=>exact .cons (kZ h) (oG t)
abbrev KT(H:Hp):List (List cn×V)->List (List cn×Addr×Value)->Prop:=Paired λp q=>p.1=q.1/\H q.2.1=some (.tup (p.1.map kV))/\RelV p.2 q.2.2
theorem KT.val{H:Hp}{kvs:List (List cn×V)}{xs:List (List cn×Addr×Value)}(r:KT H kvs xs)(k:List cn):ib (dX kvs k) ((atKey xs k).map (·.2)):=by
 induction r with
 |nil=>exact True.intro
 | @cons p q ps s h t i=>
  obtain⟨h1,_,h2⟩:=h;by_cases e:p.1=k
  .have x:q.1=k:=h1.symm.trans e;have b:atKey (q::s) k=some q.2:=by simp[atKey,dI,x]
   rw[eJ e,b];exact h2
  .have x:¬q.1=k:=λz=>e (h1.trans z);have b:atKey (q::s) k=atKey s k:=by simp[atKey,dI,x]
   rw[dW e,b];exact i
variable{H:Hp}{kvs:List (List cn×V)}{xs:List (List cn×Addr×Value)}{y:V}
theorem KT.repl(r:KT H kvs xs)(k:List cn)(a:RelV y u) :
  KT H (kvs.map λv=>if v.1=k then (v.1,y) else v) (xs.map (putAt k u)):=by
 induction r with
 |nil=>exact .nil
 | @cons p q ps s h t i=>
  rw[az,az];refine .cons ?_ i;obtain⟨h1,h2,x⟩:=h;unfold putAt;by_cases e:p.1=k
  .rw [ae e,ae (h1.symm.trans e)];exact⟨h1,h2,a⟩
  .rw [ag e,ag (λz=>e (h1.trans z))];exact⟨h1,h2,x⟩
theorem KT.put(r:KT H kvs xs)(k:List cn)(x:H b=some (.tup (k.map kV)))(h:RelV y u) :
  KT H (putK kvs k y) (storedH xs k b u):=by
 have e:(kvs.any λv=>decide (v.1=k))=(atKey xs k).isSome:=by rw[rh,(r.val k).isSome_eq,vN]
 unfold putK storedH;rw[e];by_cases q:(atKey xs k).isSome=true
 .rw [ae q,ae q];exact r.repl k h
 .rw [ag q,ag q];exact Paired.snoc r ⟨rfl,x,h⟩
theorem KT.keeps(r:KT H kvs xs)(h:∀b ys,H b=some (.tup ys)->H' b=some (.tup ys)):KT H' kvs xs:=
 Paired.mapP r λ_ _ z=>⟨z.1,h _ _ z.2.1,z.2.2⟩
section
variable{P:Program}{w:World}{H:Hp}{h:Heap}{a:Addr}
theorem rd_of{u:HO}(ok:ga P w H h)(e:Rd H a u):bX P w H h a u:=e.ok ok
theorem oK{kvs:List (cn×V)}(ok:ga P w H h)(e:Rd H a (.dK kvs)):kvs.length≤sizeLine/\(a == sysModules)=false/\∃vs,KV kvs vs/\h.DictOf (bx P w) a vs:=
 show bX P w H h a (.dK kvs) from rd_of ok e
theorem ED{kvs:List (cn×V)}(ok:ga P w H h)(e:H a=some (.dK kvs)):kvs.length≤sizeLine/\(a == sysModules)=false/\∃v,KV kvs v/\h.DictOf (bx P w) a v:=oK ok (.inl e)
theorem kI(ok:ga P w H h)(e:H a=some (.tup (ks.map kV))):(tupleKind (bx P w)).is h ks a:=by obtain⟨_,i,r,o,h1,⟨h2,n,x⟩,_⟩:=(show bX P w H h a (.tup (ks.map kV)) from ok a _ e);exact⟨o,i.toArray,n,h1,h2,x,by simpa using oG r⟩
theorem oJ(ok:ga P w H h)(e:Rd H a (.dT kvs)):kvs.length≤sizeLine/\(a == sysModules)=false /\
  ∃xs,KT H kvs xs/\h.DictOfH (tupleKind (bx P w)) a xs:=by
 obtain⟨z,y,xs,r,o,es,k,h1,h2,f,b,c⟩:=(show bX P w H h a (.dT kvs) from rd_of ok e);refine⟨z,y,xs,r,o,es,k,h1,h2,f,b,λx s=>?_,c⟩;have all:∀{l:List (List cn×V)}{m:List (List cn×Addr×Value)},KT H l m->∀x ∈ m,(tupleKind (bx P w)).is h x.1 x.2.1:=by
  intro l m q;induction q with
  |nil=>intro x s;exact nomatch s
  | @cons p q ps v n t i=>
   intro x s;rcases aH.mp s with e|s
   .subst e;exact kI ok (by rw[<- n.1];exact n.2.1)
   .exact i x s
 exact all r x s
theorem JR(ok:ga P w H h)(e:H a=some (.dT kvs)):kvs.length≤sizeLine/\(a == sysModules)=false /\
  ∃xs,KT H kvs xs/\h.DictOfH (tupleKind (bx P w)) a xs:=oJ ok (.inl e)
end
def g8(H:Hp)(a:Addr)(y:V)(r:Option V):Prop:=
 (∃kvs k,Rd H a (.dK kvs)/\y=kV k/\r=dX kvs k)\/∃kvs k b,Rd H a (.dT kvs)/\y=.ref b/\H b=some (.tup (k.map kV))/\r=dX kvs k
def tf(H:Hp)(a:Addr)(y v:V)(H':Hp):Prop:=
 (∃kvs k,H a=some (.dK kvs)/\y=kV k/\kvs.length < sizeLine/\H'=a7 H a (.dK (putK kvs k v))) \/
 ∃kvs k b,H a=some (.dT kvs)/\y=.ref b/\H b=some (.tup (k.map kV))/\kvs.length < sizeLine/\H'=a7 H a (.dT (putK kvs k v))
theorem g8.k{H:Hp}{a:Addr}{kvs:List (cn×V)}{k:cn}(e:H a=some (.dK kvs)):g8 H a (kV k) (dX kvs k):=.inl ⟨kvs,k,.inl e,rfl,rfl⟩
theorem g8.t{H:Hp}{a b:Addr}{kvs:List (List cn×V)}{k:List cn}(e:H a=some (.dT kvs))(h:H b=some (.tup (k.map kV))):g8 H a (.ref b) (dX kvs k):=.inr ⟨kvs,k,b,.inl e,rfl,h,rfl⟩
theorem tf.k{H:Hp}{a:Addr}{kvs:List (cn×V)}{k:cn}{v:V}(e:H a=some (.dK kvs))(h:kvs.length < sizeLine):tf H a (kV k) v (a7 H a (.dK (putK kvs k v))):=.inl ⟨kvs,k,e,rfl,h,rfl⟩
theorem tf.t{H:Hp}{a b:Addr}{kvs:List (List cn×V)}{k:List cn}{v:V}(e:H a=some (.dT kvs))(h:H b=some (.tup (k.map kV)))(l:kvs.length < sizeLine) :
  tf H a (.ref b) v (a7 H a (.dT (putK kvs k v))):=.inr ⟨kvs,k,b,e,rfl,h,l,rfl⟩
section
variable{X:Cx}{pins:PN}{J:St}{H:Hp}{s:Shared}{a:Addr}{y v:V}{u r:Value}{o:Option V}{A:Around}{E:VP}
theorem Inv.big(I:Inv X pins J H s):sysModules < s.heap.objs.size:=by have h:mainGlobals < s.heap.objs.size:=(I.mod.glob.keeps I.bk).lt;exact iL (by decide) h
theorem oP(i:A.units+1 < cLine)(I:Inv X pins J H s)(g:g8 H a y (some v))(m:RelV y u)(h:∀x s',Inv X pins J H s'->RelV v x->Q x s') :
  wpAny (model X.p X.w) A (getItem (.ref a) u) Q E s:=by
 rcases g with ⟨kvs,k,e,n,l⟩|⟨kvs,k,b,e,n,t,l⟩
 .subst n;obtain⟨z,d,j,r,dd⟩:=oK I.h e;obtain⟨x,c,w⟩:=ib.some_of (v:=v) (o:=valueAt j k) (by rw[l];exact r.val k);exact wpAny_getItem_of (kZ m) dd.mapOf c (h x _ (I.tok _) w)
 .subst n;cases (show u=Value.ref b from m);obtain⟨z,d,xs,r,dd⟩:=oJ I.h e;obtain⟨x,c,w⟩:=ib.some_of (v:=v) (o:=(atKey xs k).map (·.2)) (by rw[l];exact r.val k);obtain⟨p,q,f⟩:=b8.mp c;refine wY (mv i) (kI I.h t) dd q ?_;rw[f];exact h x _ (I.tok _) w
theorem Mv(c:A.units+1 < cLine)(I:Inv X pins J H s)(g:g8 H a y o)(n:RelV y u)(h:∀s',Inv X pins J H s'->Q (.bool o.isSome) s') :
  wpAny (model X.p X.w) A (compareOp .In u (.ref a)) Q E s:=by
 rcases g with ⟨kvs,k,e,x,l⟩|⟨kvs,k,b,e,x,f,l⟩
 .subst x;obtain⟨z,d,v,r,dd⟩:=oK I.h e;refine wpAny_in_of (kZ n) d dd.mapOf ?_;rw[<- (r.val k).isSome_eq,<- l];exact h _ (I.tok _)
 .subst x;cases (show u=Value.ref b from n);obtain⟨z,d,xs,r,dd⟩:=oJ I.h e;refine wpAny_in_heap (mv c) (kI I.h f) d dd ?_;have q:=(r.val k).isSome_eq;rw[vN]at q;rw[<- q,<- l];exact h _ (I.tok _)
theorem jZ{t:Nat}(I:Inv X pins J H s)(m:Ki (H a))(f:cq a s.heap h')(k:∃q,h'.get? a=some q)(n:bX X.p X.w (a7 H a N) h' a N) :
  Inv X pins J (a7 H a N) { s with heap:=h',toks:=t }:=
 I.write (x:=a) (e:=a) m (.inl rfl) (λb q h z=>(f.2 b h).trans z) k n
theorem Bp{P:Program}{w:World}{H':Hp}{h':Heap}{kvs:List (cn×V)}{v:List (cn×Value)}(z:kvs.length≤sizeLine)(h:(a == sysModules)=false)(r:KV kvs v)(dd:h'.DictOf (bx P w) a v) :
  bX P w H' h' a (.dK kvs):=⟨z,h,v,r,dd⟩
theorem yt{H':Hp}{Q:Unit->Shared->Prop}(hu:A.units+1 < cLine)(I:Inv X pins J H s)(g:tf H a y v H')(ry:RelV y u)(rv:RelV v r)(h:∀s',Inv X pins J H' s'->Q () s') :
  wpAny (model X.p X.w) A (setItem (.ref a) u r) Q E s:=by
 rcases g with ⟨kvs,k,e,ey,l,eH⟩|⟨kvs,k,b,e,ey,eb,l,eH⟩
 .subst ey eH;obtain⟨z,hd,vs,rel,dd⟩:=ED I.h e;have hz:vs.length≤sizeLine:=by rw[<- rel.length];exact z
  have hl:(putK kvs k v).length≤sizeLine:=by have:=iq kvs k v;lia
  refine wpAny_setItem_pairs (hsz:=hz) (kZ ry) dd λh' dd' hs=>h _ ?_;have he:∃q,h'.get? a=some q:=let ⟨q,_,_,hq,_⟩:=dd';⟨q,hq⟩
  exact jZ I (by rw[e];exact True.intro) hs he (Bp hl hd (rel.put k rv) dd')
 .subst ey eH;cases (show u=Value.ref b from ry);obtain⟨z,hd,xs,rel,dd⟩:=JR I.h e;have hz:xs.length≤sizeLine:=by rw[<- Paired.length rel];exact z
  have hl:(putK kvs k v).length≤sizeLine:=by have:=iq kvs k v;lia
  refine wZ (hsz:=hz) (mv hu) (kI I.h eb) dd λh' dd' hs=>h _ ?_;obtain⟨q,es,ep,hq,h2,h3,h4,_,h5⟩:=dd';refine jZ I (by rw[e];exact True.intro) hs ⟨q,hq⟩ ⟨hl,hd,_,(rel.put k eb rv).keeps λc ys ec=>?_,q,es,ep,hq,h2,h3,h4,h5⟩;rw[al (Jq ec e (λz=>nomatch z))];exact ec
end
noncomputable def IP(td ty tv:TE):TS:=λD J H=>tv J H λv H1=>td J H1 λx H2=>ty J H2 λy e=>∃a h,x=.ref a/\tf e a y v h/\D.nx J h
section
variable{X:Cx}{o i e value:Expr}{B pos' tpos:Pos}{td ty tv:TE}
theorem xl(t:X.A.units+1 < cLine)(c:Y X o td)(hi:Y X i ty)(p:Y X value tv)(m:swapsWith value (some (.Subscript o i pos')) B.line X.e=pure false) :
  PS X (.Assign [.Subscript o i pos'] value B) (IP td ty tv):=by
 intro pins s J H D I h;refine yR (bB (p pins s J H _ I h) λr F ⟨v,H1,n,j,q⟩=>bB (c pins F J H1 _ n q) λu K ⟨x,H2,k,l,d⟩=>bB (hi pins K J H2 _ k d) λA C z=>?_) m;obtain⟨y,P,f,S,a,e,ex,g,w⟩:=z;subst ex;obtain rfl:u=Value.ref a:=l;exact yt t f g S j λE b=>⟨J,e,b,w⟩
end
theorem Bq(h:Heap)(b:sysModules < h.objs.size):bX P w H (h.push { cls:=.type "dict",data:=.dict #[] }) h.objs.size (.dK []):=
 ⟨br _,eD.mpr (aG (aL b)),[],.nil,Heap.DictOf.new h⟩
theorem Bn(h:Heap)(b:sysModules < h.objs.size):bX P w H (h.push { cls:=.type "dict",data:=.dict #[] }) h.objs.size (.dT []):=
 ⟨br _,eD.mpr (aG (aL b)),[],.nil,_,#[],0,aS _ rfl,⟨rfl,rfl,rfl⟩,rfl,rfl,jG⟩
def Ft:TE:=λ_ H Q=>∀p,H p=none->Q (.ref p) (a7 H p (.dK []))
def Fs:TE:=λ_ H Q=>∀p,H p=none->Q (.ref p) (a7 H p (.dT []))
section
variable{X:Cx}{B:Pos}
theorem Ah:Y X (.Dict [] [] B) Ft:=λpins s J H Q I h=>
 wM ⟨.ref s.heap.objs.size,_,I.laid (a:=s.heap.objs.size) (o:=.dK []) (t':=s.toks) (λ_ _ q=>aE _ q) (ai _) (Bq s.heap I.big),rfl,h _ (I.h.fresh (ai _))⟩
theorem Ag:Y X (.Dict [] [] B) Fs:=λpins s J H Q I h=>
 wM ⟨.ref s.heap.objs.size,_,I.laid (a:=s.heap.objs.size) (o:=.dT []) (t':=s.toks) (λ_ _ q=>aE _ q) (ai _) (Bn s.heap I.big),rfl,h _ (I.h.fresh (ai _))⟩
end
abbrev VV:List (V×V)->List (Value×Value)->Prop:=Paired λp q=>RelV p.1 q.1/\RelV p.2 q.2
structure M1(X:Cx)(o:Expr)(m:Str)(apos:Pos)(e:Expr)(cpos:Pos):Prop where
 base:attributeBase o m X.e (eval o X.e)=eval o X.e
 few:((backTo cpos (starEach [e] X.e)).all (fun x=>!x.1) && (backToKw cpos (keywordEach [] X.e)).all (fun x=>x.1.isSome)
  && decide (([e]:Ab).length+([]:List Keyword).length+(if ([]:List Keyword).isEmpty then 0 else 1) < 30))=true
 line:(apos.endLine == cpos.line)=true
 trees:backTo cpos (starEach [e] X.e)=[(false,eval e X.e)]
structure M2(X:Cx)(o:Expr)(m:Str)(apos:Pos)(e f:Expr)(cpos:Pos):Prop where
 base:attributeBase o m X.e (eval o X.e)=eval o X.e
 few:((backTo cpos (starEach [e,f] X.e)).all (fun x=>!x.1) && (backToKw cpos (keywordEach [] X.e)).all (fun x=>x.1.isSome)
  && decide (([e,f]:Ab).length+([]:List Keyword).length+(if ([]:List Keyword).isEmpty then 0 else 1) < 30))=true
 line:(apos.endLine == cpos.line)=true
 trees:backTo cpos (starEach [e,f] X.e)=[(false,eval e X.e),(false,eval f X.e)]
def MI(H:Hp)(a:Addr):Prop:=(∃kvs,Rd H a (.dK kvs))\/∃kvs,Rd H a (.dT kvs)
variable{pins:PN}{J:St}{s:Shared}
theorem uE(I:Inv X pins J H s)(d:MI H a) :
  s.TypeIs (.ref a) "dict"/\(∀b,Value.ref a=.ref b->∃o,s.heap.get? b=some o/\o.dict=none)/\(a == sysModules)=false:=by
 rcases d with ⟨kvs,e⟩|⟨kvs,e⟩
 .obtain⟨_,h,v,_,dd⟩:=oK I.h e;refine⟨dd.typeIs,λb q=>?_,h⟩;cases q;obtain⟨o,_,_,h1,h2,_⟩:=dd;exact⟨o,h1,h2.2.1⟩
 .obtain⟨_,h,xs,_,dd⟩:=oJ I.h e;refine⟨dd.typeIs,λb q=>?_,h⟩;cases q;obtain⟨o,_,_,h1,h2,_⟩:=dd;exact⟨o,h1,h2.2.1⟩
section
variable{X:Cx}{pins:PN}{J:St}{H:Hp}{s:Shared}{a:Addr}{y d:V}{u r:Value}{o:Option V}{A:Around}{E:VP}
theorem G4(c:A.units+1 < cLine)(I:Inv X pins J H s)(g:g8 H a y o)(n:RelV y u)(h:∀w s',Inv X pins J H s'->RelV (o.getD .non) w->Q w s') :
  wpAny (model X.p X.w) A (call (.builtin "dict.get") [.ref a,u]) Q E s:=by
 rcases g with ⟨kvs,k,e,x,l⟩|⟨kvs,k,b,e,x,f,l⟩
 .subst x;obtain⟨z,d,v,r,dd⟩:=oK I.h e;refine mq iJ dd.typeIs lG (vA _ _) (meets_dict_get (bx X.p X.w) a (kZ n) d) ⟨_,dd.mapOf,h _ _ (I.tok _) ?_⟩;rw[l];exact(r.val k).getD rfl
 .subst x;cases (show u=Value.ref b from n);obtain⟨z,d,xs,r,dd⟩:=oJ I.h e;refine mq iJ dd.typeIs lG (vA _ _) (meetsH_dict_get (tupleKind (bx X.p X.w)) a b d) ⟨mv c,k,xs,kI I.h f,dd,h _ _ (I.tok _) ?_⟩;rw[l];exact(r.val k).getD rfl
theorem G3(p:A.units+1 < cLine)(I:Inv X pins J H s)(g:g8 H a y o)(m:RelV y u)(c:RelV d r)(h:∀w s',Inv X pins J H s'->RelV (o.getD d) w->Q w s') :
  wpAny (model X.p X.w) A (call (.builtin "dict.get") [.ref a,u,r]) Q E s:=by
 rcases g with ⟨kvs,k,e,n,l⟩|⟨kvs,k,b,e,n,t,l⟩
 .subst n;obtain⟨z,f,v,x,dd⟩:=oK I.h e;refine mq iJ dd.typeIs lG (vD _ _ _) (meets_dict_get_default (bx X.p X.w) a (kZ m) f r) ⟨_,dd.mapOf,h _ _ (I.tok _) ?_⟩;rw[l];exact(x.val k).getD c
 .subst n;cases (show u=Value.ref b from m);obtain⟨z,f,xs,x,dd⟩:=oJ I.h e;refine mq iJ dd.typeIs lG (vD _ _ _) (meetsH_dict_get_default (tupleKind (bx X.p X.w)) a b f r) ⟨mv p,k,xs,kI I.h t,dd,h _ _ (I.tok _) ?_⟩;rw[l];exact(x.val k).getD c
end
noncomputable def Fv(td ty:TE):TE:=λJ H Q=>td J H λx H1=>∃a,x=.ref a/\MI H1 a/\ty J H1 λy H2=>∃o,g8 H2 a y o/\Q (o.getD .non) H2
noncomputable def Fu(td ty tx:TE):TE:=λJ H Q=>td J H λx H1=>∃a,x=.ref a/\MI H1 a/\ty J H1 λy H2=>tx J H2 λz h=>∃o,g8 h a y o/\Q (o.getD z) h
section
variable{X:Cx}{o e f:Expr}{apos cpos:Pos}{td ty tx:TE}
theorem Aj(t:X.A.units+1 < cLine)(c:Y X o td)(b:Y X e ty)(m:M1 X o "get" apos e cpos):Y X (.Call (.Attribute o "get" apos) [e] [] cpos) (Fv td ty):=by intro pins s J H Q I h;refine tK m.base m.few m.line ph iJ vw (bB (c pins s J H _ I h) λu i z=>?_);obtain⟨x,H1,n,v,a,ex,d,q⟩:=z;subst ex;obtain rfl:u=Value.ref a:=v;obtain⟨j,l,_⟩:=uE n d;refine⟨j,l,?_⟩;rw[m.trees];refine gB rfl (iK (bM (bB (b pins i J H1 _ n q) λS K ⟨y,H2,k,w,F,g,p⟩=>cL ?_)));exact G4 t k g w λA P f r=>⟨_,H2,f,r,p⟩
theorem Ai(w:X.A.units+1 < cLine)(v:Y X o td)(p:Y X e ty)(q:Y X f tx)(m:M2 X o "get" apos e f cpos):Y X (.Call (.Attribute o "get" apos) [e,f] [] cpos) (Fu td ty tx):=by
 intro pins s J H Q I h;refine tK m.base m.few m.line ph iJ vw (bB (v pins s J H _ I h) fun u A i=>?_);obtain⟨x,H1,n,F,a,ex,d,j⟩:=i;subst ex;obtain rfl:u=Value.ref a:=F;obtain⟨C,D,_⟩:=uE n d;refine⟨C,D,?_⟩;rw [m.trees];refine gB rfl (iK (bM (bB (p pins A J H1 _ n j) fun G B ⟨y,H2,b,K,l⟩=>
  bM (bB (q pins B J H2 _ b l) λE M ⟨z,k,c,P,L,g,S⟩=>cL ?_))))
 exact G3 w c g K P λR N t r=>⟨_,k,t,r,S⟩
end
end L2
set_option tactic.hygienic true
namespace Att
open PySem PySem.W PySem.Calls PyProof.Rows
theorem ls:∀(s:List Int)(v:LV),WellAll P h v (s.map WData.int)->IntsAre v s:=by
 intro s;induction s with
 |nil=>intro v w;rw[lO]at w;cases w;exact .nil
 |cons n s i=>
  intro v w;rw[az]at w;cases w with
  |cons a b=>cases a;exact .cons _ _ (i _ b)
theorem x3{l:OpenLaw}(t:l.most=some n)
  (p:l.row.toRowW.claim.pre z=true) (w:WellAll P h I z) :
  ∃a v s,I=[Value.ref a]/\z=[WData.list (s.map WData.int)]/\h.get? a=some { cls:=.type "list",data:=.seq v.toArray }/\IntsAre v s/\s.length≤n:=by
 have b:WShape.hasAll [] z [.list .int]=true:=(pre_splitW p).1;have c:l.pre.holds [] { args:=z }=true:=(pre_splitW p).2;obtain⟨d,r,rfl,h1,h2⟩:=hasAllW_cons b;obtain rfl:=hasAllW_nil h2;obtain⟨xs,rfl,m⟩:=hasW_list h1;obtain⟨s,rfl⟩:=items_int m;have e:s.length≤n:=by
  unfold OpenLaw.pre at c;have k:(WTm.not (.lt (.lit (.int (n:Int))) (.len (.arg 0)))).holds [] { args:=[.list (s.map .int)] }=true:=by have k:=(holds_andW c).1;rw[t]at k;exact k
  have f:=condW_of k (w_not (w_lt w_lit (w_len_list (w_arg rfl))));rw[a8]at f;refine Nat.le_of_not_lt λq=>?_;have u:(n:Int) < ((s.length:Nat):Int):=by lia
  first
   |(rw[ff u]at f;exact absurd f (by decide))
   |(simp at f;lia)
 cases w with
 |cons g i=>
  cases i;cases g with
  |list o x=>exact⟨_,_,s,rfl,rfl,o,ls s _ x,e⟩
theorem x6(l:OpenLaw)(a:List WData):l.row.toRowW.claim.post a (.bool true) a=true:=
 postW_of (r:=l.row.toRowW) (X:=(true == true))
  (show WShape.has [] (.bool true) .bool=true by first|rfl|decide|simp[WShape.has,WShape.arms,WShape.armsAll])
  (show(WTm.eq .res (.lit (.bool true))).value [] { args:=a,res:=some (.bool true),after:=a }=some (.bool (true == true)) from w_eq_bool (w_res rfl) w_lit) rfl
theorem attach_call{l:OpenLaw}
  (Q:l.most=some n) (u:d.params.defaults=[])
  (call:∀(w:World) (h s:Shared) (mg y:SV) (x:Addr) (o:Obj) (H k c:Value) (a:Addr) (v:LV) (m:List Int),
   Ground q z [] I w h mg y s.heap->N w s.heap ->
   s.heap.get? x=some o->o.data=.func (docDef d.name d.params d.body d.scope H k c)->s.heap.CodeRec k d.name->mg d.name=some (.ref x) ->
   s.heap.get? a=some { cls:=.type "list",data:=.seq v.toArray }->IntsAre v m->m.length≤n->s.gens=#[] ->
   codeAny (model l.prog w) callerA (.call (.ref x) ⟨[.ref a],[]⟩) (λr s'=>r=.ok (.ret (.bool true))/\OldK s.heap s'.heap/\s'.os=s.os/\AllBare s'.gens) s) :
  WalkO q z I N l.row.toRowW d [] (λf v=>PySem.call f v):=by
 intro w h s mg y G P x o H k c V kV R C t D g E S K X p F W j L;obtain rfl:V=.none:=Dflts.none D u;obtain rfl:kV=.none:=Dflts.noKw D;obtain⟨a,v,m,rfl,rfl,b,i,e⟩:=x3 Q p j;refine enter_call (ko (call w h s mg y x o H k c a v m G P R (fd_plain C) t g b i e E) λr s' T=>?_);obtain⟨rfl,h2,A,B⟩:=T;exact⟨.inl ⟨.bool true,.bool true,[],rfl,λ_=>rfl,.bool true,x6 l _,λ_=>⟨List.Pairwise.nil,λ_ M=>(nomatch M)⟩⟩,h2,A,B⟩
end Att
set_option tactic.hygienic false
namespace L2
open PySem PySem.Spec PyProof.Rows
theorem om:∀{v:LV}{s:List Int},IntsAre v s->aM (s.map V.int) v
 |_,_,.nil=>.nil
 |_,_,.cons n t h=>.cons ⟨t,rfl⟩ (om h)
def yG(H:Hp):Prop:=∀b,H b=none\/H b=some .tbl\/∃o xs,H b=some (.frz o (.lst xs))
set_option tactic.hygienic true in
theorem AI{P:Program}{w:World}{K:FG}{mg mb:SV}{CX:yK}{k:Nat}{fa a:Addr}{fd:FuncData}{x:Str}{sp:Sp}{f:Shared}{C:LV}{Z:List Int}
  (KX:K.In f.heap) (hNT:tS K=true) (T:∀P ∈ bz K,f.heap.get? P=some (mD #[])/\∃c,mB f.heap c P) (R:f.heap.Ns mainGlobals mg) (t:f.heap.Ns builtinsNs mb) (hbb:∀x:Str,x≠"__name__"->mb x=bootBuiltins x) (Q:f.heap.NoLimit) (hbm:∃G A,mg "__builtins__"=some (.ref G)/\G≠builtinsNs/\f.heap.get? G=some A/\A.cls=.type "module"/\A.dict=some builtinsNs/\A.data=.plain) (hg:f.gens=#[])
  (D:f.heap.get? a=some { cls:=.type "list",data:=.seq C.toArray }) (hi:IntsAre C Z) (hl:Z.length≤sizeLine) (hr:Room k callerA)
  (F:∀base:Heap,K.In base->base.Ns mainGlobals mg->FnOk P w K mg base CX k fa fd [x] sp) (B:∀(s:Shared)(u:Value),BindsTo s fd ⟨[u],[]⟩ [(x,u)])
  (hsp:∀H:Hp,yG H->dw K H a (Z.map V.int)->sp [.ref a] H (λv _=>v=.bl true) λ_ _ _=>False)
  (hCX:∀H e s',CX [] H f (λ_ _ _=>False) e s'->False) :
  codeAny (model P w) callerA (.call (.ref fa) ⟨[.ref a],[]⟩) (λr s'=>r=.ok (.ret (.bool true))/\OldK f.heap s'.heap/\s'.os=f.os/\AllBare s'.gens) f:=by
 have rv:=om hi;have X:=hi.length;have y:∀H:Hp,yG H->dw K H a (Z.map V.int)->ga P w H f.heap->(∀b,H b≠none->b=a\/b ∈ bz K)->(∀b,H b=some .tbl->b ∈ bz K)->(∀b ∈ bz K,H b=some .tbl)->(H a≠none->K.lookup a=none) ->
   codeAny (model P w) callerA (.call (.ref fa) ⟨[.ref a],[]⟩) (λr s'=>r=.ok (.ret (.bool true))/\OldK f.heap s'.heap/\s'.os=f.os/\AllBare s'.gens) f:=by
  intro H hO hS W hA hB hC hK;have hKT:∀b ∈ bz K,K.lookup b=none:=λb t=>by
   cases q:K.lookup b with
   |none=>rfl
   |some o=>have e:=KX b o q;rw[(T b t).1]at e;cases e;have h2:=bt.mp hNT (b,_) (y_ q);exact absurd (show false=true from h2) aY
  have p:∀{b:Addr}{o:Obj},f.heap.get? b=some o->H b=none->(qD f.heap H).get? b=some o:=λe n=>A5 e n;have noA:∀{b:Addr}{o:Obj}{es:Array DictEntry}{L:Nat},f.heap.get? b=some o->o.data=.dict es L->H b=none:=λ{b o es L} e d=>by
   cases q:H b with
   |none=>rfl
   |some u=>
    rcases hA b (by rw[q];simp) with j|j
    .subst j;rw[D]at e;cases e;have d':Data.seq C.toArray _=Data.dict es L:=d;cases d'
    .rw [(T b j).1]at e;cases e;cases d
  have noM:∀{b:Addr}{o:Obj},f.heap.get? b=some o->o.cls=.type "module"->H b=none:=λ{b o} e d=>by
   cases q:H b with
   |none=>rfl
   |some u=>
    rcases hA b (by rw[q];simp) with j|j
    .subst j;rw[D]at e;cases e;exact absurd (show Value.type "list"=Value.type "module" from d) (by decide)
    .rw [(T b j).1]at e;cases e;cases d
  have l:∀{b:Addr}{m:SV},f.heap.Ns b m->(qD f.heap H).Ns b m:=fun {b m} ⟨o,es,L,e,d,r⟩=>⟨o,es,L,p e (noA e d),d,r⟩;have M:K.In (qD f.heap H):=fun b o e=>p (KX b o e) (by
   cases q:H b with
   |none=>rfl
   |some u=>
    rcases hA b (by rw[q];simp) with j|j
    .subst j;rw[hK (by rw[q];simp)]at e;cases e
    .rw [hKT b j]at e;cases e)
  have hM:Mod K mg (qD f.heap H):=⟨M,l R,⟨mb,l t,hbb⟩,let ⟨mc,h1,h2⟩:=Q;⟨mc,l h1,h2⟩,let ⟨G,A,c1,c2,c3,c4,c5⟩:=hbm;⟨G,A,c1,c2,p c3 (noM c3 c4),c4,c5⟩⟩;have e0:Env0 P w K mg (qD f.heap H) callerA [] f H:=⟨rfl,hM,λb o e=>Du e,v3 (yj _ _),trivial,λb t=>absurd (show b ∈ ([]:List Addr) from t) (by simp),hC,W,.of_eq hg⟩;refine ko ((F _ M (l R)).run callerA [] f H ⟨[.ref a],[]⟩ [.ref a] [.ref a] _ _ hr e0 (B f (.ref a)) (.cons rfl .nil) (hsp H hO hS)) λr s' h=>?_;cases r with
  |error e=>exact(hCX H e s' h).elim
  |ok fl=>
   cases fl with
   |next=>exact False.elim h
   |brk=>exact False.elim h
   |cont=>exact False.elim h
   |ret u=>
    obtain⟨v,H',os,E,un,S,r',q⟩:=h;have q':v=.bl true:=q;subst q';obtain rfl:u=Value.bool true:=r';have aw:∀b o,f.heap.get? b=some o->asItWas f.heap s'.heap b o:=λb o e=>by
     rcases hO b with q|z|⟨A,xs,z⟩
     .exact .inl (un.keep b o e q (by intro z;exact absurd (show b ∈ ([]:List Addr) from z) (by simp)) (by simp))
     .obtain⟨I,c,e2⟩:=T b (hB b z);obtain⟨ps,e3,_⟩:=(show nL H' s'.heap b from S b _ (un.tbls b z));rw[I]at e;cases e;exact .inr (.inl ⟨(e2.tab I).isCodeTable,rfl,#[],ps,rfl,by rw[Array.empty_append];exact e3⟩)
     .have z2:=un.frzs b A _ z;obtain⟨I,_⟩:=W b _ z;obtain⟨e2,_⟩:=S b _ z2;rw[e]at I;cases I;exact .inl e2
    refine⟨rfl,⟨aw,λb o e=>?_⟩,os,E⟩;rcases aw b o e with x|⟨_,_,_,_,_,x⟩|⟨_,_,⟨_,_,_,x,_⟩,_⟩<;>exact⟨_,x⟩
 have N:a ∉ bz K:=λz=>by have e:=(T a z).1;rw[D]at e;cases e
 have tk:∀b,b ∈ bz K->∀H:Hp,nL H f.heap b:=λb t H=>⟨#[],(T b t).1,.inl rfl⟩;cases hk:K.lookup a with
 |some o=>
  have e:=KX a o hk;rw[D]at e;cases e;refine y (λb=>if b ∈ bz K then some .tbl else none) (λb=>?_) (.inr ⟨_,C.toArray,_,hk,rfl,rfl,rfl,by rw[aP,X];exact hl,by simpa using rv⟩) (λb u z=>?_) (λb z=>?_) (λb z=>?_) (λb z=>ae z) λz=>absurd (ag N) z
  .by_cases t:b ∈ bz K
   .exact .inr (.inl (ae t))
   .exact .inl (ag t)
  .by_cases t:b ∈ bz K
   .have g:=(ae t).symm.trans z;cases g;exact tk b t _
   .have g:=(ag t).symm.trans z;cases g
  .by_cases t:b ∈ bz K
   .exact .inr t
   .exact absurd (ag t) z
  .by_cases t:b ∈ bz K
   .exact t
   .have g:=(ag t).symm.trans z;cases g
 |none=>
  refine y (λb=>if b=a then some (.frz { cls:=.type "list",data:=.seq C.toArray } (.lst (Z.map V.int))) else if b ∈ bz K then some .tbl else none) (λb=>?_) (.inl (.inr ⟨{ cls:=.type "list",data:=.seq C.toArray },ae rfl⟩)) (λb u z=>?_) (λb z=>?_) (λb z=>?_) (λb z=>?_) λ_=>hk
  .by_cases t:b=a
   .exact .inr (.inr ⟨_,_,ae t⟩)
   .by_cases i:b ∈ bz K
    .exact .inr (.inl ((ag t).trans (ae i)))
    .exact .inl ((ag t).trans (ag i))
  .by_cases t:b=a
   .have g:=(ae t).symm.trans z;cases g;subst t;exact⟨D,by rw[a8];exact hl,C,_,rv,D⟩
   .have z1:=(ag t).symm.trans z;by_cases i:b ∈ bz K
    .have g:=(ae i).symm.trans z1;cases g;exact tk b i _
    .have g:=(ag i).symm.trans z1;cases g
  .by_cases t:b=a
   .exact .inl t
   .by_cases i:b ∈ bz K
    .exact .inr i
    .exact absurd ((ag t).trans (ag i)) z
  .by_cases t:b=a
   .have g:=(ae t).symm.trans z;cases g
   .by_cases i:b ∈ bz K
    .exact i
    .have g:=(ag i).symm.trans ((ag t).symm.trans z);cases g
  .have t:b≠a:=λq=>N (q ▸ z);exact(ag t).trans (ae z)
noncomputable abbrev Nb{K:FG}(_:K.In h):FG:=K
theorem CG{l:y0}{n k:Nat}{q:Program}{m:LS}{I:(SV)->Heap->Prop}{g:World->Heap->Prop}{d:DefRec}{K:Params->FG}{CX:World->yK}{sp:World->Sp}{x:Str}
  (hn:l.most=some n) (S:n≤sizeLine) (y:d.params.defaults=[]) (hr:Room k callerA)
  (W:∀(w:World)(h:Heap),g w h->(K w.params).In h) (N:∀w:World,tS (K w.params)=true) (T:∀(w:World)(h:Heap),g w h->∀P ∈ bz (K w.params),h.get? P=some (mD #[])/\∃c,mB h c P)
  (F:∀(w:World) (mg:SV) (t:Addr) (h:Heap),(K w.params).In h->h.Ns mainGlobals mg->mg d.name=some (.ref t) ->
   ∃fd:FuncData,(∀(s:Shared)(u:Value),BindsTo s fd ⟨[u],[]⟩ [(x,u)]) /\
    ∀base:Heap,(K w.params).In base->base.Ns mainGlobals mg->FnOk l.prog w (K w.params) mg base (CX w) k t fd [x] (sp w))
  (A:∀(w:World)(H:Hp)(a:Addr)(p:List Int),p.length≤n->yG H->dw (K w.params) H a (p.map V.int)->sp w [.ref a] H (λv _=>v=.bl true) λ_ _ _=>False)
  (C:∀(w:World)(H:Hp)(s:Shared)(e:Value)(s':Shared),CX w [] H s (λ_ _ _=>False) e s'->False) :
  yY q m I g l.row.toRowW d [] (λf E=>PySem.call f E):=by
 refine Att.attach_call hn y λw D r mg mb t o pm cd L a E p G B ho hd hcd z j i b hg=>?_;have X:=W w _ B;obtain⟨fd,Z,M⟩:=F w mg t _ X G.T.g z;exact AI X (N w) (T w _ B) G.T.g G.T.b G.T.builtins G.T.nolimit G.T.bmain hg j i (aI b S) hr M Z (λH Q R=>A w H a p b Q R) λH e s'=>C w H r e s'
theorem zp{l:y0}{n k:Nat}{q:Program}{o:LS}{X:(SV)->Heap->Prop}{m:World->Heap->Prop}{d:DefRec}{K:Params->FG}{CX:yK}{sp:FG->Sp}{x:Str}
  (y:l.most=some n) (t:n≤sizeLine) (r:d.params.defaults=[]) (z:Room k callerA)
  (j:∀(w:World)(h:Heap),m w h->(K w.params).In h) (N:∀w:World,tS (K w.params)=true) (T:∀(w:World)(h:Heap),m w h->∀P ∈ bz (K w.params),h.get? P=some (mD #[])/\∃c,mB h c P)
  (F:∀(w:World) (mg:SV) (g:Addr) (h:Heap),(K w.params).In h->h.Ns mainGlobals mg->mg d.name=some (.ref g) ->
   ∃fd:FuncData,(∀(s:Shared)(u:Value),BindsTo s fd ⟨[u],[]⟩ [(x,u)]) /\
    ∀base:Heap,(K w.params).In base->base.Ns mainGlobals mg->FnOk l.prog w (K w.params) mg base CX k g fd [x] (sp (K w.params)))
  (p:∀(K:FG)(H:Hp)(a:Addr)(b:List Int),b.length≤n->yG H->dw K H a (b.map V.int)->sp K [.ref a] H (λv _=>v=.bl true) λ_ _ _=>False)
  (C:∀(H:Hp)(s:Shared)(e:Value)(s':Shared),CX [] H s (λ_ _ _=>False) e s'->False) :
  yY q o X m l.row.toRowW d [] (λf S=>PySem.call f S):=
 CG (K:=K) (CX:=λ_=>CX) (sp:=λw=>sp (K w.params)) y t r z j N T F (λw H a b h1 h2 i=>p (K w.params) H a b h1 h2 i) λ_ H s e s'=>C H s e s'
noncomputable def dP(s:Stmt)(j:Nat):Stmt:=match s with
 | .ClassDef _ _ _ b _ _ _ _ _ _ _=>b.getD j (.Pass ⟨0,0,0,0⟩)
 |_=>.Pass ⟨0,0,0,0⟩
noncomputable def eF(s:Stmt):Arguments:=match s with
 | .FunctionDef _ a _ _ _ _ _ _ _ _=>a
 |_=>{ posonlyargs:=[],args:=[],vararg:=none,kwonlyargs:=[],kw_defaults:=[],kwarg:=none,defaults:=[] }
noncomputable def cU(s:Stmt):List Stmt:=match s with
 | .FunctionDef _ _ b _ _ _ _ _ _ _=>b
 |_=>[]
noncomputable def aX(s:Stmt):Scope:=match s with
 | .FunctionDef _ _ _ _ _ _ sc _ _ _=>sc
 |_=>{ kind:=.function,names:=[],isGenerator:=false,isCoroutine:=false }
noncomputable abbrev kW:yK:=λ_ _ _ _ _ _=>False
noncomputable abbrev E0:XK:=λ_ _ _=>False
theorem mV:jx kW X E0:=λ_ _ _ _ _ _ _ h=>h.elim
structure Fun(K:FG)(x qual:Str)(st:Stmt)(f:Addr)(fd:FuncData):Prop where
 ex:∃(oc:Value)(od:Option Addr)(dV kV doc pm:Value)(an:Option Addr)(cdv ct:Value)(osl:Array (OV)),
  fd=fM x qual (eF st) (cU st) (aX st) dV kV doc pm an cdv ct/\K.lookup f=some ⟨oc,od,.func fd,osl⟩/\fN K cdv qual=true
 kp:cC K (.ref f)=true
section
variable{P:Program}{w:World}{K:FG}{mg:SV}{base:Heap}
theorem A'{x q:Str}{st:Stmt}{f:Addr}{h:Value}{e a:Option Addr}{s:Array (OV)}{V kV o p d t:Value}(l:K.lookup f=some ⟨h,e,.func (fM x q (eF st) (cU st) (aX st) V kV o p a d t),s⟩)
  (c:fN K d q=true) (k:cC K (.ref f)=true):Fun K x q st f (fM x q (eF st) (cU st) (aX st) V kV o p a d t):=⟨⟨h,e,V,kV,o,p,a,d,t,s,rfl,l,c⟩,k⟩
end
section
variable{X:Cx}
end
abbrev KN:List (PyData×V×V)->List (PyData×Addr×Value)->Prop:=Paired λp q=>p.1=q.1/\p.2.1=V.ref q.2.1/\RelV p.2.2 q.2.2
def kU(h:Heap)(d:PyData)(v:V):Prop:=∃b,v=.ref b/\Nk.kd d=true/\d.depth≤8/\∃as,Reads h (.ref b) d as
noncomputable def uH(kvs:List (PyData×V×V))(d:PyData):Bool:=kvs.any λp=>decide (p.1=d)
section
variable{P:Program}{w:World}{H:Hp}{h:Heap}{a:Addr}
theorem KN.has(r:KN kvs xs)(d:PyData):(atKey xs d).isSome=uH kvs d:=by
 induction r with
 |nil=>rfl
 | @cons p q ps s h t i=>
  unfold uH at i ⊢;rw[cw];by_cases e:p.1=d
  .have x:q.1=d:=h.1.symm.trans e;simp[atKey,dI,e,x]
  .have x:¬q.1=d:=λz=>e (h.1.trans z);rw[aU e,iR,<- i];simp[atKey,dI,x]
theorem xJ(ok:ga P w H h)(e:H a=some (.dN kvs))(ks:∀p ∈ kvs,kU h p.1 p.2.1):kvs.length≤sizeLine/\(a == sysModules)=false/\∃xs,KN kvs xs/\h.DictOfH (Nk.nest P w) a xs:=by
 obtain⟨z,y,xs,r,o,es,ep,h1,h2,h3,h4,h5⟩:=(show bX P w H h a (.dN kvs) from ok a _ e);refine⟨z,y,xs,r,o,es,ep,h1,h2,h3,h4,?_,h5⟩;clear h4 h5 e z;induction r with
 |nil=>exact λx hx=>nomatch hx
 | @cons p q ps qs hq t ih=>
  intro x hx;rcases aH.mp hx with rfl|hx
  .obtain⟨b,e1,k,l,as,rd⟩:=ks p aV;have e2:=hq.2.1;rw[e1]at e2;cases e2;rw[<- hq.1];exact⟨k,l,as,rd⟩
  .exact ih (λp hp=>ks p (aW _ hp)) x hx
end
section
variable{X:Cx}{pins:PN}{J:St}{H:Hp}{s:Shared}{a:Addr}{d:PyData}{y v:V}{u r:Value}{A:Around}{E:VP}{kvs:List (PyData×V×V)}
theorem Dx(hu:A.units+9 < cLine)(I:Inv X pins J H s)(e:H a=some (.dN kvs))(ks:∀p ∈ kvs,kU s.heap p.1 p.2.1)(ky:kU s.heap d y)(ry:RelV y u)(h:∀s',Inv X pins J H s'->Q (.bool (!uH kvs d)) s') :
  wpAny (model X.p X.w) A (compareOp .NotIn u (.ref a)) Q E s:=by
 obtain⟨b,rfl,k⟩:=ky;cases (show u=Value.ref b from ry);obtain⟨z,hd,xs,rel,dd⟩:=xJ I.h e ks;refine wpAny_notIn_heap (knd:=Nk.nest X.p X.w) (show(A.in1).units+8 < cLine by rw[iT];lia) k hd dd ?_;rw[rel.has];exact h _ (I.tok _)
theorem Jr(hu:A.units+9 < cLine)(I:Inv X pins J H s)(e:H a=some (.dN kvs))(ks:∀p ∈ kvs,kU s.heap p.1 p.2.1)(ky:kU s.heap d y)(ry:RelV y u)(rv:RelV v r)(new:uH kvs d=false)(hl:kvs.length < sizeLine)
  (h:∀s',Inv X pins J (a7 H a (.dN (kvs++[(d,y,v)]))) s'->Q () s'):wpAny (model X.p X.w) A (setItem (.ref a) u r) Q E s:=by
 obtain⟨b,rfl,k⟩:=ky;cases (show u=Value.ref b from ry);obtain⟨z,hd,xs,rel,dd⟩:=xJ I.h e ks;have hz:xs.length≤sizeLine:=by rw[<- Paired.length rel];exact z
 refine wZ (knd:=Nk.nest X.p X.w) (hsz:=hz) (show(A.in1).units+8 < cLine by rw[iT];lia) k dd λh' dd' hs=>h _ ?_;have nn:atKey xs d=none:=by have:=rel.has d;rw[new]at this;simpa using this
 rw[storedH_new nn]at dd';obtain⟨q,es,ep,hq,h2,h3,h4,_,h5⟩:=dd';exact jZ I (by rw[e];exact True.intro) hs ⟨q,hq⟩ ⟨by simp;lia,hd,_,Paired.snoc rel ⟨rfl,rfl,rv⟩,q,es,ep,hq,h2,h3,h4,h5⟩
end
theorem Bo(h:Heap)(b:sysModules < h.objs.size):bX P w H (h.push { cls:=.type "dict",data:=.dict #[] }) h.objs.size (.dN []):=
 ⟨br _,eD.mpr (aG (aL b)),[],.nil,_,#[],0,aS _ rfl,⟨rfl,rfl,rfl⟩,rfl,rfl,jG⟩
end L2
set_option tactic.hygienic true
namespace PySem
open PySem PyProof.Rows
namespace F
theorem entry_dict_update_loop:entryFor table "dict.update.loop"=some Builtin.«dict.update.loop»:=entryFor_of_tree (by kernel_rfl)
theorem plain_dict_update_loop:plainId "dict.update.loop"=true:=by decide +kernel
theorem list_no_keys:typeLookup (.type "list") "keys"=pure none:=by rw[tF,tN];kernel_rfl
end F
section
variable{prog:Program}{w:World}{A:Around}{E:VP}{s:Shared}
theorem ux 
  (hx:s.heap.get? a=some o) (hc:o.cls=.type "list") (hdat:o.data=.seq xs k0) (hd:o.dict=none) (hmiss:typeLookup (.type "list") name=pure none) (hname:(["__module__","__name__","__qualname__","__doc__","__annotations__"]:LS).contains name=false) (hA:A.handled=none)
  (h:∀h' tk,(∀b o,s.heap.get? b=some o->h'.get? b=some o)->Q none { s with heap:=h',toks:=tk }) (hsz:name.length+100≤sizeLine:=by size_fits) :
  wpAny (model prog w) A (getAttr? (.ref a) name) Q E s:=by
 obtain⟨c,dct,dat,sl⟩:=o;simp only at hc hdat hd;subst hc hdat hd;obtain⟨hp,g,d,tk,os⟩:=s;have hT:∀tk',(⟨hp,g,d,tk',os⟩:Shared).TypeIs (.ref a) "list":=λ_=>⟨_,hx,rfl⟩;have f1:=wW;have f3:=pc.lookup;have f4:=pc.bind (.ref a);have f5:=am_list_getattr_none;have step:∀(tk1:Nat)(u:Tok)(Q1:VP)(E1:VP),(∀h' tk2 e,v_ hp h' e (.ref a) name->E1 (.ref e) ⟨h',g,d,tk2,os⟩) ->
   wpAny (model prog w) A (call (Value.builtin "list.__getattribute__") ([Value.ref a]++[Value.str name u]) []) Q1 E1 ⟨hp,g,d,tk1,os⟩:=λtk1 u Q1 E1 k=>
  dD pc (hT _) am_entry_list_getattribute (F.args_list_getattribute_2 _ _) (meets_getattribute_miss_list a xs k0 sl name u hmiss hname hsz) ⟨hx,hA,k⟩
 unfold getAttr?;unfold getAttrBy?;unfold getAttrBy;repeat any_goals first|assumption|exact hT _|(with_reducible refine step _ _ _ _ λh' tk' e hx'=>?_)|wp_step
 have he:=hx'.there;obtain⟨t',u',he⟩:=he;repeat any_goals first|assumption|wp_step
 exact h _ _ hx'.keeps
inductive PairsAt{K:Type}[DecidableEq K](knd:KeyKind prog w K)(h:Heap):LV->List (K×Value)->Prop
 |nil:PairsAt knd h [] []
 |cons {t:Addr}{key v:Value}{k:K}{us:LV}{kvs:List (K×Value)}:IsTup h t #[key,v]->knd.is k key=true->PairsAt knd h us kvs->PairsAt knd h (.ref t::us) ((k,v)::kvs)
end
end PySem
namespace Ev
open PySem L2
noncomputable abbrev si(p:Pos):Arguments:={ posonlyargs:=[],args:=[{ arg:="standing",annotation:=none,pos:=p }],vararg:=none,kwonlyargs:=[],kw_defaults:=[],kwarg:=none,defaults:=[] }
noncomputable abbrev qy(p q r t:Pos):Expr:=.Call (.Name "ends_on" p) [.Name "board" q,.Name "standing" r] [] t
noncomputable abbrev lr:Scope:={ kind:=.function,names:=[(Str.ofString "standing",.local),(Str.ofString "board",.free),(Str.ofString "ends_on",.globalImplicit)],isGenerator:=false,isCoroutine:=false,more:=[] }
abbrev sh(p x a e s:Pos)(c:Addr)(m:Value)(h:Addr)(t:Value):Obj:=PySem.W.kla_obj "<lambda>" uA (si p) (qy x a e s) lr [(Str.ofString "board",c)] m h t
inductive P where
 |non|bl (b:Bool)|int (i:Int)|str (x:Str)|tup (xs:List P)|lst (xs:List P)|ro (xs:List P)|dct (ks:List cn) (vs:List P)
inductive D where
 |p (v:P)|ref (i:Nat)
inductive SO where
 |lst (xs:List D)|dct (ks:List cn) (vs:List D)|fz (v:P)|ins (c:Str) (ks:LS) (vs:List D)|dtn (ks:List P) (vs:List D)|fn (d:Option D)|dtt (ks:List (List cn)) (vs:List D)
noncomputable abbrev aC:=List SO
noncomputable abbrev Lc:=List (Option D)
mutual
noncomputable def pd:P->PyData
 | .non=>.none
 | .bl b=>.bool b
 | .int i=>.int i
 | .str x=>.str x
 | .tup xs=>.tuple (eZ xs)
 | .lst xs=>.list (eZ xs)
 | .ro xs=>.list (eZ xs)
 | .dct _ _=>.none
noncomputable def eZ:List P->List PyData
 | []=>[]
 |x::r=>pd x::eZ r
end
def MG(K:FG)(a:Addr)(xs:List V):Prop:=kg K (λ_=>none) a xs
def MH(K:FG)(a:Addr)(xs:List V):Prop:=dw K (λ_=>none) a xs
def TupAt(K:FG)(H:Hp)(a:Addr)(xs:List V):Prop:=H a=some (.tup xs)\/MG K a xs
def LstAt(F:Aa)(H:Hp)(a:Addr)(xs:List V):Prop:=F a/\H a=some (.lst xs)
def yF(K:FG)(F:Aa)(H:Hp)(a:Addr)(xs:List V):Prop:=(F a/\∃o,H a=some (.frz o (.lst xs)))\/MH K a xs
variable{K:FG}{H:Hp}{a:Addr}{xs:List V}
theorem TupAt.sq(h:TupAt K H a xs):kg K H a xs:=by
 rcases h with h|(h|h)
 .exact .inl (.inl h)
 .rcases h with h|⟨o,h⟩<;>cases h
 .exact .inr h
variable{F:Aa}
theorem LstAt.sq(h:LstAt F H a xs):dw K H a xs:=.inl (.inl h.2)
theorem yF.sq(h:yF K F H a xs):dw K H a xs:=by
 rcases h with ⟨_,o,h⟩|(h|h)
 .exact .inl (.inr ⟨o,h⟩)
 .rcases h with h|⟨o,h⟩<;>cases h
 .exact .inr h
section
variable(K:FG)(F:Aa)(H:Hp)
mutual
noncomputable def RP:P->V->Prop
 | .non,v=>v=.non
 | .bl b,v=>v=.bl b
 | .int i,v=>v=.int i
 | .str x,v=>v=.str x
 | .tup ds,v=>∃a xs,v=.ref a/\TupAt K H a xs/\bg ds xs
 | .lst ds,v=>∃a xs,v=.ref a/\LstAt F H a xs/\bg ds xs
 | .ro ds,v=>∃a xs,v=.ref a/\yF K F H a xs/\bg ds xs
 | .dct ks ds,v=>∃a kvs,v=.ref a/\F a/\H a=some (.dK kvs)/\kvs.map (·.1)=ks/\bg ds (kvs.map (·.2))
noncomputable def bg:List P->List V->Prop
 | [],xs=>xs=[]
 |d::ds,xs=>∃x r,xs=x::r/\RP d x/\bg ds r
end
def RD(m:List Addr):D->V->Prop
 | .p d,v=>RP K F H d v
 | .ref i,v=>∃a,v=.ref a/\m[i]? = some a
def bJ(m:List Addr):List D->List V->Prop
 | [],xs=>xs=[]
 |d::s,xs=>∃x r,xs=x::r/\RD K F H m d x/\bJ m s r
inductive FnI(H:Hp)(a:Addr)(v:V):Prop
 |mk (p1 p2 p3 p4 p5:Pos) (cr c' P:Addr) (o oc:Obj) (pm ctv ub:Value) (f:H a=some (.frz (sh p1 p2 p3 p4 p5 cr pm c' ctv) (.own a))) (c:H cr=some (.frz o (.own cr))) (d:o.data=.cell (some ub)) (r:RelV v ub) (e:H c'=some (.frz oc (.own P))) (l:uC oc):FnI H a v
def RO(m:List Addr)(a:Addr):SO->Prop
 | .lst s=>∃xs,H a=some (.lst xs)/\bJ K F H m s xs
 | .dct h s=>∃k,H a=some (.dK k)/\k.map (·.1)=h/\bJ K F H m s (k.map (·.2))
 | .fz v=>RP K F H v (.ref a)
 | .ins c h s=>∃C x k,kr K mainGlobals c=some (some (.ref C))/\H a=some (.ins C x k)/\k.map (·.1)=h/\bJ K F H m s (k.map (·.2))
 | .dtn h s=>∃k,H a=some (.dN k)/\k.map (·.1)=eZ h/\bg K F H h (k.map (·.2.1))/\bJ K F H m s (k.map (·.2.2))
 | .fn o=>∀d,o=some d->∃v,FnI H a v/\RD K F H m d v
 | .dtt h s=>∃k,H a=some (.dT k)/\k.map (·.1)=h/\bJ K F H m s (k.map (·.2))
def SO.own:SO->Prop
 | .fz _=>False
 | .fn _=>False
 |_=>True
structure Rel(m:List Addr)(S:aC):Prop where
 len:m.length=S.length
 nd:m.Nodup
 obj:∀(i:Nat) a o,m[i]? = some a->S[i]? = some o->RO K F H m a o
 sep:∀(i:Nat) a o,m[i]? = some a->S[i]? = some o->o.own->¬F a
 trk:∀a ∈ m,H a≠none
 ft:∀a,F a->H a≠none
end
structure Kp(F:Aa)(m:List Addr)(H:Hp)(F':Aa)(m':List Addr)(H':Hp):Prop where
 pre:∃n,m'=m++n
 frz:∀b,F b->F' b
 frk:∀b o,F b->H b=some o->H' b=some o
 tup:∀b xs,H b=some (.tup xs)->H' b=some (.tup xs)
 cod:∀b o u,H b=some (.frz o (.own u))->H' b=some (.frz o (.own u))
structure Stp(F:Aa)(m:List Addr)(H:Hp)(F':Aa)(m':List Addr)(H':Hp):Prop where
 pre:∃n,m'=m++n
 oth:∀b o,H b=some o->b ∉ m->H' b=some o
 frz:∀b,F b->F' b
 frk:∀b o,F b->H b=some o->H' b=some o
 tup:∀b xs,H b=some (.tup xs)->H' b=some (.tup xs)
 trk:∀b,H b≠none->H' b≠none
 nf:∀b,F' b->F b\/H b=none\/b ∈ m
 nm:∀b,b ∈ m'->b ∈ m\/H b=none
 cod:∀b o u,H b=some (.frz o (.own u))->H' b=some (.frz o (.own u))
variable{F':Aa}{m:List Addr}{m':List Addr}{H':Hp}
theorem Stp.kp(s:Stp F m H F' m' H'):Kp F m H F' m' H':=⟨s.pre,s.frz,s.frk,s.tup,s.cod⟩
theorem Stp.refl:Stp F m H F m H:=
 ⟨⟨[],by simp⟩,λ_ _ h _=>h,λ_ h=>h,λ_ _ _ h=>h,λ_ _ h=>h,λ_ h=>h,λ_ h=>.inl h,λ_ h=>.inl h,λ_ _ _ h=>h⟩
theorem Stp.trans(a:Stp F m H C k H1)(b:Stp C k H1 B r I):Stp F m H B r I where
 pre:=by obtain⟨f,s⟩:=a.pre;obtain⟨t,n⟩:=b.pre;exact⟨f++t,by rw[n,s,iN]⟩
 oth:=λc o h x=>b.oth c o (a.oth c o h x) λz=>by
  rcases a.nm c z with z|z
  .exact x z
  .rw [h]at z;cases z
 frz:=λc h=>b.frz c (a.frz c h)
 frk:=λc o h e=>b.frk c o (a.frz c h) (a.frk c o h e)
 tup:=λc xs h=>b.tup c xs (a.tup c xs h)
 cod:=λc o u h=>b.cod c o u (a.cod c o u h)
 trk:=λc h=>b.trk c (a.trk c h)
 nf:=λc h=>by
  rcases b.nf c h with h|h|h
  .exact a.nf c h
  .by_cases e:H c=none
   .exact .inr (.inl e)
   .exact absurd h (a.trk c e)
  .rcases a.nm c h with h|h
   .exact .inr (.inr h)
   .exact .inr (.inl h)
 nm:=λc h=>by
  rcases b.nm c h with h|h
  .exact a.nm c h
  .by_cases e:H c=none
   .exact .inr e
   .exact absurd h (a.trk c e)
section
variable{K:FG}{F F':Aa}{H H':Hp}{m m':List Addr}{S N:aC}
theorem TupAt.kp(s:Kp F m H F' m' H')(h:TupAt K H a xs):TupAt K H' a xs:=by
 rcases h with h|h
 .exact .inl (s.tup _ _ h)
 .exact .inr h
theorem LstAt.kp(s:Kp F m H F' m' H')(h:LstAt F H a xs):LstAt F' H' a xs:=⟨s.frz _ h.1,s.frk _ _ h.1 h.2⟩
theorem yF.kp(s:Kp F m H F' m' H')(h:yF K F H a xs):yF K F' H' a xs:=by
 rcases h with ⟨f,o,h⟩|h
 .exact .inl ⟨s.frz _ f,o,s.frk _ _ f h⟩
 .exact .inr h
mutual
theorem RP.kp(s:Kp F m H F' m' H'):∀{d:P}{v:V},RP K F H d v->RP K F' H' d v
 | .non,_,h=>h
 | .bl _,_,h=>h
 | .int _,_,h=>h
 | .str _,_,h=>h
 | .tup _,_,h=>by obtain⟨a,xs,e,t,r⟩:=h;exact⟨a,xs,e,t.kp s,bg.kp s r⟩
 | .lst _,_,h=>by obtain⟨a,xs,e,t,r⟩:=h;exact⟨a,xs,e,t.kp s,bg.kp s r⟩
 | .ro _,_,h=>by obtain⟨a,xs,e,t,r⟩:=h;exact⟨a,xs,e,t.kp s,bg.kp s r⟩
 | .dct _ _,_,h=>by obtain⟨a,kvs,e,f,t,k,r⟩:=h;exact⟨a,kvs,e,s.frz _ f,s.frk _ _ f t,k,bg.kp s r⟩
theorem bg.kp(s:Kp F m H F' m' H'):∀{ds:List P}{xs:List V},bg K F H ds xs->bg K F' H' ds xs
 | [],_,h=>h
 |_::_,_,h=>by obtain⟨x,r,e,h1,h2⟩:=h;exact⟨x,r,e,RP.kp s h1,bg.kp s h2⟩
end
theorem RD.kp(s:Kp F m H F' m' H'):∀{d:D}{v:V},RD K F H m d v->RD K F' H' m' d v
 | .p _,_,h=>RP.kp s h
 | .ref i,_,h=>by obtain⟨a,e,h⟩:=h;obtain⟨n,x⟩:=s.pre;refine⟨a,e,?_⟩;rw[x];have k:i < m.length:=(a9.mp h).1;rw[bu k];exact h
theorem bJ.kp(s:Kp F m H F' m' H'):∀{d:List D}{xs:List V},bJ K F H m d xs->bJ K F' H' m' d xs
 | [],_,h=>h
 |_::_,_,h=>by obtain⟨x,r,e,a,n⟩:=h;exact⟨x,r,e,RD.kp s a,bJ.kp s n⟩
variable{d:P}{v:V}
theorem RP.mono(s:Stp F m H F' m' H')(h:RP K F H d v):RP K F' H' d v:=RP.kp s.kp h
theorem bg.mono(s:Stp F m H F' m' H'){d:List P}{v:List V}(h:bg K F H d v):bg K F' H' d v:=bg.kp s.kp h
theorem RD.mono(s:Stp F m H F' m' H'){d:D}{v:V}(h:RD K F H m d v):RD K F' H' m' d v:=RD.kp s.kp h
theorem bJ.mono(s:Stp F m H F' m' H'){d:List D}{v:List V}(h:bJ K F H m d v):bJ K F' H' m' d v:=bJ.kp s.kp h
theorem bg.length:∀{d:List P}{xs:List V},bg K F H d xs->d.length=xs.length
 | [],_,h=>by rw[show _=([]:List V) from h]<;>rfl
 |_::_,_,h=>by obtain⟨x,r,e,_,a⟩:=h;rw[e,bC,bC,bg.length a]
theorem bJ.length:∀{d:List D}{xs:List V},bJ K F H m d xs->d.length=xs.length
 | [],_,h=>by rw[show _=([]:List V) from h]<;>rfl
 |_::_,_,h=>by obtain⟨x,r,e,_,a⟩:=h;rw[e,bC,bC,bJ.length a]
theorem bg.get:∀{s:List P}{xs:List V}{i:Nat}{d:P},bg K F H s xs->s[i]? = some d->∃x,xs[i]? = some x/\RP K F H d x
 | [],_,_,_,_,e=>by simp at e
 |_::_,_,0,_,h,e=>by obtain⟨x,r,rfl,n,_⟩:=h;simp at e;subst e;exact⟨x,rfl,n⟩
 |_::_,_,i+1,d,h,e=>by obtain⟨x,r,rfl,_,k⟩:=h;obtain⟨y,a,f⟩:=bg.get (i:=i) k (by simpa using e);exact⟨y,by simpa using a,f⟩
theorem bg.append:∀{d z:List P}{xs y:List V},bg K F H d xs->bg K F H z y->bg K F H (d++z) (xs++y)
 | [],_,_,_,h,g=>by rw[show _=([]:List V) from h];exact g
 |_::_,_,_,_,h,g=>by obtain⟨x,r,rfl,a,e⟩:=h;exact⟨x,r++_,rfl,a,bg.append e g⟩
theorem bJ.append:∀{d z:List D}{xs y:List V},bJ K F H m d xs->bJ K F H m z y->bJ K F H m (d++z) (xs++y)
 | [],_,_,_,h,g=>by rw[show _=([]:List V) from h];exact g
 |_::_,_,_,_,h,g=>by obtain⟨x,r,rfl,a,e⟩:=h;exact⟨x,r++_,rfl,a,bJ.append e g⟩
theorem bg.take:∀(n:Nat){d:List P}{xs:List V},bg K F H d xs->bg K F H (d.take n) (xs.take n)
 |0,_,_,_=>rfl
 |_+1,[],_,h=>by rw[show _=([]:List V) from h];rfl
 |n+1,_::_,_,h=>by obtain⟨x,r,rfl,a,e⟩:=h;exact⟨x,r.take n,rfl,a,bg.take n e⟩
theorem bg.drop:∀(n:Nat){d:List P}{xs:List V},bg K F H d xs->bg K F H (d.drop n) (xs.drop n)
 |0,_,_,h=>h
 |_+1,[],_,h=>by rw[show _=([]:List V) from h];rfl
 |n+1,_::_,_,h=>by obtain⟨x,r,rfl,_,a⟩:=h;exact bg.drop n a
theorem bJ.take:∀(n:Nat){d:List D}{xs:List V},bJ K F H m d xs->bJ K F H m (d.take n) (xs.take n)
 |0,_,_,_=>rfl
 |_+1,[],_,h=>by rw[show _=([]:List V) from h];rfl
 |n+1,_::_,_,h=>by obtain⟨x,r,rfl,a,e⟩:=h;exact⟨x,r.take n,rfl,a,bJ.take n e⟩
theorem bJ.get:∀{s:List D}{xs:List V}{i:Nat}{d:D},bJ K F H m s xs->s[i]? = some d->∃x,xs[i]? = some x/\RD K F H m d x
 | [],_,_,_,_,e=>by simp at e
 |_::_,_,0,_,h,e=>by obtain⟨x,r,rfl,n,_⟩:=h;simp at e;subst e;exact⟨x,rfl,n⟩
 |_::_,_,i+1,d,h,e=>by obtain⟨x,r,rfl,_,k⟩:=h;obtain⟨y,a,f⟩:=bJ.get (i:=i) k (by simpa using e);exact⟨y,by simpa using a,f⟩
theorem bJ.ofP:∀{d:List P}{xs:List V},bg K F H d xs->bJ K F H m (d.map .p) xs
 | [],_,h=>h
 |_::_,_,h=>by obtain⟨x,r,e,a,s⟩:=h;exact⟨x,r,e,a,bJ.ofP s⟩
variable{p:Addr}
theorem Rel.fresh_m(r:Rel K F H m S)(h:H p=none):p ∉ m:=λz=>r.trk p z h
theorem Rel.fresh_F(r:Rel K F H m S)(h:H p=none):¬F p:=λz=>r.ft p z h
variable{o:HO}
theorem cz(x:H p=none):Stp F m H F m (a7 H p o) where
 pre:=⟨[],by simp⟩
 oth:=λb u h _=>by rw[al (by rintro rfl;rw[x]at h;cases h)];exact h
 frz:=λ_ h=>h
 frk:=λb u _ h=>by rw[al (by rintro rfl;rw[x]at h;cases h)];exact h
 tup:=λb u h=>by rw[al (by rintro rfl;rw[x]at h;cases h)];exact h
 cod:=λb u w h=>by rw[al (by rintro rfl;rw[x]at h;cases h)];exact h
 trk:=λb h=>by
  by_cases e:b=p
  .subst e;rw[au];exact λz=>nomatch z
  .rw [al e];exact h
 nf:=λ_ h=>.inl h
 nm:=λ_ h=>.inl h
theorem RO.kp(s:Kp F m H F' m' H'){a:Addr}{o:SO}(k:∀u,H a=some u->H' a=some u)(h:RO K F H m a o):RO K F' H' m' a o:=by
 cases o with
 |lst b=>obtain⟨xs,e,r⟩:=h;exact⟨xs,k _ e,bJ.kp s r⟩
 |dct p b=>obtain⟨x,e,f,r⟩:=h;exact⟨x,k _ e,f,bJ.kp s r⟩
 |fz v=>exact RP.kp s (show RP K F H v (.ref a) from h)
 |ins c p b=>obtain⟨C,g,x,n,e,f,r⟩:=h;exact⟨C,g,x,n,k _ e,f,bJ.kp s r⟩
 |dtt p b=>obtain⟨x,e,f,r⟩:=h;exact⟨x,k _ e,f,bJ.kp s r⟩
 |fn R=>intro d A;obtain⟨v,⟨D,E,G,I,L,w,q,P,o,B,M,t,Q,i,j,l,y,z,S⟩,r⟩:=h d A;exact⟨v,⟨D,E,G,I,L,w,q,P,o,B,M,t,Q,s.cod _ _ _ i,s.cod _ _ _ j,l,y,s.cod _ _ _ z,S⟩,r.kp s⟩
 |dtn p b=>obtain⟨x,e,f,N,r⟩:=h;exact⟨x,k _ e,f,bg.kp s N,bJ.kp s r⟩
theorem RO.mono(s:Stp F m H F' m' H'){a:Addr}{o:SO}(k:∀u,H a=some u->H' a=some u)(h:RO K F H m a o):RO K F' H' m' a o:=RO.kp s.kp k h
theorem Rel.stayK(r:Rel K F H m S)(s:Kp F m H F' m H')(k:∀a u,a ∈ m->H a=some u->H' a=some u)(n:∀a,F' a->F a\/H a=none)(t:∀a,F' a->H' a≠none):Rel K F' H' m S where
 len:=r.len
 nd:=r.nd
 obj:=λi a o e x=>(r.obj i a o e x).kp s λu h=>k a u (cx e) h
 sep:=λi a o e x w f=>by
  rcases n a f with f|f
  .exact r.sep i a o e x w f
  .exact r.trk a (cx e) f
 trk:=λa h=>by
  cases q:H a with
  |none=>exact absurd q (r.trk a h)
  |some u=>rw[k a u h q];exact λz=>nomatch z
 ft:=t
theorem Rel.stay(r:Rel K F H m S)(s:Stp F m H F' m H')(k:∀a u,a ∈ m->H a=some u->H' a=some u)(n:∀a,F' a->F a\/H a=none)(t:∀a,F' a->H' a≠none):Rel K F' H' m S where
 len:=r.len
 nd:=r.nd
 obj:=λi a o e x=>(r.obj i a o e x).mono s λu h=>k a u (cx e) h
 sep:=λi a o e x w f=>by
  rcases n a f with f|f
  .exact r.sep i a o e x w f
  .exact r.trk a (cx e) f
 trk:=λa h=>s.trk a (r.trk a h)
 ft:=t
theorem Rel.new(r:Rel K F H m S)(x:H p=none):Rel K F (a7 H p o) m S:=
 r.stay (cz x) (λa u e h=>by rw[al (by rintro rfl;exact r.fresh_m x e)];exact h) (λ_ f=>.inl f) λa f=>(cz (F:=F) (m:=m) x).trk a (r.ft a f)
theorem bH{p:Addr}{o:HO}(x:H p=none):Stp F m H F (m++[p]) (a7 H p o) where
 pre:=⟨[p],rfl⟩
 oth:=(cz (F:=F) (m:=m) (o:=o) x).oth
 frz:=λ_ h=>h
 frk:=(cz (F:=F) (m:=m) (o:=o) x).frk
 tup:=(cz (F:=F) (m:=m) (o:=o) x).tup
 cod:=(cz (F:=F) (m:=m) (o:=o) x).cod
 trk:=(cz (F:=F) (m:=m) (o:=o) x).trk
 nf:=λ_ h=>.inl h
 nm:=λb h=>by
  rcases dJ.mp h with h|h
  .exact .inl h
  .have:b=p:=by simpa using h
   subst this;exact .inr x
theorem Rel.own(r:Rel K F H m S){p:Addr}{o:HO}{c:SO}(n:H p=none)(v:RO K F (a7 H p o) (m++[p]) p c):Rel K F (a7 H p o) (m++[p]) (S++[c]) where
 len:=by rw[bw,bw,r.len];rfl
 nd:=by
  rw[jJ];refine⟨r.nd,by simp,λa t b q e=>?_⟩;have:b=p:=by simpa using q
  subst this;subst e;exact r.fresh_m n t
 obj:=λi a u x s=>by
  by_cases k:i < m.length
  .rw [bu k]at x;rw[bu (by rw[<- r.len];exact k)]at s;exact(r.obj i a u x s).mono (bH n) λw h=>by rw[al (by rintro rfl;rw[n]at h;cases h)];exact h
  .have l:i=m.length:=by
    have:=(a9.mp x).1;rw[bw]at this;simp at this;lia
   subst l;rw[bb (ai _)]at x;rw[r.len,bb (ai _)]at s;simp at x s;subst x;subst s;exact v
 sep:=λi a u x s w f=>by
  by_cases k:i < m.length
  .rw [bu k]at x;rw[bu (by rw[<- r.len];exact k)]at s;exact r.sep i a u x s w f
  .have l:i=m.length:=by
    have:=(a9.mp x).1;rw[bw]at this;simp at this;lia
   subst l;rw[bb (ai _)]at x;simp at x;subst x;exact r.fresh_F n f
 trk:=λa h=>by
  rcases dJ.mp h with h|h
  .exact (bH (F:=F) (m:=m) n).trk a (r.trk a h)
  .have:a=p:=by simpa using h
   subst this;rw[au];exact λz=>nomatch z
 ft:=λa f=>(bH (F:=F) (m:=m) n).trk a (r.ft a f)
variable{i:Nat}
theorem cS(r:Rel K F H m S)(s:m[i]? = some p)(n:S[i]? = some k)(w:k.own)(t:∀xs,H p≠some (.tup xs)):Stp F m H F m (a7 H p o) where
 pre:=⟨[],by simp⟩
 oth:=λb u h c=>by rw[al (by rintro rfl;exact c (cx s))];exact h
 frz:=λ_ h=>h
 frk:=λb u f h=>by rw[al (by rintro rfl;exact r.sep i _ k s n w f)];exact h
 tup:=λb xs h=>by rw[al (by rintro rfl;exact t xs h)];exact h
 cod:=λb x u h=>by
  rw[al ?_];exact h;rintro rfl;have a:=r.obj i b k s n;cases k with
  |fz _=>exact w
  |fn _=>exact w
  |lst _=>obtain⟨_,e,_⟩:=a;rw[h]at e;cases e
  |dct _ _=>obtain⟨_,e,_⟩:=a;rw[h]at e;cases e
  |ins _ _ _=>obtain⟨_,_,_,_,e,_⟩:=a;rw[h]at e;cases e
  |dtn _ _=>obtain⟨_,e,_⟩:=a;rw[h]at e;cases e
  |dtt _ _=>obtain⟨_,e,_⟩:=a;rw[h]at e;cases e
 trk:=λb h=>by
  by_cases e:b=p
  .subst e;rw[au];exact λz=>nomatch z
  .rw [al e];exact h
 nf:=λ_ h=>.inl h
 nm:=λ_ h=>.inl h
theorem rX(h:m.Nodup)(e:m[i]? = some a)(x:m[k]? = some a):i=k:=by exact(List.getElem?_inj (a9.mp e).1 h).mp (e.trans x.symm)
theorem Rel.set(r:Rel K F H m S){i:Nat}{p:Addr}{q b:SO}{o:HO}(s:m[i]? = some p)(k:S[i]? = some q)(c:q.own)(t:∀xs,H p≠some (.tup xs))(v:RO K F (a7 H p o) m p b) :
  Rel K F (a7 H p o) m (S.set i b) where
 len:=by rw[cP];exact r.len
 nd:=r.nd
 obj:=λj a u e x=>by
  by_cases n:i=j
  .subst n;rw[s]at e;cases e;rw[cy (by exact(a9.mp k).1)]at x;cases x;exact v
  .rw [bG n]at x;exact(r.obj j a u e x).mono (cS r s k c t) λw h=>by rw[al (by rintro rfl;exact n (rX r.nd s e))];exact h
 sep:=λj a u e x w f=>by
  by_cases n:i=j
  .subst n;rw[s]at e;cases e;exact r.sep i p q s k c f
  .rw [bG n]at x;exact r.sep j a u e x w f
 trk:=λa h=>(cS (o:=o) r s k c t).trk a (r.trk a h)
 ft:=λa f=>(cS (o:=o) r s k c t).trk a (r.ft a f)
theorem qi(x:p ∈ m):Stp F m H (λb=>F b\/b=p) m H:=
 ⟨⟨[],by simp⟩,fun _ _ h _=>h,fun _ h=>.inl h,fun _ _ _ h=>h,fun _ _ h=>h,fun _ h=>h,fun b h=>by
  rcases h with h|h
  .exact .inl h
  .subst h;exact .inr (.inr x),λ_ h=>.inl h,λ_ _ _ h=>h⟩
theorem Rel.frz(r:Rel K F H m S){i:Nat}{p:Addr}{c:SO}{v:P}(n:m[i]? = some p)(k:S[i]? = some c)(o:RP K (λb=>F b\/b=p) H v (.ref p)):Rel K (λb=>F b\/b=p) H m (S.set i (.fz v)) where
 len:=by rw[cP];exact r.len
 nd:=r.nd
 obj:=λj a u x e=>by
  by_cases s:i=j
  .subst s;rw[n]at x;cases x;rw[cy (by exact(a9.mp k).1)]at e;cases e;exact o
  .rw [bG s]at e;exact(r.obj j a u x e).mono (qi (cx n)) λw h=>h
 sep:=λj a u x e w f=>by
  by_cases s:i=j
  .subst s;rw[cy (by exact(a9.mp k).1)]at e;cases e;exact w
  .rw [bG s]at e;rcases f with f|f
   .exact r.sep j a u x e w f
   .subst f;exact s (rX r.nd n x)
 trk:=r.trk
 ft:=λa f=>by
  rcases f with f|f
  .exact r.ft a f
  .subst f;exact r.trk _ (cx n)
end
noncomputable abbrev EE:=Lc->aC->Option (D×aC)
noncomputable abbrev oo:=Option (D×aC)
noncomputable abbrev EV:=Lc->aC->Option (P×aC)
noncomputable abbrev tyV:=Option (P×aC)
noncomputable abbrev EB:=Lc->aC->Option (Bool×aC)
noncomputable abbrev Hl:=Option (Bool×aC)
noncomputable abbrev ki:=Lc->aC->Option (List P×aC)
noncomputable abbrev xW:=Option (List P×aC)
inductive Fl where
 |nx|rt (d:D)|bk|ct
noncomputable abbrev ES:=Lc->aC->Option (Fl×Lc×aC)
noncomputable abbrev zy:=Option (Fl×Lc×aC)
variable{α:Type}{β:Type}
noncomputable def aZ(x:Option (α×aC))(f:α->aC->Option β):Option β:=match x with
 |some (a,S)=>f a S
 |none=>none
@[simp] theorem av(a:α)(S:aC)(f:α->aC->Option β):aZ (some (a,S)) f=f a S:=rfl
@[simp] theorem Kb(f:α->aC->Option β):aZ none f=none:=rfl
theorem ah{α β:Type}{x:Option (α×aC)}{f:α->aC->Option β}{r:β}(h:aZ x f=some r):∃a S,x=some (a,S)/\f a S=some r:=by
 cases x with
 |none=>cases h
 |some p=>exact⟨p.1,p.2,rfl,h⟩
def uu(f:D->aC->Option (P×aC)):List D->aC->Option (List P×aC)
 | [],S=>some ([],S)
 |d::r,S=>aZ (f d S) λv h=>aZ (uu f r h) λT x=>some (v::T,x)
def toP:Nat->D->aC->Option (P×aC)
 |_,.p v,S=>some (v,S)
 |0,.ref _,_=>none
 |n+1,.ref i,S=>match S[i]? with
  |some (.lst d)=>aZ (uu (toP n) d S) λT h=>some (.lst T,h.set i (.fz (.lst T)))
  |some (.dct k d)=>aZ (uu (toP n) d S) λT h=>some (.dct k T,h.set i (.fz (.dct k T)))
  |some (.fz v)=>some (v,S)
  |some (.ins _ _ _)=>none
  |some (.dtn _ _)=>none
  |some (.dtt _ _)=>none
  |some (.fn _)=>none
  |none=>none
@[simp] theorem Iv(n:Nat)(v:P)(S:aC):toP n (.p v) S=some (v,S):=by cases n<;>rfl
theorem qv(n:Nat):∀(T:List P)(S:aC),uu (toP n) (T.map .p) S=some (T,S)
 | [],_=>rfl
 |v::r,S=>by simp[uu,qv n r S]
variable{n:Nat}{S:aC}{T:List P}
theorem fA(h:S[i]? = some (.lst (T.map .p))):toP (n+1) (.ref i) S=some (.lst T,S.set i (.fz (.lst T))):=by simp[toP,h,qv]
section
variable{K:FG}{F:Aa}{H:Hp}{m:List Addr}{S N:aC}
theorem qw 
  (n:∀{d:D}{x:V}{v:P}{F:Aa}{S N:aC},f d S=some (v,N)->Rel K F H m S->RD K F H m d x->∃F',Stp F m H F' m H/\Rel K F' H m N/\N.length=S.length/\RP K F' H v x) :
  ∀{s:List D}{xs:List V}{T:List P}{F:Aa}{S N:aC},uu f s S=some (T,N)->Rel K F H m S->bJ K F H m s xs->∃F',Stp F m H F' m H/\Rel K F' H m N/\N.length=S.length/\bg K F' H T xs
 | [],xs,T,F,S,N,h,r,a=>by cases h;exact⟨F,.refl,r,rfl,a⟩
 |d::s,xs,T,F,S,N,h,r,a=>by obtain⟨x,y,e,p,q⟩:=a;obtain⟨v,z,c,h⟩:=ah h;obtain⟨A,o,t,h⟩:=ah h;cases h;obtain⟨C,k,i,l,u⟩:=n c r p;obtain⟨B,b,j,w,g⟩:=qw n t i (bJ.mono k q);exact⟨B,k.trans b,j,w.trans l,x,y,e,RP.mono b u,g⟩
theorem kA:∀(n:Nat){d:D}{x:V}{v:P}{F:Aa}{S N:aC},toP n d S=some (v,N)->Rel K F H m S->RD K F H m d x->∃F',Stp F m H F' m H/\Rel K F' H m N/\N.length=S.length/\RP K F' H v x
 |n,.p w,x,v,F,S,N,h,r,u=>by rw[Iv]at h;cases h;exact⟨F,.refl,r,rfl,u⟩
 |0,.ref i,x,v,F,S,N,h,r,u=>by cases h
 |n+1,.ref i,x,v,F,S,N,h,r,u=>by
  obtain⟨a,e,f⟩:=u;subst e;have p:i < S.length:=by rw[<- r.len];exact(a9.mp f).1
  obtain⟨o,L⟩:∃o,S[i]? = some o:=⟨S[i],by simp[p]⟩;have z:=r.obj i a o f L;simp only[toP,L]at h;cases o with
  |fz w=>cases h;exact⟨F,.refl,r,rfl,z⟩
  |ins c M I=>cases h
  |dtn _ _=>cases h
  |dtt _ _=>cases h
  |fn _=>cases h
  |lst I=>obtain⟨T,t,g,h⟩:=ah h;cases h;obtain⟨xs,j,E⟩:=z;obtain⟨C,G,B,k,A⟩:=qw (λh=>kA n h) g r E;obtain⟨Q,s⟩:∃o,t[i]? = some o:=⟨t[i]'(by rw[k];exact p),by simp[k,p]⟩;have l:Stp C m H (λb=>C b\/b=a) m H:=qi (cx f);have q:RP K (λb=>C b\/b=a) H (.lst T) (.ref a):=⟨a,xs,rfl,⟨.inr rfl,j⟩,bg.mono l A⟩;exact⟨_,G.trans l,B.frz f s q,by rw[cP];exact k,q⟩
  |dct M I=>obtain⟨T,t,g,h⟩:=ah h;cases h;obtain⟨y,j,hk,E⟩:=z;obtain⟨C,G,B,k,A⟩:=qw (λh=>kA n h) g r E;obtain⟨Q,s⟩:∃o,t[i]? = some o:=⟨t[i]'(by rw[k];exact p),by simp[k,p]⟩;have l:Stp C m H (λb=>C b\/b=a) m H:=qi (cx f);have q:RP K (λb=>C b\/b=a) H (.dct M T) (.ref a):=⟨a,y,rfl,.inr rfl,j,hk,bg.mono l A⟩;exact⟨_,G.trans l,B.frz f s q,by rw[cP];exact k,q⟩
end
structure Grow(F:Aa)(H:Hp)(F':Aa)(H':Hp):Prop where
 keep:∀b o,H b=some o->H' b=some o
 frz:∀b,F b->F' b
 nf:∀b,F' b->F b\/(H b=none/\H' b≠none)
section
variable{K:FG}{F F' C B:Aa}{H H' H1 I:Hp}{m:List Addr}{S N:aC}
theorem Grow.refl:Grow F H F H:=⟨λ_ _ h=>h,λ_ h=>h,λ_ h=>.inl h⟩
theorem Grow.stp(g:Grow F H F' H'):Stp F m H F' m H' where
 pre:=⟨[],by simp⟩
 oth:=λb o h _=>g.keep b o h
 frz:=g.frz
 frk:=λb o _ h=>g.keep b o h
 tup:=λb xs h=>g.keep b _ h
 cod:=λb o u h=>g.keep b _ h
 trk:=λb h=>by
  cases q:H b with
  |none=>exact absurd q h
  |some o=>rw[g.keep b o q];exact λz=>nomatch z
 nf:=λb h=>by
  rcases g.nf b h with h|⟨h,_⟩
  .exact .inl h
  .exact .inr (.inl h)
 nm:=λ_ h=>.inl h
theorem Rel.grow(r:Rel K F H m S)(g:Grow F H F' H'):Rel K F' H' m S:=
 r.stay g.stp (fun a u _ h=>g.keep a u h) (fun a f=>by
  rcases g.nf a f with f|⟨f,_⟩
  .exact .inl f
  .exact .inr f) λa f=>by
  rcases g.nf a f with f|⟨_,f⟩
  .exact (g.stp (m:=m)).trk a (r.ft a f)
  .exact f
theorem bj{p:Addr}{o:HO}(x:H p=none):Grow F H F (a7 H p o):=
 ⟨λb u h=>by rw[al (by rintro rfl;rw[x]at h;cases h)];exact h,λ_ h=>h,λ_ h=>.inl h⟩
theorem bA{p:Addr}{o:HO}(x:H p=none):Grow F H (λb=>F b\/b=p) (a7 H p o):=
 ⟨fun b u h=>by rw [al (by rintro rfl;rw [x] at h;cases h)];exact h,fun _ h=>.inl h,fun b h=>by
  rcases h with h|h
  .exact .inl h
  .subst h;exact .inr ⟨x,by rw[au];exact λz=>nomatch z⟩⟩
theorem RP.grow(g:Grow F H F' H')(h:RP K F H d v):RP K F' H' d v:=RP.mono (m:=[]) g.stp h
theorem bg.grow(g:Grow F H F' H')(h:bg K F H d v):bg K F' H' d v:=bg.mono (m:=[]) g.stp h
theorem RP.newTup(x:H p=none)(r:bg K F H h xs):RP K F (a7 H p (.tup xs)) (.tup h) (.ref p):=⟨p,xs,rfl,.inl au,r.grow (bj x)⟩
theorem RP.newLst(x:H p=none)(r:bg K F H h xs):RP K (λb=>F b\/b=p) (a7 H p (.lst xs)) (.lst h) (.ref p):=⟨p,xs,rfl,⟨.inr rfl,au⟩,r.grow (bA x)⟩
end
@[simp] def vC(v:P)(_L:Lc)(S:aC):tyV:=some (v,S)
def U(i:Nat)(L:Lc)(S:aC):oo:=match L[i]? with
 |some (some d)=>some (d,S)
 |_=>none
@[simp] def vE(f:EE)(L:Lc)(S:aC):tyV:=aZ (f L S) (toP 9)
@[simp] def eV(f:EV)(L:Lc)(S:aC):oo:=aZ (f L S) λv h=>some (.p v,h)
@[simp] def aK(g:P->P->Option P)(a b:EV)(L:Lc)(S:aC):tyV:=aZ (a L S) λx h=>aZ (b L h) λy e=>(g x y).map λv=>(v,e)
@[simp] def kl(g:P->Option P)(a:EV)(L:Lc)(S:aC):tyV:=aZ (a L S) λx h=>(g x).map λv=>(v,h)
@[simp] def bV(a:EV)(L:Lc)(S:aC):Hl:=aZ (a L S) λx h=>match x with
 | .bl b=>some (b,h)
 |_=>none
@[simp] def yD(a b:EB)(L:Lc)(S:aC):Hl:=aZ (a L S) λc h=>if c=true then b L h else some (false,h)
@[simp] def KY(a b:EB)(L:Lc)(S:aC):Hl:=aZ (a L S) λc h=>if c=true then some (true,h) else b L h
@[simp] def yC(a:EB)(L:Lc)(S:aC):Hl:=aZ (a L S) λc h=>some (!c,h)
@[simp] def vB(a:EB)(L:Lc)(S:aC):tyV:=aZ (a L S) λc h=>some (.bl c,h)
@[simp] def Im(c:EB)(a b:EV)(L:Lc)(S:aC):tyV:=aZ (c L S) λk h=>if k=true then a L h else b L h
@[simp] def aj(_L:Lc)(S:aC):xW:=some ([],S)
@[simp] def O(a:EV)(r:ki)(L:Lc)(S:aC):xW:=aZ (a L S) λx h=>aZ (r L h) λxs e=>some (x::xs,e)
@[simp] def aJ(g:List P->Option P)(a:ki)(L:Lc)(S:aC):tyV:=aZ (a L S) λxs h=>(g xs).map λv=>(v,h)
@[simp] def eY(L:Lc)(S:aC):zy:=some (.nx,L,S)
@[simp] def aA(f g:ES)(L:Lc)(S:aC):zy:=match f L S with
 |some (.nx,h,x)=>g h x
 |r=>r
@[simp] def aF(i:Nat)(f:EE)(L:Lc)(S:aC):zy:=aZ (f L S) λd h=>some (.nx,L.set i (some d),h)
@[simp] def bc(f:EE)(L:Lc)(S:aC):zy:=aZ (f L S) λd h=>some (.rt d,L,h)
@[simp] def dA(f:EE)(L:Lc)(S:aC):zy:=aZ (f L S) λ_ h=>some (.nx,L,h)
@[simp] def dO(c:EB)(a b:ES)(L:Lc)(S:aC):zy:=aZ (c L S) λk h=>if k=true then a L h else b L h
noncomputable def qm:ES:=λ_ _=>none
@[simp] def MR(L:Lc)(S:aC):zy:=some (.bk,L,S)
noncomputable def MQ:ES:=λL S=>some (.ct,L,S)
noncomputable abbrev i3:=P->Lc->Option Lc
noncomputable def aQ(i:Nat):i3:=λv L=>some (L.set i (some (.p v)))
noncomputable def cB(g:i3)(b:ES):List P->Lc->aC->Option (Fl×Lc×aC)
 | [],L,S=>some (.nx,L,S)
 |v::r,L,S=>match g v L with
  |none=>none
  |some a=>match b a S with
   |some (.nx,L2,h)=>cB g b r L2 h
   |some (.ct,L2,h)=>cB g b r L2 h
   |some (.bk,L2,h)=>some (.nx,L2,h)
   |x=>x
@[simp] def cX(i:ki)(g:i3)(b:ES)(L:Lc)(S:aC):zy:=aZ (i L S) λxs h=>cB g b xs L h
def db(c:EB)(b:ES):Nat->Lc->aC->Option (Fl×Lc×aC)
 |0,_,_=>none
 |n+1,L,S=>aZ (c L S) λk a=>if k=true then match b L a with
   |some (.nx,L2,h)=>db c b n L2 h
   |some (.ct,L2,h)=>db c b n L2 h
   |some (.bk,L2,h)=>some (.nx,L2,h)
   |x=>x
  else some (.nx,L,a)
def kC(n:Nat)(c:EB)(b:ES):ES:=db c b n
open PySem PySem.Spec PyProof.Rows L2
section
variable(K:FG)
structure RL(F:Aa)(H:Hp)(m:List Addr)(J:L2.St)(L:Lc):Prop where
 len:J.length=L.length
 at':∀(i:Nat) d,L[i]? = some (some d)->∃v,J[i]? = some (some v)/\RD K F H m d v
inductive tEI(f:EE)(J:L2.St)(H:Hp)(Q:VK):Prop
 |mk (F:Aa) (m:List Addr) (L:Lc) (S:aC) (d:D) (S':aC) (h0_:Rel K F H m S) (h1_:RL K F H m J L) (h2_:f L S=some (d,S')) (h3_:∀v F' m' H',Stp F m H F' m' H'->Rel K F' H' m' S'->RD K F' H' m' d v->Q v H'):tEI f J H Q
noncomputable def tE(f:EE):TE:=λJ H Q=>tEI K f J H Q
inductive tVI(f:EV)(J:L2.St)(H:Hp)(Q:VK):Prop
 |mk (F:Aa) (m:List Addr) (L:Lc) (S:aC) (d:P) (S':aC) (h0_:Rel K F H m S) (h1_:RL K F H m J L) (h2_:f L S=some (d,S')) (h3_:∀v F' m' H',Stp F m H F' m' H'->Rel K F' H' m' S'->RP K F' H' d v->Q v H'):tVI f J H Q
noncomputable def tV(f:EV):TE:=λJ H Q=>tVI K f J H Q
inductive tQI(f:EB)(J:L2.St)(H:Hp)(Q:Bool->Hp->Prop):Prop
 |mk (F:Aa) (m:List Addr) (L:Lc) (S:aC) (b:Bool) (S':aC) (h0_:Rel K F H m S) (h1_:RL K F H m J L) (h2_:f L S=some (b,S')) (h3_:∀F' m' H',Stp F m H F' m' H'->Rel K F' H' m' S'->Q b H'):tQI f J H Q
noncomputable def tQ(f:EB):TT:=λJ H Q=>tQI K f J H Q
inductive tVsI(f:ki)(J:L2.St)(H:Hp)(Q:List V->Hp->Prop):Prop
 |mk (F:Aa) (m:List Addr) (L:Lc) (S:aC) (ds:List P) (S':aC) (h0_:Rel K F H m S) (h1_:RL K F H m J L) (h2_:f L S=some (ds,S')) (h3_:∀xs F' m' H',Stp F m H F' m' H'->Rel K F' H' m' S'->bg K F' H' ds xs->Q xs H'):tVsI f J H Q
noncomputable def lq(f:ki):TA:=λJ H Q=>tVsI K f J H Q
def LP(D:Ends)(F:Aa)(m:List Addr)(J:L2.St)(H:Hp):Fl->Prop
 | .nx=>D.nx J H
 | .bk=>D.bk J H
 | .ct=>D.ct J H
 | .rt d=>∀v,RD K F H m d v->D.rt v H
inductive tStI(f:ES)(D:Ends)(J:L2.St)(H:Hp):Prop
 |mk (F:Aa) (m:List Addr) (L:Lc) (S:aC) (fl:Fl) (L':Lc) (S':aC) (h0_:Rel K F H m S) (h1_:RL K F H m J L) (h2_:f L S=some (fl,L',S')) (h3_:∀J' F' m' H',Stp F m H F' m' H'->Rel K F' H' m' S'->RL K F' H' m' J' L'->LP K D F' m' J' H' fl):tStI f D J H
noncomputable def h_(f:ES):TS:=λD J H=>tStI K f D J H
end
section
variable{K:FG}{F F':Aa}{H H':Hp}{m m':List Addr}{J:L2.St}{L:Lc}{S:aC}
theorem RL.mono(s:Stp F m H F' m' H')(h:RL K F H m J L):RL K F' H' m' J L:=⟨h.len,λi d e=>by obtain⟨v,x,r⟩:=h.at' i d e;exact⟨v,x,RD.mono s r⟩⟩
theorem RL.set (h:RL K F H m J L) (r:RD K F H m d v) (i:Nat):RL K F H m (J.set i (some v)) (L.set i (some d)):=⟨by rw [cP,cP];exact h.len,fun j e q=>by
 by_cases x:i=j
 .subst x;by_cases a:i < L.length
  .rw [cy a]at q;cases q;exact⟨v,cy (by rw[h.len];exact a),r⟩
  .rw [lU (by rw[cP];lia)]at q;cases q
 .rw [bG x]at q;rw[bG x];exact h.at' j e q⟩
end
section
variable{X:Cx}{e:Expr}{z:Ab}{l:Stmt}{sts:List Stmt}
theorem _root_.L2.Y.imp'(h:Y X e t)(i:∀J H Q,k J H Q->t J H Q):Y X e k:=λp s J H Q I q=>h p s J H Q I (i J H Q q)
theorem _root_.L2.PT.imp'(h:PT X e t)(i:∀J H Q,k J H Q->t J H Q):PT X e k:=λp s J H Q I q=>h p s J H Q I (i J H Q q)
theorem _root_.L2.PW.imp'(h:PW X e t)(i:∀J H Q,k J H Q->t J H Q):PW X e k:=λw p s J H Q I q=>h w p s J H Q I (i J H Q q)
theorem _root_.L2.PA.imp'(h:PA X z t)(i:∀J H Q,k J H Q->t J H Q):PA X z k:=λM p s J H Q I q=>h M p s J H Q I (i J H Q q)
theorem _root_.L2.PS.imp'(h:PS X l t)(i:∀D J H,k D J H->t D J H):PS X l k:=λp s J H D I q=>h p s J H D I (i D J H q)
theorem _root_.L2.kT.imp'(h:kT X sts t)(i:∀D J H,k D J H->t D J H):kT X sts k:=λp s J H D I q=>h p s J H D I (i D J H q)
end
section
variable{X:Cx}{a b c e:Expr}{z:Ab}{fa fb:EV}{fe:EE}{M:Pos}
theorem HV(h:Y X e (tE X.K fe)):Y X e (tV X.K (vE fe)):=h.imp' λJ H Q z=>by obtain⟨F,m,L,S,d,N,r,l,q,k⟩:=z;obtain⟨a,x,n,f⟩:=ah q;refine⟨F,m,L,S,a,x,r,l,n,λv F' m' H' s b t=>?_⟩;obtain⟨B,w,c,_,p⟩:=kA 9 f b t;exact k v B m' H' (s.trans w) c p
theorem EY(h:Y X e (tV X.K fa)):Y X e (tE X.K (eV fa)):=h.imp' λJ H Q z=>by obtain⟨F,m,L,S,d,N,r,l,q,k⟩:=z;obtain⟨x,c,a,n⟩:=ah q;cases n;exact⟨F,m,L,S,x,N,r,l,a,λv F' m' H' s f b=>k v F' m' H' s f b⟩
theorem HU(i:Nat)(s:X.N[i]? = some x:=by rfl)(f:Ee X.e.scope x:=by first|exact Or.inl rfl|exact Or.inr (Or.inl rfl)|exact Or.inr (Or.inr rfl))(n:(x == ("__debug__":Str))=false:=by decide)
  (h:(x == ("__classdict__":Str))=false:=by decide):Y X (.Name x M) (tE X.K (U i)):=(F6 s f n h).imp' λJ H Q z=>by
 obtain⟨F,m,L,S,d,N,r,l,q,k⟩:=z;unfold U at q;split at q
 .rename_i c e;cases q;obtain⟨v,a,b⟩:=l.at' i _ e;exact⟨v,a,k v F m H .refl r b⟩
 .cases q
theorem xC(h:Y X e (tC v))(r:∀F H,RP X.K F H d v):Y X e (tV X.K (vC d)):=h.imp' λJ H Q z=>by obtain⟨F,m,L,S,a,N,x,l,q,k⟩:=z;cases q;exact k v F m H .refl x (r F H)
theorem Ls {i h M}:Y X (.Constant (.int i) h M) (tV X.K (vC (.int i))):=xC Ga λ_ _=>rfl
theorem No {i h M}:Y X (.Constant (.bool i) h M) (tV X.K (vC (.bl i))):=xC IZ λ_ _=>rfl
theorem Ll {h M}:Y X (.Constant .none h M) (tV X.K (vC .non)):=xC F_ λ_ _=>rfl
theorem Lf {i h M}:Y X (.Constant (.str i) h M) (tV X.K (vC (.str i))):=xC F7 λ_ _=>rfl
inductive rPI(K:FG)(g:P->P->Option P)(x:V)(y:V)(H:Hp)(Q:VK):Prop
 |mk (F:Aa) (dx:P) (dy:P) (d:P) (h0_:(∀a,F a->H a≠none)) (h1_:RP K F H dx x) (h2_:RP K F H dy y) (h3_:g dx dy=some d) (h4_:∀v F' H',Grow F H F' H'->RP K F' H' d v->Q v H'):rPI K g x y H Q
noncomputable def rP(K:FG)(g:P->P->Option P):R2:=λx y H Q=>rPI K g x y H Q
def ly(X:Cx)(f:Value->Value->Sem Value)(g:P->P->Option P):Prop:=fK X f (rP X.K g)
theorem qg(h:tV X.K (aK g fa fb) J H Q):Fq (rP X.K g) (tV X.K fa) (tV X.K fb) J H Q:=by
 obtain⟨F,m,L,S,d,N,r,l,q,k⟩:=h;obtain⟨x,a,i,q⟩:=ah q;obtain⟨y,p,j,q⟩:=ah q;refine⟨F,m,L,S,x,a,r,l,i,λv C o H1 f E P=>?_⟩;refine⟨C,o,L,a,y,p,E,l.mono f,j,λu B K I b n A=>?_⟩;cases e:g x y with
 |none=>rw[e]at q;cases q
 |some z=>rw[e]at q;cases q;refine⟨B,x,y,_,n.ft,RP.mono b P,A,e,λw c t s D=>?_⟩;exact k w c K t (f.trans (b.trans s.stp)) (n.grow s) D
theorem Nl(o:ly X (binaryOp k) g)(x:Y X a (tV X.K fa))(e:Y X b (tV X.K fb)):Y X (.BinOp a k b M) (tV X.K (aK g fa fb)):=
 (Ep o x e).imp' λ_ _ _ h=>qg h
theorem Lw(o:ly X (compareOp k) g)(x:Y X a (tV X.K fa))(e:Y X b (tV X.K fb))(m:behindInMarks k b=false):Y X (.Compare a [k] [b] M) (tV X.K (aK g fa fb)):=
 (xo o x e m).imp' λ_ _ _ h=>qg h
theorem zF(h:tQ X.K (bV (aK g fa fb)) J H Q):zG (Fq (rP X.K g) (tV X.K fa) (tV X.K fb)) J H Q:=by
 refine qg ?_;obtain⟨F,m,L,S,d,N,r,l,q,k⟩:=h;obtain⟨x,n,e,q⟩:=ah q;cases x with
 |bl b=>cases q;exact⟨F,m,L,S,_,_,r,l,e,λv F' m' H' s a p=>⟨_,p,k F' m' H' s a⟩⟩
 |_=>cases q
theorem Lb(o:ly X (compareOp k) g)(x:Y X a (tV X.K fa))(e:Y X b (tV X.K fb))(m:behindInMarks k b=false):PT X (.Compare a [k] [b] M) (tQ X.K (bV (aK g fa fb))):=
 (xk o x e m).imp' λ_ _ _ h=>zF h
variable{qa qb:EB}{j:Ab}
theorem HP(h:PT X a (tQ X.K qa)):PW X (.BoolOp .And [a] M) (tQ X.K qa):=C_ h
theorem K'(h:PT X a (tQ X.K qa)):PW X (.BoolOp .Or [a] M) (tQ X.K qa):=FO h
theorem Ld(n:PT X a (tQ X.K qa))(f:PW X (.BoolOp .And (b::j) M) (tQ X.K qb)):PW X (.BoolOp .And (a::b::j) M) (tQ X.K (yD qa qb)):=
 (FP n f).imp' λJ H Q z=>by
  obtain⟨F,m,L,S,d,N,r,l,q,k⟩:=z;obtain⟨c,h,e,q⟩:=ah q;refine⟨F,m,L,S,c,h,r,l,e,λF' m' H' s x=>?_⟩;cases c with
  |true=>rw[ae rfl]at q ⊢;exact⟨F',m',L,h,d,N,x,l.mono s,q,λB t I v p=>k B t I (s.trans v) p⟩
  |false=>rw[ag aY]at q ⊢;cases q;exact k F' m' H' s x
theorem Ni(n:PT X a (tQ X.K qa))(f:PW X (.BoolOp .Or (b::j) M) (tQ X.K qb)):PW X (.BoolOp .Or (a::b::j) M) (tQ X.K (KY qa qb)):=
 (IT n f).imp' λJ H Q z=>by
  obtain⟨F,m,L,S,d,N,r,l,q,k⟩:=z;obtain⟨c,h,e,q⟩:=ah q;refine⟨F,m,L,S,c,h,r,l,e,λF' m' H' s x=>?_⟩;cases c with
  |false=>rw[ag aY]at q ⊢;exact⟨F',m',L,h,d,N,x,l.mono s,q,λB t I v p=>k B t I (s.trans v) p⟩
  |true=>rw[ae rfl]at q ⊢;cases q;exact k F' m' H' s x
theorem La(h:PT X a (tQ X.K qa)):PT X (.UnaryOp .Not a M) (tQ X.K (yC qa)):=
 (FS h).imp' λJ H Q z=>by obtain⟨F,m,L,S,d,N,r,l,q,k⟩:=z;obtain⟨c,n,e,q⟩:=ah q;cases q;exact⟨F,m,L,S,c,N,r,l,e,λF' m' H' s x=>k F' m' H' s x⟩
theorem Ie {k} (h:Y X a (tV X.K (vB qa))):Y X (.BoolOp k [a] M) (tV X.K (vB qa)):=Ae h
theorem ri(h:tQ X.K qa J H k)(hk:∀b H',k b H'->Q (.bl b) H'):tV X.K (vB qa) J H Q:=by obtain⟨F,m,L,S,d,N,r,l,q,x⟩:=h;exact⟨F,m,L,S,.bl d,N,r,l,by unfold vB;rw[q];rfl,λv F' m' H' s a p=>by rw[show v=.bl d from p];exact hk _ _ (x F' m' H' s a)⟩
theorem xt(h:tV X.K (vB qa) J H Q):tQ X.K qa J H λb H'=>Q (.bl b) H':=by obtain⟨F,m,L,S,d,N,r,l,q,k⟩:=h;obtain⟨c,a,e,q⟩:=ah q;cases q;exact⟨F,m,L,S,c,N,r,l,e,λF' m' H' s x=>k _ F' m' H' s x rfl⟩
theorem Ly(f:Y X a (tV X.K (vB qa)))(t:Y X (.BoolOp .And (b::j) M) (tV X.K (vB qb))):Y X (.BoolOp .And (a::b::j) M) (tV X.K (vB (yD qa qb))):=
 (Gd f t).imp' λJ H Q h=>by
  obtain⟨F,m,L,S,d,N,r,l,q,k⟩:=xt h;obtain⟨c,x,n,q⟩:=ah q;refine ri (k:=λc H1=>if c=true then tV X.K (vB qb) J H1 Q else Q (.bl false) H1) ⟨F,m,L,S,c,x,r,l,n,λF' m' H' s e=>?_⟩ λb H' q=>⟨b,rfl,q⟩;cases c with
  |true=>rw[ae rfl]at q ⊢;exact ri (k:=λb I=>Q (.bl b) I) ⟨F',m',L,x,d,N,e,l.mono s,q,λB p I w v=>k B p I (s.trans w) v⟩ λ_ _ q=>q
  |false=>rw[ag aY]at q ⊢;cases q;exact k F' m' H' s e
theorem Nj(f:Y X a (tV X.K (vB qa)))(t:Y X (.BoolOp .Or (b::j) M) (tV X.K (vB qb))):Y X (.BoolOp .Or (a::b::j) M) (tV X.K (vB (KY qa qb))):=
 (IY f t).imp' λJ H Q h=>by
  obtain⟨F,m,L,S,d,N,r,l,q,k⟩:=xt h;obtain⟨c,x,n,q⟩:=ah q;refine ri (k:=λc H1=>if c=true then Q (.bl true) H1 else tV X.K (vB qb) J H1 Q) ⟨F,m,L,S,c,x,r,l,n,λF' m' H' s e=>?_⟩ λb H' q=>⟨b,rfl,q⟩;cases c with
  |false=>rw[ag aY]at q ⊢;exact ri (k:=λb I=>Q (.bl b) I) ⟨F',m',L,x,d,N,e,l.mono s,q,λB p I w v=>k B p I (s.trans w) v⟩ λ_ _ q=>q
  |true=>rw[ae rfl]at q ⊢;cases q;exact k F' m' H' s e
theorem Lj(x:Y X a (tV X.K (vB qa))):Y X (.UnaryOp .Not a M) (tV X.K (vB (yC qa))):=
 (F9 x).imp' λJ H Q h=>by obtain⟨F,m,L,S,d,N,r,l,q,k⟩:=xt h;obtain⟨c,f,e,q⟩:=ah q;cases q;exact ri (k:=λb H'=>Q (.bl (!b)) H') ⟨F,m,L,S,c,N,r,l,e,λF' m' H' s n=>k F' m' H' s n⟩ λb H' q=>⟨b,rfl,q⟩
theorem ol(h:Y X e (tV X.K fa)):Y X e (tV X.K (vB (bV fa))):=h.imp' λJ H Q h=>by
 obtain⟨F,m,L,S,d,N,r,l,q,k⟩:=xt h;obtain⟨x,f,a,q⟩:=ah q;cases x with
 |bl b=>cases q;exact⟨F,m,L,S,_,_,r,l,a,λv F' m' H' s n p=>by cases (show v=.bl d from p);exact k F' m' H' s n⟩
 |_=>cases q
theorem Nn(u:PT X c (tQ X.K qa))(p:Y X a (tV X.K fa))(w:Y X b (tV X.K fb)):Y X (.IfExp c a b M) (tV X.K (Im qa fa fb)):=
 (rO u p w).imp' λJ H Q z=>by
  obtain⟨F,m,L,S,d,N,r,l,q,k⟩:=z;obtain⟨c,h,t,q⟩:=ah q;refine⟨F,m,L,S,c,h,r,l,t,λF' m' H' s f=>?_⟩;cases c with
  |true=>rw[ae rfl]at q ⊢;exact⟨F',m',L,h,d,N,f,l.mono s,q,λv B x I n e=>k v B x I (s.trans n) e⟩
  |false=>rw[ag aY]at q ⊢;exact⟨F',m',L,h,d,N,f,l.mono s,q,λv B x I n e=>k v B x I (s.trans n) e⟩
variable{fs:ki}
theorem Ec:PA X [] (lq X.K aj):=eP.imp' λJ H Q h=>by obtain⟨F,m,L,S,d,N,r,l,q,k⟩:=h;cases q;exact k [] F m H .refl r rfl
theorem BO(b:Y X e (tV X.K fa))(c:PA X z (lq X.K fs))(t:starEach (e::z) X.e=(false,eval e X.e)::starEach z X.e:=by rfl):PA X (e::z) (lq X.K (O fa fs)):=
 (dh b c t).imp' λJ H Q p=>by obtain⟨F,m,L,S,d,N,r,l,q,k⟩:=p;obtain⟨x,h,n,q⟩:=ah q;obtain⟨xs,o,f,q⟩:=ah q;cases q;refine⟨F,m,L,S,x,h,r,l,n,λv C w H1 s j g=>?_⟩;refine⟨C,w,L,h,xs,N,j,l.mono s,f,λT B u I a y i=>?_⟩;exact k (v::T) B u I (s.trans a) y ⟨v,T,rfl,RP.mono a g,i⟩
noncomputable def few(xs:List α):Bool:=decide (xs.length≤1000000)
theorem iv{α:Type}{xs:List α}(h:few xs=true):xs.length≤sizeLine:=aI (aD h) (by decide)
@[simp] def aR(a:ki)(L:Lc)(S:aC):tyV:=aZ (a L S) λxs h=>if few xs=true then some (.tup xs,h) else none
@[simp] def be(a:ki)(L:Lc)(S:aC):tyV:=aZ (a L S) λxs h=>if few xs=true then some (.lst xs,h) else none
@[simp] def iz(a:ki)(L:Lc)(S:aC):oo:=aZ (a L S) λxs h=>if few xs=true then some (.ref h.length,h++[.lst (xs.map .p)]) else none
theorem Le {t} (h:PA X z (lq X.K fs)):Y X (.Tuple z t M) (tV X.K (aR fs)):=(qp h).imp' λJ H Q s=>by
 obtain⟨F,m,L,S,d,N,r,l,q,k⟩:=s;obtain⟨xs,v,e,q⟩:=ah q;split at q
 .rename_i f;cases q;refine⟨F,m,L,S,xs,N,r,l,e,λT C n H1 c b a=>⟨by rw[<- a.length];exact iv f,λp x=>?_⟩⟩;exact k (.ref p) C n _ (c.trans (bj x).stp) (b.grow (bj x)) (.newTup x a)
 .cases q
theorem Ln(h:PA X z (lq X.K fs)):Y X (.List z M) (tV X.K (be fs)):=(uq h).imp' λJ H Q s=>by
 obtain⟨F,m,L,S,d,N,r,l,q,k⟩:=s;obtain⟨xs,t,e,q⟩:=ah q;split at q
 .rename_i f;cases q;refine⟨F,m,L,S,xs,N,r,l,e,λT C n H1 c b a=>⟨by rw[<- a.length];exact iv f,λp x=>?_⟩⟩;exact k (.ref p) _ n _ (c.trans (bA x).stp) (b.grow (bA x)) (.newLst x a)
 .cases q
theorem Ej(h:PA X z (lq X.K fs)):Y X (.List z M) (tE X.K (iz fs)):=(uq h).imp' λJ H Q t=>by
 obtain⟨F,m,L,S,d,N,r,l,q,k⟩:=t;obtain⟨xs,f,b,q⟩:=ah q;split at q
 .rename_i c;cases q;refine⟨F,m,L,S,xs,f,r,l,b,λT C x H1 v s e=>⟨by rw[<- e.length];exact iv c,λp a=>?_⟩⟩;have n:Stp C x H1 C (x++[p]) (a7 H1 p (.lst T)):=bH a;refine k (.ref p) C (x++[p]) _ (v.trans n) (s.own a ⟨T,au,bJ.ofP (bg.mono n e)⟩) ⟨p,rfl,?_⟩;rw[<- s.len,bb (ai _)];simp
 .cases q
def rC(K:FG)(g:List P->Option P):List V->Hp->VK->Prop:=λxs H Q=>∃F s d,(∀a,F a->H a≠none)/\bg K F H s xs/\g s=some d/\∀v F' H',Grow F H F' H'->RP K F' H' d v->Q v H'
theorem uc(h:tV X.K (aJ g fs) J H Q):lq X.K fs J H λT H1=>rC X.K g T H1 Q:=by
 obtain⟨F,m,L,S,d,N,r,l,q,k⟩:=h;obtain⟨xs,c,s,q⟩:=ah q;cases e:g xs with
 |none=>rw[e]at q;cases q
 |some z=>rw[e]at q;cases q;exact⟨F,m,L,S,xs,_,r,l,s,λT C n H1 b a f=>⟨C,xs,_,a.ft,f,e,λv B I x p=>k v B n I (b.trans x.stp) (a.grow x) p⟩⟩
theorem t5{x:Str}{p:Pos}{id:String}{g:List P->Option P}(c:cm X (.builtin id) (rC X.K g))(n:Gl X x)(m:X.g x=none)(v:bootBuiltins x=some (.builtin id))(a:PA X (e::z) (lq X.K fs))(k:x≠"__name__":=by decide)(d:(x == ("__debug__":Str))=false:=by decide)
  (s:starEach (e::z) X.e=(false,eval e X.e)::starEach z X.e:=by rfl) (l:(backTo M (starEach z X.e)).any (·.1)=false:=by rfl):Y X (.Call (.Name x p) (e::z) [] M) (tV X.K (aJ g fs)):=
 (mU c n m v a k d s l).imp' λ_ _ _ h=>uc h
theorem t0(c:cm X (.type k) (rC X.K g))(n:Gl X x)(m:X.g x=none)(v:bootBuiltins x=some (.type k))(a:PA X (e::z) (lq X.K fs))(f:x≠"__name__":=by decide)(d:(x == ("__debug__":Str))=false:=by decide)
  (s:starEach (e::z) X.e=(false,eval e X.e)::starEach z X.e:=by rfl) (l:(backTo M (starEach z X.e)).any (·.1)=false:=by rfl):Y X (.Call (.Name x p) (e::z) [] M) (tV X.K (aJ g fs)):=
 (iV c n m v a f d s l).imp' λ_ _ _ h=>uc h
noncomputable def Kq(K:FG)(g:List P->Option P):Sp:=λT H Q _=>rC K g T H Q
theorem Ic(G:FnOk X.p X.w X.K X.g X.b kW k f t ps (Kq X.K g))(i:Room k X.A)(w:Gl X x)(u:X.g x=some (.ref f))(hk:cC X.K (.ref f)=true)(c:Binds X.K t ps [])
  (b:PA X (e::z) (lq X.K fs)) (d:(x == ("__debug__":Str))=false:=by decide) (v:starEach (e::z) X.e=(false,eval e X.e)::starEach z X.e:=by rfl) (a:(backTo M (starEach z X.e)).any (·.1)=false:=by rfl) :
  Y X (.Call (.Name x p) (e::z) [] M) (tV X.K (aJ g fs)):=
 (qq G i w u hk c .nil mV b d v a).imp' λJ H Q h=>by obtain⟨F,m,L,S,n,N,r,l,q,k⟩:=uc h;exact⟨F,m,L,S,n,N,r,l,q,λxs F' m' H' s j p=>by show Kq X.K g (xs++[]) H' Q E0;rw[b9];exact k xs F' m' H' s j p⟩
end
section
variable{X:Cx}{a b e:Expr}{l:Stmt}{j bs cs:List Stmt}{f g:ES}{fe:EE}{qa:EB}{M:Pos}
theorem K8:kT X [] (h_ X.K eY):=Dc.imp' λD J H h=>by obtain⟨F,m,L,S,f,x,N,r,l,q,k⟩:=h;cases q;exact k J F m H .refl r l
theorem HK(z:PS X l (h_ X.K f))(o:kT X j (h_ X.K g)):kT X (l::j) (h_ X.K (aA f g)):=(z6 z o).imp' λD J H K=>by
 obtain⟨F,m,L,S,u,w,N,r,h,q,k⟩:=K;cases e:f L S with
 |none=>rw[show aA f g L S=none by unfold aA;rw[e]]at q;cases q
 |some x=>
  obtain⟨i,p,v⟩:=x;cases i with
  |nx=>
   have n:g p v=some (u,w,N):=by have:=q;unfold aA at this;rw[e]at this;exact this
   exact⟨F,m,L,S,.nx,p,v,r,h,e,λt C s H1 c b a=>⟨C,s,p,v,u,w,N,b,a,n,λy B A I G E P=>k y B A I (c.trans G) E P⟩⟩
  |rt d=>
   have n:some (Fl.rt d,p,v)=some (u,w,N):=by have:=q;unfold aA at this;rw[e]at this;exact this
   cases n;exact⟨F,m,L,S,_,_,_,r,h,e,λt C s H1 c b a=>k t C s H1 c b a⟩
  |bk=>
   have n:some (Fl.bk,p,v)=some (u,w,N):=by have:=q;unfold aA at this;rw[e]at this;exact this
   cases n;exact⟨F,m,L,S,_,_,_,r,h,e,λt C s H1 c b a=>k t C s H1 c b a⟩
  |ct=>
   have n:some (Fl.ct,p,v)=some (u,w,N):=by have:=q;unfold aA at this;rw[e]at this;exact this
   cases n;exact⟨F,m,L,S,_,_,_,r,h,e,λt C s H1 c b a=>k t C s H1 c b a⟩
theorem K7(h:PS X l (h_ X.K f)):kT X [l] (h_ X.K f):=Db h
theorem zg(h:Y X e (tE X.K fe)):PS X (.Return (some e) M) (h_ X.K (bc fe)):=(FU h).imp' λD J H z=>by obtain⟨F,m,L,S,b,n,N,r,l,q,k⟩:=z;obtain⟨d,f,x,q⟩:=ah q;cases q;exact⟨F,m,L,S,d,N,r,l,x,λv F' m' H' s a p=>k J F' m' H' s a (l.mono s) v p⟩
theorem HJ(h:Y X e (tE X.K fe))(a:swapsWith e none M.line X.e=pure false:=by rfl):PS X (.Expr e M) (h_ X.K (dA fe)):=(De h a).imp' λD J H z=>by obtain⟨F,m,L,S,c,f,N,r,l,q,k⟩:=z;obtain⟨d,b,x,q⟩:=ah q;cases q;exact⟨F,m,L,S,d,N,r,l,x,λv F' m' H' s n p=>k J F' m' H' s n (l.mono s)⟩
theorem q9(i:Nat)(n:X.N.Nodup)(h:Y X e (tE X.K fe))(b:X.N[i]? = some x:=by rfl)(w:Loc X.e.scope x:=by first|exact Or.inl rfl|exact Or.inr rfl)(c:swapsWith e (some (.Name x t)) M.line X.e=pure false:=by rfl)
  (f:X.fn x=true\/X.e.scope.names.lookup x=some .local:=by first|exact .inl rfl|exact .inr rfl|assumption):PS X (.Assign [.Name x t] e M) (h_ X.K (aF i fe)):=
 (FT n b w h c f).imp' λD J H z=>by obtain⟨F,m,L,S,y,g,N,r,l,q,k⟩:=z;obtain⟨d,j,a,q⟩:=ah q;cases q;exact⟨F,m,L,S,d,N,r,l,a,λv F' m' H' s u p=>k (J.set i (some v)) F' m' H' s u ((l.mono s).set p i)⟩
theorem Nf(i:PT X c (tQ X.K qa))(w:kT X bs (h_ X.K f))(u:kT X cs (h_ X.K g)):PS X (.If c bs cs M) (h_ X.K (dO qa f g)):=(IW i w u).imp' λD J H z=>by
 obtain⟨F,m,L,S,p,t,N,r,l,q,k⟩:=z;obtain⟨c,x,d,q⟩:=ah q;refine⟨F,m,L,S,c,x,r,l,d,λF' m' H' s v=>?_⟩;cases c with
 |true=>rw[ae rfl]at q ⊢;exact⟨F',m',L,x,p,t,N,v,l.mono s,q,λh B e I b n a=>k h B e I (s.trans b) n a⟩
 |false=>rw[ag aY]at q ⊢;exact⟨F',m',L,x,p,t,N,v,l.mono s,q,λh B e I b n a=>k h B e I (s.trans b) n a⟩
theorem EL:PS X l (h_ X.K qm):=z8.imp' λD J H z=>by obtain⟨F,m,L,S,f,x,N,r,h,q,k⟩:=z;cases q
theorem Nh:PS X (.Break M) (h_ X.K MR):=z9.imp' λD J H h=>by obtain⟨F,m,L,S,f,x,N,r,l,q,k⟩:=h;cases q;exact k J F m H .refl r l
theorem Ng:PS X (.Continue M) (h_ X.K MQ):=rL.imp' λD J H h=>by obtain⟨F,m,L,S,f,x,N,r,l,q,k⟩:=h;cases q;exact k J F m H .refl r l
inductive gTI(K:FG)(g:i3)(x:V)(J:L2.St)(H:Hp)(Q:L2.St->Hp->Prop):Prop
 |mk (F:Aa) (m:List Addr) (L:Lc) (v:P) (L':Lc) (h0_:RL K F H m J L) (h1_:RP K F H v x) (h2_:g v L=some L') (h3_:∀J',RL K F H m J' L'->Q J' H):gTI K g x J H Q
noncomputable def gT(K:FG)(g:i3):TG:=λx J H Q=>gTI K g x J H Q
theorem _root_.L2.PG.imp'(h:PG X tg t)(i:∀v J H Q,k v J H Q->t v J H Q):PG X tg k:=λp s J H v u Q I r q=>h p s J H v u Q I r (i v J H Q q)
theorem GZ(i:Nat)(h:X.N.Nodup)(a:X.N[i]? = some x:=by rfl)(e:Loc X.e.scope x:=by first|exact Or.inl rfl|exact Or.inr rfl)(f:X.fn x=true\/X.e.scope.names.lookup x=some .local:=by first|exact .inl rfl|exact .inr rfl|assumption) :
  PG X (.Name x M) (gT X.K (aQ i)):=(Dm h a e f).imp' λv J H Q z=>by
 obtain⟨F,m,L,d,s,l,p,q,k⟩:=z;cases q;exact k _ (l.set (d:=.p d) p i)
def EJ(K:FG)(a:It)(T:List P)(F:Aa)(m:List Addr)(H:Hp):Prop:=∀B s I,Stp F m H B s I ->
 (∀(i:Nat) v,T[i]? = some v->a.go i I/\∀x h,a.yld i I x h->∃e,Grow B I e h/\RP K e h v x)/\a.stop T.length I
inductive tII(K:FG)(f:ki)(J:L2.St)(H:Hp)(R:It->Hp->Prop):Prop
 |mk (F:Aa) (m:List Addr) (L:Lc) (S:aC) (vs:List P) (S':aC) (h0_:Rel K F H m S) (h1_:RL K F H m J L) (h2_:f L S=some (vs,S')) (h3_:∀J9 F' m' H',Stp F m H F' m' H'->Rel K F' H' m' S'->EJ K J9 vs F' m' H'->R J9 H'):tII K f J H R
noncomputable def tI(K:FG)(f:ki):TI:=λJ H R=>tII K f J H R
theorem K9{tg iter:Expr}{fi:ki}{g:i3}{b:List Stmt}{fb:ES}(hp:PassesOwn (model X.p X.w) X.A X.e X.xe)(hc:X.c=true)(hi:PI X tg iter (tI X.K fi))(hg:PG X tg (gT X.K g))(hb:kT X b (h_ X.K fb))
  (hs:∀x,foldedSetIterable iter X.e x=pure x:=by intro _;rfl):PS X (.For tg iter b [] M) (h_ X.K (cX fi g fb)):=
 (FV hp hc hi hg hb hs).imp' λD J H hz=>by
  obtain⟨F,m,L,S,fl,L',N,r,l,q,k⟩:=hz;obtain⟨T,S1,e1,q⟩:=ah q;refine⟨F,m,L,S,T,S1,r,l,e1,fun J9 C w H1 K r1 it=>?_⟩;refine⟨fun i n G I=>n=T.length-i/\i≤T.length/\∃B a L2 s,Stp C w H1 B a I/\Rel X.K B I a s/\RL X.K B I a G L2/\cB g fb (T.drop i) L2 s=some (fl,L',N),
   ⟨T.length,rfl,br _,C,w,L,S1,.refl,r1,l.mono K,by rw[pO];exact q⟩,?_⟩
  rintro i n G I ⟨rfl,hi,B,a,L2,s,s2,r2,l2,h⟩;obtain⟨go,o⟩:=it B a I s2;by_cases t:i < T.length
  .right;have hv:T[i]? = some T[i]:=by simp[t]
   rw[ww t]at h;obtain⟨hgo,hy⟩:=go i _ hv;refine⟨hgo,λJ3 f=>∃n',n' < T.length-i/\(n'=T.length-(i+1)/\i+1≤T.length/\∃B a L2 s,Stp C w H1 B a f/\Rel X.K B f a s/\RL X.K B f a J3 L2/\cB g fb (T.drop (i+1)) L2 s=some (fl,L',N)),λ_ _ z=>z,λx f y=>?_⟩;obtain⟨E,gr,p3⟩:=hy x f y;unfold cB at h;cases Z:g T[i] L2 with
   |none=>rw[Z]at h;cases h
   |some Q=>
    rw[Z]at h;dsimp only at h;refine⟨E,a,L2,T[i],Q,l2.mono gr.stp,p3,Z,λJ3 l3=>?_⟩;have P:Stp C w H1 E a f:=s2.trans gr.stp;have r3:=r2.grow gr;cases W:fb Q s with
    |none=>rw[W]at h;cases h
    |some z=>
     obtain⟨c,R,V⟩:=z;rw[W]at h;refine⟨E,a,Q,s,c,R,V,r3,l3,W,λJ4 p u H4 A j v=>?_⟩;cases c with
     |nx=>exact⟨T.length-(i+1),by lia,rfl,t,p,u,R,V,P.trans A,j,v,h⟩
     |ct=>exact⟨T.length-(i+1),by lia,rfl,t,p,u,R,V,P.trans A,j,v,h⟩
     |bk=>cases h;exact k J4 p u H4 (K.trans (P.trans A)) j v
     |rt d=>cases h;exact k J4 p u H4 (K.trans (P.trans A)) j v
  .left;have e:i=T.length:=by lia
   subst e;rw[pR]at h;cases h;exact⟨o,k G B a I (K.trans s2) r2 l2⟩
theorem EK(hp:PassesOwn (model X.p X.w) X.A X.e X.xe)(hc:PT X c (tQ X.K qa))(Z:kT X t (h_ X.K fb)):PS X (.While c t [] M) (h_ X.K (kC n qa fb)):=
 (z7 hp hc Z).imp' λD J H hz=>by
  obtain⟨F,m,L,S,G,E,N,r,l,q,k⟩:=hz;refine⟨λn j I=>∃B x L2 a,Stp F m H B x I/\Rel X.K B I x a/\RL X.K B I x j L2/\db qa fb n L2 a=some (G,E,N),⟨n,F,m,L,S,.refl,r,l,q⟩,?_⟩;rintro n j I ⟨B,x,L2,a,b,r2,A,R⟩;cases n with
  |zero=>cases R
  |succ n=>
   obtain⟨c,o,W,h⟩:=ah (show aZ (qa L2 a) _=_ from R);refine⟨B,x,L2,a,c,o,r2,A,W,λC Q V s T=>?_⟩;cases c with
   |false=>rw[ag aY]at h ⊢;cases h;exact k j C Q V (b.trans s) T (A.mono s)
   |true=>
    rw[ae rfl]at h ⊢;cases P:fb L2 o with
    |none=>rw[P]at h;cases h
    |some z=>
     obtain⟨f,y,K⟩:=z;rw[P]at h;refine⟨λv e=>∃m',m' < n+1/\∃B x L2 a,Stp F m H B x e/\Rel X.K B e x a/\RL X.K B e x v L2/\db qa fb m' L2 a=some (G,E,N),λ_ _ z=>z,C,Q,L2,o,f,y,K,T,A.mono s,P,λv p u e i g w=>?_⟩;cases f with
     |nx=>exact⟨n,c_ _,p,u,y,K,b.trans (s.trans i),g,w,h⟩
     |ct=>exact⟨n,c_ _,p,u,y,K,b.trans (s.trans i),g,w,h⟩
     |bk=>cases h;exact k v p u e (b.trans (s.trans i)) g w
     |rt d=>cases h;exact k v p u e (b.trans (s.trans i)) g w
end
theorem Stp.toGrow(s:Stp F [] H F' m' H')(f:∀a,F' a->H' a≠none):Grow F H F' H':=
 ⟨fun b o h=>s.oth b o h (by simp),s.frz,fun b h=>by
  rcases s.nf b h with q|q|q
  .exact .inl q
  .exact .inr ⟨q,f b h⟩
  .simp at q⟩
theorem i'{α:Prop}{β:Type}{d:β}(h:(none:Option β)=some d):α:=nomatch h
noncomputable def gS(n:Nat):Bool:=decide (n≤1000000)
theorem fI(h:gS n=true):n≤sizeLine:=aI (aD h) (by decide)
section
variable{X:Cx}
def qL:P->P->Option P
 | .int i,.int j=>some (.int (i+j))
 | .str x,.str y=>if gS (x.length+y.length)=true then some (.str (x++y)) else none
 | .tup xs,.tup s=>if (!xs.isEmpty && gS (xs.length+s.length))=true then some (.tup (xs++s)) else none
 | .lst xs,.lst s=>if gS (xs.length+s.length)=true then some (.lst (xs++s)) else none
 |_,_=>none
theorem Jo:ly X (binaryOp .Add) qL:=by
 intro f s J H x y v u Q I o S h;obtain⟨F,E,w,d,L,g,l,q,k⟩:=h;cases E with
 |int i=>
  cases w with
  |int j=>cases q;cases (show x=.int i from g);cases (show y=.int j from l);exact Gk f s J H _ _ v u Q I o S ⟨i,j,rfl,rfl,k _ F H .refl rfl⟩
  |_=>exact i' q
 |str i=>
  cases w with
  |str j=>
   simp only[qL]at q;split at q
   .rename_i c;cases q;cases (show x=.str i from g);cases (show y=.str j from l);exact ur f s J H _ _ v u Q I o S ⟨i,j,rfl,rfl,fI c,k _ F H .refl rfl⟩
   .cases q
  |_=>exact i' q
 |tup B=>
  cases w with
  |tup z=>
   simp only[qL]at q;split at q
   .rename_i c;rw[aq]at c;cases q;obtain⟨a,xs,rfl,K,r⟩:=g;obtain⟨b,A,rfl,P,t⟩:=l;have C:=r.length;have D:=t.length;have G:xs≠[]:=λn=>by
     subst n;have:B=[]:=fx C;subst this;simp at c
    refine Dr f s J H _ _ v u Q I o S ⟨a,b,xs,A,rfl,rfl,K.sq,P.sq,G,by rw[<- C,<- D];exact fI c.2,λn=>?_,λ_ p m=>?_⟩
    .subst n;have e:z=[]:=fx D;subst e;refine k _ F H .refl ?_;rw[b9];exact⟨a,xs,rfl,K,r⟩
    .exact k _ F _ (bj m) (.newTup m (r.append t))
   .cases q
  |_=>exact i' q
 |lst B=>
  cases w with
  |lst z=>
   simp only[qL]at q;split at q
   .rename_i c;cases q;obtain⟨a,xs,rfl,K,r⟩:=g;obtain⟨b,A,rfl,P,t⟩:=l;exact Gj f s J H _ _ v u Q I o S ⟨a,b,xs,A,rfl,rfl,K.2,P.2,by rw[<- r.length,<- t.length];exact fI c,λp m=>k _ _ _ (bA m) (.newLst m (r.append t))⟩
   .cases q
  |_=>exact i' q
 |_=>exact i' q
noncomputable def BV(c:Int->Int->Bool)(g:Int->Int->P):P->P->Option P
 | .int i,.int j=>if c i j=true then some (g i j) else none
 |_,_=>none
@[simp] theorem DX(c:Int->Int->Bool)(g:Int->Int->P)(i j:Int):BV c g (.int i) (.int j)=if c i j=true then some (g i j) else none:=rfl
theorem rR{f:Value->Value->Sem Value}{C:Int->Int->Prop}{a:Int->Int->V}{c:Int->Int->Bool}{g:Int->Int->P}(o:fK X f (rI C a))(b:∀i j,c i j=true->C i j)(m:∀K F H i j,RP K F H (g i j) (a i j)):ly X f (BV c g):=by
 intro p s J H x y v u Q I l z h;obtain⟨F,e,n,d,S,t,w,q,k⟩:=h;cases e with
 |int i=>
  cases n with
  |int j=>
   rw[DX]at q;split at q
   .rename_i r;cases q;cases (show x=.int i from t);cases (show y=.int j from w);exact o p s J H _ _ v u Q I l z ⟨i,j,rfl,rfl,b i j r,k _ F H .refl (m _ _ _ _ _)⟩
   .cases q
  |_=>exact i' q
 |_=>exact i' q
theorem mS(h:fK X f (C7 k)):fK X f (rI (λ_ _=>True) k):=λp s J H x y v u Q I r n ⟨i,j,e,a,_,q⟩=>h p s J H x y v u Q I r n ⟨i,j,e,a,q⟩
noncomputable abbrev zi:Int->Int->Bool:=λ_ _=>true
abbrev qK:=BV zi λi j=>.int (i-j)
theorem Jd:ly X (binaryOp .Sub) qK:=rR (mS Ge) (λ_ _ _=>trivial) λ_ _ _ _ _=>rfl
noncomputable abbrev FZ:Int->Int->Bool:=λ_ j=>decide (0 < j) && decide (j < 1152921504606846976)
theorem Aq:fK X (binaryOp .FloorDiv) (rI (λ_ j=>0 < j/\j < 1152921504606846976) λi j=>.int (i / j)):=Kt λi j _ _ _ _ _ h q=>by have a:(0:Int) < j:=h.1;have e:j < 1152921504606846976:=h.2;have x:j.natAbs.log2 < 9000:=a_ ((v0 (by lia)).mpr (show j.natAbs < 2 ^ 60 by lia)) (by decide);exact floordiv_int (by lia) (by rw[Int.fdiv_eq_ediv_of_nonneg i (by lia)];exact q) (.inl (PyProof.noPylong_of_log2 x))
abbrev ce:=BV FZ λi j=>.int (i / j)
theorem Ds:ly X (binaryOp .FloorDiv) ce:=rR Aq (λi j h=>by rw[aq]at h;exact⟨aD h.1,aD h.2⟩) λ_ _ _ _ _=>rfl
abbrev d9:=BV (λ_ j=>decide (0 < j)) λi j=>.int (i % j)
theorem Jh:ly X (binaryOp .Mod) d9:=rR Gg (λi j h=>aD h) λ_ _ _ _ _=>rfl
abbrev DW:=BV (λi j=>decide (0≤j) && decide (j≤1000000) && decide (i.natAbs < 2 ^ 64)) λi j=>.int (i ^ j.toNat)
theorem Je:ly X (binaryOp .Pow) DW:=rR Gf (λi j h=>by simp only[aq]at h;exact⟨aD h.1.1,aD h.1.2,aD h.2⟩) λ_ _ _ _ _=>rfl
abbrev tq:=BV zi λi j=>.bl (decide (i < j))
theorem L8:ly X (compareOp .Lt) tq:=rR (mS I_) (λ_ _ _=>trivial) λ_ _ _ _ _=>rfl
abbrev EG:=BV zi λi j=>.bl (decide (i≤j))
theorem L9:ly X (compareOp .LtE) EG:=rR (mS Ja) (λ_ _ _=>trivial) λ_ _ _ _ _=>rfl
abbrev KR:=BV zi λi j=>.bl (decide (j < i))
theorem L_:ly X (compareOp .Gt) KR:=rR (mS Jb) (λ_ _ _=>trivial) λ_ _ _ _ _=>rfl
abbrev KS:=BV zi λi j=>.bl (decide (j≤i))
theorem Ma:ly X (compareOp .GtE) KS:=rR (mS Jc) (λ_ _ _=>trivial) λ_ _ _ _ _=>rfl
noncomputable def io(i j:Int):Bool:=decide (i.natAbs.log2+j.natAbs.log2 < 100000000)
theorem AB{i j:Int}(h:io i j=true):IntMulOk i j:=by
 have a:i.natAbs.log2+j.natAbs.log2 < 100000000:=aD h;have b:∀x:Int,Builtin.Int.intBits x≤x.natAbs.log2+1:=λx=>by
  unfold Builtin.Int.intBits;split
  .exact br _
  .exact ai _
 exact IntMulOk.of_le (b i) (b j) (by lia)
theorem Dq:fK X (binaryOp .Mult) (rI (λi j=>IntMulOk i j) λi j=>.int (i * j)):=Kt λ_ _ _ _ _ _ _ h q=>mul_int q h
noncomputable def eN(x:Str)(n:Nat):Str:=⟨(List.replicate n x.cps).foldl (·++·) #[]⟩
theorem ud(x:Str):eN x 1=x:=by unfold eN;cases x;simp
theorem yo(n:Nat):(List.replicate n (#[]:Array Nat)).foldl (·++·) #[]=#[]:=by
 induction n with
 |zero=>rfl
 |succ n i=>rw[bS,fg];simpa using i
theorem qh(x:Str)(n:Nat)(h:x.length=0):eN x n=x:=by have e:x.cps=#[]:=Array.eq_empty_of_size_eq_zero (by simpa[lD] using h);unfold eN;cases x;simp only at e;subst e;rw[yo]
theorem uK(a:Array Nat)(n:Nat):∀b:Array Nat,((List.replicate n a).foldl (·++·) b).size=b.size+n * a.size:=by
 induction n with
 |zero=>intro b;simp
 |succ n i=>intro b;rw[bS,fg,i,wA,pD];lia
theorem nQ(x:Str)(n:Nat):(eN x n).length=n * x.length:=by unfold eN lD;simp only;rw[uK];simp
def sN:P->P->Option P
 | .int i,.int j=>if io i j=true then some (.int (i * j)) else none
 | .str x,.int n=>if (gS (n.toNat * x.length) && decide (n.natAbs < 1000000))=true then some (.str (eN x n.toNat)) else none
 | .lst xs,.int n=>if (gS (xs.length * n.toNat) && decide (n.natAbs < 1000000))=true then some (.lst (List.replicate n.toNat xs).flatten) else none
 |_,_=>none
theorem bg.rep(h:bg K F H r xs):∀k:Nat,bg K F H (List.replicate k r).flatten (List.replicate k xs).flatten
 |0=>rfl
 |k+1=>by rw[bS,bS,cQ,cQ];exact h.append (bg.rep h k)
theorem Jg:ly X (binaryOp .Mult) sN:=by
 intro r s J H x y v u Q I o S h;obtain⟨F,B,w,d,M,g,l,q,k⟩:=h;cases B with
 |int i=>
  cases w with
  |int j=>
   simp only[sN]at q;split at q
   .rename_i c;cases q;cases (show x=.int i from g);cases (show y=.int j from l);exact Dq r s J H _ _ v u Q I o S ⟨i,j,rfl,rfl,AB c,k _ F H .refl rfl⟩
   .cases q
  |_=>exact i' q
 |str i=>
  cases w with
  |int n=>
   simp only[sN]at q;split at q
   .rename_i c;rw[aq]at c;have E:=aD c.2;have N:n.toNat * i.length≤1000000:=aD c.1;have T:=ip;have V:(1000000:Nat)≤sizeLine:=by decide
    cases q;cases (show x=.str i from g);cases (show y=.int n from l);obtain⟨t,rfl⟩:=o;obtain⟨W,rfl⟩:=S;refine PySem.P.mul_str (by have C:decide (n < -(2 ^ 63:Int))=false:=aU (by lia);have D:decide (n ≥ 2 ^ 63)=false:=aU (by lia);rw[C,D];rfl) (λa b=>?_) (λa b=>?_) ?_
    .intro z;have R:((i.length:Nat):Int)≤(2 ^ 63-1) / n:=by
      refine(Int.le_ediv_iff_mul_le (by lia)).mpr ?_;have e:((i.length:Nat):Int) * n=((n.toNat * i.length:Nat):Int):=by rw[u9,vc (by lia),Int.mul_comm]
      rw[e];lia
     lia
    .unfold Builtin.Str.tooLong;first
      |exact aU (by rw[lL];lia)
      |(rw[lL];exact aU (by lia))
    .have f:Q (.str (eN i n.toNat)) H:=k _ F H .refl rfl;by_cases K:n < 1
     .rw [ae K];have e:n.toNat=0:=by lia
      rw[e]at f;exact⟨by decide,⟨.str Str.empty,H,I.tok _,⟨_,rfl⟩,f⟩⟩
     .rw [ag K];by_cases m:(n == 1 ||i.length == 0)=true
      .rw [ae m];rw[pW]at m;have e:eN i n.toNat=i:=by
        rcases m with m|m
        .have:n=1:=by simpa using m
         subst this;exact ud i
        .exact qh i _ (by simpa using m)
       rw[e]at f;exact⟨.str i,H,I,⟨_,rfl⟩,f⟩
      .rw [ag m];refine⟨?_,⟨.str (eN i n.toNat),H,I.tok _,⟨_,rfl⟩,f⟩⟩;have:=nQ i n.toNat
       unfold eN at this;rw[this];lia
   .cases q
  |_=>exact i' q
 |lst L=>
  cases w with
  |int n=>
   simp only[sN]at q;split at q
   .rename_i c;rw[aq]at c;have E:=aD c.2;cases q;obtain⟨a,xs,rfl,G,A⟩:=g;cases (show y=.int n from l);exact Ao r s J H _ _ v u Q I o S ⟨a,n,xs,rfl,rfl,G.2,by lia,by lia,by rw[<- A.length];exact fI c.1,λp P=>k _ _ _ (bA P) (.newLst P (A.rep _))⟩
   .cases q
  |_=>exact i' q
 |_=>exact i' q
noncomputable def M5:P->P->Option P
 | .int i,.int j=>some (.bl (decide (i=j)))
 | .str x,.str y=>some (.bl (decide (x=y)))
 | .bl a,.bl b=>some (.bl (decide (a=b)))
 |_,_=>none
noncomputable def G5:P->P->Option P
 | .int i,.int j=>some (.bl (!decide (i=j)))
 | .str x,.str y=>some (.bl (!decide (x=y)))
 | .bl a,.bl b=>some (.bl (!decide (a=b)))
 |_,_=>none
theorem k8{i j:Int}:decide (V.int i=V.int j)=decide (i=j):=by
 by_cases h:i=j
 .subst h;simp
 .rw [aU h,aU λz=>h (V.int.inj z)]
theorem k7:decide (V.str i=V.str k)=decide (i=k):=by
 by_cases h:i=k
 .subst h;simp
 .rw [aU h,aU λz=>h (V.str.inj z)]
theorem nv:decide (V.bl i=V.bl k)=decide (i=k):=by
 by_cases h:i=k
 .subst h;simp
 .rw [aU h,aU λz=>h (V.bl.inj z)]
theorem Mb:ly X (compareOp .Eq) M5:=by
 intro p s J H x y v u Q I r f h;obtain⟨F,b,a,d,t,e,n,q,k⟩:=h;cases b with
 |int i=>
  cases a with
  |int j=>cases q;cases (show x=.int i from e);cases (show y=.int j from n);exact Ar p s J H _ _ v u Q I r f ⟨rfl,by rw[k8];exact k _ F H .refl rfl⟩
  |_=>exact i' q
 |str i=>
  cases a with
  |str j=>cases q;cases (show x=.str i from e);cases (show y=.str j from n);exact Ar p s J H _ _ v u Q I r f ⟨rfl,by rw[k7];exact k _ F H .refl rfl⟩
  |_=>exact i' q
 |bl i=>
  cases a with
  |bl j=>cases q;cases (show x=.bl i from e);cases (show y=.bl j from n);exact Ar p s J H _ _ v u Q I r f ⟨rfl,by rw[nv];exact k _ F H .refl rfl⟩
  |_=>exact i' q
 |_=>exact i' q
theorem L7:ly X (compareOp .NotEq) G5:=by
 intro p s J H x y v u Q I r f h;obtain⟨F,b,a,d,t,e,n,q,k⟩:=h;cases b with
 |int i=>
  cases a with
  |int j=>cases q;cases (show x=.int i from e);cases (show y=.int j from n);exact Ap p s J H _ _ v u Q I r f ⟨rfl,by rw[k8];exact k _ F H .refl rfl⟩
  |_=>exact i' q
 |str i=>
  cases a with
  |str j=>cases q;cases (show x=.str i from e);cases (show y=.str j from n);exact Ap p s J H _ _ v u Q I r f ⟨rfl,by rw[k7];exact k _ F H .refl rfl⟩
  |_=>exact i' q
 |bl i=>
  cases a with
  |bl j=>cases q;cases (show x=.bl i from e);cases (show y=.bl j from n);exact Ap p s J H _ _ v u Q I r f ⟨rfl,by rw[nv];exact k _ F H .refl rfl⟩
  |_=>exact i' q
 |_=>exact i' q
theorem xP{α β:Type}{xs:List α}{s:List β}{i:Int}{d:α}(l:xs.length=s.length)(h:L2.atI xs i=some d):∃j:Nat,xs[j]? = some d/\∀y,s[j]? = some y->L2.atI s i=some y:=by
 unfold L2.atI at h ⊢;rw[l]at h;cases e:AO s.length i with
 |none=>rw[e]at h;cases h
 |some j=>rw[e]at h;exact⟨j,h,λy x=>x⟩
theorem bg.atI{K:FG}{F:Aa}{H:Hp}{s:List P}{xs:List V}{i:Int}{d:P}(r:bg K F H s xs)(h:L2.atI s i=some d):∃x,L2.atI xs i=some x/\RP K F H d x:=by obtain⟨j,a,n⟩:=xP r.length h;obtain⟨x,e,p⟩:=r.get a;exact⟨x,n x e,p⟩
theorem bJ.atI{K:FG}{F:Aa}{H:Hp}{m:List Addr}{s:List D}{xs:List V}{i:Int}{d:D}(r:bJ K F H m s xs)(h:L2.atI s i=some d):∃x,L2.atI xs i=some x/\RD K F H m d x:=by obtain⟨j,a,n⟩:=xP r.length h;obtain⟨x,e,p⟩:=r.get a;exact⟨x,n x e,p⟩
noncomputable def eB(k:cn):List cn->List α->Option α
 |h::s,v::T=>if h=k then some v else eB k s T
 |_,_=>none
noncomputable def di:P->Option cn
 | .int i=>some (.inl i)
 | .str x=>some (.inr x)
 |_=>none
def bD:P->P->Option P
 | .tup xs,.int i=>L2.atI xs i
 | .lst xs,.int i=>L2.atI xs i
 | .ro xs,.int i=>L2.atI xs i
 | .str x,.int i=>if gS x.length=true then (L2.atI x.cps.toList i).map λc=>.str ⟨#[c]⟩ else none
 | .dct s T,y=>match di y with
  |some k=>eB k s T
  |none=>none
 |_,_=>none
theorem kz:∀{s:List (cn×V)}{a:List P}{d:P},bg K F H a (s.map (·.2))->eB k (s.map (·.1)) a=some d->∃v,dX s k=some v/\RP K F H d v
 | [],a,d,r,h=>by cases a<;>exact i' h
 |(n,v)::s,[],d,r,h=>i' h
 |(n,v)::s,q::a,d,r,h=>by
  obtain⟨x,u,e,p,f⟩:=r;rw[az]at e;injection e with b c;simp only[az,eB]at h;by_cases hk:n=k
  .rw [ae hk]at h;cases h;exact⟨v,eJ (p:=(n,v)) hk,by rw[show v=x from b];exact p⟩
  .rw [ag hk]at h;rw[<- c]at f;obtain⟨w,m,t⟩:=kz f h;exact⟨w,by rw[dW (p:=(n,v)) hk];exact m,t⟩
theorem eS(h:di t=some k)(r:RP K F H t v):v=kV k:=by
 cases t with
 |int i=>cases h;exact r
 |str x=>cases h;exact r
 |_=>exact i' h
theorem AQ(m:X.A.units+1 < cLine):yI X (λx y H Q=>∃a v,x=.ref a/\g8 H a y (some v)/\(∃k,H a=some (.dK k))/\Q v H):=by
 intro f l p s J H x y v u Q I t d h c;obtain⟨a,w,rfl,g,⟨k,hk⟩,q⟩:=h;cases t;have n:∃o,s.heap.get? a=some o/\o.ExactDict:=by obtain⟨_,_,_,_,o,_,_,e,n,_⟩:=I.h a _ hk;exact⟨o,e,n⟩
 obtain⟨o,e,n⟩:=n;exact jC ⟨o,e,n.1⟩ tJ.lookup (oP m I g d λj i b r=>⟨w,H,b,r,q⟩) c
theorem MW(L:X.A.units+1 < cLine):yI X (rP X.K bD):=by
 intro n l f s J H x y v u Q I o S h t;obtain⟨F,C,m,d,N,g,j,q,k⟩:=h;cases C with
 |tup b=>
  cases m with
  |int i=>obtain⟨a,xs,rfl,K,r⟩:=g;cases (show y=.int i from j);obtain⟨z,e,p⟩:=r.atI (show L2.atI b i=some d from q);exact AN n l f s J H _ _ v u Q I o S ⟨a,xs,i,z,rfl,rfl,K.sq,e,k z F H .refl p⟩ t
  |_=>exact i' q
 |lst b=>
  cases m with
  |int i=>obtain⟨a,xs,rfl,K,r⟩:=g;cases (show y=.int i from j);obtain⟨z,e,p⟩:=r.atI (show L2.atI b i=some d from q);exact qz n l f s J H _ _ v u Q I o S ⟨a,xs,i,z,rfl,rfl,K.sq,e,k z F H .refl p⟩ t
  |_=>exact i' q
 |ro b=>
  cases m with
  |int i=>obtain⟨a,xs,rfl,K,r⟩:=g;cases (show y=.int i from j);obtain⟨z,e,p⟩:=r.atI (show L2.atI b i=some d from q);exact qz n l f s J H _ _ v u Q I o S ⟨a,xs,i,z,rfl,rfl,K.sq,e,k z F H .refl p⟩ t
  |_=>exact i' q
 |str z=>
  cases m with
  |int i=>
   cases (show x=.str z from g);cases (show y=.int i from j);simp only[bD]at q;split at q
   .rename_i G;cases e:L2.atI z.cps.toList i with
    |none=>rw[e]at q;exact i' q
    |some c=>rw[e]at q;cases q;exact GL n l f s J H _ _ v u Q I o S ⟨z,i,c,rfl,rfl,fI G,e,k _ F H .refl rfl⟩ t
   .cases q
  |_=>exact i' q
 |dct R b=>
  obtain⟨a,B,rfl,fa,hk,E,r⟩:=g;simp only[bD]at q;cases P:di m with
  |none=>rw[P]at q;exact i' q
  |some M=>rw[P]at q;dsimp only at q;subst E;obtain⟨w,D,p⟩:=kz r q;have A:=eS P j;subst A;exact AQ L n l f s J H _ _ v u Q I o S ⟨a,w,rfl,by rw[<- D];exact g8.k hk,⟨B,hk⟩,k w F H .refl p⟩ t
 |_=>exact i' q
theorem Nm{a b:Expr}{fa fb:EV}{M:Pos}(u:X.A.units+1 < cLine)(x:Y X a (tV X.K fa))(e:Y X b (tV X.K fb))(s:i4 b):Y X (.Subscript a b M) (tV X.K (aK bD fa fb)):=
 (xn (MW u) x e s).imp' λ_ _ _ h=>qg h
end
section
variable{X:Cx}
theorem mI:∀{s:List (cn×V)}{a:List D}{d:D},bJ K F H m a (s.map (·.2))->eB k (s.map (·.1)) a=some d->∃v,dX s k=some v/\RD K F H m d v
 | [],a,d,r,h=>by cases a<;>exact i' h
 |(n,v)::s,[],d,r,h=>i' h
 |(n,v)::s,u::a,d,r,h=>by
  obtain⟨x,g,e,p,f⟩:=r;rw[az]at e;injection e with b c;simp only[az,eB]at h;by_cases hk:n=k
  .rw [ae hk]at h;cases h;exact⟨v,eJ (p:=(n,v)) hk,by rw[show v=x from b];exact p⟩
  .rw [ag hk]at h;rw[<- c]at f;obtain⟨w,t,q⟩:=mI f h;exact⟨w,by rw[dW (p:=(n,v)) hk];exact t,q⟩
@[simp] def i7(r:EE)(k:EV)(L:Lc)(S:aC):oo:=aZ (r L S) λd x=>aZ (k L x) λy h=>match d with
 | .p v=>(bD v y).map λz=>(.p z,h)
 | .ref i=>match h[i]? with
  | some (.lst s)=>(match y with
   | .int j=>(L2.atI s j).map λz=>(z,h)
   |_=>none)
  |some (.fz v)=>(bD v y).map λz=>(.p z,h)
  | some (.dct a T)=>(match di y with
   |some k=>(eB k a T).map λz=>(z,h)
   |none=>none)
  |_=>none
theorem Lr{a b:Expr}{fa:EE}{fb:EV}{M:Pos}(hu:X.A.units+1 < cLine)(ha:Y X a (tE X.K fa))(hb:Y X b (tV X.K fb))(hs:i4 b):Y X (.Subscript a b M) (tE X.K (i7 fa fb)):=
 (xn ((((MW hu).or qz).or (AQ hu)).or AN) ha hb hs).imp' λJ H Q hz=>by
  obtain⟨F,m,L,S,d,N,r,l,q,k⟩:=hz;obtain⟨x,S1,K,q⟩:=ah q;obtain⟨y,o,e2,q⟩:=ah q;refine⟨F,m,L,S,x,S1,r,l,K,λv C m1 H1 c r1 p1=>?_⟩;refine⟨C,m1,L,S1,y,o,r1,l.mono c,e2,λu B R I g f W=>?_⟩;have px:=RD.mono g p1;have s:∀w:P,RP X.K B I w v->(bD w y).map (λh=>(D.p h,o))=some (d,N)->rP X.K bD v u I Q:=λw pw q=>by
   cases e:bD w y with
   |none=>rw[e]at q;cases q
   |some h=>rw[e]at q;cases q;exact⟨B,w,y,h,f.ft,pw,W,e,λt F3 H3 gr Z=>k t F3 R H3 (c.trans (g.trans gr.stp)) (f.grow gr) Z⟩
  cases x with
  |p w=>exact .inl (.inl (.inl (s w px q)))
  |ref i=>
   obtain⟨a,rfl,hm⟩:=px;dsimp only at q;cases z:o[i]? with
   |none=>rw[z]at q;cases q
   |some so=>
    rw[z]at q;have V:=f.obj i a so hm z;cases so with
    |fz w=>exact .inl (.inl (.inl (s w V q)))
    |dct ks T=>
     dsimp only at q;obtain⟨n,hk,ek,ra⟩:=V;cases A:di y with
     |none=>rw[A]at q;cases q
     |some G=>
      rw[A]at q;dsimp only at q;subst ek;cases e:eB G (n.map (·.1)) T with
      |none=>rw[e]at q;cases q
      |some h=>rw[e]at q;cases q;obtain⟨w,K,p⟩:=mI ra e;have E:=eS A W;subst E;exact .inl (.inr ⟨a,w,rfl,by rw[<- K];exact g8.k hk,⟨n,hk⟩,k w B R I (c.trans g) f p⟩)
    |ins _ _ _=>cases q
    |dtn _ _=>cases q
    |dtt _ _=>cases q
    |fn _=>cases q
    |lst ds=>
     dsimp only at q;cases y with
     |int j=>
      dsimp only at q;obtain⟨xs,hH,rs⟩:=V;cases e:L2.atI ds j with
      |none=>rw[e]at q;cases q
      |some h=>rw[e]at q;cases q;obtain⟨t,e3,Z⟩:=rs.atI e;cases (show u=.int j from W);exact .inl (.inl (.inr ⟨a,xs,j,t,rfl,rfl,dw.of hH,e3,k t B R I (c.trans g) f Z⟩))
     |_=>cases q
def js:P->Option Nat
 | .tup xs=>some xs.length
 | .lst xs=>some xs.length
 | .ro xs=>some xs.length
 | .str x=>if gS x.length=true then some x.length else none
 |_=>none
def d6:D->aC->Option Nat
 | .p v,_=>js v
 | .ref i,S=>match S[i]? with
  |some (.lst d)=>some d.length
  |some (.fz v)=>js v
  |_=>none
def d5(r:EE):EV:=λL S=>aZ (r L S) λd h=>(d6 d h).map λn=>(.int n,h)
theorem xA{F:Aa}{H:Hp}{w:P}{v:V}{n:Nat}{Q:VK}(p:RP X.K F H w v)(h:js w=some n)(q:Q (.int n) H) :
  (∃p y,[v]=[V.ref p]/\(dw X.K H p y\/kg X.K H p y)/\Q (.int y.length) H)\/(∃z,[v]=[V.str z]/\z.length≤sizeLine/\Q (.int z.length) H):=by
 cases w with
 |tup d=>obtain⟨a,xs,rfl,t,r⟩:=p;cases h;exact .inl ⟨a,xs,rfl,.inr t.sq,by rw[<- r.length];exact q⟩
 |lst d=>obtain⟨a,xs,rfl,t,r⟩:=p;cases h;exact .inl ⟨a,xs,rfl,.inl t.sq,by rw[<- r.length];exact q⟩
 |ro d=>obtain⟨a,xs,rfl,t,r⟩:=p;cases h;exact .inl ⟨a,xs,rfl,.inl t.sq,by rw[<- r.length];exact q⟩
 |str x=>
  cases (show v=.str x from p);simp only[js]at h;split at h
  .rename_i c;cases h;exact .inr ⟨x,rfl,fI c,q⟩
  .cases h
 |_=>exact i' h
theorem Lo(P:Gl X "len")(s:X.g "len"=none)(K:Y X e (tE X.K fe))(b:starEach [e] X.e=[(false,eval e X.e)]:=by rfl):Y X (.Call (.Name "len" p) [e] [] M) (tV X.K (d5 fe)):=
 (mU (qO.or qN) P s PySem.boot_len (dh K eP (by rw[b];rfl)) (by decide) (by decide) (by rw[b];rfl) rfl).imp' λJ H Q A=>by
  obtain⟨F,m,L,S,d,N,r,l,q,k⟩:=A;obtain⟨x,f,g,q⟩:=ah q;refine⟨F,m,L,S,x,f,r,l,g,λv C B H1 E t c=>?_⟩;cases h:d6 x f with
  |none=>rw[h]at q;cases q
  |some n=>
   rw[h]at q;cases q;have y:Q (.int n) H1:=k _ C B H1 E t rfl;cases x with
   |p w=>exact xA c h y
   |ref i=>
    obtain⟨a,rfl,s⟩:=c;simp only[d6]at h;cases z:N[i]? with
    |none=>rw[z]at h;cases h
    |some u=>
     rw[z]at h;have o:=t.obj i a u s z;cases u with
     |fz w=>exact xA o h y
     |dct I T=>cases h
     |ins _ _ _=>cases h
     |dtn _ _=>cases h
     |dtt _ _=>cases h
     |fn _=>cases h
     |lst G=>cases h;obtain⟨xs,j,D⟩:=o;exact .inl ⟨a,xs,rfl,.inl (dw.of j),by rw[<- D.length];exact y⟩
noncomputable def im(d:D)(S:aC):Option (Nat×List D):=match d with
 | .ref i=>match S[i]? with
  |some (.lst s)=>some (i,s)
  |_=>none
 |_=>none
theorem fC(h:im d S=some (i,k)):d=.ref i/\S[i]? = some (.lst k):=by
 unfold im at h;split at h
 .split at h
  .rename_i e;cases h;exact⟨rfl,e⟩
  .cases h
 .cases h
@[simp] def eE(r:EE)(a:EE)(L:Lc)(S:aC):oo:=aZ (r L S) λd h=>match im d h with
 |none=>none
 |some _=>aZ (a L h) λx e=>match im d e with
  |some (i,s)=>if few s=true then some (.p .non,e.set i (.lst (s++[x]))) else none
  |none=>none
theorem CD{o e:Expr}{V fe:EE}{p c:Pos}(ho:Y X o (tE X.K V))(he:Y X e (tE X.K fe))(G:starEach [e] X.e=[(false,eval e X.e)]:=by rfl)
  (b:attributeBase o "append" X.e (eval o X.e)=eval o X.e:=by rfl) (t:(p.endLine == c.line)=true:=by rfl):Y X (.Call (.Attribute o "append" p) [e] [] c) (tE X.K (eE V fe)):=
 (Er jA vt PySem.F.type_list_append oD ho (dh he eP (by rw[G];rfl)) b (by rw[G];rfl) t (by rw[G];rfl) rfl).imp' λJ H Q hz=>by
  obtain⟨F,m,L,S,d,N,r,h,q,k⟩:=hz;obtain⟨x,P,e1,q⟩:=ah q;refine⟨F,m,L,S,x,P,r,h,e1,λv C m1 H1 s1 r1 p1=>?_⟩;cases D:im x P with
  |none=>rw[D]at q;cases q
  |some s=>
   obtain⟨i,ds⟩:=s;rw[D]at q;dsimp only at q;obtain⟨rfl,z⟩:=fC D;obtain⟨a,rfl,hm⟩:=id p1;obtain⟨xs,hH,rs⟩:=r1.obj i a _ hm z;refine⟨.inl ⟨rfl,xs,dw.of hH⟩,?_⟩;obtain⟨y,T,e2,q⟩:=ah q;refine⟨C,m1,L,P,y,T,r1,h.mono s1,e2,λu B M I s2 R p2=>?_⟩;cases n:im (.ref i) T with
   |none=>rw[n]at q;cases q
   |some s=>
    obtain⟨i2,A⟩:=s;rw[n]at q;dsimp only at q;obtain⟨e3,f⟩:=fC n;cases e3;split at q
    .rename_i W;cases q;obtain⟨a2,e4,w⟩:=RD.mono s2 p1;cases e4;obtain⟨g,j,K⟩:=R.obj i a _ w f;have hl:=iv W;have E:g.length < sizeLine:=by
      have:A.length≤1000000:=aD W;rw[<- K.length];exact gE this (by decide)
     have Z:∀zs,I a≠some (.tup zs):=λzs s=>by rw[j]at s;cases s
     have l:Stp B M I B M (a7 I a (.lst (g++[u]))):=cS R w f trivial Z;refine⟨a,g,u,rfl,rfl,j,E,?_⟩;exact k .non B M _ (s1.trans (s2.trans l)) (R.set w f trivial Z ⟨_,au,bJ.mono l (K.append ⟨u,[],rfl,p2,rfl⟩)⟩) rfl
    .cases q
noncomputable abbrev EO:=Lc->aC->Option (Option Int×aC)
noncomputable def xu:EO:=λ_ S=>some (none,S)
def rS(a:EV):EO:=λL S=>aZ (a L S) λv h=>match v with
 | .int i=>some (some i,h)
 |_=>none
inductive tOI(K:FG)(f:EO)(J:L2.St)(H:Hp)(Q:Option Int->Hp->Prop):Prop
 |mk (F:Aa) (m:List Addr) (L:Lc) (S:aC) (b:Option Int) (S':aC) (h0_:Rel K F H m S) (h1_:RL K F H m J L) (h2_:f L S=some (b,S')) (h3_:∀F' m' H',Stp F m H F' m' H'->Rel K F' H' m' S'->Q b H'):tOI K f J H Q
noncomputable def tO(K:FG)(f:EO):TO:=λJ H Q=>tOI K f J H Q
theorem _root_.L2.PO.imp'(h:PO X e t)(i:∀J H Q,k J H Q->t J H Q):PO X e k:=λp s J H Q I q=>h p s J H Q I (i J H Q q)
theorem Gr:PO X none (tO X.K xu):=Di.imp' λJ H Q h=>by obtain⟨F,m,L,S,d,N,r,l,q,k⟩:=h;cases q;exact k F m H .refl r
theorem Gq(h:Y X e (tV X.K fa)):PO X (some e) (tO X.K (rS fa)):=(Dh h).imp' λJ H Q z=>by
 obtain⟨F,m,L,S,d,N,r,l,q,k⟩:=z;obtain⟨x,b,a,q⟩:=ah q;cases x with
 |int i=>cases q;exact⟨F,m,L,S,_,_,r,l,a,λv C s H1 f n p=>⟨i,p,k C s H1 f n⟩⟩
 |_=>cases q
def cut(xs:List α)(lo h:Option Int):List α:=(xs.drop (HT.cW xs.length 0 lo)).take (HT.cW xs.length xs.length h-HT.cW xs.length 0 lo)
theorem bg.cut(r:bg K F H k xs)(lo h:Option Int):bg K F H (Ev.cut k lo h) (sP xs lo h):=by unfold Ev.cut sP;rw[r.length];exact(r.drop _).take _
def NX:P->Option Int->Option Int->Option P
 | .lst xs,lo,h=>some (.lst (cut xs lo h))
 | .ro xs,lo,h=>some (.lst (cut xs lo h))
 | .tup xs,lo,h=>if HT.cW xs.length 0 lo=0/\HT.cW xs.length xs.length h=xs.length then none else some (.tup (cut xs lo h))
 |_,_,_=>none
theorem _root_.L2.PI.imp'(h:PI X r iter t)(i:∀J H R,k J H R->t J H R):PI X r iter k:=λp s J H R I q=>h p s J H R I (i J H R q)
theorem AS(f:∀B h I,Stp F m H B h I->dw K I a xs)(r:bg K F H T xs):EJ K (Kj K a) T F m H:=by
 intro B h I s;have q:=f B h I s;have k:=bg.mono s r;refine⟨λi v e=>?_,⟨xs,q,by rw[k.length];exact ai _⟩⟩;obtain⟨x,n,p⟩:=k.get e;refine⟨⟨xs,x,q,n⟩,λy b z=>?_⟩;obtain⟨rfl,z⟩:=z;have:=z xs q
 rw[n]at this;cases this;exact⟨B,.refl,p⟩
theorem GN(k:TupAt K H a xs)(r:bg K F H T xs):EJ K (Nc K a) T F m H:=by
 intro B b I s;have q:=(k.kp s.kp).sq;have n:=bg.mono s r;refine⟨λi v e=>?_,⟨xs,q,by rw[n.length];exact ai _⟩⟩;obtain⟨x,h,p⟩:=n.get e;refine⟨⟨xs,x,q,h⟩,λy f z=>?_⟩;obtain⟨rfl,z⟩:=z;have:=z xs q
 rw[h]at this;cases this;exact⟨B,.refl,p⟩
noncomputable def intsFrom(lo:Int)(n:Nat):List P:=(List.range n).map λ(i:Nat)=>.int (lo+(i:Int))
def qA(a:EV):ki:=λL S=>aZ (a L S) λv h=>match v with
 | .int j=>if decide (j.natAbs < 1000000)=true then some (intsFrom 0 j.toNat,h) else none
 |_=>none
theorem GO{lo:Int}:EJ K (K3 lo n) (intsFrom lo n) F m H:=by
 intro B k I s;have l:(intsFrom lo n).length=n:=by unfold intsFrom;simp
 refine⟨λi v e=>?_,by show n≤(intsFrom lo n).length;rw[l];exact ai _⟩;have h:i < n:=by rw[<- l];exact(a9.mp e).1
 refine⟨h,λx a z=>?_⟩;obtain⟨rfl,rfl⟩:=z;refine⟨B,.refl,?_⟩;unfold intsFrom at e;simp[h]at e;subst e;exact rfl
theorem NJ{w a:Expr}{fa:EV}{p M:Pos}(g:Gl X "range")(n:X.g "range"=none)(s:Y X a (tV X.K fa))(h:starEach [a] X.e=[(false,eval a X.e)]:=by rfl):PI X w (.Call (.Name "range" p) [a] [] M) (tI X.K (qA fa)):=
 (x8 g n (dh s eP (by rw[h];rfl)) h).imp' λJ H R z=>by
  obtain⟨F,m,L,S,T,N,r,l,q,k⟩:=z;obtain⟨v,u,e,q⟩:=ah q;cases v with
  |int j=>
   dsimp only at q;split at q
   .rename_i c;have i:j.natAbs < 1000000:=aD c;cases q;refine⟨F,m,L,S,_,_,r,l,e,λx C f H1 d t b=>?_⟩;cases (show x=.int j from b);exact⟨j,rfl,by lia,by lia,k _ C f H1 d t GO⟩
   .cases q
  |_=>cases q
end
def cE(g:i3)(c:EB)(e:EV):List P->Lc->aC->Option (List P×aC)
 | [],_,S=>some ([],S)
 |v::r,L,S=>match g v L with
  |none=>none
  |some h=>aZ (c h S) λk x=>if k=true then aZ (e h x) λy a=>aZ (cE g c e r h a) λn s=>some (y::n,s) else cE g c e r h x
open Classical in
def fU(ok:aC->Prop)(g:i3)(c:EB)(e:EV):List P->Lc->aC->Option (List P×aC)
 | [],_,S=>if ok S then some ([],S) else none
 | v::r,L,S=>if ok S then (match g v L with
  |none=>none
  |some h=>aZ (c h S) λk x=>if k=true then aZ (e h x) λy a=>aZ (fU ok g c e r h a) λn s=>some (y::n,s) else fU ok g c e r h x) else none
theorem nE:∀{T:List P}{L:Lc}{S:aC},fU (λ_=>True) g c e T L S=cE g c e T L S
 | [],_,_=>ae trivial
 |v::r,L,S=>by
  unfold fU cE;rw[ae trivial];cases g v L with
  |none=>rfl
  |some h=>simp only[nE (T:=r)]
noncomputable def nP(y:List Nat)(n:Nat)(L:List (Option α)):List (Option α):=(y.foldl (λL i=>L.set i none) L)++List.replicate n none
def cJ(i:ki)(y:List Nat)(n:Nat)(g:i3)(c:EB)(e:EV):EV:=λL S=>aZ (i L S) λxs h=>if few xs=true then aZ (cE g c e xs (nP y n L) h) λs x=>some (.lst s,x) else none
@[simp] def lw(_L:Lc)(S:aC):Hl:=some (true,S)
theorem dQ(y:List Nat):∀L:List (Option α),(y.foldl (λL i=>L.set i none) L).length=L.length:=by
 induction y with
 |nil=>intro L;rfl
 |cons t y h=>intro L;rw[fg,h,cP]
theorem nU(y:List Nat):∀(L:List (Option α))(i:Nat)(d:α),(y.foldl (λL i=>L.set i none) L)[i]? = some (some d)->L[i]? = some (some d)/\i ∉ y:=by
 induction y with
 |nil=>intro L i d h;exact⟨h,by simp⟩
 |cons t y s=>
  intro L i d h;rw[fg]at h;obtain⟨x,a⟩:=s _ _ _ h;by_cases e:t=i
  .subst e;by_cases l:t < L.length
   .rw [cy l]at x;cases x
   .rw [lU (by rw[cP];lia)]at x;cases x
  .rw [bG e]at x;exact⟨x,by simp[a];exact λz=>e z.symm⟩
theorem p6(y:List Nat)(n:Nat)(L:List (Option α)):(nP y n L).length=L.length+n:=by unfold nP;rw[bw,dQ,wt]
theorem xb(h:(nP y n L)[i]? = some (some d)):L[i]? = some (some d)/\i ∉ y/\i < L.length:=by
 unfold nP at h;by_cases x:i < L.length
 .rw [bu (by rw[dQ];exact x)]at h;obtain⟨a,e⟩:=nU y L i d h;exact⟨a,e,x⟩
 .rw [bb (by rw[dQ];lia),pV]at h;split at h<;>cases h
variable{J:L2.St}
theorem RL.up(l:RL K F H m J L)(y:List Nat)(n:Nat):RL K F H m (nP y n J) (nP y n L):=by
 refine⟨by rw[p6,p6,l.len],λi d h=>?_⟩;obtain⟨a,s,f⟩:=xb h;obtain⟨v,e,r⟩:=l.at' i d a;refine⟨v,?_,r⟩;unfold nP;rw[bu (by rw[dQ,l.len];exact f)];have k:∀(y:List Nat)(J:L2.St),i ∉ y->J[i]? = some (some v)->(y.foldl (λL i=>L.set i none) J)[i]? = some (some v):=by
  intro y;induction y with
  |nil=>intro J _ e;exact e
  |cons t y b=>intro J x e;rw[fg];refine b _ (λz=>x (aW _ z)) ?_;rw[bG (λz=>x (by rw[z];exact aV))];exact e
 exact k y J s e
noncomputable def jv(G:Scope)(e:Env):List (Str×Addr):=((G.names.filter λx=>x.2 == .free).map λx=>(x.1,(e.cells.lookup x.1).getD 0)).reverse
def inn(X:Cx)(G:Scope)(q:LS)(s:Shared)(H:Hp)(C:Addr)(f:List Addr):Cx:=
 { X with N:=q,z:=s,y:=H,e:=compEnvC G (jv G X.e) C X.e,o:=X.k,ex:=f,fn:=λ_=>false,pn:=[],xe:=λ_ _=>False }
structure BlockOk(X:Cx)(scope:Scope)(N':LS)(ts:List Nat)(n:Nat):Prop where
 kind:scope.kind=.function
 cell:∀x ∈ scope.names,x.2≠.cell
 loc:∀x ∈ scope.names,x.2=.local->scope.names.lookup x.1=some .local
 fr:∀x ∈ scope.names,x.2=.free->scope.names.lookup x.1=some .free/\(X.e.kindOf x.1=some .cell\/X.e.kindOf x.1=some .free)
 names:X.N=N'.take X.N.length
 more:N'.length=X.N.length+n
 ts:∀x ∈ scope.names,x.2=.local->∀i:Nat,X.N[i]? = some x.1->i ∈ ts
theorem eR:∀{l:List (Str×α)}{x:Str}{v:α},l.lookup x=some v->(x,v) ∈ l
 | [],_,_,h=>by simp at h
 |(y,w)::r,x,v,h=>by
  rw[lS]at h;cases e:x == y with
  |true=>rw[e]at h;cases h;rw[show x=y from by simpa using e];exact aV
  |false=>rw[e]at h;exact aW _ (eR h)
theorem ja:∀{l:List (Str×α)}{x:Str}{v:α},(x,v) ∈ l->∃w,l.lookup x=some w
 | [],_,_,h=>by simp at h
 |(y,w)::r,x,v,h=>by
  rw[lS];cases e:x == y with
  |true=>exact⟨w,rfl⟩
  |false=>
   rcases aH.mp h with h|h
   .injection h with a _;subst a;simp at e
   .exact ja h
variable{x:Str}
theorem df(h:(relabel G r).names.lookup x=some k):∃a,(x,a) ∈ G.names/\(k=a\/(k=.cell/\a=.free)):=by
 have m:=eR h;unfold relabel at m;obtain⟨⟨n,a⟩,t,e⟩:=dH.mp m;by_cases c:(a == NameKind.free && r.scope.kind == .function && r.kindOf n == some .cell)=true
 .have s:(n,NameKind.cell)=(x,k):=by simpa[c] using e
  injection s with f b;subst f;rw[aq,aq]at c;exact⟨a,t,.inr ⟨b.symm,by simpa using c.1.1⟩⟩
 .have s:(n,a)=(x,k):=by simpa[c] using e
  injection s with f b;subst f;exact⟨a,t,.inl b.symm⟩
section
variable{X:Cx}{G:Scope}{q:LS}{y:List Nat}{n:Nat}
theorem BlockOk.cl(B:BlockOk X G q y n)(I:Inv X u J H s)(h:(jv G X.e).lookup x=some c):X.e.cells.lookup x=some c/\(x,NameKind.free) ∈ G.names:=by
 have p:=eR h;unfold jv at p;obtain⟨⟨a,k⟩,m,e⟩:=dH.mp (wl.mp p);obtain⟨m,hk⟩:=lQ.mp m;have t:k=.free:=by simpa using hk
 subst t;injection e with d b;subst d;obtain⟨_,w⟩:=B.fr _ m rfl;obtain⟨v,f⟩:=I.o.has a w;dsimp only at b;rw[f]at b;have r:v=c:=b;subst r;exact⟨f,m⟩
theorem BlockOk.has(B:BlockOk X G q y n)(h:(x,NameKind.free) ∈ G.names):∃c,(jv G X.e).lookup x=some c:=by unfold jv;exact ja (v:=(X.e.cells.lookup x).getD 0) (wl.mpr (dH.mpr ⟨(x,.free),lQ.mpr ⟨h,by simp⟩,rfl⟩))
theorem A0(B:BlockOk X G q y n)(I:Inv X r J H s)(C:s.heap.objs.size≤k)(m:∀b ∈ u,nO X r H b)(g:∀b ∈ u,b < s.heap.objs.size) :
  (inn X G q s H k u).Ok where
 mod:=I.o.mod
 kind:=B.kind
 glob:=I.o.glob
 blt:=I.o.blt
 above:=C
 inj:=λx a c v d=>I.o.inj x a c (B.cl I v).1 (B.cl I d).1
 has:=λx h=>by
  have p:(relabel G X.e).names.lookup x=some .cell\/(relabel G X.e).names.lookup x=some .free:=h;rcases p with h|h
  .obtain⟨i,t,e|⟨_,e⟩⟩:=df h
   .subst e;exact absurd rfl (B.cell _ t)
   .subst e;exact B.has t
  .obtain⟨i,t,e|⟨e,_⟩⟩:=df h
   .subst e;exact B.has t
   .cases e
 cab:=λx c h=>nomatch h
 hd:=I.o.hd
 frames:=I.o.frames
 stk:=.inl rfl
 exf:=λb f=>⟨aL (a_ (g b f) C),λx c h=>(m b f).2.2.2.2.1 x c (B.cl I h).1⟩
 bs:=I.bs
 bsz:=aI I.o.bsz I.sz
 noex:=λb o e f=>by
  rcases(m b f).2.2.2.1 with z|z
  .exact I.o.noex b o e z
  .exact absurd (a_ (ar (I.o.bs b o e).1) z) (cN _)
 exfs:=λb f z=>by
  rcases aH.mp (I.stkSub b z) with z|z
  .exact (m b f).2.1 z
  .exact (m b f).2.2.1 z
 funs:=I.stack
 frf:=I.stkFree
 tab:=λP w=>I.base.tbls P (I.o.tab P w)
theorem _root_.L2.Un.sameBut(u:Un fs r H H' h t)(s:cq k t Q)(C:∀b o,h.get? b=some o->b≠k):Un fs r H H' h Q where
 keep:=λb o e n a x=>s.extBut b o (C b o e) (u.keep b o e n a x)
 slot:=λb o e n a x=>by obtain⟨l,q⟩:=u.slot b o e n a x;exact⟨l,s.extBut b _ (C b o e) q⟩
 free:=u.free
 there:=λb o e x=>by obtain⟨f,q⟩:=u.there b o e x;exact⟨f,s.extBut b _ (C b o e) q⟩
 tups:=u.tups
 frzs:=u.frzs
 tbls:=u.tbls
theorem _root_.L2.ga.sameBut{P:Program}{w:World}{H:Hp}{h x:Heap}{C:Addr}(ok:ga P w H h)(n:cq C h x)(a:H C=none):ga P w H x:=λb u e=>
 (ok b u e).stay (fun c v s q=>n.extBut c v (by
  rintro rfl;rcases s with z|z
  .subst z;rw[a]at e;cases e
  .rw [a]at z;cases z) q) (λ_ q=>q) λ_ _ q=>q
inductive PIfs(X:Cx):Ab->EB->Prop where
 |none:PIfs X [] lw
 |one {c:Expr}{q:EB}:PT X c (tQ X.K q)->PIfs X [c] q
theorem Kp.bump(a:¬F p)(t:∀xs,H p≠some (.tup xs))(c:∀x u,H p≠some (.frz x (.own u))):Kp F m H F m (a7 H p o):=
 ⟨⟨[],by simp⟩,λ_ h=>h,λb u f h=>by rw[al (by rintro rfl;exact a f)];exact h,λb xs h=>by rw[al (by rintro rfl;exact t xs h)];exact h,λb x u h=>by rw[al (by rintro rfl;exact c x u h)];exact h⟩
theorem Stp.bump(s:Stp F m H F' m' H')(a:H p=none):Stp F m H F' m' (a7 H' p o) where
 pre:=s.pre
 oth:=λb u h n=>by rw[al (by rintro rfl;rw[a]at h;cases h)];exact s.oth b u h n
 frz:=s.frz
 frk:=λb u f h=>by rw[al (by rintro rfl;rw[a]at h;cases h)];exact s.frk b u f h
 tup:=λb xs h=>by rw[al (by rintro rfl;rw[a]at h;cases h)];exact s.tup b xs h
 cod:=λb x u h=>by rw[al (by rintro rfl;rw[a]at h;cases h)];exact s.cod b x u h
 trk:=λb h=>by
  by_cases e:b=p
  .subst e;rw[au];exact λz=>nomatch z
  .rw [al e];exact s.trk b h
 nf:=s.nf
 nm:=s.nm
theorem Rel.bump(r:Rel K F H m S)(e:¬F p)(n:p ∉ m)(t:∀xs,H p≠some (.tup xs))(c:∀x u,H p≠some (.frz x (.own u))):Rel K F (a7 H p o) m S:=
 r.stayK (Kp.bump e t c) (λa u s h=>by rw[al (by rintro rfl;exact n s)];exact h) (λ_ f=>.inl f) λa f=>by rw[al (by rintro rfl;exact e f)];exact r.ft a f
theorem MV:Kp F m H (λb=>F b\/b=p) m H:=⟨⟨[],by simp⟩,λ_ h=>.inl h,λ_ _ _ h=>h,λ_ _ h=>h,λ_ _ _ h=>h⟩
theorem Stp.addF(s:Stp F m H F' m' H')(x:H p=none):Stp F m H (λb=>F' b\/b=p) m' H':=
 ⟨s.pre,s.oth,fun b h=>.inl (s.frz b h),s.frk,s.tup,s.trk,fun b h=>by
  rcases h with h|h
  .exact s.nf b h
  .subst h;exact .inr (.inl x),s.nm,s.cod⟩
theorem Rel.addF(r:Rel K F H m S)(s:p ∉ m)(n:H p≠none):Rel K (λb=>F b\/b=p) H m S where
 len:=r.len
 nd:=r.nd
 obj:=λi a o e x=>(r.obj i a o e x).kp MV λu h=>h
 sep:=λi a o e x w f=>by
  rcases f with f|f
  .exact r.sep i a o e x w f
  .subst f;exact s (cx e)
 trk:=r.trk
 ft:=λa f=>by
  rcases f with f|f
  .exact r.ft a f
  .subst f;exact n
theorem _root_.L2.Inv.letGo(I:Inv X k J H s)(f:cq h s.heap t)(C:H h=none)(v:X.z.heap.objs.size≤h)(d:h≠X.e.locals)
  (w:∀x c,X.e.cells.lookup x=some c->c≠h) (u:∀p ∈ X.pn++k,p.1≠h):Inv X k J H { s with heap:=t }:=by
 have r:∀b:Addr,b ∉ [h]->b≠h:=λb m z=>m (by simp[z]);refine I.call' (s':={ s with heap:=t }) (q:=[h]) rfl ⟨λb o e _ _ a=>f.extBut b o (r b a) e,λb o e _ _ a=>⟨o.slots,f.extBut b o (r b a) e⟩,λ_ _ _ n _=>n,λb o e a=>⟨o,f.extBut b o (r b a) e⟩,λ_ _ q=>q,λ_ _ _ q=>q,λ_ q=>q⟩ (I.h.sameBut f C) I.bare λb m=>?_;have e:b=h:=by simpa using m
 subst e;exact⟨.inr v,d,w,u⟩
theorem yw(I:Nat->Shared->Prop)
  (f:∀n s,I n s->wpAny (model t w) A (pyNext it) (fun r b=>match r with
   |none=>R (.ok .next) b
   | some v=>wpAny (model t w) A (letOwnedTupleGo tg it v) (fun _ g=>wpAny (model t w) A (assign tg k v) (fun _ i=>
     wpAny (model t w) A (forIn ifs true fun c r=>if r=true then do let ok <- isTrue c k (eval c k);pure (ForInStep.yield ok) else pure (ForInStep.yield r)) (fun ok p=>
      if ok=true then wpAny (model t w) A (eval Q k) (fun x j=>
       wpAny (model t w) A (call (.builtin "list.append") [u,x]) (λ_ l=>∃m,m < n/\I m l) (notedBy (model t w) A k λe a=>R (.error e) a) j) (notedBy (model t w) A k λe a=>R (.error e) a) p
      else ∃m,m < n/\I m p) (notedBy (model t w) A k λe a=>R (.error e) a) i) (notedBy (model t w) A k λe a=>R (.error e) a) g) (notedBy (model t w) A k λe a=>R (.error e) a) b) (notedBy (model t w) A k λe a=>R (.error e) a) s)
  (n:Nat) (h:I n s):codeAny (model t w) A (.compLoop (.ListComp Q [⟨tg,iter,ifs,0⟩] G M) 0 it u k) R s:=by
 refine codeAny_loop rfl I (λn s F=>?_) n h;show wpAny _ A ((compTurn (.ListComp Q [⟨tg,iter,ifs,0⟩] G M) 0 it u k).onRaise (λx=>do noteFrame x k;theTreesLotGoes x)) _ _ s;refine wpAny_noted ?_;rw[compTurn_list];refine ac (o0 (ac (bv (f n s F) (λr b q=>?_) λ_ _ z=>z)));cases r with
 |none=>exact am q
 |some v=>
  refine ac (bv q (λ_ g y=>ac (bv y (λ_ i o=>ac (bv o (λok p d=>?_) λ_ _ z=>z)) λ_ _ z=>z)) λ_ _ z=>z);cases ok with
  |false=>exact am ⟨rfl,d⟩
  |true=>exact ac (ac (bv d (λx j H=>ac (bv H (λ_ l S=>am (am ⟨rfl,S⟩)) λ_ _ z=>z)) λ_ _ z=>z))
theorem DZ{H:Heap}{tk:Nat}(B:BlockOk X G q y n)(s:Inv X Q J I k)(C:k.heap.objs.size≤h)(f2:∀b ∈ fp,nO X Q I b)(E:∀b ∈ fp,b < k.heap.objs.size)(l:∀b o,k.heap.get? b=some o->H.get? b=some o)
  (hD:I k.heap.objs.size=none) (D:k.heap.objs.size≠h) (A:I h=none) (w:H.Ns h mC) (f:H.get? k.heap.objs.size=some { cls:=.type "list",dict:=none,data:=.seq ([]:LV).toArray }) :
  Inv (inn X G q k I h fp) [] (nP y n J) (a7 I k.heap.objs.size (.lst [])) { k with heap:=H,toks:=tk }:=by
 refine⟨A0 B s C f2 E,rfl,s.bare,Un.laid l (ai _) hD,?_,λx c e=>?_,?_,λx c e=>?_,λp hp=>absurd (show p ∈ ([]:PN) from hp) (by simp),?_,?_⟩
 .obtain⟨m0,hn0,L⟩:=s.loc;refine⟨_,w,λi x v W Z hv=>?_⟩;obtain⟨F,K,P⟩:=xb Z;have d:J.length=X.N.length:=s.len;have R:X.N[i]? = some x:=by
   rw[B.names,fw (by rw[<- d];exact P)];exact W
  have j:(relabel G X.e).names.lookup x=some .local\/(relabel G X.e).names.lookup x=some .cell\/(relabel G X.e).names.lookup x=some .free:=hv;have V:¬(relabel G X.e).names.lookup x=some .local:=λz=>by
   obtain⟨T,m,e|⟨e,_⟩⟩:=df z
   .subst e;exact absurd (B.ts _ m rfl i R) K
   .cases e
  have N:(x,NameKind.free) ∈ G.names:=by
   rcases j with z|z|z
   .exact absurd z V
   .obtain⟨T,m,e|⟨_,e⟩⟩:=df z
    .subst e;exact absurd rfl (B.cell _ m)
    .subst e;exact m
   .obtain⟨T,m,e|⟨e,_⟩⟩:=df z
    .subst e;exact m
    .cases e
  obtain⟨_,t⟩:=B.fr _ N rfl;have M:Ee X.e.scope x:=by
   rcases t with z|z
   .exact .inr (.inl z)
   .exact .inr (.inr z)
  obtain⟨u,ru,lk⟩:=L i x v R F M;refine⟨u,ru,.inr ⟨?_,?_⟩⟩
  .rcases j with z|z|z
   .exact absurd z V
   .exact .inl z
   .exact .inr z
  .rcases lk with ⟨z,_⟩|⟨_,c,ec,ic⟩
   .rcases t with a|a
    .rw [z]at a;cases a
    .rw [z]at a;cases a
   .obtain⟨c',r⟩:=B.has N;have:=(B.cl s r).1
    rw[ec]at this;cases this;obtain⟨o,g,S⟩:=ic;exact⟨c,r,o,l c o g,S⟩
 .obtain⟨v,o,g,S⟩:=s.cell x c (B.cl s e).1;exact⟨v,o,l c o g,S⟩
 .show a7 I k.heap.objs.size (.lst []) h=none;rw[al (aG D)];exact A
 .obtain⟨v,o,g,S⟩:=s.cell x c (B.cl s e).1;rw[al (aL (ar g))];exact s.freeC x c (B.cl s e).1
 .exact s.h.laid l (ai _) ⟨br _,[],0,.nil,f⟩
 .show (nP y n J).length=q.length;rw[p6,s.len,B.more]
inductive cIv(K:FG)(Y9:Cx)(F1:Aa)(m1:List Addr)(H2:Hp)(A:Addr)(tn:Nat->Heap->Prop)(fp:List Addr)(R:Nat->Nat->Lc->aC->List P->Prop)(ys:List P)(nn:Nat)(sx:Shared):Prop
 |mk (i:Nat) (J':L2.St) (F':Aa) (m':List Addr) (H':Hp) (L':Lc) (S':aC) (acc rest:List P) (xs:List V) (h0_:Inv Y9 [] J' H' sx) (h1_:tn i sx.heap) (h2_:∀b ∈ fp,H' b=none) (h3_:Stp F1 m1 H2 F' m' H') (h4_:Rel K F' H' m' S') (h5_:RL K F' H' m' J' L') (h6_:H' A=some (.lst xs)) (h7_:bg K F' H' acc xs) (h8_:acc.length≤i) (h9_:¬F' A) (ha_:A ∉ m') (hb_:R nn i L' S' rest) (hc_:acc++rest=ys):cIv K Y9 F1 m1 H2 A tn fp R ys nn sx
def Nd(K:FG)(ok:aC->Prop)(a:It)(T:List P)(F:Aa)(m:List Addr)(H:Hp):Prop:=∀B s I S,Stp F m H B s I->Rel K B I s S->ok S ->
 (∀(i:Nat) v,T[i]? = some v->a.go i I/\∀x h,a.yld i I x h->∃e,Grow B I e h/\RP K e h v x)/\a.stop T.length I
def ln(X:Cx)(t iter:Expr)(f:EV)(y:List Nat)(n:Nat)(g:i3)(c:EB)(fe:EV):Prop:=∃w,PI X t iter w/\∀J H F m L S d a,Rel X.K F H m S->RL X.K F H m J L->f L S=some (d,a) ->
 ∃ok T x s,d=.lst s/\few T=true/\w J H (λe H1=>∃C h,Stp F m H C h H1/\Rel X.K C H1 h x/\Nd X.K ok e T C h H1)/\fU ok g c fe T (nP y n L) x=some (s,a)
theorem J1(i:PI X Q iter (tI X.K u)):ln X Q iter (cJ u y n g t fe) y n g t fe:=by
 refine⟨_,i,λJ H F m L S d a r h q=>?_⟩;obtain⟨T,x,s,q⟩:=ah q;split at q;case isFalse=>cases q
 rename_i f;obtain⟨j,e,k,q⟩:=ah q;cases q;exact⟨λ_=>True,T,x,j,rfl,f,⟨F,m,L,S,T,x,r,h,s,λz C c H1 w v b=>⟨C,c,w,v,λB p I a l _ _=>b B p I l⟩⟩,by rw[nE];exact k⟩
theorem iY 
  (B:BlockOk X G q y n) (hcalm:X.c=true)
  (hi:PI X tg iter wi) (hg:∀s H h D,PG (inn X G q s H h D) tg (gT X.K g)) (hc:∀s H h D,PIfs (inn X G q s H h D) ifs fc) (he:∀s H h D,Y (inn X G q s H h D) elt (tV X.K fe))
  (hclos:closureFor G X.e=pure (jv G X.e)) (hs:∀x,foldedSetIterable iter X.e x=pure x)
  (a:Inv X pins J H s) (r:Rel X.K F H m S) (l:RL X.K F H m J L) (hw:wi J H λJ9 H1=>∃C m1,Stp F m H C m1 H1/\Rel X.K C H1 m1 S1/\Nd X.K ok J9 T C m1 H1) (hfew:few T=true) (e2:fU ok g fc fe T (nP y n L) S1=some (ds,S2))
  (ew:∀p F' m' H' sx h xs,Inv X pins J H' sx->Stp F m H F' m' H'->Rel X.K F' H' m' S2->H p=none/\¬F' p/\p ∉ m'/\H' p=some (.lst xs)/\bg X.K F' H' ds xs->H' h=none->X.z.heap.objs.size≤h->h≠X.e.locals->(∀x c,X.e.cells.lookup x=some c->c≠h)->(∀p ∈ X.pn++pins,p.1≠h) ->
   (∃mC,sx.heap.Ns h mC)->compPost (model X.p X.w) X.A X.xe use Q (.ref p) h (.ok .next) sx) :
  wpAny (model X.p X.w) X.A (comprehension (.ListComp elt [⟨tg,iter,ifs,0⟩] G M) G X.e p2 (newList []) false (eval iter X.e) use) Q X.xe s:=by
 refine wpAny_comprehension_free (use:=use) rfl hs hclos B.kind B.loc (bB (hi pins s J H _ a hw) λxv sA hA=>bB hA λitv P h2=>?_);obtain⟨it,D,tn,J9,I,rfl,I2,k,st2,f2,C,m1,s1,r1,itp⟩:=h2;have hfp:∀b ∈ D,b < P.heap.objs.size:=λb R=>by obtain⟨o,e,_⟩:=k.obj _ _ st2 b R;exact ar e
 refine mu ?_ (by show 0≤sizeLine;exact br _);refine w5 B.cell (by intro t hy;simp at hy) (λh1 hns1 Z=>?_) B.kind;dsimp only at hns1 Z ⊢;have hD:I P.heap.objs.size=none:=I2.h.fresh (ai _);generalize hH2:P.heap.push { cls:=.type "list",dict:=none,data:=.seq ([]:LV).toArray }=K at hns1 Z ⊢;have hC:K.objs.size=P.heap.objs.size+1:=by rw[<- hH2,jD]
 have A:P.heap.objs.size≤K.objs.size:=by rw[hC];exact e_ _
 have old:∀b o,P.heap.get? b=some o->h1.get? b=some o:=λb o e=>Z.extBut b o (aL (a_ (ar e) A)) (aE _ (hH2 ▸ aE _ e));have hDC:P.heap.objs.size≠K.objs.size:=by rw[hC];exact aL (c_ _)
 have accO:h1.get? P.heap.objs.size=some { cls:=.type "list",dict:=none,data:=.seq ([]:LV).toArray }:=Z.extBut _ _ hDC (aE _ (hH2 ▸ aS _ rfl));have hCn:I K.objs.size=none:=I2.h.fresh A;have hCcell:∀x c,X.e.cells.lookup x=some c->c≠K.objs.size:=λx c e z=>by obtain⟨v,o,ho,_⟩:=I2.cell x c e;exact absurd (ar ho) (pC.mpr (by rw[z];exact A))
 have hCloc:K.objs.size≠X.e.locals:=bf (a_ I2.lt A);have hCpin:∀p ∈ X.pn++pins,p.1≠K.objs.size:=λp hp z=>absurd (ar (I2.pin p hp).1) (pC.mpr (by rw[z];exact A));have I3:=DZ (tk:=P.toks+([]:List (Str×Value)).length) B I2 A f2 hfp old hD hDC hCn hns1 accO;have okX:=A0 (k:=K.objs.size) B I2 A f2 hfp;have fpH:∀{H':Hp},(∀b ∈ D,H' b=none)->∀b ∈ D,nO (inn X G q P I K.objs.size D) [] H' b:=λhn b R=>
  ⟨hn b R,aL (a_ (hfp b R) A),okX.exfs b R,.inl R,(okX.exf b R).2,λp hp=>absurd (show p ∈ ([]:PN) from hp) (by simp)⟩
 have tn1:tn 0 h1:=k.keep _ _ _ st2 λb R o e=>old b o e;have loop:∀s3:Shared,s3={ P with heap:=h1,toks:=P.toks+([]:List (Str×Value)).length } ->
   codeAny (model X.p X.w) X.A (.compLoop (.ListComp elt [⟨tg,iter,ifs,0⟩] G M) 0 (.ref it) (.ref P.heap.objs.size) (compEnvC G (jv G X.e) K.objs.size X.e))
    (compPost (model X.p X.w) X.A X.xe use Q (.ref P.heap.objs.size) K.objs.size) s3:=by
  rintro s3 rfl;refine yw (cIv X.K (inn X G q P I K.objs.size D) C m1 I P.heap.objs.size tn D (λnn i L' N j=>nn=T.length-i/\i≤T.length/\fU ok g fc fe (T.drop i) L' N=some (j,S2)) ds) ?_ T.length ?_
  .rintro nn sx ⟨i,J',F',m',H',L',N,acc,j,xs,I',tn',fr',st',r',l',hacc,ra,hal,nF,nm,⟨rfl,hi',E⟩,rfl⟩;by_cases hlt:i < T.length
   .have hv:T[i]? = some T[i]:=by simp[hlt]
    rw[ww hlt]at E;unfold fU at E;split at E;case isFalse=>cases E
    rename_i hok;obtain⟨hgo,_⟩:=itp F' m' H' N st' r' hok;obtain⟨hgo1,hy⟩:=hgo i _ hv;refine bv (k.item (inn X G q P I K.objs.size D) rfl rfl rfl hcalm i [] sx J' H' (λ_ _=>False) I' (fpH fr') tn' hgo1) (λrr sy hr=>?_) (λ_ _ f=>f.elim);obtain⟨u,rfl,hr⟩:=hr;refine bv hr (λ_ sz hz=>?_) (λ_ _ f=>f.elim);obtain⟨x,H3,I4,rx,yl,tn4,fr4⟩:=hz;obtain⟨F3,gr,p3⟩:=hy x H3 yl;have st4:Stp C m1 I F3 m' H3:=st'.trans gr.stp;have r4:=r'.grow gr;have l4:=l'.mono (gr.stp (m:=m'));have acc4:=gr.keep _ _ hacc;have nF4:¬F3 P.heap.objs.size:=λz=>by
     rcases gr.nf _ z with z|⟨z,_⟩
     .exact nF z
     .rw [hacc]at z;cases z
    have I4':=I4.pinned (fpH fr4) (k.obj _ _ tn4);have back:∀{J7:L2.St}{H7:Hp}{s7:Shared},Inv (inn X G q P I K.objs.size D) ([]++kF D sz.heap) J7 H7 s7->tn (i+1) s7.heap/\∀b ∈ D,H7 b=none:=λ{J7 H7 s7} I7=>
     ⟨k.keep _ _ _ tn4 λb R o e=>(I7.pin (b,o) (dL _ (dL _ (gM R e)))).1,λb R=>by obtain⟨o,e,dd⟩:=k.obj _ _ tn4 b R;exact(I7.pin (b,o) (dL _ (dL _ (gM R e)))).2.1⟩
    cases eg:g T[i] L' with
    |none=>rw[eg]at E;cases E
    |some L1=>
     rw[eg]at E;dsimp only at E;obtain⟨kk,S5,e5,E⟩:=ah E;refine bv (hg P I K.objs.size D _ sz J' H3 x u (λJ5 H5=>H5=H3/\RL X.K F3 H3 m' J5 L1) I4' rx ⟨F3,m',L',T[i],L1,l4,p3,eg,λJ5 l5=>⟨rfl,l5⟩⟩) (λ_ s5 h5=>?_) (λ_ _ f=>f.elim);obtain⟨J5,H5,I5,rfl,l5⟩:=h5;have test:wpAny (model X.p X.w) X.A (forIn ifs true λc r=>if r=true then do let ok <- isTrue c (compEnvC G (jv G X.e) K.objs.size X.e) (eval c (compEnvC G (jv G X.e) K.objs.size X.e));pure (ForInStep.yield ok) else pure (ForInStep.yield r))
       (λok s6=>ok=kk/\∃V m6 H6,Inv (inn X G q P I K.objs.size D) ([]++kF D sz.heap) J5 H6 s6/\Stp F3 m' H5 V m6 H6/\Rel X.K V H6 m6 S5) (λ_ _=>False) s5:=by
      have hcc:=hc P I K.objs.size D;cases hcc with
      |none=>cases e5;exact wpAny_tests_nil ⟨rfl,F3,m',H5,I5,.refl,r4⟩
      |one hq=>refine wpAny_tests_one (bv (hq _ s5 J5 H5 (λb H6=>b=kk/\∃V m6,Stp F3 m' H5 V m6 H6/\Rel X.K V H6 m6 S5) I5 ⟨F3,m',L1,N,kk,S5,r4,l5,e5,λV m6 H6 s6 r6=>⟨rfl,V,m6,s6,r6⟩⟩) (λb s6 h6=>?_) λ_ _ f=>f);obtain⟨H6,I6,rfl,V,m6,zK,r6⟩:=h6;exact⟨rfl,V,m6,H6,I6,zK,r6⟩
     refine bv test (λok s6 h6=>?_) (λ_ _ f=>f.elim);obtain⟨rfl,V,m6,H6,I6,zK,r6⟩:=h6;have W:=zK.oth _ _ acc4 nm;have nm6:P.heap.objs.size ∉ m6:=λz=>by
      rcases zK.nm _ z with z|z
      .exact nm z
      .rw [acc4]at z;cases z
     have nF6:¬V P.heap.objs.size:=λz=>by
      rcases zK.nf _ z with z|z|z
      .exact nF4 z
      .rw [acc4]at z;cases z
      .exact nm z
     have ra6:=bg.mono zK (ra.grow gr);have l6:=l5.mono zK;cases ok with
     |false=>rw[ag aY]at E ⊢;obtain⟨t7,f7⟩:=back I6;exact⟨T.length-(i+1),by lia,i+1,J5,V,m6,H6,L1,S5,acc,j,xs,I6.pins_of λp hp=>absurd hp (by simp),t7,f7,st4.trans zK,r6,l6,W,ra6,v5 hal,nF6,nm6,⟨rfl,hlt,E⟩,rfl⟩
     |true=>
      rw[ae rfl]at E ⊢;obtain⟨t,S8,e8,E⟩:=ah E;obtain⟨zs,S9,e9,E⟩:=ah E;cases E;refine bv (he P I K.objs.size D _ s6 J5 H6 (λv8 H8=>∃F8 m8,Stp V m6 H6 F8 m8 H8/\Rel X.K F8 H8 m8 S8/\RP X.K F8 H8 t v8) I6 ⟨V,m6,L1,S5,t,S8,r6,l6,e8,λv8 F8 m8 H8 s8 r8 p8=>⟨F8,m8,s8,r8,p8⟩⟩) (λu8 s8 h8=>?_) (λ_ _ f=>f.elim);obtain⟨v8,H8,I8,rv8,F8,m8,st8,r8,p8⟩:=h8;have acc8:=st8.oth _ _ W nm6;have nm8:P.heap.objs.size ∉ m8:=λz=>by
       rcases st8.nm _ z with z|z
       .exact nm6 z
       .rw [W]at z;cases z
      have nF8:¬F8 P.heap.objs.size:=λz=>by
       rcases st8.nf _ z with z|z|z
       .exact nF6 z
       .rw [W]at z;cases z
       .exact nm6 z
      have ra8:=bg.mono st8 ra6;have nt8:∀zs,H8 P.heap.objs.size≠some (.tup zs):=λzs z=>by rw[acc8]at z;cases z
      have nc8:∀x u,H8 P.heap.objs.size≠some (.frz x (.own u)):=λx u z=>by rw[acc8]at z;cases z
      have hl8:xs.length < sizeLine:=by have h9:T.length≤1000000:=aD hfew;rw[<- ra8.length];exact a_ (gE hal hlt) (aI h9 (by decide))
      refine bv (oD (X:=inn X G q P I K.objs.size D) _ s8 J5 H8 (.ref P.heap.objs.size) [v8] (.ref P.heap.objs.size) [u8] (λ_ H9=>H9=a7 H8 P.heap.objs.size (.lst (xs++[v8]))) I8 rfl (.cons rv8 .nil) ⟨_,xs,v8,rfl,rfl,acc8,hl8,rfl⟩) (λ_ s9 h9=>?_) (λ_ _ f=>f.elim);obtain⟨_,H9,I9,_,rfl⟩:=h9;obtain⟨t9,f9⟩:=back I9;have kb:Kp F8 m8 H8 F8 m8 (a7 H8 P.heap.objs.size (.lst (xs++[v8]))):=Kp.bump nF8 nt8 nc8;have st9:Stp C m1 I F8 m8 (a7 H8 P.heap.objs.size (.lst (xs++[v8]))):=(st4.trans (zK.trans st8)).bump hD;have l9:RL X.K F8 (a7 H8 P.heap.objs.size (.lst (xs++[v8]))) m8 J5 L1:=⟨l6.len,λd dd e=>by obtain⟨v,e1,rr⟩:=(l6.mono st8).at' d dd e;exact⟨v,e1,RD.kp kb rr⟩⟩
      exact⟨T.length-(i+1),by lia,i+1,J5,F8,m8,_,L1,S8,acc++[t],zs,xs++[v8],I9.pins_of fun p hp=>absurd hp (by simp),t9,f9,st9,r8.bump nF8 nm8 nt8 nc8,l9,au,
       bg.kp kb (ra8.append ⟨v8,[],rfl,p8,rfl⟩),by rw[bw];exact Nat.succ_le_succ hal,nF8,nm8,⟨rfl,hlt,e9⟩,by simp⟩
   .have e:i=T.length:=by lia
    subst e;rw[pR]at E;unfold fU at E;split at E;case isFalse=>cases E
    rename_i hok;cases E;obtain⟨_,hstop⟩:=itp F' m' H' _ st' r' hok;refine bv (k.done (inn X G q P I K.objs.size D) rfl rfl rfl hcalm T.length [] sx J' H' (λ_ _=>False) I' (fpH fr') tn' hstop) (λrr sy hr=>?_) (λ_ _ f=>f.elim);obtain⟨rfl,I5⟩:=hr;rw[b9] at *
    have Iout:Inv X pins J H' sy:=I2.call' (q:=D) I5.os I5.base I5.h I5.bare λb R=>⟨(f2 b R).2.2.2.1,(f2 b R).2.1,(f2 b R).2.2.2.2.1,(f2 b R).2.2.2.2.2⟩;have hD0:H P.heap.objs.size=none:=by
     cases w:H P.heap.objs.size with
     |none=>rfl
     |some o=>exact absurd hD (s1.trk _ (by rw[w];exact λz=>nomatch z))
    have hCH:H' K.objs.size=none:=I5.free;obtain⟨mC,hmC,_⟩:=I5.loc;exact ew P.heap.objs.size F' m' H' sy K.objs.size xs Iout (s1.trans st') r' ⟨hD0,nF,nm,hacc,ra⟩ hCH (aI I2.sz A) hCloc hCcell hCpin ⟨mC,hmC⟩
  .exact⟨0,_,C,m1,_,nP y n L,S1,[],ds,[],I3,tn1,λb R=>by rw[al (aL (hfp b R))];exact(f2 b R).1,(bj hD).stp,r1.grow (bj hD),((l.mono s1).mono (bj hD).stp).up y n,au,rfl,br _,r1.fresh_F hD,r1.fresh_m hD,⟨rfl,br _,by rw[pO];exact e2⟩,rfl⟩
 exact codeAny_compStart_list (loop _ rfl) (k.self X.A 0 _ _ _ tn1 (loop _ rfl))
theorem sU(l:Stp F m H F' m' H')(r:Rel K F' H' m' S)(f:H p=none/\¬F' p/\p ∉ m'/\H' p=some (.lst xs)/\bg K F' H' k xs) :
  Stp F m H (λb=>F' b\/b=p) m' H'/\Rel K (λb=>F' b\/b=p) H' m' S/\RP K (λb=>F' b\/b=p) H' (.lst k) (.ref p):=by
 obtain⟨x,n,nm,h,a⟩:=f;exact⟨l.addF x,r.addF nm (by rw[h];exact λz=>nomatch z),_,xs,rfl,⟨.inr rfl,h⟩,bg.kp (m:=m') MV a⟩
theorem Ia(B:BlockOk X G q y n)(c:X.c=true)
  (W:ln X tg iter f y n g fc fe) (hg:∀s H C e,PG (inn X G q s H C e) tg (gT X.K g)) (Z:∀s H C e,PIfs (inn X G q s H C e) u fc) (he:∀s H C e,Y (inn X G q s H C e) t (tV X.K fe))
  (o:closureFor G X.e=pure (jv G X.e)) (hs:∀x,foldedSetIterable iter X.e x=pure x:=by intro _;rfl) :
  Y X (.ListComp t [⟨tg,iter,u,0⟩] G M) (tV X.K f):=by
 intro i s J H Q I ⟨F,m,L,S,d,N,r,h,a,k⟩;rw[wE];obtain⟨wi,hi,W⟩:=W;obtain⟨ok,T,S1,ds,rfl,w,hw,P⟩:=W J H F m L S d N r h a;refine iY B c hi hg Z he o hs I r h hw w P λp F' m' H' sx C xs v l r' f V A D E R hz=>?_
 obtain⟨mC,b⟩:=hz;obtain⟨j,z,K⟩:=sU l r' f;exact⟨mC,b,λh' sb=>⟨.ref p,H',v.letGo sb V A D E R,rfl,k _ _ m' H' j z K⟩⟩
@[simp] def jb(f:EV)(L:Lc)(S:aC):oo:=aZ (f L S) λv h=>match v with
 | .lst d=>some (.ref h.length,h++[.lst (d.map .p)])
 |_=>none
theorem sT(l:Stp F m H F' m' H')(r:Rel K F' H' m' S)(f:H p=none/\¬F' p/\p ∉ m'/\H' p=some (.lst xs)/\bg K F' H' Q xs) :
  Stp F m H F' (m'++[p]) H'/\Rel K F' H' (m'++[p]) (S++[.lst (Q.map .p)]):=by
 obtain⟨q,g,nm,c,j⟩:=f;have d:Kp F' m' H' F' (m'++[p]) H':=⟨⟨[p],rfl⟩,λ_ h=>h,λ_ _ _ h=>h,λ_ _ h=>h,λ_ _ _ h=>h⟩;have lt:∀{i:Nat}{a:Addr},(m'++[p])[i]? = some a->i < m'.length\/(i=m'.length/\a=p):=λ{i a} e=>by
  rcases v4 i m'.length with h|h
  .exact .inl h
  .rw [bb h]at e;have v:i-m'.length=0:=by
    rcases v6 (i-m'.length) with z|z
    .exact z
    .rw [lU (by simp;lia)]at e;cases e
   rw[v]at e;exact .inr ⟨by lia,by simpa using e.symm⟩
 refine⟨⟨?_,l.oth,l.frz,l.frk,l.tup,l.trk,l.nf,λb t=>?_,l.cod⟩,⟨by rw[bw,bw,r.len];rfl,?_,λi a o s x=>?_,λi a o s x w=>?_,λa k=>?_,r.ft⟩⟩
 .obtain⟨n,e⟩:=l.pre;exact⟨n++[p],by rw[e,iN]⟩
 .rcases dJ.mp t with t|t
  .exact l.nm b t
  .have:b=p:=by simpa using t
   subst this;exact .inr q
 .rw [jJ];refine⟨r.nd,by simp,λa k b t e=>?_⟩;have:b=p:=by simpa using t
  subst this;subst e;exact nm k
 .rcases lt s with h|⟨h,rfl⟩
  .rw [bu h]at s;rw[bu (by rw[<- r.len];exact h)]at x;exact(r.obj i a o s x).kp d λu z=>z
  .subst h;rw[r.len,bb (ai _)]at x;simp at x;subst x;exact⟨xs,c,bJ.ofP j⟩
 .rcases lt s with h|⟨h,rfl⟩
  .rw [bu h]at s;rw[bu (by rw[<- r.len];exact h)]at x;exact r.sep i a o s x w
  .exact g
 .rcases dJ.mp k with k|k
  .exact r.trk a k
  .have:a=p:=by simpa using k
   subst this;rw[c];exact λz=>nomatch z
theorem E7(B:BlockOk X G q y n)(c:X.c=true)
  (W:ln X tg iter f y n g fc fe) (hg:∀s H C e,PG (inn X G q s H C e) tg (gT X.K g)) (hc:∀s H C e,PIfs (inn X G q s H C e) u fc) (he:∀s H C e,Y (inn X G q s H C e) t (tV X.K fe))
  (o:closureFor G X.e=pure (jv G X.e)) (hs:∀x,foldedSetIterable iter X.e x=pure x:=by intro _;rfl) :
  Y X (.ListComp t [⟨tg,iter,u,0⟩] G M) (tE X.K (jb f)):=by
 intro i s J H Q I ⟨F,m,L,S,d,N,r,h,a,k⟩;rw[wE];obtain⟨v,K,D,a⟩:=ah a;obtain⟨wi,hi,W⟩:=W;obtain⟨ok,T,S3,ds,rfl,w,hw,E⟩:=W J H F m L S v K r h D;cases a;refine iY B c hi hg hc he o hs I r h hw w E λp F' m' H' sx C xs z l j f hC R V Z h3 hz=>?_
 obtain⟨mC,b⟩:=hz;obtain⟨P,A⟩:=sT l j f;refine⟨mC,b,λh' sb=>⟨.ref p,H',z.letGo sb hC R V Z h3,rfl,k _ F' _ H' P A ⟨p,rfl,?_⟩⟩⟩;rw[<- j.len,bb (ai _)];simp
theorem HM(i:Nat)(hN:X.N.Nodup)(B:BlockOk X G q y n)(c:X.c=true)
  (W:ln X tg iter f y n g fc fe) (hg:∀s H C w,PG (inn X G q s H C w) tg (gT X.K g)) (hc:∀s H C w,PIfs (inn X G q s H C w) u fc) (he:∀s H C w,Y (inn X G q s H C w) t (tV X.K fe))
  (o:closureFor G X.e=pure (jv G X.e)) (V:swapsWith (.ListComp t [⟨tg,iter,u,0⟩] G M) (some (.Name x px)) spos.line X.e=pure true:=by rfl)
  (hs:∀x,foldedSetIterable iter X.e x=pure x:=by intro _;rfl) (E:X.N[i]? = some x:=by rfl) (hx:Loc X.e.scope x:=by first|exact Or.inl rfl|exact Or.inr rfl)
  (hf:X.fn x=true\/X.e.scope.names.lookup x=some .local:=by first|exact .inl rfl|exact .inr rfl|assumption) :
  PS X (.Assign [.Name x px] (.ListComp t [⟨tg,iter,u,0⟩] G M) spos) (h_ X.K (aF i (eV f))):=by
 intro P s J H D I ⟨F,m,L,S,fl,L',N,r,h,b,k⟩;obtain⟨d,S1,e1,b⟩:=ah b;cases b;obtain⟨v,S2,e2,e3⟩:=ah e1;cases e3;rw[yM _ _ _ _ V];refine ac (o0 (ac ?_));show wpAny _ _ (do let _ <- comprehension (.ListComp t [⟨tg,iter,u,0⟩] G M) G X.e _ (newList []) false (eval iter X.e) (some (assign (.Name x px) X.e))) _ _ s;obtain⟨wi,hi,W⟩:=W;obtain⟨ok,T,S3,ds,rfl,z,hw,e4⟩:=W J H F m L S v _ r h e2;refine ac (bv (iY (use:=some (assign (.Name x px) X.e)) (Q:=λ_ Z=>SP X P D .next Z) B c hi hg hc he o hs I r h hw z e4 λp F' m' H' sx C xs I' FA r0 f hC h0 h1 h2 h3 hz=>?_) (λ_ Z hq=>am (am hq)) λ_ _ e=>e);obtain⟨mC,R⟩:=hz;obtain⟨l,r',rp⟩:=sU FA r0 f;refine tL (kB I' hN E hx (v:=.ref p) rfl (λZ A K=>?_) hf);refine⟨mC,?_,λh' sb=>⟨_,H',A.letGo sb hC h0 h1 h2 h3,k _ _ m' H' l r' ((h.mono l).set (d:=.p (.lst ds)) rp i)⟩⟩;obtain⟨a,sbA,j⟩:=K;refine R.sameBut sbA ?_;rcases j with j|j
 .rw [j];exact h1
 .exact aG (h2 x a j)
end
end Ev
namespace Ev
open PySem PySem.Spec PyProof.Rows L2
section
variable{X:Cx}{a b e:Expr}{es:Ab}{C t:EV}{fs:ki}{N p:Pos}
noncomputable def dj:P->Option P
 | .int i=>some (.int (-i))
 |_=>none
theorem Lm(f:Y X a (tV X.K C)):Y X (.UnaryOp .USub a N) (tV X.K (kl dj C)):=(IX Ff f).imp' λJ H Q z=>by
 obtain⟨F,m,L,S,d,t,r,l,q,k⟩:=z;obtain⟨x,w,n,q⟩:=ah q;cases x with
 |int i=>cases q;exact⟨F,m,L,S,_,_,r,l,n,λv h b e s c p=>⟨i,p,k _ h b e s c rfl⟩⟩
 |_=>cases q
noncomputable def iF:List P->Option P
 | [.int i,.int j]=>some (.int (if j > i then j else i))
 |_=>none
noncomputable def iD:List P->Option P
 | [.int i,.int j]=>some (.int (if j < i then j else i))
 |_=>none
noncomputable def nI:List P->Option P
 | [.int i]=>some (.int i)
 | [.bl b]=>some (.int (if b then 1 else 0))
 |_=>none
theorem FK{K:FG}{F:Aa}{H:Hp}{d h:P}{xs:List V}(r:bg K F H [d,h] xs):∃x y,xs=[x,y]/\RP K F H d x/\RP K F H h y:=by obtain⟨x,k,rfl,p,e⟩:=r;obtain⟨y,s,rfl,a,n⟩:=e;cases (show s=[] from n);exact⟨x,y,rfl,p,a⟩
theorem uj{K:FG}{F:Aa}{H:Hp}{d:P}{xs:List V}(r:bg K F H [d] xs):∃x,xs=[x]/\RP K F H d x:=by obtain⟨x,h,rfl,p,a⟩:=r;cases (show h=[] from a);exact⟨x,rfl,p⟩
theorem D5(c:X.c=true):cm X (.builtin "max") (rC X.K iF):=by
 intro B s J H xs u Q I r h;obtain⟨F,n,d,f,e,q,k⟩:=h;unfold iF at q;split at q
 .cases q;obtain⟨x,y,rfl,p,a⟩:=FK e;exact yA c B s J H _ u Q I r ⟨_,_,by rw[show x=_ from p,show y=_ from a],k _ F H .refl rfl⟩
 .cases q
theorem D4(c:X.c=true):cm X (.builtin "min") (rC X.K iD):=by
 intro B s J H xs u Q I r h;obtain⟨F,n,d,f,e,q,k⟩:=h;unfold iD at q;split at q
 .cases q;obtain⟨x,y,rfl,p,a⟩:=FK e;exact yz c B s J H _ u Q I r ⟨_,_,by rw[show x=_ from p,show y=_ from a],k _ F H .refl rfl⟩
 .cases q
theorem D6:cm X (.type "int") (rC X.K nI):=by
 intro B s J H xs u Q I r h;obtain⟨F,e,d,f,a,q,k⟩:=h;unfold nI at q;split at q
 .cases q;obtain⟨x,rfl,p⟩:=uj a;exact oU B s J H _ u Q I r (.inl ⟨_,by rw[show x=_ from p],k _ F H .refl rfl⟩)
 .cases q;obtain⟨x,rfl,p⟩:=uj a;exact oU B s J H _ u Q I r (.inr ⟨_,by rw[show x=_ from p],k _ F H .refl rfl⟩)
 .cases q
theorem HR(g:Gl X "max")(m:X.g "max"=none)(a:PA X (e::es) (lq X.K fs))(c:X.c=true:=by rfl)
  (x:starEach (e::es) X.e=(false,eval e X.e)::starEach es X.e:=by rfl) (h:(backTo N (starEach es X.e)).any (·.1)=false:=by rfl):Y X (.Call (.Name "max" p) (e::es) [] N) (tV X.K (aJ iF fs)):=t5 (D5 c) g m Cp a (by decide) (by decide) x h
theorem HQ(g:Gl X "min")(m:X.g "min"=none)(a:PA X (e::es) (lq X.K fs))(c:X.c=true:=by rfl)
  (x:starEach (e::es) X.e=(false,eval e X.e)::starEach es X.e:=by rfl) (h:(backTo N (starEach es X.e)).any (·.1)=false:=by rfl):Y X (.Call (.Name "min" p) (e::es) [] N) (tV X.K (aJ iD fs)):=t5 (D4 c) g m Cq a (by decide) (by decide) x h
noncomputable def Bl:EE:=λ_ S=>some (.ref S.length,S++[.dct [] []])
theorem zn:Y X (.Dict [] [] N) (tE X.K Bl):=Ah.imp' λJ H Q z=>by obtain⟨F,m,L,S,d,x,r,l,q,k⟩:=z;cases q;intro p h;refine k (.ref p) F (m++[p]) _ (bH h) (r.own h ⟨[],au,rfl,rfl⟩) ⟨p,rfl,?_⟩;rw[<- r.len,bb (ai _)];simp
noncomputable def sM(k:cn)(v:D):List cn->List D->List cn×List D
 |h::s,w::x=>if h=k then (h::s,v::x) else (h::(sM k v s x).1,w::(sM k v s x).2)
 |_,_=>([k],[v])
noncomputable def qu(d:D)(S:aC):Option (Nat×List cn×List D):=match d with
 | .ref i=>match S[i]? with
  |some (.dct k T)=>some (i,k,T)
  |_=>none
 |_=>none
theorem qt(h:qu v S=some (i,u,T)):v=.ref i/\S[i]? = some (.dct u T):=by
 unfold qu at h;split at h
 .split at h
  .rename_i e;cases h;exact⟨rfl,e⟩
  .cases h
 .cases h
def zT(o:EE)(k v:EV):ES:=λL S=>aZ (v L S) λy x=>aZ (o L x) λd a=>aZ (k L a) λz h=>match qu d h,di z with
 |some (i,s,T),some e=>if (s.Nodup/\few s=true) then some (.nx,L,h.set i (.dct (sM e (.p y) s T).1 (sM e (.p y) s T).2)) else none
 |_,_=>none
theorem oz{K:FG}{F:Aa}{H:Hp}{m:List Addr}{k:cn}{y:D}{u:V}(b:RD K F H m y u):∀{v:List (cn×V)}{s:List D},(v.map (·.1)).Nodup->bJ K F H m s (v.map (·.2)) ->
  (putK v k u).map (·.1)=(sM k y (v.map (·.1)) s).1/\bJ K F H m (sM k y (v.map (·.1)) s).2 ((putK v k u).map (·.2))
 | [],s,_,r=>by have:s=[]:=fx r.length;subst this;exact⟨rfl,u,[],rfl,b,rfl⟩
 |(h,w)::v,[],_,r=>by have:=r.length;simp at this
 |(h,w)::v,d::s,g,r=>by
  obtain⟨x,E,e,C,i⟩:=r;rw[az]at e g;injection e with j o;subst j;subst o;obtain⟨t,p⟩:=bN.mp g;simp only[az,sM];by_cases hk:h=k
  .subst hk;rw[ae rfl];have n:putK ((h,w)::v) h u=(h,u)::v:=by
    unfold putK;rw[ae (by simp)];rw[az,ae rfl];congr 1;have:∀l:List (cn×V),h ∉ l.map (·.1)->l.map (λa=>if a.1=h then (a.1,u) else a)=l:=by
     intro l;induction l with
     |nil=>intro _;rfl
     |cons q l B=>
      intro f;rw[az]at f;have S:¬q.1=h:=λz=>f (by rw[<- z];exact aV)
      rw[az,ag S,B λz=>f (aW _ z)]
    exact this v t
   rw[n];exact⟨rfl,u,_,rfl,b,i⟩
  .rw [ag hk];obtain⟨P,A⟩:=oz b p i;have n:putK ((h,w)::v) k u=(h,w)::putK v k u:=by
    unfold putK;rw[cw,aU (show ¬(h,w).1=k from hk),iR];by_cases c:(v.any λa=>decide (a.1=k))=true
    .rw [ae c,ae c,az,ag (show ¬(h,w).1=k from hk)]
    .rw [ag c,ag c];rfl
   rw[n,az,az,P];exact⟨rfl,w,_,rfl,C,A⟩
theorem K6{o i g:Expr}{I:EE}{k z:EV}{G:Pos}(hu:X.A.units+1 < cLine)(ho:Y X o (tE X.K I))(hi:Y X i (tV X.K k))(hv:Y X g (tV X.K z))(hs:swapsWith g (some (.Subscript o i G)) N.line X.e=pure false:=by rfl) :
  PS X (.Assign [.Subscript o i G] g N) (h_ X.K (zT I k z)):=(xl hu ho hi hv hs).imp' λD J H hz=>by
 obtain⟨F,m,L,S,fl,L',S',r,l,q,h⟩:=hz;obtain⟨y,M,e1,q⟩:=ah q;obtain⟨d,Q,e2,q⟩:=ah q;obtain⟨e,R,e3,q⟩:=ah q;refine⟨F,m,L,S,y,M,r,l,e1,λv E m1 H1 p r1 p1=>?_⟩;refine⟨E,m1,L,M,d,Q,r1,l.mono p,e2,λx F2 m2 H2 u r2 p2=>?_⟩;refine⟨F2,m2,L,Q,e,R,r2,(l.mono p).mono u,e3,λw f c b K C p3=>?_⟩;cases A:qu d R with
 |none=>rw[A]at q;cases q
 |some t=>
  obtain⟨j,ks,T⟩:=t;rw[A]at q;cases P:di e with
  |none=>rw[P]at q;cases q
  |some n=>
   rw[P]at q;dsimp only at q;split at q
   .rename_i Z;cases q;obtain⟨rfl,es⟩:=qt A;obtain⟨a,rfl,B⟩:=RD.mono K p2;obtain⟨s,W,hk,rs⟩:=C.obj j a _ B es;subst hk;have pv:RD X.K f b c (.p y) v:=RD.mono K (RD.mono u (show RD X.K E H1 m1 (.p y) v from p1));obtain⟨h1,h2⟩:=oz (k:=n) pv Z.1 rs;cases (eS P p3);have nt:∀zs,b a≠some (.tup zs):=λzs e=>by rw[W]at e;cases e
    have st:Stp f c b f c (a7 b a (.dK (putK s n v))):=cS C B es trivial nt;have hl:s.length < sizeLine:=by have V:(s.map (·.1)).length≤1000000:=aD Z.2;rw[a8]at V;exact gE V (by decide)
    refine⟨a,_,rfl,tf.k W hl,?_⟩;exact h J f c _ (p.trans (u.trans (K.trans st))) (C.set B es trivial nt ⟨_,au,h1,bJ.mono st h2⟩) (((l.mono p).mono u).mono (K.trans st))
   .cases q
end
section
variable{X:Cx}{a b c e:Expr}{es:Ab}{C t r:EV}{fs:ki}{N p:Pos}
abbrev uR:P->P->Option P:=M5
theorem Jn(_:X.A.units+1 < cLine):ly X (compareOp .Eq) uR:=Mb
@[simp] def iW(a:EV)(L:Lc)(S:aC):xW:=aZ (a L S) λv h=>match v with
 | .lst xs=>some (xs,h)
 | .ro xs=>some (xs,h)
 | .tup xs=>some (xs,h)
 |_=>none
theorem iS{G iter:Expr}(h:Y X iter (tV X.K C)):PI X G iter (tI X.K (iW C)):=by
 intro B s J H R I ⟨F,m,L,S,T,Q,r,l,q,k⟩;obtain⟨v,y,W,q⟩:=ah q;refine bB (h B s J H (λx H1=>∃f d,Stp F m H f d H1/\Rel X.K f H1 d y/\RP X.K f H1 v x) I ⟨F,m,L,S,v,y,r,l,W,λx f d H1 n P g=>⟨f,d,n,P,g⟩⟩) λu n K=>?_
 obtain⟨x,H1,c,E,f,d,st,P,g⟩:=K;have mk:∀{A:It},EJ X.K A T f d H1->y=Q->R A H1:=λit e=>by subst e;exact k _ f d H1 st P it
 have i:∀{a:Addr}{xs:List V},x=.ref a->dw X.K H1 a xs->R (Kj X.K a) H1->wpAny (model X.p X.w) X.A (pyIter u) (Kg X B J G R) X.xe n:=λ{a xs} e Z q=>by
  subst e;cases E;obtain⟨w,rv,p,K⟩:=c.list Z;refine o6 p.isList ?_;refine⟨n.heap.objs.size,[n.heap.objs.size],_,_,H1,rfl,c.kept (t':=n.toks) λb o e=>aE _ e,oq a _,⟨_,aS _ rfl,rfl,rfl⟩,λb z=>?_,q⟩;have e:b=n.heap.objs.size:=by simpa using z
  subst e;exact c.fpOk (ai _) (c.h.fresh (ai _))
 cases v with
 |lst D=>cases q;obtain⟨a,xs,rfl,t,j⟩:=g;exact i rfl t.sq (mk (AS (λM m2 N s=>(t.kp s.kp).sq) j) rfl)
 |ro D=>cases q;obtain⟨a,xs,rfl,t,j⟩:=g;exact i rfl t.sq (mk (AS (λM m2 N s=>(t.kp s.kp).sq) j) rfl)
 |tup D=>
  cases q;obtain⟨a,xs,rfl,t,j⟩:=g;cases E;obtain⟨w,rv,pp,K⟩:=c.tuple t.sq;refine o7 (show n.heap.IsTuple a w.toArray from pp) ?_;refine⟨n.heap.objs.size,[n.heap.objs.size],_,_,H1,rfl,c.kept (t':=n.toks) λb o e=>aE _ e,t6 a _,⟨_,aS _ rfl,rfl,rfl⟩,λb z=>?_,mk (GN t j) rfl⟩;have e:b=n.heap.objs.size:=by simpa using z
  subst e;exact c.fpOk (ai _) (c.h.fresh (ai _))
 |_=>cases q
end
section
variable{X:Cx}{N p:Pos}
end
noncomputable def eQ:Nat->P->Bool
 |_,.non=>true
 |_,.bl _=>true
 |_,.int _=>true
 |_,.str x=>PyData.strOk x
 |n+1,.tup xs=>xs.all (eQ n)
 |n+1,.lst xs=>xs.all (eQ n)
 |n+1,.ro xs=>xs.all (eQ n)
 |_,_=>false
variable{n:Nat}
theorem l7:∀{s:List P},(∀d ∈ s,(pd d).canLay0=true/\(pd d).depth≤n)->qW (eZ s)=true/\mG (eZ s)≤n
 | [],_=>⟨rfl,br _⟩
 |d::r,h=>by obtain⟨⟨p,a⟩,q⟩:=List.forall_mem_cons.mp h;obtain⟨x,e⟩:=l7 q;exact⟨by simp only[eZ,qW,p,x,Bool.and_self],by simp only[eZ,mG];lia⟩
theorem cT:∀(n:Nat)(p:P),eQ n p=true->(pd p).canLay0=true/\(pd p).depth≤n
 |_,.non,_=>⟨rfl,br _⟩
 |_,.bl _,_=>⟨rfl,br _⟩
 |_,.int _,_=>⟨rfl,br _⟩
 |n,.str x,h=>⟨by cases n<;>exact h,br _⟩
 |n,.dct _ _,h=>by cases n<;>cases h
 |0,.tup _,h=>by cases h
 |0,.lst _,h=>by cases h
 |0,.ro _,h=>by cases h
 |n+1,.tup s,h=>by obtain⟨a,b⟩:=l7 λd e=>cT n d (bt.mp h d e);exact⟨a,by simp only[pd,oh];lia⟩
 |n+1,.lst s,h=>by obtain⟨a,b⟩:=l7 λd e=>cT n d (bt.mp h d e);exact⟨a,by simp only[pd,oh];lia⟩
 |n+1,.ro s,h=>by obtain⟨a,b⟩:=l7 λd e=>cT n d (bt.mp h d e);exact⟨a,by simp only[pd,oh];lia⟩
theorem gL(h:eQ 20 p=true):wc (pd p)=true:=by obtain⟨x,a⟩:=cT 20 p h;unfold wc;rw[x,Bool.true_and];exact ff (by lia)
section
variable{X:Cx}{B:PN}{J:L2.St}{H:Hp}{s:Shared}{F:Aa}
theorem fB(o:∀{p:P}{v:V}{u:Value},RP X.K F H p v->RelV v u->eQ n p=true->∃a,Reads s.heap u (pd p) a) :
  ∀{k:List P}{xs:List V}{f:LV},bg X.K F H k xs->aM xs f->(∀d ∈ k,eQ n d=true)->∃a,ReadsAll s.heap f (eZ k) a
 | [],xs,f,r,v,_=>by cases (show xs=[] from r);cases v;exact⟨_,.nil⟩
 |d::k,xs,f,r,v,h=>by
  obtain⟨x,g,rfl,p,r⟩:=r;cases v with
  |cons t m=>obtain⟨a,q⟩:=o p t (h d (.head _));obtain⟨w,c⟩:=fB o r m λe b=>h e (.tail _ b);exact⟨_,.cons q c⟩
theorem dg(I:Inv X B J H s):∀(n:Nat){p:P}{v:V}{u:Value},RP X.K F H p v->RelV v u->eQ n p=true->∃w,Reads s.heap u (pd p) w:=by
 intro n;induction n with
 |zero=>
  intro p v u r k h;cases p with
  |non=>cases (show v=.non from r);cases k;exact⟨_,.none⟩
  |bl b=>cases (show v=.bl b from r);cases k;exact⟨_,.bool b⟩
  |int i=>cases (show v=.int i from r);obtain⟨t,rfl⟩:=k;exact⟨_,.int i t⟩
  |str x=>cases (show v=.str x from r);obtain⟨t,rfl⟩:=k;exact⟨_,.str x t⟩
  |_=>simp[eQ]at h
 |succ n y=>
  intro p v u r k h;cases p with
  |non=>cases (show v=.non from r);cases k;exact⟨_,.none⟩
  |bl b=>cases (show v=.bl b from r);cases k;exact⟨_,.bool b⟩
  |int i=>cases (show v=.int i from r);obtain⟨t,rfl⟩:=k;exact⟨_,.int i t⟩
  |str x=>cases (show v=.str x from r);obtain⟨t,rfl⟩:=k;exact⟨_,.str x t⟩
  |dct K T=>simp[eQ]at h
  |tup z=>obtain⟨a,xs,rfl,l,j⟩:=r;cases k;obtain⟨g,f,⟨o,e,c,m,d⟩,S⟩:=I.tuple l.sq;obtain⟨w,q⟩:=fB y j f (by simpa[eQ] using h);rw[pd];exact⟨w,reads_tuple_at e c d (by simpa using q)⟩
  |lst z=>obtain⟨a,xs,rfl,l,j⟩:=r;cases k;obtain⟨g,f,⟨o,m,e,c,_,d⟩,S⟩:=I.list l.sq;obtain⟨w,q⟩:=fB y j f (by simpa[eQ] using h);rw[pd];exact⟨_,pu e c d (by simpa using q)⟩
  |ro z=>obtain⟨a,xs,rfl,l,j⟩:=r;cases k;obtain⟨g,f,⟨o,m,e,c,_,d⟩,S⟩:=I.list l.sq;obtain⟨w,q⟩:=fB y j f (by simpa[eQ] using h);rw[pd];exact⟨_,pu e c d (by simpa using q)⟩
end
noncomputable def nT(f:D->Option P):List D->Option (List P)
 | []=>some []
 |d::r=>(f d).bind λv=>(nT f r).map λT=>v::T
def de(S:aC):Nat->D->Option P
 |_,.p v=>some v
 |0,.ref _=>none
 |n+1,.ref i=>match S[i]? with
  |some (.lst d)=>(nT (de S n) d).map .lst
  |some (.fz v)=>some v
  |_=>none
@[simp] theorem uf(S:aC)(n:Nat)(v:P):de S n (.p v)=some v:=by cases n<;>rfl
section
variable{X:Cx}{B:PN}{J:L2.St}{H:Hp}{s:Shared}{F:Aa}{m:List Addr}{S:aC}
theorem m5(o:∀{d:D}{v:V}{u:Value}{p:P},RD X.K F H m d v->RelV v u->de S n d=some p->eQ a0 p=true->∃b,Reads s.heap u (pd p) b) :
  ∀{f:List D}{xs:List V}{c:LV}{k:List P},bJ X.K F H m f xs->aM xs c->nT (de S n) f=some k->(∀d ∈ k,eQ a0 d=true)->∃b,ReadsAll s.heap c (eZ k) b
 | [],xs,c,k,r,v,q,_=>by cases (show xs=[] from r);cases v;cases q;exact⟨_,.nil⟩
 |d::f,xs,c,k,r,v,q,h=>by
  obtain⟨x,A,rfl,p,r⟩:=r;obtain⟨y,i,q⟩:∃a,de S n d=some a/\(nT (de S n) f).map (λT=>a::T)=some k:=by
   cases e:de S n d with
   |none=>simp[nT,e]at q
   |some a=>exact⟨a,rfl,by simpa[nT,e] using q⟩
  obtain⟨B,j,rfl⟩:∃a,nT (de S n) f=some a/\k=y::a:=by
   cases e:nT (de S n) f with
   |none=>rw[e]at q;cases q
   |some a=>rw[e]at q;cases q;exact⟨a,rfl,rfl⟩
  cases v with
  |cons z l=>obtain⟨b,g⟩:=o p z i (h y (.head _));obtain⟨K,t⟩:=m5 o r l j λe w=>h e (.tail _ w);exact⟨_,.cons g t⟩
theorem cD(I:Inv X B J H s)(y:Rel X.K F H m S):∀(n k:Nat){d:D}{v:V}{u:Value}{p:P},RD X.K F H m d v->RelV v u->de S n d=some p->eQ k p=true->∃b,Reads s.heap u (pd p) b:=by
 intro n;induction n with
 |zero=>
  intro k d v u p r x q h;cases d with
  |p w=>rw[uf]at q;cases q;exact dg I k r x h
  |ref i=>cases q
 |succ n C=>
  intro k d v u p r x q h;cases d with
  |p w=>rw[uf]at q;cases q;exact dg I k r x h
  |ref i=>
   obtain⟨a,rfl,g⟩:=r;have A:i < S.length:=by rw[<- y.len];exact(a9.mp g).1
   obtain⟨o,j⟩:∃o,S[i]? = some o:=⟨S[i],by simp[A]⟩;have l:=y.obj i a o g j;simp only[de,j]at q;cases o with
   |fz w=>cases q;exact dg I k l x h
   |dct M t=>cases q
   |ins _ _ _=>cases q
   |dtn _ _=>cases q
   |dtt _ _=>cases q
   |fn _=>cases q
   |lst t=>
    dsimp only at q;cases e:nT (de S n) t with
    |none=>rw[e]at q;cases q
    |some Q=>
     rw[e]at q;cases q;cases k with
     |zero=>simp[eQ]at h
     |succ k=>obtain⟨xs,K,G⟩:=l;cases x;obtain⟨E,f,⟨o,N,z,c,_,d⟩,L⟩:=I.list (dw.of K);obtain⟨b,q⟩:=m5 (a0:=k) (λr x q h=>C k r x q h) G f e (by simpa[eQ] using h);rw[pd];exact⟨_,pu z c d (by simpa using q)⟩
theorem jT(l:Rel X.K F H m S)(r:RD X.K F H m u v)(q:de S n u=some p)(k:∀xs,p≠.lst xs/\p≠.tup xs):RP X.K F H p v:=by
 cases u with
 |p w=>rw[uf]at q;cases q;exact r
 |ref i=>
  cases n with
  |zero=>cases q
  |succ n=>
   obtain⟨a,rfl,h⟩:=r;have s:i < S.length:=by rw[<- l.len];exact(a9.mp h).1
   obtain⟨o,x⟩:∃o,S[i]? = some o:=⟨S[i],by simp[s]⟩;have b:=l.obj i a o h x;simp only[de,x]at q;cases o with
   |fz w=>cases q;exact b
   |dct c d=>cases q
   |ins _ _ _=>cases q
   |dtn _ _=>cases q
   |dtt _ _=>cases q
   |fn _=>cases q
   |lst d=>
    dsimp only at q;cases e:nT (de S n) d with
    |none=>rw[e]at q;cases q
    |some f=>rw[e]at q;cases q;exact absurd rfl (k f).1
end
inductive rEI(K:FG)(g:D->D->aC->Option P)(x:V)(y:V)(H:Hp)(Q:VK):Prop
 |mk (F:Aa) (m:List Addr) (S:aC) (d:D) (e:D) (v:P) (h0_:Rel K F H m S) (h1_:RD K F H m d x) (h2_:RD K F H m e y) (h3_:g d e S=some v) (h4_:∀u F' H',Grow F H F' H'->RP K F' H' v u->Q u H'):rEI K g x y H Q
noncomputable def rE(K:FG)(g:D->D->aC->Option P):R2:=λx y H Q=>rEI K g x y H Q
@[simp] def bY(g:D->D->aC->Option P)(a b:EE)(L:Lc)(S:aC):tyV:=aZ (a L S) λx e=>aZ (b L e) λy h=>(g x y h).map λv=>(v,h)
section
variable{X:Cx}{a b:Expr}{C t:EE}{N:Pos}
theorem xc(h:tV X.K (bY a0 C t) J H Q):Fq (rE X.K a0) (tE X.K C) (tE X.K t) J H Q:=by
 obtain⟨F,m,L,S,d,K,r,l,q,k⟩:=h;obtain⟨x,a,P,q⟩:=ah q;obtain⟨y,s,A,q⟩:=ah q;refine⟨F,m,L,S,x,a,r,l,P,λv p B H1 b I D=>?_⟩;refine⟨p,B,L,a,y,s,I,l.mono b,A,λu i n M c f E=>?_⟩;cases e:a0 x y s with
 |none=>rw[e]at q;cases q
 |some z=>rw[e]at q;cases q;exact⟨i,n,K,x,y,_,f,RD.mono c D,E,e,λw j o g G=>k w j n o (b.trans (c.trans g.stp)) (f.grow g) G⟩
theorem Ib(o:fK X (compareOp u) (rE X.K v))(x:Y X a (tE X.K C))(e:Y X b (tE X.K t))(m:behindInMarks u b=false):Y X (.Compare a [u] [b] N) (tV X.K (bY v C t)):=
 (xo o x e m).imp' λ_ _ _ h=>xc h
theorem HN(o:fK X (compareOp op) (rE X.K u))(c:Y X a (tE X.K C))(w:Y X b (tE X.K t))(g:behindInMarks op b=false):PT X (.Compare a [op] [b] N) (tQ X.K (bV (bY u C t))):=
 (xk o c w g).imp' λJ H Q h=>by
  refine xc ?_;obtain⟨F,m,L,S,d,y,r,l,q,k⟩:=h;obtain⟨x,z,f,q⟩:=ah q;cases x with
  |bl b=>cases q;exact⟨F,m,L,S,_,_,r,l,f,λv e i n s j p=>⟨_,p,k e i n s j⟩⟩
  |_=>cases q
end
def DT(x y:P):Option Bool:=match uR x y with
 |some (.bl b)=>some b
 |_=>if (eQ 20 x && eQ 20 y)=true then some (b_ (pd x) (pd y)) else none
def k5(d e:D)(S:aC):Option P:=(de S 9 d).bind λx=>(de S 9 e).bind λy=>(DT x y).map .bl
def Dw(x y:P):Option Bool:=match G5 x y with
 |some (.bl b)=>some b
 |_=>if (eQ 20 x && eQ 20 y)=true then some (!PyData.eqv (pd x) (pd y)) else none
def DP(d e:D)(S:aC):Option P:=(de S 9 d).bind λx=>(de S 9 e).bind λy=>(Dw x y).map .bl
noncomputable def oQ(c:D)(S:aC):Option (List cn):=match c with
 | .p (.dct k _)=>some k
 | .ref i=>match S[i]? with
  |some (.dct k _)=>some k
  |some (.fz (.dct k _))=>some k
  |_=>none
 |_=>none
noncomputable def GV(k:cn)(s:List cn):Bool:=s.any λh=>decide (h=k)
def MY(d c:D)(S:aC):Option Bool:=match oQ c S with
 |some s=>(de S 9 d).bind λx=>(di x).map λk=>GV k s
 |none=>none
def Mr(d c:D)(S:aC):Option P:=(MY d c S).map .bl
noncomputable def gf:D->Bool
 | .p .non=>true
 |_=>false
def yH(d e:D)(_:aC):Option P:=match e with
 | .p .non=>some (.bl (gf d))
 |_=>none
def eT(d e:D)(_:aC):Option P:=match e with
 | .p .non=>some (.bl (!gf d))
 |_=>none
theorem uQ(h:uR x v=some b):(∀xs,x≠.lst xs/\x≠.tup xs)/\∀xs,v≠.lst xs/\v≠.tup xs:=by
 refine⟨λxs=>⟨λe=>?_,λe=>?_⟩,λxs=>⟨λe=>?_,λe=>?_⟩⟩
 .subst e;cases v<;>cases h
 .subst e;cases v<;>cases h
 .subst e;cases x<;>cases h
 .subst e;cases x<;>cases h
section
variable{X:Cx}
theorem Jm(o:X.A.units+64 < cLine):fK X (compareOp .Eq) (rE X.K k5):=by
 intro B s J H x y v u Q I j z h;obtain⟨F,m,S,d,e,r,l,g,i,q,k⟩:=h;unfold k5 at q;cases t:de S 9 d with
 |none=>rw[t]at q;cases q
 |some a=>
  rw[t]at q;cases p:de S 9 e with
  |none=>rw[p]at q;cases q
  |some b=>
   rw[p]at q;simp only[lJ]at q;cases n:DT a b with
   |none=>rw[n]at q;cases q
   |some c=>
    rw[n]at q;cases q;unfold DT at n;split at n
    .rename_i G w;cases n;obtain⟨K,P⟩:=uQ w;exact Jn (by lia) B s J H x y v u Q I j z ⟨F,a,b,.bl c,l.ft,jT l g t K,jT l i p P,w,k⟩
    .split at n
     .rename_i f;rw[aq]at f;cases n;obtain⟨D,A⟩:=cD I l 9 20 g j t f.1;obtain⟨E,C⟩:=cD I l 9 20 i z p f.2;exact eq_dataH A C (gL f.1) (gL f.2) o ⟨.bl _,H,I,rfl,k _ F H .refl rfl⟩
     .cases n
theorem yu(h:G5 x v=some b):(∀xs,x≠.lst xs/\x≠.tup xs)/\∀xs,v≠.lst xs/\v≠.tup xs:=by
 refine⟨λxs=>⟨λe=>?_,λe=>?_⟩,λxs=>⟨λe=>?_,λe=>?_⟩⟩
 .subst e;cases v<;>cases h
 .subst e;cases v<;>cases h
 .subst e;cases x<;>cases h
 .subst e;cases x<;>cases h
theorem Jf(o:X.A.units+64 < cLine):fK X (compareOp .NotEq) (rE X.K DP):=by
 intro B s J H x y v u Q I j z h;obtain⟨F,m,S,d,e,r,l,g,i,q,k⟩:=h;unfold DP at q;cases t:de S 9 d with
 |none=>rw[t]at q;cases q
 |some a=>
  rw[t]at q;cases p:de S 9 e with
  |none=>rw[p]at q;cases q
  |some b=>
   rw[p]at q;simp only[lJ]at q;cases n:Dw a b with
   |none=>rw[n]at q;cases q
   |some c=>
    rw[n]at q;cases q;unfold Dw at n;split at n
    .rename_i G w;cases n;obtain⟨K,P⟩:=yu w;exact L7 B s J H x y v u Q I j z ⟨F,a,b,.bl c,l.ft,jT l g t K,jT l i p P,w,k⟩
    .split at n
     .rename_i f;rw[aq]at f;cases n;obtain⟨D,A⟩:=cD I l 9 20 g j t f.1;obtain⟨E,C⟩:=cD I l 9 20 i z p f.2;exact ne_dataH A C (gL f.1) (gL f.2) o ⟨.bl _,H,I,rfl,k _ F H .refl rfl⟩
     .cases n
theorem jV(x:P):∀xs:List P,(eZ xs).any (λy=>b_ y (pd x))=xs.any λy=>b_ (pd y) (pd x)
 | []=>rfl
 |y::r=>by rw[eZ,cw,cw,jV x r]
theorem xq(h:xs.all (eQ 19)=true):qW (eZ xs)=true/\mG (eZ xs)≤20:=by have l:=cT 20 (.lst xs) h;simp only[pd,yX,oh]at l;have x:=l.2;exact⟨l.1,by lia⟩
theorem xV:(dX u v).isSome=GV v (u.map (·.1)):=by
 induction u with
 |nil=>rfl
 |cons p r i=>
  unfold GV at i ⊢;by_cases h:p.1=v
  .rw [eJ h,az,cw,ff h];rfl
  .rw [dW h,i,az,cw,aU h];rfl
theorem Bw{K:FG}{F:Aa}{H:Hp}{m:List Addr}{S:aC}{c:D}{y:V}{s:List cn}(r:Rel K F H m S)(p:RD K F H m c y)(q:oQ c S=some s):∃a k,y=.ref a/\H a=some (.dK k)/\k.map (·.1)=s:=by
 unfold oQ at q;split at q
 .cases q;obtain⟨a,k,e,_,hk,h,_⟩:=p;exact⟨a,k,e,hk,h⟩
 .rename_i i;obtain⟨a,rfl,x⟩:=p;split at q
  .rename_i o;cases q;obtain⟨k,hk,h,_⟩:=r.obj i a _ x o;exact⟨a,k,rfl,hk,h⟩
  .rename_i o;cases q;obtain⟨b,k,e,_,hk,h,_⟩:=r.obj i a _ x o;cases e;exact⟨a,k,rfl,hk,h⟩
  .cases q
 .cases q
theorem Jj(A:X.A.units+64 < cLine):fK X (compareOp .In) (rE X.K Mr):=by
 intro B s J H x y v u Q I K P h;obtain⟨F,m,S,d,e,r,l,j,o,q,k⟩:=h;unfold Mr MY at q;cases c:oQ e S with
 |some C=>
  rw[c]at q;dsimp only at q;cases f:de S 9 d with
  |none=>rw[f]at q;cases q
  |some a=>
   rw[f]at q;simp only[lJ]at q;cases n:di a with
   |none=>rw[n]at q;cases q
   |some w=>rw[n]at q;cases q;obtain⟨b,g,rfl,hk,p⟩:=Bw l o c;have i:RP X.K F H a x:=jT l j f λxs=>⟨λz=>(by subst z;cases n),λz=>(by subst z;cases n)⟩;cases P;cases eS n i;exact Mv (by lia) I (g8.k hk) K λD t=>⟨.bl _,H,t,rfl,by rw[xV,p];exact k _ F H .refl rfl⟩
 |none=>rw[c]at q;cases q
theorem Ji:fK X (compareOp .Is) (rE X.K yH):=by
 intro B s J H x y v u Q I c t h;obtain⟨F,m,S,d,e,r,l,n,f,q,k⟩:=h;unfold yH at q;split at q
 .cases q;cases (show y=.non from f);refine Gh B s J H x _ v u Q I c t ⟨rfl,?_⟩;have:decide (x=.non)=gf d:=by
   cases d with
   |ref i=>obtain⟨a,rfl,_⟩:=n;rfl
   |p w=>
    cases w with
    |non=>cases (show x=.non from n);rfl
    |bl b=>cases (show x=.bl b from n);rfl
    |int b=>cases (show x=.int b from n);rfl
    |str b=>cases (show x=.str b from n);rfl
    |_=>(obtain⟨a,xs,rfl,_⟩:=n;rfl)
  rw[this];exact k _ F H .refl rfl
 .cases q
theorem Av:fK X (compareOp .IsNot) (rE X.K eT):=by
 intro B s J H x y v u Q I c t h;obtain⟨F,m,S,d,e,r,l,n,f,q,k⟩:=h;unfold eT at q;split at q
 .cases q;cases (show y=.non from f);refine Dp B s J H x _ v u Q I c t ⟨rfl,?_⟩;have:decide (x=.non)=gf d:=by
   cases d with
   |ref i=>obtain⟨a,rfl,_⟩:=n;rfl
   |p w=>
    cases w with
    |non=>cases (show x=.non from n);rfl
    |bl b=>cases (show x=.bl b from n);rfl
    |int b=>cases (show x=.int b from n);rfl
    |str b=>cases (show x=.str b from n);rfl
    |_=>(obtain⟨a,xs,rfl,_⟩:=n;rfl)
  rw[this];exact k _ F H .refl rfl
 .cases q
end
noncomputable def nj:List i3->List P->Lc->Option Lc
 | [],[],L=>some L
 |g::s,v::T,L=>match g v L with
  |some h=>nj s T h
  |none=>none
 |_,_,_=>none
def cA(g:List i3):i3:=λv L=>match v with
 | .tup T=>nj g T L
 |_=>none
theorem sB:∀{s:List i3}{T:List P}{L x:Lc},nj s T L=some x->T.length=s.length
 | [],[],_,_,_=>rfl
 | [],_::_,_,_,h=>by cases h
 |_::_,[],_,_,h=>by cases h
 |g::s,v::T,L,x,h=>by
  unfold nj at h;split at h
  .rw [bC,bC,sB h]
  .cases h
inductive gTsI(K:FG)(gs:List i3)(xs:List V)(J:L2.St)(H:Hp)(Q:L2.St->Hp->Prop):Prop
 |mk (F:Aa) (m:List Addr) (L:Lc) (vs:List P) (L':Lc) (h0_:RL K F H m J L) (h1_:bg K F H vs xs) (h2_:nj gs vs L=some L') (h3_:∀J',RL K F H m J' L'->Q J' H):gTsI K gs xs J H Q
noncomputable def NL(K:FG)(g:List i3):Hh:=λxs J H Q=>gTsI K g xs J H Q
inductive GsOk(X:Cx):Ab->List i3->Prop where
 |nil:GsOk X [] []
 |cons {x:Str}{p:Pos}{es:Ab}{g:i3}{gs:List i3}:PG X (.Name x p) (gT X.K g)->GsOk X es gs->GsOk X (.Name x p::es) (g::gs)
section
variable{X:Cx}{N:Pos}
theorem og:assignEach (.Name x p::es) v=(false,assign (.Name x p) v)::assignEach es v:=rfl
theorem GsOk.len(h:GsOk X es v)(e:Env):(assignEach es e).length=v.length/\(assignEach es e).findIdx? (·.1)=none:=by
 induction h with
 |nil=>exact⟨rfl,rfl⟩
 |cons _ _ i=>rw[og];refine⟨by rw[bC,bC,i.1],?_⟩;simp only[List.findIdx?_cons,i.2];rfl
theorem GsOk.pgs(h:GsOk X es gs):Kh X es (NL X.K gs):=by
 induction h with
 |nil=>
  intro B s J H xs u Q I a ⟨F,m,L,T,e,l,r,q,k⟩;cases T with
  |nil=>cases q;cases (show xs=[] from r);exact Dl B s J H [] u Q I a ⟨rfl,k J l⟩
  |cons _ _=>cases q
 |cons g _ i=>
  intro B s J H xs u Q I a ⟨F,m,L,T,e,l,r,q,k⟩;cases T with
  |nil=>cases q
  |cons v T=>
   unfold nj at q;split at q
   .rename_i n f;obtain⟨x,c,rfl,p,r⟩:=r;refine Ad g i rfl B s J H _ u Q I a ⟨x,c,rfl,F,m,L,v,n,l,p,f,λt b=>?_⟩;exact⟨F,m,n,T,e,b,r,q,k⟩
   .cases q
theorem GY(c:X.c=true)(h:GsOk X es u):PG X (.Tuple es n N) (gT X.K (cA u)):=
 PG.imp' (F0 c h.pgs (h.len _).1 (h.len _).2) λv J H Q z=>by
  obtain⟨F,m,L,d,x,l,p,q,k⟩:=z;cases d with
  |tup T=>obtain⟨a,xs,rfl,t,r⟩:=p;have e:=sB (show nj u T L=some x from q);exact⟨a,xs,rfl,t.sq,by rw[<- r.length];exact e,F,m,L,T,x,l,r,q,k⟩
  |_=>cases q
def Eh(K:FG)(a:Addr):It:=
 ⟨λi H=>∃xs x,dw K H a xs/\xs[i]? = some x,λi H x h=>∃p y,x=.ref p/\H p=none/\h=a7 H p (.tup [.int i,y])/\∀xs,dw K H a xs->xs[i]? = some y,λi H=>∃xs,dw K H a xs/\xs.length≤i⟩
theorem xX{P:Program}{w:World}{K:FG}{es:Ab}{n:Nat}(a e t:Addr)(C:e≠t):Turn P w K (.Tuple es n N) (Eh K a) [e,t] e (λi h=>(∃l,IsEnum h e t i l)/\h.IsListIter t a i) where
 mem:=by simp
 obj:=λi h st b p=>by
  obtain⟨⟨l,A⟩,⟨o,ho,c,d⟩⟩:=st;have:b=e\/b=t:=by simpa using p
  rcases this with rfl|rfl
  .exact⟨_,A,λv z=>by have z':Data.fields _=Data.cell v:=z;cases z'⟩
  .exact⟨o,ho,λv z=>by rw[d]at z;cases z⟩
 keep:=λi h h' st k=>by obtain⟨⟨l,A⟩,y⟩:=st;exact⟨⟨l,k e (by simp) _ A⟩,y.at λo q=>k t (by simp) o q⟩
 item:=by
  intro X hP hw hK f i B s J H E I T st hg;subst hP hw hK;obtain⟨xs,x,V,hx⟩:=hg;obtain⟨its,rv,pl,hz⟩:=I.list V;obtain⟨u,hu,ru⟩:=rv.get hx;obtain⟨⟨l,A⟩,y⟩:=st;obtain⟨f0,f1,f2,f3,f4,f5⟩:=T e (by simp);obtain⟨M,Q,g2,Z,g4,g5⟩:=T t (by simp);refine wpAny_pyNext_enum_item A y pl.isList (x:=u) (by simpa using hu) C λh1 ho1 G ht1 hz1 hk1=>?_
  refine⟨_,rfl,yV (s:={ s with heap:=h1,toks:=s.toks+1 }) ho1 λR he2 F=>?_⟩;replace F:cq e h1 R:=F;have D:e < s.heap.objs.size:=ar A;have S:∀b o,b≠e->b≠t->s.heap.get? b=some o->R.get? b=some o:=λb o b1 b2 q=>(F.2 b b1).trans (hk1 b o b1 b2 q);have L:R.get? s.heap.objs.size=some { cls:=.type "tuple",data:=.seq #[.int i s.toks,u] }:=(F.2 _ (bf D)).trans ht1;have j:H s.heap.objs.size=none:=I.h.fresh (ai _);have W:∀{b:Addr}{o:HO},H b=some o->b≠e/\b≠t:=λ{b o} q=>⟨λz=>(by rw[z,f0]at q;cases q),λz=>(by rw[z,M]at q;cases q)⟩;have g:∀b,b ∉ [e,t]->b≠e/\b≠t:=λb p=>⟨λz=>p (by simp[z]),λz=>p (by simp[z])⟩;have I':Inv X B J (a7 H s.heap.objs.size (.tup [.int i,x])) { s with heap:=R,gens:=s.gens,drawn:=s.drawn,toks:=s.toks+1 }:=by
   refine I.step (ch:=[e,t]) (λb p=>?_) (λb o _ _ f q _=>S b o (g b f).1 (g b f).2 q) (λb o _ _ f q _=>⟨o.slots,S b o (g b f).1 (g b f).2 q⟩) (λb o _ q n=>?_) (λb o f q=>⟨o,S b o (g b f).1 (g b f).2 q⟩)
    (λb ys q=>?_) (λb o ys q=>?_) (λb q=>?_) (λm hm=>?_) (λb u' q=>?_) I.bare
   .have:b=e\/b=t:=by simpa using p
    rcases this with rfl|rfl
    .exact⟨f3,f1,f4,f5⟩
    .exact⟨Z,Q,g4,g5⟩
   .rw [al (aL (ar q))];exact n
   .rw [al (aN q j)];exact q
   .rw [al (aN q j)];exact q
   .rw [al (aN q j)];exact q
   .obtain⟨o,es,ep,ho,r⟩:=hm;exact⟨o,es,ep,S _ o (aG f1) (aG Q) ho,r⟩
   .by_cases p:b=s.heap.objs.size
    .subst p;rw[au]at q;cases q;exact⟨by show 2≤sizeLine;decide,[.int i s.toks,u],.cons ⟨_,rfl⟩ (.cons ru .nil),⟨_,L,⟨rfl,_,rfl⟩,rfl⟩⟩
    .rw [al p]at q;refine(I.h b u' q).stay (λc v f z=>S c v ?_ ?_ z) (λc z=>by rw[al (aN z j)];exact z) λc ys z=>by rw[al (aN z j)];exact z
     .rcases f with rfl|f
      .exact (W q).1
      .exact (W f).1
     .rcases f with rfl|f
      .exact (W q).2
      .exact (W f).2
  refine⟨.ref s.heap.objs.size,_,I',rfl,⟨s.heap.objs.size,x,rfl,j,rfl,λys hy=>by rw[I.list_inj hy V];exact hx⟩,⟨⟨u,by simpa using he2⟩,G.at λo q=>(F.2 t (aG C)).trans q⟩,λb p=>?_⟩;have hb':b=e\/b=t:=by simpa using p
  obtain⟨oi,hoi,_⟩:=id y;rcases hb' with rfl|rfl
  .rw [al (aL D)];exact f0
  .rw [al (aL (ar hoi))];exact M
 done:=by intro X hP hw hK f i B s J H E I T st hg;subst hP hw hK;obtain⟨xs,V,hx⟩:=hg;obtain⟨its,rv,pl,hz⟩:=I.list V;obtain⟨⟨l,A⟩,y⟩:=st;obtain⟨M,Q,g2,Z,g4,g5⟩:=T t (by simp);have hl:=rv.length;exact wpAny_pyNext_enum_end (I.o.hd f) A y pl.isList (by simp;lia) λh' eb=>⟨rfl,I.turned (t':=s.toks) (λb o p e=>eb b o p e) M Q Z g4 g5⟩
 self:=λ_ _ _ _ _ st h=>by obtain⟨⟨l,A⟩,_⟩:=st;exact o5 A h
noncomputable def dB(k:Int):List P->List P
 | []=>[]
 |x::r=>.tup [.int k,x]::dB (k+1) r
theorem kL:∀{T:List P}{k:Int}{i:Nat}{v:P},(dB k T)[i]? = some v->∃x,T[i]? = some x/\v=.tup [.int (k+i),x]
 | [],_,_,_,h=>by simp[dB]at h
 |x::r,k,0,v,h=>⟨x,rfl,by simpa[dB] using h.symm⟩
 |x::r,k,i+1,v,h=>by obtain⟨y,a,e⟩:=kL (T:=r) (k:=k+1) (i:=i) (by simpa[dB] using h);refine⟨y,by simpa using a,?_⟩;rw[e];congr 3;lia
theorem kK:∀(T:List P)(k:Int),(dB k T).length=T.length
 | [],_=>rfl
 |_::r,k=>by rw[dB,bC,bC,kK r]
@[simp] def Mi(a:EV)(L:Lc)(S:aC):xW:=aZ (a L S) λv h=>match v with
 | .lst xs=>some (dB 0 xs,h)
 | .ro xs=>some (dB 0 xs,h)
 |_=>none
theorem AT{K:FG}{F:Aa}{m:List Addr}{H:Hp}{a:Addr}{T:List P}{xs:List V}(c:∀h n s,Stp F m H h n s->dw K s a xs)(r:bg K F H T xs):EJ K (Eh K a) (dB 0 T) F m H:=by
 intro h n s st;have q:=c h n s st;have l:=r.length;refine⟨λi v e=>?_,⟨xs,q,by rw[kK,l];exact ai _⟩⟩;obtain⟨d,b,rfl⟩:=kL e;obtain⟨x,k,p⟩:=r.get b;refine⟨⟨xs,x,q,k⟩,λz w y=>?_⟩;obtain⟨u,y,rfl,f,rfl,t⟩:=y;have:y=x:=by have:=t xs q;rw[k]at this;cases this;rfl
 subst this;refine⟨h,bj f,RP.newTup f ⟨_,_,rfl,?_,_,_,rfl,RP.mono st p,rfl⟩⟩;show V.int (i:Int)=V.int (0+(i:Int));rw[o9]
theorem iE{es:Ab}{n:Nat}{a:Expr}{C:EV}{p h:Pos}(hg:Gl X "enumerate")(hm:X.g "enumerate"=none)(ha:Y X a (tV X.K C))(D:starEach [a] X.e=[(false,eval a X.e)]):PI X (.Tuple es n N) (.Call (.Name "enumerate" p) [a] [] h) (tI X.K (Mi C)):=by
 intro B s J H R I ⟨F,m,L,S,T,S',r,l,q,k⟩;obtain⟨v,K,Z,q⟩:=ah q;have hA:PA X [a] (lq X.K (O C aj)):=BO ha Ec (by rw[D];rfl);refine Call_ (gO I hg hm vQ (e7 (bB (hA h B s J H (λxs H1=>∃f c,Stp F m H f c H1/\Rel X.K f H1 c K/\bg X.K f H1 [v] xs) I ⟨F,m,L,S,[v],K,r,l,?_,λxs f c H1 x g z=>⟨f,c,x,g,z⟩⟩) λus x ⟨xs,H1,t,G,f,c,st,g,z⟩=>?_) (by rw[D];rfl) rfl))
 .simp only[O,aj,Z,av]
 obtain⟨x1,rfl,E⟩:=uj z;obtain⟨u,rfl,ru⟩:=vals1 G;have P:∀{a:Addr}{xs:List V},x1=.ref a->dw X.K H1 a xs->R (Eh X.K a) H1->wpAny (model X.p X.w) X.A (call (.type "enumerate") [u]) (λv x=>wpAny (model X.p X.w) X.A (pyIter v) (Kg X B J (.Tuple es n N) R) X.xe x) X.xe x:=λ{a xs} e hq q=>by
  subst e;cases ru;obtain⟨its,G,pl,hz⟩:=t.list hq;refine call_enumerate_list pl.isList λh' A y hsz hk=>?_
  refine o5 A ?_;have d:∀b,x.heap.objs.size≤b->H1 b=none:=λb i=>t.h.fresh i;refine⟨x.heap.objs.size+1,[x.heap.objs.size+1,x.heap.objs.size],_,_,H1,rfl,t.kept (t':=x.toks) hk,xX a _ _ (bf (c_ _)),⟨⟨_,A⟩,y⟩,λb i=>?_,q⟩;have j:b=x.heap.objs.size+1\/b=x.heap.objs.size:=by simpa using i
  rcases j with rfl|rfl
  .exact t.fpOk (e_ _) (d _ (e_ _))
  .exact t.fpOk (ai _) (d _ (ai _))
 cases v with
 |lst W=>cases q;obtain⟨a,xs,rfl,w,o⟩:=E;exact P rfl w.sq (k _ f c H1 st g (AT (λM m2 Q s=>(w.kp s.kp).sq) o))
 |ro W=>cases q;obtain⟨a,xs,rfl,w,o⟩:=E;exact P rfl w.sq (k _ f c H1 st g (AT (λM m2 Q s=>(w.kp s.kp).sq) o))
 |_=>cases q
end
open PySem.AutoSeq1 (wpAny_loadPart')
theorem By(n:Nat):(gS n=true)=(n≤1000000):=by unfold gS;simp
variable{d:Type}{Q:d->Shared->Prop}
theorem KD(h:c=false)(k:wpAny M A b Q E s):wpAny M A (if c=true then a else b) Q E s:=by rw[h,ag aY];exact k
theorem NI(h:c=true)(k:wpAny M A a Q E s):wpAny M A (if c=true then a else b) Q E s:=by rw[h,ae rfl];exact k
theorem sD(a:Array Value)(n:Nat):∀b:Array Value,((List.replicate n a).foldl (·++·) b).size=b.size+n * a.size:=by
 induction n with
 |zero=>intro b;simp
 |succ n i=>intro b;rw[bS,fg,i,wA,pD];lia
theorem CK(l:Addr)(i:Array Value)(n:Nat)(dd:Option Addr)(e:Array (OV))(x:Int)(u:Tok)(b:-1000000 < x/\x < 1000000)(c:(i.isEmpty ||x == 1)=true) :
  Meets (Builtin.«tuple.__mul__» ⟨[.ref l,.int x u],[]⟩) (λ_ R s=>s.heap.get? l=some { cls:=.type "tuple",dict:=dd,data:=.seq i n,slots:=e }/\R (.ok (.ret (Value.ref l))) s):=
 .of_wp λprog w A R s h=>by
  obtain⟨p,g,d,tk,os⟩:=s;obtain⟨a,h⟩:=h;have f:=u5;have k:=u6
  wp_walk using jo a
  refine KD (by rw[aU (by lia),aU (by lia)];rfl) ?_
  wp_walk using jo a
  exact⟨_,rfl,h⟩
theorem CJ(l:Addr)(i:Array Value)(n:Nat)(dd:Option Addr)(p:Array (OV))(x:Int)(u:Tok)(o:-1000000 < x/\x < 1000000)(f:¬(i.isEmpty ||x == 1)=true)(z:i.size * x.toNat≤1000000) :
  Meets (Builtin.«tuple.__mul__» ⟨[.ref l,.int x u],[]⟩) (fun _ R s=>s.heap.get? l=some { cls:=.type "tuple",dict:=dd,data:=.seq i n,slots:=p } /\
   R (.ok (.ret (Value.ref s.heap.objs.size))) { s with heap:=s.heap.push { cls:=Value.type "tuple",data:=Data.seq ((List.replicate x.toNat i).foldl (·++·) #[]) } }):=
 .of_wp λprog w A R s h=>by
  obtain⟨H,g,d,tk,os⟩:=s;obtain⟨a,h⟩:=h;have j:=u5;have y:=u6
  wp_walk using jo a
  refine KD (by rw[aU (by lia),aU (by lia)];rfl) ?_
  wp_walk using jo a
  have k:i.isEmpty=false:=by
   cases e:i.isEmpty with
   |false=>rfl
   |true=>rw[e]at f;simp at f
  by_cases b:x≤0
  .refine NI (by rw[ff b];rfl) ?_;have c:x.toNat=0:=by lia
   rw[c]at h
   wp_walk using jo a
   exact⟨_,rfl,h⟩
  .refine KD (by rw[aU b,k];rfl) ?_;have t:(i.size:Int) * x≤1000000:=by
    have:((i.size * x.toNat:Nat):Int)≤1000000:=by lia
    rw[u9,vc (by lia)]at this;exact this
   have m:¬(i.size:Int) * x > (2 ^ 63-1) / 8:=by lia
   dsimp only;rw[ag m];have S:(1000000:Int)≤(sizeLine:Int):=by decide
   refine KD (show HC _=false from aU (by lia)) ?_;have r:¬(lM (λq v=>q++v) #[] (List.replicate x.toNat i)).size > sizeLine:=by
    have e:=sD i x.toNat #[];rw[e];have:x.toNat * i.size≤1000000:=by rw[lL];exact z
    have:(1000000:Nat)≤sizeLine:=by decide
    simp only[aP,jH];lia
   wp_walk using jo a
   exact⟨_,rfl,h⟩
theorem C6(a:Int)(t:Tok)(l:Addr)(i:Array Value)(n:Nat)(dd:Option Addr)(x:Array (OV)) :
  Meets (Builtin.«int.__rmul__» ⟨[.int a t,.ref l],[]⟩) (λ_ R s=>s.heap.get? l=some { cls:=.type "tuple",dict:=dd,data:=.seq i n,slots:=x }/\R (.ok (.ret Value.notImplemented)) s):=
 .of_wp λprog w A R s h=>by
  obtain⟨p,g,d,tk,os⟩:=s;obtain⟨e,h⟩:=h
  wp_walk
  exact⟨_,rfl,h⟩
theorem x_:fillsNumberSlot (.type "tuple") "mul"=pure false:=
 PySem.fillsNumberSlot_seq (id:="tuple.__mul__") (r:=some (.builtin "tuple.__rmul__")) lH.lookup (by decide +kernel) vI.lookup (by decide +kernel)
theorem FM:seqRepeat? (.type "tuple")=pure (some (.builtin "tuple.__mul__")):=by unfold seqRepeat?;rw[yQ (T:="tuple") (name:="__mul__") (id:="tuple.__mul__") lH.lookup (by decide +kernel)];first|rfl|(rw[yQ (T:="tuple") (name:="__rmul__") (id:="tuple.__rmul__") vI.lookup (by decide +kernel)];rfl)
section
variable{X:Cx}
theorem uL(i:LV)(k:Nat):(List.replicate k i.toArray).foldl (·++·) #[]=(List.replicate k i).flatten.toArray:=by
 have:∀(m:Nat)(b:LV),(List.replicate m i.toArray).foldl (·++·) b.toArray=(b++(List.replicate m i).flatten).toArray:=by
  intro m;induction m with
  |zero=>intro b;simp
  |succ m x=>intro b;rw[bS,fg,List.append_toArray,x,bS,cQ,iN]
 have h:=this k [];rw[iM]at h;exact h
theorem w8(r:aM xs v):∀k:Nat,aM (List.replicate k xs).flatten (List.replicate k v).flatten
 |0=>.nil
 |k+1=>by rw[bS,bS,cQ,cQ];exact r.append (w8 r k)
theorem GA(xs:List d)(k:Nat):(List.replicate k xs).flatten.length=xs.length * k:=by
 induction k with
 |zero=>rfl
 |succ k i=>rw[bS,cQ,bw,i,Nat.mul_succ];lia
def fH:P->P->Option P
 | .tup xs,.int n=>if (gS (xs.length * n.toNat) && decide (n.natAbs < 1000000))=true then some (.tup (List.replicate n.toNat xs).flatten) else none
 |x,y=>sN x y
theorem Gm:ly X (binaryOp .Mult) fH:=by
 intro B s J H x y v u Q I G L h;obtain⟨F,z,S,d,R,D,E,q,k⟩:=h;have f:sN z S=some d->wpAny (model X.p X.w) X.A (binaryOp .Mult v u) (EP X B J Q) X.xe s:=λq=>Jg B s J H x y v u Q I G L ⟨F,z,S,d,R,D,E,q,k⟩
 cases z with
 |tup j=>
  cases S with
  |int n=>
   simp only[fH]at q;split at q
   .rename_i g;rw[aq,By]at g;have W:=aD g.2;cases q;obtain⟨a,xs,rfl,M,C⟩:=D;cases (show y=.int n from E);cases G;obtain⟨t,rfl⟩:=L;have K:=C.length;obtain⟨i,r,⟨o,e,c,m,dd⟩,Z⟩:=I.tuple M.sq;have l:=r.length;obtain⟨oc,A,ot,os⟩:=o;dsimp only at c dd;subst c dd;refine yU (T:="tuple") (U:="int") (by decide) ⟨_,e,rfl⟩ (λV=>mi V n t) x_ vn lF FM vp.lookup
     (dD lF (mi s n t) vo (vq _ _) (C6 n t a i.toArray m A os) ⟨e,rfl,⟨_,e,rfl⟩,?_⟩)
    by_cases p:(i.toArray.isEmpty ||n == 1)=true
    .refine dD lH ⟨_,e,rfl⟩ vF (vJ _ _) (CK a i.toArray m A os n t (by lia) p) ⟨e,⟨.ref a,H,I,rfl,k _ F H .refl ?_⟩⟩;have N:(List.replicate n.toNat j).flatten=j:=by
      rw[pW]at p;rcases p with p|p
      .have:i=[]:=by simpa using p
       have:j=[]:=fx (by rw[K,l,this];rfl);subst this;simp
      .have:n=1:=by simpa using p
       subst this;simp
     rw[N];exact⟨a,xs,rfl,M,C⟩
    .refine dD lH ⟨_,e,rfl⟩ vF (vJ _ _) (CJ a i.toArray m A os n t (by lia) p (by rw[aP,<- l,<- K];exact g.1)) ⟨e,?_⟩;rw[uL];have w:H s.heap.objs.size=none:=I.h.fresh (ai _);have P:(List.replicate n.toNat xs).flatten.length≤sizeLine:=by
      rw[GA,<- K];exact aI g.1 (by decide)
     refine⟨.ref s.heap.objs.size,_,I.laid (t':=s.toks) (o:=.tup (List.replicate n.toNat xs).flatten) (λb ob q=>aE _ q) (ai _) ⟨P,_,w8 r n.toNat,kR.new _ _⟩,rfl,k _ F _ (bj w) (.newTup w (C.rep n.toNat))⟩
   .cases q
  |_=>exact f q
 |_=>exact f q
noncomputable def qP:List P->Option P
 | [.lst xs]=>some (.lst xs)
 | [.ro xs]=>some (.lst xs)
 | [.tup xs]=>some (.lst xs)
 |_=>none
noncomputable def i0:List P->Option P
 | [.lst xs]=>some (.tup xs)
 | [.ro xs]=>some (.tup xs)
 | [.tup xs]=>some (.tup xs)
 |_=>none
theorem BB:cm X (.type "list") (rC X.K qP):=by
  intro B s J H xs u Q I r h;obtain⟨F,b,d,c,f,q,k⟩:=h;unfold qP at q;split at q;all_goals first
    |(cases q;done)
    | (cases q
       obtain⟨x,rfl,p⟩:=uj f;obtain⟨a,y,rfl,t,n⟩:=p;first
         |exact gU B s J H _ u Q I r ⟨a,y,rfl,.inl t.sq,λl e=>k _ _ _ (bA e) (.newLst e n)⟩
         |exact gU B s J H _ u Q I r ⟨a,y,rfl,.inr t.sq,λl e=>k _ _ _ (bA e) (.newLst e n)⟩)
theorem yB:cm X (.type "tuple") (rC X.K i0):=by
  intro B s J H xs u Q I r h;obtain⟨F,b,d,c,f,q,k⟩:=h;unfold i0 at q;split at q;all_goals first
    |(cases q;done)
    | (cases q
       obtain⟨x,rfl,p⟩:=uj f;obtain⟨a,y,rfl,t,n⟩:=p;first
         |exact jk B s J H _ u Q I r ⟨a,y,rfl,.inl ⟨t.sq,λl e=>k _ F _ (bj e) (.newTup e n)⟩⟩
         |exact jk B s J H _ u Q I r ⟨a,y,rfl,.inr ⟨t.sq,k _ F H .refl ⟨a,y,rfl,t,n⟩⟩⟩)
noncomputable def nJ:List P->Option P
 | [.int i]=>some (.int (if i < 0 then -i else i))
 |_=>none
theorem D7:cm X (.builtin "abs") (rC X.K nJ):=by
 intro B s J H xs u Q I r h;obtain⟨F,e,d,f,a,q,k⟩:=h;unfold nJ at q;split at q
 .cases q;obtain⟨x,rfl,p⟩:=uj a;exact Bz B s J H _ u Q I r ⟨_,by rw[show x=_ from p],k _ F H .refl rfl⟩
 .cases q
variable{e:Expr}{es:Ab}{fs:ki}{p N:Pos}
theorem EQ(g:Gl X "list")(m:X.g "list"=none)(a:PA X (e::es) (lq X.K fs))(x:starEach (e::es) X.e=(false,eval e X.e)::starEach es X.e)(h:(backTo N (starEach es X.e)).any (·.1)=false) :
  Y X (.Call (.Name "list" p) (e::es) [] N) (tV X.K (aJ qP fs)):=t0 BB g m pA a (by decide) (by decide) x h
theorem Cy(g:Gl X "tuple")(m:X.g "tuple"=none)(a:PA X (e::es) (lq X.K fs))(x:starEach (e::es) X.e=(false,eval e X.e)::starEach es X.e)(h:(backTo N (starEach es X.e)).any (·.1)=false) :
  Y X (.Call (.Name "tuple" p) (e::es) [] N) (tV X.K (aJ i0 fs)):=t0 yB g m Cs a (by decide) (by decide) x h
theorem HS(g:Gl X "abs")(m:X.g "abs"=none)(a:PA X (e::es) (lq X.K fs))(x:starEach (e::es) X.e=(false,eval e X.e)::starEach es X.e)(h:(backTo N (starEach es X.e)).any (·.1)=false) :
  Y X (.Call (.Name "abs" p) (e::es) [] N) (tV X.K (aJ nJ fs)):=t5 D7 g m Cm a (by decide) (by decide) x h
@[simp] def dR(r:EE)(a:EV)(L:Lc)(S:aC):oo:=aZ (r L S) λd h=>match im d h with
 |none=>none
 |some _=>aZ (a L h) λx e=>match im d e,x with
  |some (i,s),.lst y=>if gS (s.length+y.length)=true then some (.p .non,e.set i (.lst (s++y.map .p))) else none
  |_,_=>none
def Bm(r:EE):EE:=λL S=>aZ (r L S) λd h=>match im d h with
 |some (i,_)=>some (.p .non,h.set i (.lst []))
 |none=>none
end
section
variable{X:Cx}{o e:Expr}{I q:EE}{C:EV}{j h N:Pos}
theorem CC(ho:Y X o (tE X.K I))(he:Y X e (tV X.K C))(E:starEach [e] X.e=[(false,eval e X.e)])
  (f:attributeBase o "extend" X.e (eval o X.e)=eval o X.e) (c:(j.endLine == h.line)=true):Y X (.Call (.Attribute o "extend" j) [e] [] h) (tE X.K (dR I C)):=
 (Er jA vu PySem.F.type_list_extend yb ho (dh he eP (by rw[E];rfl)) f (by rw[E];rfl) c (by rw[E];rfl) rfl).imp' λJ H Q hz=>by
  obtain⟨F,m,L,S,d,S',r,l,q,k⟩:=hz;obtain⟨x,B,e1,q⟩:=ah q;refine⟨F,m,L,S,x,B,r,l,e1,λv F1 m1 H1 Z V T=>?_⟩;cases D:im x B with
  |none=>rw[D]at q;cases q
  |some z=>
   obtain⟨i,ds⟩:=z;rw[D]at q;dsimp only at q;obtain⟨rfl,es⟩:=fC D;obtain⟨a,rfl,hm⟩:=id T;obtain⟨xs,hH,rs⟩:=V.obj i a _ hm es;refine⟨.inl ⟨rfl,xs,dw.of hH⟩,?_⟩;obtain⟨y,N,e2,q⟩:=ah q;refine⟨F1,m1,L,B,y,N,V,l.mono Z,e2,λu P G A s2 M p2=>?_⟩;cases s:im (.ref i) N with
   |none=>rw[s]at q;cases q
   |some z=>
    obtain⟨i2,ds2⟩:=z;rw[s]at q;obtain⟨e3,n⟩:=fC s;cases e3;cases y with
    |lst ys=>
     dsimp only at q;split at q
     .rename_i hf;cases q;obtain⟨a2,e4,t⟩:=RD.mono s2 T;cases e4;obtain⟨g,p,w⟩:=M.obj i a _ t n;obtain⟨b,K,rfl,tb,W⟩:=p2;have R:∀K,A a≠some (.tup K):=λK z=>by rw[p]at z;cases z
      have st:Stp P G A P G (a7 A a (.lst (g++K))):=cS M t n trivial R;refine⟨a,b,g,K,rfl,rfl,p,tb.2,by rw[<- w.length,<- W.length];exact fI hf,?_⟩;exact k .non P G _ (Z.trans (s2.trans st)) (M.set t n trivial R ⟨_,au,bJ.mono st (w.append (bJ.ofP W))⟩) rfl
     .cases q
    |_=>cases q
theorem E8(K:Y X o (tE X.K I))(b:attributeBase o "clear" X.e (eval o X.e)=eval o X.e)(n:(j.endLine == h.line)=true):Y X (.Call (.Attribute o "clear" j) [] [] h) (tE X.K (Bm I)):=
 (Gc jA vr PySem.F.type_list_clear AC K b n).imp' λJ H Q P=>by
  obtain⟨F,m,L,S,d,C,r,l,q,k⟩:=P;obtain⟨x,w,y,q⟩:=ah q;refine⟨F,m,L,S,x,w,r,l,y,λv e t H1 B p A=>?_⟩;cases s:im x w with
  |none=>rw[s]at q;cases q
  |some z=>
   obtain⟨i,D⟩:=z;rw[s]at q;cases q;obtain⟨rfl,es⟩:=fC s;obtain⟨a,rfl,c⟩:=id A;obtain⟨xs,f,E⟩:=p.obj i a _ c es;have u:∀g,H1 a≠some (.tup g):=λg z=>by rw[f]at z;cases z
   have st:Stp e t H1 e t (a7 H1 a (.lst [])):=cS p c es trivial u;refine⟨.inl ⟨rfl,xs,dw.of f⟩,a,xs,rfl,rfl,f,?_⟩;exact k .non e t _ (B.trans st) (p.set c es trivial u ⟨_,au,rfl⟩) rfl
noncomputable abbrev qU:=Lc->aC->Option (List D×aC)
noncomputable abbrev Iq:=Option (List D×aC)
inductive tDsI(K:FG)(f:qU)(J:L2.St)(H:Hp)(Q:List V->Hp->Prop):Prop
 |mk (F:Aa) (m:List Addr) (L:Lc) (S:aC) (ds:List D) (S':aC) (h0_:Rel K F H m S) (h1_:RL K F H m J L) (h2_:f L S=some (ds,S')) (h3_:∀xs F' m' H',Stp F m H F' m' H'->Rel K F' H' m' S'->bJ K F' H' m' ds xs->Q xs H'):tDsI K f J H Q
noncomputable def tj(K:FG)(f:qU):TA:=λJ H Q=>tDsI K f J H Q
@[simp] def aO(_L:Lc)(S:aC):Iq:=some ([],S)
@[simp] def af(a:EE)(r:qU)(L:Lc)(S:aC):Iq:=aZ (a L S) λx h=>aZ (r L h) λxs e=>some (x::xs,e)
variable{es:Ab}{fs:qU}
theorem EF:PA X [] (tj X.K aO):=eP.imp' λJ H Q h=>by obtain⟨F,m,L,S,d,x,r,l,q,k⟩:=h;cases q;exact k [] F m H .refl r rfl
theorem Bu(u:Y X e (tE X.K q))(g:PA X es (tj X.K fs))(i:starEach (e::es) X.e=(false,eval e X.e)::starEach es X.e):PA X (e::es) (tj X.K (af q fs)):=
 (dh u g i).imp' λJ H Q z=>by obtain⟨F,m,L,S,d,t,r,l,h,k⟩:=z;obtain⟨x,a,p,h⟩:=ah h;obtain⟨xs,B,w,h⟩:=ah h;cases h;refine⟨F,m,L,S,x,a,r,l,p,λv f j H1 s P o=>?_⟩;refine⟨f,j,L,a,xs,t,P,l.mono s,w,λT b y c n A K=>?_⟩;exact k (v::T) b y c (s.trans n) A ⟨v,T,rfl,RD.mono n o,K⟩
def EC(a:qU):EE:=λL S=>aZ (a L S) λxs h=>if few xs=true then some (.ref h.length,h++[.lst xs]) else none
theorem HY(h:PA X es (tj X.K fs)):Y X (.List es N) (tE X.K (EC fs)):=(uq h).imp' λJ H Q z=>by
 obtain⟨F,m,L,S,d,w,r,l,q,k⟩:=z;obtain⟨xs,b,c,q⟩:=ah q;split at q
 .rename_i t;cases q;refine⟨F,m,L,S,xs,b,r,l,c,λT x a H1 v n s=>⟨by rw[<- s.length];exact iv t,λp e=>?_⟩⟩;have f:Stp x a H1 x (a++[p]) (a7 H1 p (.lst T)):=bH e;refine k (.ref p) x (a++[p]) _ (v.trans f) (n.own e ⟨T,au,bJ.mono f s⟩) ⟨p,rfl,?_⟩;rw[<- n.len,bb (ai _)];simp
 .cases q
noncomputable abbrev GF:=List D->aC->Option (D×aC)
inductive spRI(K:FG)(g:GF)(vs:List V)(H:Hp)(Q:VK):Prop
 |mk (F:Aa) (m:List Addr) (ds:List D) (S:aC) (d:D) (S':aC) (h0_:Rel K F H m S) (h1_:bJ K F H m ds vs) (h2_:g ds S=some (d,S')) (h3_:∀v F' m' H',Stp F m H F' m' H'->Rel K F' H' m' S'->RD K F' H' m' d v->Q v H'):spRI K g vs H Q
noncomputable def km(K:FG)(g:GF):Sp:=λT H Q _=>spRI K g T H Q
@[simp] def d8(g:GF)(a:qU)(L:Lc)(S:aC):oo:=aZ (a L S) λd h=>g d h
theorem E_(G:FnOk X.p X.w X.K X.g X.b kW u f fd ps (km X.K a0))(P:Room u X.A)(o:Gl X x)(K:X.g x=some (.ref f))(hk:cC X.K (.ref f)=true)(y:Binds X.K fd ps [])
  (j:PA X (e::es) (tj X.K fs)) (h:(x == ("__debug__":Str))=false) (z:starEach (e::es) X.e=(false,eval e X.e)::starEach es X.e) (a:(backTo N (starEach es X.e)).any (·.1)=false) :
  Y X (.Call (.Name x p) (e::es) [] N) (tE X.K (d8 a0 fs)):=
 (qq G P o K hk y .nil mV j h z a).imp' λJ H Q A=>by obtain⟨F,m,L,S,d,g,r,l,q,u⟩:=A;obtain⟨k,n,i,q⟩:=ah q;refine⟨F,m,L,S,k,n,r,l,i,λxs b B t s E p=>?_⟩;show km X.K a0 (xs++[]) t Q E0;rw[b9];exact⟨b,B,k,n,d,g,E,p,q,λv c C w M I D=>u v c C w (s.trans M) I D⟩
noncomputable def se(n:Nat):D->Bool
 | .p _=>true
 | .ref i=>decide (i < n)
def DA(n:Nat):SO->Bool
 | .lst d=>d.all (se n)
 | .dct _ d=>d.all (se n)
 | .fz _=>true
 | .ins _ _ d=>d.all (se n)
 | .dtn _ d=>d.all (se n)
 | .dtt _ d=>d.all (se n)
 | .fn o=>o.all (se n)
def trunc(n:Nat)(S:aC):aC:=if (S.take n).all (DA n)=true then S.take n else S
@[simp] def bq(g:GF)(a:qU)(L:Lc)(S:aC):tyV:=aZ (a L S) λs h=>aZ (g s h) λd x=>aZ (toP 9 d x) λv e=>some (v,trunc h.length e)
end
section
variable{K:FG}{F:Aa}{H:Hp}{m:List Addr}{S:aC}
theorem RD.low(h:RD K F H m u v)(l:se n u=true):RD K F H (m.take n) u v:=by
 cases u with
 |p w=>exact h
 |ref i=>obtain⟨a,e,x⟩:=h;exact⟨a,e,by rw[fw (aD l)];exact x⟩
theorem bJ.low:∀{s:List D}{xs:List V},bJ K F H m s xs->s.all (se n)=true->bJ K F H (m.take n) s xs
 | [],_,h,_=>h
 |d::s,_,h,l=>by obtain⟨x,r,e,a,k⟩:=h;rw[gG,aq]at l;exact⟨x,r,e,a.low l.1,bJ.low k l.2⟩
theorem Rel.trunc(r:Rel K F H m S)(B:n≤m.length)(h:(S.take n).all (DA n)=true):Rel K F H (m.take n) (S.take n) where
 len:=by rw[fq,fq,r.len]
 nd:=r.nd.sublist (wn _ _)
 obj:=λi a o b p=>by
  have u:i < n:=by have:=(a9.mp b).1;rw[fq]at this;lia
  rw[fw u]at b;have lo:=bt.mp h o (cx p);rw[fw u]at p;have t:=r.obj i a o b p;cases o with
  |lst q=>obtain⟨xs,x,s⟩:=t;exact⟨xs,x,s.low lo⟩
  |dct g q=>obtain⟨k,x,e,s⟩:=t;exact⟨k,x,e,s.low lo⟩
  |fz v=>exact t
  |ins c g q=>obtain⟨C,l,k,y,x,e,s⟩:=t;exact⟨C,l,k,y,x,e,s.low lo⟩
  |dtn g q=>obtain⟨k,x,e,A,s⟩:=t;exact⟨k,x,e,A,s.low lo⟩
  |dtt g q=>obtain⟨k,x,e,s⟩:=t;exact⟨k,x,e,s.low lo⟩
  |fn D=>intro d j;obtain⟨v,z,P⟩:=t d j;subst j;exact⟨v,z,P.low lo⟩
 sep:=λi a o b p w f=>by
  have u:i < n:=by have:=(a9.mp b).1;rw[fq]at this;lia
  rw[fw u]at b p;exact r.sep i a o b p w f
 trk:=λa h=>r.trk a (List.mem_of_mem_take h)
 ft:=r.ft
theorem Stp.trunc(s:Stp F m H u v H'):Stp F m H u (v.take m.length) H':=by
 obtain⟨n,e⟩:=s.pre;have x:v.take m.length=m:=by rw[e];simp
 rw[x];exact⟨⟨[],by simp⟩,s.oth,s.frz,s.frk,s.tup,s.trk,s.nf,λ_ h=>.inl h,s.cod⟩
end
section
variable{X:Cx}{e:Expr}{es:Ab}{fs:qU}{N:Pos}
theorem CA(G:FnOk X.p X.w X.K X.g X.b kW u f fd ps (km X.K a0))(hr:Room u X.A)(W:Gl X x)(Z:X.g x=some (.ref f))(hk:cC X.K (.ref f)=true)(T:Binds X.K fd ps [])
  (R:PA X (e::es) (tj X.K fs)) (b:(x == ("__debug__":Str))=false) (V:starEach (e::es) X.e=(false,eval e X.e)::starEach es X.e) (w:(backTo N (starEach es X.e)).any (·.1)=false) :
  Y X (.Call (.Name x p) (e::es) [] N) (tV X.K (bq a0 fs)):=
 (qq G hr W Z hk T .nil mV R b V w).imp' λJ H Q hz=>by
  obtain⟨F,m,L,S,d,S',r,l,q,u⟩:=hz;obtain⟨z,h,E,q⟩:=ah q;obtain⟨D,C,I,q⟩:=ah q;obtain⟨v1,a,M,q⟩:=ah q;cases q;refine⟨F,m,L,S,z,h,r,l,E,λxs B g H1 A K p1=>?_⟩;show km X.K a0 (xs++[]) H1 Q E0;rw[b9];refine⟨B,g,z,h,D,C,K,p1,I,λv F2 i y s2 r2 p2=>?_⟩;obtain⟨j,s3,P,l3,o⟩:=kA 9 M r2 p2;have st:=s2.trans s3;have s:=K.len;by_cases c:(a.take h.length).all (DA h.length)=true
  .have t:Ev.trunc h.length a=a.take h.length:=ae c;rw[t]at u;have k:g.length≤i.length:=by
    obtain⟨nn,e⟩:=st.pre;rw[e,bw];lia
   have rt:=P.trunc (n:=h.length) (by rw[<- s];exact k) c;refine u v j (i.take g.length) y (A.trans st.trunc) ?_ o;rw[s];exact rt
  .have t:Ev.trunc h.length a=a:=ag c;rw[t]at u;exact u v j i y (A.trans st) P o
end
section
variable{X:Cx}{a b c e o i g:Expr}{C t r k z:EV}{I q:EE}{N G:Pos}
def nN (i:Expr):Prop:=∀(o:Expr) (N:Pos) (e:Env) (v:Value),assign (.Subscript o i N) e v=(do
 let h <- holding [v] (eval o e)
 let x <- holding [v,h] (eval i e)
 standAt N
 holding [v,h,x] (setItem h x v)
 release [v,h,x] [])
def zS(o:EE)(k v:EV):ES:=λL S=>aZ (v L S) λy x=>aZ (o L x) λd a=>aZ (k L a) λz h=>match im d h,z with
 |some (i,s),.int n=>match AO s.length n with
  |some j=>some (.nx,L,h.set i (.lst (s.set j (.p y))))
  |none=>none
 |_,_=>none
theorem bJ.setAt{K:FG}{F:Aa}{H:Hp}{m:List Addr}{d:D}{v:V}(h:RD K F H m d v):∀{s:List D}{xs:List V}(j:Nat),bJ K F H m s xs->bJ K F H m (s.set j d) (xs.set j v)
 | [],_,_,r=>by cases (show _=([]:List V) from r);exact rfl
 |_::_,_,0,r=>by obtain⟨x,a,rfl,p,r⟩:=r;exact⟨v,a,rfl,h,r⟩
 |_::_,_,j+1,r=>by obtain⟨x,a,rfl,p,r⟩:=r;exact⟨x,_,rfl,p,bJ.setAt h j r⟩
theorem HG(ho:Y X o (tE X.K I))(hi:Y X i (tV X.K k))(hv:Y X g (tV X.K z))(hs:swapsWith g (some (.Subscript o i G)) N.line X.e=pure false)(hw:swappedStores [.Subscript o i G] g X.e=pure none)(A:nN i) :
  PS X (.Assign [.Subscript o i G] g N) (h_ X.K (zS I k z)):=(z_ hv (F5 ho hi zM (A o G X.e)) hs hw).imp' λD J H hz=>by
 obtain⟨F,m,L,S,fl,L',S',r,l,q,h⟩:=hz;obtain⟨y,Q,e1,q⟩:=ah q;obtain⟨d,R,e2,q⟩:=ah q;obtain⟨e,T,e3,q⟩:=ah q;refine⟨F,m,L,S,y,Q,r,l,e1,λv M W H1 c r1 p1=>?_⟩;refine⟨M,W,L,Q,d,R,r1,l.mono c,e2,λx F2 m2 H2 p r2 p2=>?_⟩;refine⟨F2,m2,L,R,e,T,r2,(l.mono c).mono p,e3,λw s b f u E p3=>?_⟩;cases P:im d T with
 |none=>rw[P]at q;cases q
 |some t=>
  obtain⟨j,ds⟩:=t;rw[P]at q;cases e with
  |int n=>
   dsimp only at q;cases K:AO ds.length n with
   |none=>rw[K]at q;cases q
   |some C=>
    rw[K]at q;cases q;obtain⟨rfl,es⟩:=fC P;obtain⟨a,rfl,B⟩:=RD.mono u p2;obtain⟨xs,V,rs⟩:=E.obj j a _ B es;have pv:RD X.K s f b (.p y) v:=RD.mono u (RD.mono p (show RD X.K M H1 W (.p y) v from p1));cases (show w=.int n from p3);have Z:∀zs,f a≠some (.tup zs):=λzs e=>by rw[V]at e;cases e
    have st:Stp s b f s b (a7 f a (.lst (xs.set C v))):=cS E B es trivial Z;refine⟨a,xs,n,C,rfl,rfl,V,by rw[<- rs.length];exact K,?_⟩;exact h J s b _ (c.trans (p.trans (u.trans st))) (E.set B es trivial Z ⟨_,au,bJ.mono st (bJ.setAt pv C rs)⟩) (((l.mono c).mono p).mono (u.trans st))
  |_=>cases q
def jU(o:EE)(k v:EV):ES:=λL S=>match zT o k v L S with
 |some r=>some r
 |none=>zS o k v L S
theorem HH(j:X.A.units+1 < cLine)(d:Y X o (tE X.K I))(v:Y X i (tV X.K k))(u:Y X g (tV X.K z))(w:swapsWith g (some (.Subscript o i G)) N.line X.e=pure false)(y:swappedStores [.Subscript o i G] g X.e=pure none)(t:nN i) :
  PS X (.Assign [.Subscript o i G] g N) (h_ X.K (jU I k z)):=λB s J H D x h=>by
 obtain⟨F,m,L,S,b,n,f,r,l,q,a⟩:=h;cases c:zT I k z L S with
 |some e=>
  have p:some e=some (b,n,f):=by have:=q;unfold jU at this;rw[c]at this;exact this
  cases p;exact K6 j d v u w B s J H D x ⟨F,m,L,S,b,n,f,r,l,c,a⟩
 |none=>
  have p:zS I k z L S=some (b,n,f):=by have:=q;unfold jU at this;rw[c]at this;exact this
  exact HG d v u w y t B s J H D x ⟨F,m,L,S,b,n,f,r,l,p,a⟩
@[simp] def eK(g n:P->P->Option P)(a b c:EV)(L:Lc)(S:aC):tyV:=aZ (a L S) λx e=>aZ (b L e) λy h=>match g x y with
 |some (.bl true)=>aZ (c L h) λz s=>(n y z).map λv=>(v,s)
 |some (.bl false)=>some (.bl false,h)
 |_=>none
theorem sV{g c:P->P->Option P}{J:L2.St}{H:Hp}{Q:VK}(h:tV X.K (eK g c C t r) J H Q):ua (rP X.K g) (rP X.K c) (tV X.K C) (tV X.K t) (tV X.K r) J H Q:=by
 obtain⟨F,m,L,S,d,S',a,l,q,k⟩:=h;obtain⟨x,o,e1,q⟩:=ah q;obtain⟨y,K,e2,q⟩:=ah q;refine⟨F,m,L,S,x,o,a,l,e1,λv N m1 H1 G r1 p1=>?_⟩;refine⟨N,m1,L,o,y,K,r1,l.mono G,e2,λu R i H2 I B A=>?_⟩;cases b:g x y with
 |none=>rw[b]at q;cases q
 |some z=>
  rw[b]at q;cases z with
  |bl e=>
   refine⟨R,x,y,_,B.ft,RP.mono I p1,A,b,λw f j p p3=>⟨e,p3,?_⟩⟩;have qj:Stp F m H f i j:=G.trans (I.trans p.stp);have D:=B.grow p;cases e with
   |false=>rw[ag aY];cases q;exact k _ f i j qj D rfl
   |true=>
    rw[ae rfl];dsimp only at q;obtain⟨z,Z,e3,q⟩:=ah q;refine⟨f,i,L,K,z,Z,D,l.mono qj,e3,λw' T m4 H4 M E p4=>?_⟩;cases s:c y z with
    |none=>rw[s]at q;cases q
    |some z2=>rw[s]at q;cases q;exact⟨T,y,z,_,E.ft,RP.mono M (RP.grow p A),p4,s,λw2 V W n p5=>k w2 V m4 W (qj.trans (M.trans n.stp)) (E.grow n) p5⟩
  |_=>cases q
theorem E9(n:ly X (compareOp op) v)(o:ly X (compareOp u) g')(x:Y X a (tV X.K C))(e:Y X b (tV X.K t))(s:Y X c (tV X.K r))(m:lastMarks [op,u] [b,c]=false) :
  Y X (.Compare a [op,u] [b,c] N) (tV X.K (eK v g' C t r)):=(Ak n o x e s m).imp' λ_ _ _ h=>sV h
theorem EN(z:ly X (compareOp op) u)(o:ly X (compareOp op') g')(g:Y X a (tV X.K C))(i:Y X b (tV X.K t))(j:Y X c (tV X.K r))(y:lastMarks [op,op'] [b,c]=false) :
  PT X (.Compare a [op,op'] [b,c] N) (tQ X.K (bV (eK u g' C t r))):=(z5 z o g i j y).imp' λJ H Q h=>by
 refine sV ?_;obtain⟨F,m,L,S,d,A,e,l,q,k⟩:=h;obtain⟨x,B,w,q⟩:=ah q;cases x with
 |bl b=>cases q;exact⟨F,m,L,S,_,_,e,l,w,λv n K f s P p=>⟨_,p,k n K f s P⟩⟩
 |_=>cases q
def qc:P->Option Bool
 | .non=>some false
 | .bl b=>some b
 | .int i=>some (i != 0)
 | .str x=>if gS x.length=true then some ((x.length:Int) != 0) else none
 | .tup xs=>some (!xs.isEmpty)
 | .lst xs=>some (!xs.isEmpty)
 | .ro xs=>some (!xs.isEmpty)
 | .dct k _=>some (!k.isEmpty)
def CL:D->aC->Option Bool
 | .p v,_=>qc v
 | .ref i,S=>match S[i]? with
  |some (.lst d)=>some (!d.isEmpty)
  |some (.dct k _)=>some (!k.isEmpty)
  |some (.fz v)=>qc v
  |_=>none
@[simp] def bT(f:EE)(L:Lc)(S:aC):Hl:=aZ (f L S) λd h=>(CL d h).map λb=>(b,h)
theorem fE{xs:List d}{y:List l}(h:xs.length=y.length):xs.isEmpty=y.isEmpty:=by cases xs<;>cases y<;>first|rfl|simp at h
theorem jP(p:RP X.K F H w v)(h:qc w=some u):Hf X.K v H u:=by
 cases w with
 |non=>cases (show v=.non from p);cases h;rfl
 |bl b=>cases (show v=.bl b from p);cases h;rfl
 |int b=>cases (show v=.int b from p);cases h;rfl
 |str x=>
  cases (show v=.str x from p);simp only[qc]at h;split at h
  .rename_i c;cases h;exact⟨fI c,rfl⟩
  .cases h
 |tup d=>obtain⟨a,xs,rfl,t,r⟩:=p;cases h;exact .inr (.inl ⟨xs,t.sq,by rw[fE r.length]⟩)
 |lst d=>obtain⟨a,xs,rfl,t,r⟩:=p;cases h;exact .inl ⟨xs,t.sq,by rw[fE r.length]⟩
 |ro d=>obtain⟨a,xs,rfl,t,r⟩:=p;cases h;exact .inl ⟨xs,t.sq,by rw[fE r.length]⟩
 |dct s d=>obtain⟨a,k,rfl,_,hk,e,r⟩:=p;cases h;exact .inr (.inr ⟨k,hk,by rw[<- e];cases k<;>rfl⟩)
theorem yT(h:Y X e (tE X.K q))(C:∀o,isTrue e X.e o=(do let v <- o;standAt e.pos;holding [v] (truthy v))):PT X e (tQ X.K (bT q)):=
 (z4 h C).imp' λJ H Q D=>by
  obtain⟨F,m,L,S,d,I,r,l,s,k⟩:=D;obtain⟨x,K,A,s⟩:=ah s;cases n:CL x K with
  |none=>rw[n]at s;cases s
  |some t=>
   rw[n]at s;cases s;refine⟨F,m,L,S,x,_,r,l,A,λv z E H1 G c i=>⟨_,?_,k z E H1 G c⟩⟩;cases x with
   |p w=>exact jP i n
   |ref j=>
    obtain⟨a,rfl,g⟩:=i;simp only[CL]at n;split at n
    .rename_i P f;cases n;obtain⟨xs,u,y⟩:=c.obj j a _ g f;exact .inl ⟨xs,dw.of u,by rw[fE y.length]⟩
    .rename_i M P f;cases n;obtain⟨b,u,B,y⟩:=c.obj j a _ g f;exact .inr (.inr ⟨b,u,by rw[<- B];cases b<;>rfl⟩)
    .rename_i w f;exact jP (c.obj j a _ g f) n
    .cases n
@[simp] def zR(g:i3)(f:EV)(L:Lc)(S:aC):zy:=aZ (f L S) λv x=>match g v L with
 |some h=>some (.nx,h,x)
 |none=>none
theorem K5(t:Y X e (tV X.K C))(p:PG X tg (gT X.K u))(d:swapsWithSole [tg] e N.line X.e=pure false)(w:swappedStores [tg] e X.e=pure none)(c:(assignEach [tg] X.e).map (·.2)=[assign tg X.e]) :
  PS X (.Assign [tg] e N) (h_ X.K (zR u C)):=(z_ t p d w c).imp' λD J H z=>by
 obtain⟨F,m,L,S,P,o,K,r,l,q,k⟩:=z;obtain⟨v,f,b,q⟩:=ah q;refine⟨F,m,L,S,v,f,r,l,b,λx h a H1 s y j=>?_⟩;cases g:u v L with
 |none=>rw[g]at q;cases q
 |some L2=>rw[g]at q;cases q;exact⟨h,a,L,v,_,l.mono s,j,g,λn i=>k n h a H1 s y i⟩
def bW:P->P->Option P
 | .tup [],.tup s=>some (.tup s)
 |x,y=>qL x y
theorem G_{M:Program}{w:World}{A:Around}{E:VP}{s:Shared}{t b:Addr}{a:LV}{Q:VP}(n:IsTup s.heap t #[])(e:IsTup s.heap b a.toArray)(h:Q (.ref b) s):wpAny (model M w) A (binaryOp .Add (.ref t) (.ref b)) Q E s:=by obtain⟨o,g,k,m,l⟩:=id n;obtain⟨p,x,f,r,c⟩:=id e;cases o;cases p;cases k;cases l;cases f;cases c;exact tt ⟨_,g,rfl⟩ ⟨_,x,rfl⟩ tG tw pe pf (pi _ _) (tuple_addW0 t b #[] a.toArray m r _ _ _ _ rfl) ⟨g,x,h⟩
theorem Gn:ly X (binaryOp .Add) bW:=by
 intro B s J H x y v u Q I r m h;obtain⟨F,e,n,d,t,c,p,q,k⟩:=h;have o:qL e n=some d->wpAny (model X.p X.w) X.A (binaryOp .Add v u) (EP X B J Q) X.xe s:=λq=>Jo B s J H x y v u Q I r m ⟨F,e,n,d,t,c,p,q,k⟩
 cases e with
 |tup f=>
  cases n with
  |tup es=>
   cases f with
   |nil=>cases q;obtain⟨a,xs,rfl,S,z⟩:=c;obtain⟨b,C,rfl,K,A⟩:=id p;cases (show xs=[] from z);cases r;cases m;obtain⟨w,l,g,_⟩:=I.tuple S.sq;obtain⟨i,P,j,_⟩:=I.tuple K.sq;cases l;exact G_ g j ⟨.ref b,H,I,rfl,k _ F H .refl p⟩
   |cons _ _=>exact o q
  |_=>cases f<;>exact o q
 |_=>exact o q
def qT(K:FG)(m:SV)(x:Str)(v:P):Prop:=∃u w,m x=some u/\RelV w u/\∀F H,RP K F H v w
theorem HZ(g:Gl X x)(h:qT X.K X.g x v)(d:(x == ("__debug__":Str))=false):Y X (.Name x N) (tV X.K (vC v)):=by obtain⟨u,w,m,r,p⟩:=h;exact xC (Do g m r d) p
end
section
variable{X:Cx}{a:Expr}{C:EE}{p N:Pos}
end
noncomputable def eu(f:Str):LS->List D->Option D
 |k::h,d::s=>if k=f then some d else eu f h s
 |_,_=>none
noncomputable def putK(f:Str):LS->LS
 | []=>[f]
 |k::s=>if k=f then k::s else k::putK f s
noncomputable def ul(f:Str)(y:D):LS->List D->List D
 | [],_=>[y]
 |k::h,d::s=>if k=f then y::s else d::ul f y h s
 |_::_,[]=>[]
def gv(K:FG)(c:Str)(C:Addr):Prop:=kr K mainGlobals c=some (some (.ref C))
variable{K:FG}
theorem gv.inj(h:gv K c v)(x:gv K c u):v=u:=by have:=h.symm.trans x;cases this;rfl
def K4(K:FG)(A:Str->Str->Bool):Prop:=∀c f,A c f=true->∃C,gv K c C/\Cls K C/\jy K C f
section
variable{K:FG}{F:Aa}{H:Hp}{m:List Addr}
theorem xx:∀{a:List (Str×V)}{s:List D}{d:D},bJ K F H m s (a.map (·.2))->eu f (a.map (·.1)) s=some d->∃v,a.lookup f=some v/\RD K F H m d v
 | [],s,d,_,h=>by cases s<;>cases h
 |(k,x)::r,s,d,p,h=>by
  cases s with
  |nil=>cases h
  |cons q s=>
   obtain⟨y,w,e,c,t⟩:=p;simp only[az,List.cons.injEq]at e;obtain⟨rfl,rfl⟩:=e;simp only[az,eu]at h;split at h
   .rename_i hk;cases h;subst hk;exact⟨x,by simp[da],c⟩
   .rename_i hk;obtain⟨v,n,b⟩:=xx t h;exact⟨v,by rw[lS,show(f == k)=false by simpa using λz=>hk z.symm];exact n,b⟩
theorem xw:∀{v:List (Str×V)},(v.map (·.1)).contains f=false->v.lookup f=none
 | [],_=>rfl
 |(k,x)::r,h=>by simp only[az,List.contains_cons,Bool.or_eq_false_iff]at h;rw[lS,h.1];exact xw h.2
theorem z3(h:RD K F H m u v):∀{s:List (Str×V)}{d:List D},bJ K F H m d (s.map (·.2))->(fP f v s).map (·.1)=putK f (s.map (·.1))/\bJ K F H m (ul f u (s.map (·.1)) d) ((fP f v s).map (·.2))
 | [],d,n=>⟨rfl,v,[],rfl,h,rfl⟩
 |(k,x)::r,d,n=>by
  cases d with
  |nil=>cases (show _=([]:List V) from n)
  |cons t d=>
   obtain⟨z,p,e,b,a⟩:=n;simp only[az,List.cons.injEq]at e;obtain⟨rfl,rfl⟩:=e;by_cases hk:k=f
   .simp only[fP,hk,cG,az,putK,ul];first|exact⟨rfl,v,_,rfl,h,a⟩|exact⟨trivial,v,_,rfl,h,a⟩
   .obtain⟨i,c⟩:=z3 h a;simp only[fP,hk,dG,az,putK,ul];exact⟨by rw[i],x,_,rfl,b,c⟩
end
section
variable{X:Cx}{o e g:Expr}{f:Str}{N G j:Pos}{I z:EE}{A:Str->Str->Bool}{es:Ab}{fs:qU}
@[simp] def bZ(A:Str->Str->Bool)(o:EE)(f:Str)(L:Lc)(S:aC):oo:=aZ (o L S) λd h=>match d with
 | .ref i=>match h[i]? with
  |some (.ins c k s)=>if A c f=true then (eu f k s).map λz=>(z,h) else none
  |_=>none
 |_=>none
theorem Lv(P:K4 X.K A)(T:Y X o (tE X.K I))(E:attributeBase o f X.e (eval o X.e)=eval o X.e):Y X (.Attribute o f N) (tE X.K (bZ A I f)):=(Gb T E).imp' λJ H Q W=>by
 obtain⟨F,m,L,S,d,S',r,l,q,k⟩:=W;obtain⟨x,t,j,q⟩:=ah q;refine⟨F,m,L,S,x,t,r,l,j,λv b m1 H1 s1 n p1=>?_⟩;cases x with
 |p w=>cases q
 |ref i=>
  obtain⟨a,rfl,M⟩:=p1;dsimp only at q;split at q
  .rename_i c Z u V;split at q
   .rename_i D;cases h:eu f Z u with
    |none=>rw[h]at q;cases q
    |some z=>rw[h]at q;cases q;obtain⟨C,g,s,K,B,rfl,rs⟩:=n.obj i a _ M V;obtain⟨C',e,G,R⟩:=P c f D;cases gv.inj K e;obtain⟨v,y,p3⟩:=xx rs h;exact⟨a,C,g,s,v,rfl,B,G,R,y,k v b m1 H1 s1 n p3⟩
   .cases q
  .cases q
@[simp] def ow(A:Str->Str->Bool)(o:EE)(f:Str)(v:EE)(L:Lc)(S:aC):zy:=aZ (v L S) λy x=>aZ (o L x) λd h=>match d with
 | .ref i=>match h[i]? with
  |some (.ins c k s)=>if (A c f && decide (k.length < 900))=true then some (.nx,L,h.set i (.ins c (putK f k) (ul f y k s))) else none
  |_=>none
 |_=>none
theorem HI(hA:K4 X.K A)(ho:Y X o (tE X.K I))(hv:Y X g (tE X.K z))(e:swapsWith g (some (.Attribute o f G)) N.line X.e=pure false):PS X (.Assign [.Attribute o f G] g N) (h_ X.K (ow A I f z)):=(FW ho hv e).imp' λD J H hz=>by
 obtain⟨F,m,L,S,fl,L',S',r,l,q,k⟩:=hz;obtain⟨y,Q,e1,q⟩:=ah q;obtain⟨d,S2,e2,q⟩:=ah q;refine⟨F,m,L,S,y,Q,r,l,e1,λv Z m1 H1 E r1 p1=>?_⟩;refine⟨Z,m1,L,Q,d,S2,r1,l.mono E,e2,λx n P b M B p2=>?_⟩;cases d with
 |p w=>cases q
 |ref i=>
  obtain⟨a,rfl,K⟩:=p2;dsimp only at q;split at q
  .rename_i c ks ds e;split at q
   .rename_i j;rw[aq]at j;cases q;obtain⟨C,t,s,R,T,rfl,rs⟩:=B.obj i a _ K e;obtain⟨C',u,hc,hn⟩:=hA c f j.1;cases gv.inj R u;have hl:s.length < 1000:=by have:=aD j.2;rw[a8]at this;lia
    have V:∀W,b a≠some (.tup W):=λW h=>by rw[T]at h;cases h
    have st:Stp n P b n P (a7 b a (.ins C t (fP f v s))):=cS B K e trivial V;obtain⟨i1,i2⟩:=z3 (f:=f) (RD.mono st (RD.mono M p1)) (bJ.mono st rs);exact⟨a,C,t,s,rfl,T,hc,hn,hl,k J n P _ (E.trans (M.trans st)) (B.set K e trivial V ⟨C,t,_,R,au,i1,i2⟩) ((l.mono E).mono (M.trans st))⟩
   .cases q
  .cases q
@[simp] def dC(M:Str->Str->Option GF)(o:EE)(y:Str)(a:qU)(L:Lc)(S:aC):oo:=aZ (o L S) λd h=>match d with
 | .ref i=>match h[i]? with
  |some (.ins c k _)=>match M c y with
   |some g=>if k.contains y=true then none else aZ (a L h) λT x=>g (.ref i::T) x
   |none=>none
  |_=>none
 |_=>none
def K2(X:Cx)(M:Str->Str->Option GF):Prop:=∀c y g,M c y=some g->∃C k f d p,gv X.K c C/\Cls X.K C/\Meth X.K C y f/\FnOk X.p X.w X.K X.g X.b kW k f d p (km X.K g)/\Room k X.A/\Binds X.K d p []
variable{M:Str->Str->Option GF}{y:Str}
theorem oE(hM:K2 X M){t:TE}{ta:TA}(b:∀C k f u j g,Cls X.K C->Meth X.K C y f->FnOk X.p X.w X.K X.g X.b kW k f u j (km X.K g)->Room k X.A->Binds X.K u j []->Y X e (zI C y (km X.K g) [] E0 (tE X.K I) (tj X.K fs))):Y X e (tE X.K (dC M I y fs)):=by
 intro B s J H Q n h;obtain⟨F,m,L,S,d,S',r,l,q,k⟩:=h;obtain⟨x,P,e1,q⟩:=ah q;cases x with
 |p w=>cases q
 |ref i=>
  dsimp only at q;split at q
  .rename_i c ks ds hs;split at q
   .rename_i g hg;split at q
    .cases q
    .rename_i hk;obtain⟨T,A,e2,q⟩:=ah q;obtain⟨C,kk,f,u,j,ec,hc,hm,hF,hr,hb⟩:=hM c y g hg;refine b C kk f u j g hc hm hF hr hb B s J H Q n ⟨F,m,L,S,.ref i,P,r,l,e1,λv R m1 H1 G E D=>?_⟩;obtain⟨a,rfl,o⟩:=id D;obtain⟨C',dx,K,z,hH,rfl,rs⟩:=E.obj i a _ o hs;cases gv.inj ec z;refine⟨a,dx,K,rfl,hH,xw (by simpa using hk),R,m1,L,P,T,A,E,l.mono G,e2,λxs W m2 H2 N r2 p2=>?_⟩;show km X.K g (V.ref a::(xs++[])) H2 Q E0;rw[b9];exact⟨W,m2,.ref i::T,A,d,S',r2,⟨_,_,rfl,RD.mono N D,p2⟩,q,λv Z m3 H3 s3 r3 p3=>k v Z m3 H3 (G.trans (N.trans s3)) r3 p3⟩
   .cases q
  .cases q
theorem HW(x:K2 X M)(n:Y X o (tE X.K I))(a:PA X (e::es) (tj X.K fs))(s:starEach (e::es) X.e=(false,eval e X.e)::starEach es X.e)(h:(backTo N (starEach es X.e)).any (·.1)=false)
  (p:eval (.Call (.Attribute o y j) (e::es) [] N) X.e=(do
   let v <- eval o X.e
   standAt j.atName
   let (f,first) <- holding [v] (getMethod v y u)
   callWith N f first (backTo N (starEach (e::es) X.e)) (backToKw N (keywordEach [] X.e)))) :
  Y X (.Call (.Attribute o y j) (e::es) [] N) (tE X.K (dC M I y fs)):=
 oE (t:=tE X.K I) (ta:=tj X.K fs) x λC k f d q g c m F r b=>Dn n c m F r b .nil mV a s h p
theorem EU(i:K2 X M)(B:Y X o (tE X.K I))
  (E:eval (.Call (.Attribute o y j) [] [] N) X.e=(do
   let u <- eval o X.e
   standAt j.atName
   let (f,first) <- holding [u] (getMethod u y pl)
   callWith N f first (backTo N (starEach [] X.e)) (backToKw N (keywordEach [] X.e)))) :
  Y X (.Call (.Attribute o y j) [] [] N) (tE X.K (dC M I y aO)):=
 oE (t:=tE X.K I) (ta:=tj X.K aO) i λC k f fd ps g K A p D z=>(Af B K A p D z .nil mV E).imp' λJ H Q h=>by obtain⟨F,m,L,S,d,n,r,l,q,k⟩:=h;refine⟨F,m,L,S,d,n,r,l,q,λv e R x s' Z V=>?_⟩;obtain⟨a,c,fs,rfl,w,P,s,T,L2,S2,ds,b,r2,l2,W,G⟩:=k v e R x s' Z V;cases W;exact⟨a,c,fs,rfl,w,P,G [] s T x .refl r2 rfl⟩
@[simp] def gi(g:GF)(c:Str)(a:qU)(L:Lc)(S:aC):oo:=aZ (a L S) λT h=>match g (.ref h.length::T) (h++[.ins c [] []]) with
 |some (.p .non,x)=>some (.ref h.length,x)
 |_=>none
theorem HX{C f:Addr}{z:FuncData}{o:LS}{k:Nat}{x:Str}{p:Pos}{g:GF}(M:Mk X.K C f)(G:FnOk X.p X.w X.K X.g X.b kW k f z o (km X.K g))(hr:Room (k+1) X.A)(hg:Gl X x)(hm:X.g x=some (.ref C))(W:gv X.K x C)(hb:Binds X.K z o [])
  (Z:PA X (e::es) (tj X.K fs)) (u:(x == ("__debug__":Str))=false) (he:starEach (e::es) X.e=(false,eval e X.e)::starEach es X.e) (j:(backTo N (starEach es X.e)).any (·.1)=false) :
  Y X (.Call (.Name x p) (e::es) [] N) (tE X.K (gi g x fs)):=
 (xm M G hr hg hm hb .nil mV Z u he j).imp' λJ H Q hz=>by
  obtain⟨F,m,L,S,d,S',r,l,q,k⟩:=hz;obtain⟨T,c,I,q⟩:=ah q;refine⟨F,m,L,S,T,c,r,l,I,λxs s a H1 s1 K p1=>λy h hy t i=>?_⟩;split at q
  .rename_i _ S2 R;cases q;have P:Stp s a H1 s a (a7 H1 h (.own y)):=cz t;have r2:Rel X.K s (a7 H1 h (.own y)) a c:=K.new t;have w:a7 H1 h (.own y) y=none:=by rw[al (aG i)];exact hy
   have A:Stp s a (a7 H1 h (.own y)) s (a++[y]) (a7 (a7 H1 h (.own y)) y (.ins C h [])):=bH w;have r3:Rel X.K s (a7 (a7 H1 h (.own y)) y (.ins C h [])) (a++[y]) (c++[.ins x [] []]):=r2.own w ⟨C,h,[],W,au,rfl,rfl⟩;rw[b9];have b:(a++[y])[c.length]? = some y:=by rw[<- K.len,bb (ai _)];simp
   refine⟨s,a++[y],.ref c.length::T,_,.p .non,_,r3,⟨_,_,rfl,⟨y,rfl,b⟩,bJ.mono A (bJ.mono P p1)⟩,R,λv D m4 E B r4 p4=>⟨p4,?_⟩⟩;refine k (.ref y) D m4 E (s1.trans (P.trans (A.trans B))) r4 ⟨y,rfl,?_⟩;obtain⟨n,V⟩:=B.pre;rw[V,bu (a9.mp b).1];exact b
  .cases q
end
theorem Gy(h:attributeBase o y v (eval o v)=eval o v)(e:methodCallForm (u.length+([]:List Keyword).length) (backTo N (starEach u v)) (backToKw N (keywordEach [] v))=true)(l:(j.endLine == N.line)=true) :
  eval (.Call (.Attribute o y j) u [] N) v=(do
   let ov <- eval o v
   standAt j.atName
   let (f,first) <- holding [ov] (getMethod ov y (do return (<- importBound o v).getD true))
   callWith N f first (backTo N (starEach u v)) (backToKw N (keywordEach [] v))):=by
 have x:methodCallPos true o v j N=pure N:=by unfold methodCallPos;rw[l];rfl
 have a:∀ov,methodCall o y j N v ov (u.length+([]:List Keyword).length) (backTo N (starEach u v)) (backToKw N (keywordEach [] v))=(do
   let (f,first) <- holding [ov] (getMethod ov y (do return (<- importBound o v).getD true))
   callWith N f first (backTo N (starEach u v)) (backToKw N (keywordEach [] v))):=λov=>by
  unfold methodCall;rw[e,x];rfl
 have s:eval (.Call (.Attribute o y j) u [] N) v=(do
  let ov <- attributeBase o y v (eval o v)
  standAt j.atName
  methodCall o y j N v ov (u.length+([]:List Keyword).length) (backTo N (starEach u v)) (backToKw N (keywordEach [] v))):=by rfl
 rw[s,h];simp only[a]
section
variable{X:Cx}{o e g:Expr}{f:Str}{N G L:Pos}{I:EE}{z:EV}{A:Str->Str->Bool}
def zU(i:Nat)(v:EV):ES:=λL S=>match L[i]? with
 |some (some (.p (.int a)))=>aZ (v L S) λy h=>match y with
  | .int b=>some (.nx,L.set i (some (.p (.int (a+b)))),h)
  |_=>none
 |_=>none
theorem K_(i:Nat)(p:X.N.Nodup)(h:Y X e (tV X.K z))(u:X.N[i]? = some x)(g:L2.Loc X.e.scope x)(w:X.fn x=true\/X.e.scope.names.lookup x=some .local):PS X (.AugAssign (.Name x G) .Add e N) (h_ X.K (zU i z)):=
 (FX p u g h GQ w).imp' λD J H j=>by
  obtain⟨F,m,L,S,I,B,C,r,l,q,k⟩:=j;unfold zU at q;split at q
  .rename_i a d;obtain⟨y,E,c,q⟩:=ah q;cases y with
   |int b=>cases q;obtain⟨A,t,K⟩:=l.at' i _ d;cases (show A=.int a from K);refine⟨_,t,F,m,L,S,_,_,r,l,c,λv s n H1 f P o=>?_⟩;cases (show v=.int b from o);exact⟨a,b,rfl,rfl,k _ s n H1 f P ((l.mono f).set (show RD X.K s H1 n (.p (.int (a+b))) (.int (a+b)) from rfl) i)⟩
   |_=>cases q
  .cases q
end
variable{F:Aa}{H:Hp}
theorem rD:∀h:LS,bg K F H (h.map .str) (h.map V.str)
 | []=>rfl
 |s::r=>⟨_,_,rfl,rfl,rD r⟩
variable{x:Str}
theorem ym(s:LS)(h:u x=some (.ref a))(hk:K.lookup a=some ⟨.type "tuple",none,.seq v n,sl⟩)(z:v.size≤sizeLine)(e:aM (s.map V.str) v.toList):qT K u x (.tup (s.map .str)):=
 ⟨.ref a,.ref a,h,rfl,λF H=>⟨a,s.map V.str,rfl,.inr (.inr ⟨_,v,n,hk,rfl,rfl,rfl,z,e⟩),rD s⟩⟩
open PySem.W (KasT kas_sort kas_ask kas_item kat_run kat_snds kat_lt kat_kind KatTups KatLex kat_nil kat_cons kat_yes kat_no kat_one)
noncomputable def JN{d:Type}(lt:Nat->Nat->Option Bool):KasT d->Option d
 | .ret a=>some a
 | .ask i j k=>match lt i j with
  |some b=>JN lt (k b)
  |none=>none
theorem Bf{d:Type}{lt:Nat->Nat->Option Bool}{c:Nat->Nat->(Bool->Shared->Prop)->Shared->Prop}{Q:d->Shared->Prop}{s:Shared}(x:∀i j b C,lt i j=some b->C b s->c i j C s){a:d}(q:Q a s) :
  ∀(t:KasT d),JN lt t=some a->t.kasWp c Q s
 | .ret _,h=>by cases h;exact q
 | .ask i j k,h=>by
  simp only[JN]at h;split at h
  .rename_i b e;exact x i j b _ e (Bf x q (k b) h)
  .cases h
section
variable{prog:Program}{w:World}{A:Around}{E:VP}{s:Shared}{D:Addr}{T:LV}
theorem sE(few:T.length < 2):((arrOf (SortSt.mk' general' (T.toArray.zip T.toArray) #[] 7 none)).map (·.2))=T.toArray:=by
 have same:(T.toArray.zip T.toArray).map (·.2)=T.toArray:=by
  rcases T with _|⟨v,_|⟨u,r⟩⟩
  .simp
  .simp
  .exact absurd few (by simp)
 exact same
theorem Bb(few:T.length < 2)(a:s.heap.get? D=some (seqObj "list" T.toArray v))
  (g:∀n c,(∀b o,b≠D->s.heap.get? b=some o->n.get? b=some o)->n.get? D=some (seqObj "list" T.toArray c)->u (.done (.ret .none)) { s with heap:=n }) :
  wpAny (model prog w) A (Builtin.«list.sort» ⟨[.ref D],[]⟩) u E s:=by
 have m:T.length+1≤sizeLine:=by rw[kn];lia
 have cond:T.toArray.size < 2:=by simpa using few
 have h:=vS a λ_=>(#[]:Array Value);rw[list_sort_plain];refine ac <|listItems_at a rfl <|ac <|vO a rfl (ac <|seqEpoch_at h rfl <|ac <|tB (ac <|wG (cZ ?_) (br _)) (by simpa using pE m)) (by simpa using pE m) (br _);simp only[cond,cG];have k:∀b o,(s.heap.update D (gx λ_=>(#[]:Array Value))).get? b=some o->((((s.heap.update D (gx λ_=>(#[]:Array Value))).push { cls:=.type "tuple",data:=.seq T.toArray }).push { cls:=.type "list",data:=.seq ([]:LV).toArray })).get? b=some o:=
  λ_ _ q=>aE _ (aE _ q)
 have t:=k D _ h;refine ac <|am <|ac <|am ?_;refine ac <|seqEpoch_at t rfl <|ac <|vO t rfl ?_ (br _) (by rw[sE few];simpa using v5 (pE m));rw[sE few];have x:=vS t λ_=>T.toArray;simp only[bne_self_eq_false,jM,dG,failedOf];refine am (g _ _ (λb o f e=>?_) x);exact((jz _ D _).2 b f).trans (k b o (((jz s.heap D _).2 b f).trans e))
theorem s0(q:∀a u,Q a u->v a u):∀(t:KasT d)(u:Shared),t.kasWp (kas_ask prog w A κ T) Q u->t.kasWp (kas_ask prog w A κ T) v u
 | .ret a,u,h=>q a u h
 | .ask _ _ k,_,h=>bv h (λb u e=>s0 q (k b) u e) λ_ _ x=>x
theorem CY{f:Heap}{L l:Addr}{m:SV}{d:PN}{a:String}{o:Obj}{n:Nat}{G:VP}(F:Fr f L s.heap m)(N:News f L s.heap d)(hT:a="list"\/a="tuple")(ho:s.heap.get? l=some o)(hc:o.cls=.type a)(hd:o.data=.seq T.toArray n)(C:T.length < 64)
  (h1:T.length < 2->∀D g c,s.heap.get? D=none->Fr f L g m->News f L g ((D,seqObj "list" T.toArray c)::d)->G (.ref D) { s with heap:=g })
  (h2:2≤T.length->∀D e g,s.heap.get? D=none->(∀q ∈ d,q.1≠D)->Fr f L g m->News f L g ((D,seqObj "list" #[] e)::d) ->
   wpAny (model prog w) A.in1.in1 (keyKind' T.toArray) (λR u=>(kas_sort T.length).kasWp (kas_ask prog w A.in1.in1 R T) (λp u=>yZ f L m D e (p.toList.map λi=>T.getD i Value.none) (λu=>G (.ref D) u) u) u) (λ_ _=>False) { s with heap:=g }) :
  wpAny (model prog w) A (call (.builtin "sorted") [.ref l]) G E s:=by
 have y:T.length≤sizeLine:=by rw[kn];lia
 refine Calls.call_function_entry (b:=Builtin.«sorted») kind_sorted plain_sorted entry_sorted (args_sorted1 (.ref l)) (ac (m:=checkCount "sorted" 1 1 1) <|am <|ac <|wpAny_collect_seq l hT ho hc hd (λh k=>ac <|wG ?_ y) y);have t:∀b,b=h.objs.size->s.heap.get? b=none:=λb hb=>by
  cases q:s.heap.get? b with
  |none=>rfl
  |some u=>exact absurd (ar (k b u q)) (by rw[hb];exact cN _)
 have Q:∀b u,s.heap.get? b=some u->(h.push { cls:=.type "list",data:=.seq T.toArray }).get? b=some u:=λb u e=>aE _ (k b u e);have H:(h.push { cls:=.type "list",data:=.seq T.toArray }).get? h.objs.size=some (seqObj "list" T.toArray 0):=aS _ rfl;have S:h.objs.size≠L:=λz=>by obtain⟨u,_,_,e,_⟩:=F.ns;rw[t L z.symm]at e;cases e
 have K:f.get? h.objs.size=none:=by
  rcases q:f.get? h.objs.size with _|u
  .rfl
  .have:=F.keep _ _ q;rw[t _ rfl]at this;cases this
 have neN:∀q ∈ d,q.1≠h.objs.size:=λq hq z=>by have:=(N q hq).1;rw[t _ z]at this;cases this
 have P:=F.keeps Q;have B:=N.keeps Q;refine ac (cZ (kq (b:=Builtin.«list.sort») slot_list_sort ⟨_,H,rfl⟩ entry_list_sort ?_ (args_list_sort _)));by_cases few:T.length < 2
 .refine Bb (s:={ s with heap:=h.push { cls:=.type "list",data:=.seq T.toArray } }) few H λg c M e=>⟨_,rfl,am ⟨_,rfl,h1 few _ g c (t _ rfl) ⟨?_,λb u q=>?_,F.above⟩ λq j=>?_⟩⟩
  .obtain⟨u,es,Z,X,r⟩:=P.ns;exact⟨u,es,Z,M L u S.symm X,r⟩
  .exact M b u (λz=>by rw[z,K]at q;cases q) (P.keep b u q)
  .rcases aH.mp j with rfl|j
   .exact⟨e,S,K⟩
   .exact⟨M _ _ (neN q j) (B q j).1,(B q j).2⟩
 .refine PySem.W.kat_list_sort (s:={ s with heap:=h.push { cls:=.type "list",data:=.seq T.toArray } }) P B H S K neN (by lia) C λe g V W=>?_;refine bv (h2 (by lia) _ e g (t _ rfl) neN V W) (λR u hu=>?_) λ_ _ x=>x;exact s0 (λp v I=>I.mono λv I=>⟨_,rfl,am ⟨_,rfl,I⟩⟩) _ _ hu
end
noncomputable def NC:P->P->Option Bool
 | .tup [.str a,.int i],.tup [.str b,.int j]=>some (if a=b then decide (i < j) else decide (a.cps.toList < b.cps.toList))
 |_,_=>none
noncomputable def DL:P->Bool
 | .tup [.str _,.int _]=>true
 |_=>false
theorem DK(h:DL v=true):∃a i,v=.tup [.str a,.int i]:=by
 unfold DL at h;split at h
 .exact⟨_,_,rfl⟩
 .cases h
def sd(d:List P)(i j:Nat):Option Bool:=match d[i]?,d[j]? with
 |some x,some y=>NC x y
 |_,_=>none
def ou(d:List P):Option (List P):=if d.length < 2 then some d else if d.length < 64 then (JN (sd d) (kas_sort d.length)).bind λp=>if p.size < 64 then some (p.toList.map λi=>d.getD i .non) else none else none
def sortable(d:List P):Bool:=d.all DL
def nH(d:List P):Option P:=if sortable d=true then (ou d).map .lst else none
def KV(h:Heap)(d:P)(v:Value):Prop:=∃x i a o n t u,d=.tup [.str x,.int i]/\v=.ref a/\h.get? a=some o/\o.cls=.type "tuple"/\o.data=.seq #[.str x t,.int i u] n
variable{l:Type}
theorem gK:∀{xs:List d}{s:List l}{i:Nat}{x:d},Paired R xs s->xs[i]? = some x->∃y,s[i]? = some y/\R x y
 |_,_,_,_,.nil,h=>by simp at h
 |_,_,0,x,.cons (b:=b) r _,h=>⟨b,rfl,by simp at h;subst h;exact r⟩
 |_,_,i+1,x,.cons _ a,h=>by obtain⟨y,e,r⟩:=gK (i:=i) a (by simpa using h);exact⟨y,by simpa using e,r⟩
theorem eO{d l:Type}{R:d->l->Prop}:∀{xs:List d}{y:List l},Paired R xs y->xs.length=y.length
 |_,_,.nil=>rfl
 |_,_,.cons _ r=>by rw[bC,bC,eO r]
section
variable{prog:Program}{w:World}{A:Around}{E:VP}{s:Shared}
theorem Ea{d:List P}{T:LV}{i j:Nat}{b:Bool}{C:Bool->Shared->Prop}(r:Paired (KV s.heap) d T)(h:sd d i j=some b)(c:C b s):kas_ask prog w A (tuples' true) T i j C s:=by
 unfold sd at h;split at h
 .rename_i x y m t;obtain⟨_,u,l,p,o,D,K,G,L,rfl,rfl,g,S,n⟩:=gK r m;obtain⟨_,v,z,q,H,E,B,I,M,rfl,rfl,f,F,k⟩:=gK r t;cases h;unfold kas_ask;rw[iQ,iQ,u,v];refine kat_lt g n f k (kat_cons (wO ?_));by_cases e:l=z
  .rw [ae e]at c;rw[ff e];refine kat_yes (kat_cons (wN ?_));by_cases a:(p == q)=true
   .rw [a];rw[aU (by rw[eq_of_beq a];exact Int.lt_irrefl _)]at c;exact kat_yes (kat_nil c)
   .rw [Bool.not_eq_true]at a;rw[a];exact kat_no (kat_one _ _ (vV (show PySem.W.BoolBack C (.bool _) s from c)))
  .rw [ag e]at c;rw[aU e];exact kat_no (oneLt_str c)
 .cases h
theorem sk:∀{s:List P}{T:LV},Paired (KV a0) s T->∃fs,KatTups a0 T fs/\fs.length=s.length/\∀v ∈ fs,∃x t,v=Value.str x t
 |_,_,.nil=>⟨[],.nil,rfl,λ_ z=>nomatch z⟩
 |d::s,_,.cons k r=>by
  obtain⟨fs,f,h,e⟩:=sk r;obtain⟨x,i,a,o,n,t,u,rfl,rfl,p,c,b⟩:=k;refine⟨.str x t::fs,.cons (xs:=#[.str x t,.int i u]) p c b rfl f,by rw[bC,bC,h],λv m=>?_⟩;rcases aH.mp m with rfl|m
  .exact⟨x,t,rfl⟩
  .exact e v m
theorem DF{d:List P}{T:LV}(r:Paired (KV s.heap) d T)(m:2≤T.length) :
  wpAny (model prog w) A (keyKind' T.toArray) (λk h=>h=s/\∀i j b C,sd d i j=some b->C b h->kas_ask prog w A k T i j C h) (λ_ _=>False) s:=by
 obtain⟨fs,f,x,a⟩:=sk r;refine kat_kind (T:=.type "str") f (by rw[x,eO r];lia) (λv n=>?_) rfl ⟨rfl,λi j b C e c=>Ea r e c⟩;obtain⟨i,t,rfl⟩:=a v n;exact PySem.W.Looks.of_peek (K:=[]) (λ_ _ z=>nomatch z) rfl
end
section
variable{X:Cx}
theorem AM{B:PN}{J:L2.St}{H:Hp}{s:Shared}(I:Inv X B J H s){F:Aa}:∀{e:List P}{xs:List V}{k:LV},bg X.K F H e xs->aM xs k->sortable e=true->Paired (KV s.heap) e k
 | [],_,_,h,r,_=>by cases (show _=([]:List V) from h);cases r;exact .nil
 |d::e,_,_,h,r,q=>by
  obtain⟨x,D,rfl,w,g⟩:=h;obtain⟨l,z⟩:=Bool.and_eq_true_iff.mp (show(DL d && sortable e)=true from q);cases r with
  |cons S K=>refine .cons ?_ (AM I g K z);obtain⟨y,i,rfl⟩:=DK l;obtain⟨a,E,rfl,C,_,_,rfl,f,_,_,rfl,b,c⟩:=w;cases S;cases f;cases b;cases c;obtain⟨j,A,⟨o,v,m,n,p⟩,_⟩:=I.tuple C.sq;obtain⟨_,_,rfl,⟨t,rfl⟩,u,rfl⟩:=vals2 A;exact⟨y,i,a,o,n,t,u,rfl,rfl,v,m,p⟩
theorem Ij(r:aM xs v)(i:Nat):RelV (xs.getD i .non) (v.getD i Value.none):=by
 rw[iQ,iQ];cases e:xs[i]? with
 |none=>
  have l:=eO r;have:v[i]? = none:=by rw[wx]at e ⊢;lia
  rw[this];rfl
 |some x=>obtain⟨y,h,a⟩:=gK r e;rw[h];exact a
theorem w9{xs:List V}{t:LV}(r:aM xs t):∀p:List Nat,aM (p.map λi=>xs.getD i .non) (p.map λi=>t.getD i Value.none)
 | []=>.nil
 |i::p=>.cons (Ij r i) (w9 r p)
theorem zW{K:FG}{F:Aa}{H:Hp}{s:List P}{xs:List V}(r:bg K F H s xs):∀p:List Nat,bg K F H (p.map λi=>s.getD i .non) (p.map λi=>xs.getD i .non)
 | []=>rfl
 |i::p=>by
  refine⟨_,_,rfl,?_,zW r p⟩;show RP K F H (s.getD i P.non) (xs.getD i V.non);rw[iQ,iQ];cases e:s[i]? with
  |none=>
   have l:=r.length;have:xs[i]? = none:=by rw[wx]at e ⊢;lia
   rw[this];rfl
  |some d=>obtain⟨x,h,a⟩:=r.get e;rw[h];exact a
theorem oH{B:PN}{J:L2.St}{H:Hp}{s:Shared}{r:Heap}{C:Nat}{m:SV}(I:Inv X B J H s)(S:s.heap.Ns X.e.locals m)(a:r.Ns X.e.locals m)(k:∀b o,b≠X.e.locals->s.heap.get? b=some o->r.get? b=some o):Inv X B J H { s with heap:=r,toks:=C }:=by
 have L:∀b u,H b=some u->b≠X.e.locals:=λb u e z=>by rw[z,I.free]at e;cases e
 refine I.step (g':=s.gens) (d':=s.drawn) (ch:=[]) (λ_ z=>nomatch z) (λb o h _ _ e _=>k b o h e) (λb o h _ _ e _=>⟨o.slots,k b o h e⟩) (λ_ _ _ _ n=>n) (λb o _ e=>?_) (λ_ _ e=>e) (λ_ _ _ e=>e) (λ_ e=>e) (λP y=>?_) (λb u e=>?_) I.bare
 .by_cases h:b=X.e.locals
  .subst h;obtain⟨A,_,_,w,_⟩:=a;exact⟨A,w⟩
  .exact⟨o,k b o h e⟩
 .obtain⟨o,es,D,F,l,E,t⟩:=S;obtain⟨G,i,g,f,d,K,p⟩:=y;rw[F]at f;cases f;rw[l]at d;cases d;have:m=P:=funext λx=>(t x).symm.trans (p x);rw[<- this];exact a
 .refine (I.h b u e).stay (λc v j q=>k c v ?_ q) (λ_ q=>q) λ_ _ q=>q;rcases j with z|z
  .rw [z];exact L b u e
  .exact L c _ z
theorem sj{g h x:Heap}{L:Addr}{m:SV}(k:∀b o,g.get? b=some o->h.get? b=some o)(F:Fr g L x m)(N:News g L x (kf g h L)):∀b o,b≠L->h.get? b=some o->x.get? b=some o:=λb o a e=>by
 cases q:g.get? b with
 |some u=>have:=k b u q;rw[e]at this;cases this;exact F.keep b _ q
 |none=>exact(N (b,o) (r9 a q e)).1
theorem Gp{P:Program}{w:World}{H:Hp}{h:Heap}{a:Addr}{o:HO}(x:bX P w H h a o):∃u,h.get? a=some u:=by
 cases o with
 |lst xs=>obtain⟨_,_,_,_,e⟩:=x;exact⟨_,e⟩
 |tup xs=>obtain⟨_,_,_,_,e,_⟩:=x;exact⟨_,e⟩
 |dK k=>obtain⟨_,_,_,_,_,_,_,e,_⟩:=x;exact⟨_,e⟩
 |dT k=>obtain⟨_,_,_,_,_,_,_,e,_⟩:=x;exact⟨_,e⟩
 |dN k=>obtain⟨_,_,_,_,_,_,_,e,_⟩:=x;exact⟨_,e⟩
 |set S n=>obtain⟨_,_,_,_,e,_⟩:=x;exact⟨_,e⟩
 |ins C d fs=>obtain⟨_,_,_,e,_⟩:=x;exact⟨_,e⟩
 |own y=>exact x
 |xd fs=>obtain⟨_,⟨_,_,_,e,_⟩,_⟩:=x;exact⟨_,e⟩
 |rng lo i=>obtain⟨_,_,_,e⟩:=x;exact⟨_,e⟩
 |frz b u=>exact⟨_,x.1⟩
 |tbl=>obtain⟨_,e,_⟩:=(show nL H h a from x);exact⟨_,e⟩
 |met f y=>exact⟨_,(show h.get? a=some _ from x)⟩
 |ext s=>exact x.2.1
theorem AZ{B:PN}{J:L2.St}{H:Hp}{s:Shared}{D:Addr}(I:Inv X B J H s)(h:s.heap.get? D=none):H D=none:=by
 cases q:H D with
 |none=>rfl
 |some v=>obtain⟨u,e⟩:=Gp (I.h D v q);rw[h]at e;cases e
theorem yi{B:PN}{J:L2.St}{H:Hp}{s:Shared}{t:Heap}{S:Nat}{m:SV}{D:Addr}{u:HO}(I:Inv X B J H s)(y:s.heap.Ns X.e.locals m)(h:t.Ns X.e.locals m)(k:∀b o,b≠X.e.locals->s.heap.get? b=some o->t.get? b=some o)(j:s.heap.get? D=none)(i:bX X.p X.w (a7 H D u) t D u):Inv X B J (a7 H D u) { s with heap:=t,toks:=S }:=by
 have f:=AZ I j;have N:∀b o,s.heap.get? b=some o->b≠D:=λb o e z=>by rw[z,j]at e;cases e
 have a:∀b v,H b=some v->b≠D:=λb v e z=>by rw[z,f]at e;cases e
 have F:=oH (C:=S) I y h k;refine I.step (g':=s.gens) (d':=s.drawn) (ch:=[]) (λ_ z=>nomatch z) (λb o L _ _ e _=>k b o L e) (λb o L _ _ e _=>⟨o.slots,k b o L e⟩) (λb o _ e n=>(al (N b o e)).trans n) (λb o _ e=>?_) (λb xs e=>(al (a b _ e)).trans e) (λb o v e=>(al (a b _ e)).trans e) (λb e=>(al (a b _ e)).trans e) (λM C=>?_) (λb v e=>?_) I.bare
 .by_cases L:b=X.e.locals
  .subst L;obtain⟨Q,_,_,g,_⟩:=h;exact⟨Q,g⟩
  .exact⟨o,k b o L e⟩
 .obtain⟨o,es,R,E,A,T,p⟩:=y;obtain⟨V,P,K,r,d,G,w⟩:=C;rw[E]at r;cases r;rw[A]at d;cases d;have:m=M:=funext λx=>(p x).symm.trans (w x);rw[<- this];exact h
 .by_cases l:b=D
  .subst l;rw[au]at e;cases e;exact i
  .rw [al l]at e;exact(F.h b v e).stay (λ_ _ _ q=>q) (λc q=>(al (a c _ q)).trans q) (λc xs q=>(al (a c _ q)).trans q) (λc W q=>(al (a c _ q)).trans q)
theorem qM:cm X (.builtin "sorted") (λxs H Q=>∃F a P S b,xs=[.ref a]/\(dw X.K H a P\/kg X.K H a P)/\bg X.K F H S P/\sortable S=true/\ou S=some b/\∀l z,H l=none->bg X.K F H b z->Q (.ref l) (a7 H l (.lst z))):=by
 intro B s J H xs us Q I r h;obtain⟨F,a,P,S,b,rfl,G,L,hs,k,q⟩:=h;obtain⟨u,rfl,rx⟩:=vals1 r;cases rx;obtain⟨m,R⟩:=I.fr;have w:∀(T:String)(hT:T="list"\/T="tuple")(t:LV)(o:Obj)(n:Nat),aM P t->s.heap.get? a=some o->o.cls=.type T->o.data=.seq t.toArray n->wpAny (model X.p X.w) X.A (call (.builtin "sorted") [.ref a]) (EP X B J Q) X.xe s:=by
  intro T hT t o n M E A C;have hl1:=L.length;have hl2:=eO M;have y:S.length < 64:=by
   unfold ou at k;split at k
   .lia
   .split at k
    .lia
    .cases k
  have ew:∀(z:List V)(j:LV)(D:Addr)(f:Heap)(c:Nat),aM z j->bg X.K F H b z->j.length≤64->s.heap.get? D=none->Fr X.b X.e.locals f m->News X.b X.e.locals f ((D,seqObj "list" j.toArray c)::kf X.b s.heap X.e.locals)->EP X B J Q (.ref D) { s with heap:=f }:=
   λz j D f c vz rz hz K d N=>⟨.ref D,_,yi (S:=s.toks) I R.ns d.ns (sj I.bk d λp hp=>N p (.tail _ hp)) K (show bX X.p X.w _ f _ (.lst z) from ⟨by rw[eO vz,kn];lia,j,c,vz,(N _ (.head _)).1⟩),rfl,q _ z (AZ I K) rz⟩
  refine CY R (Ay (g:=X.b)) hT E A C (by lia) (λfew D f c K d N=>?_) λLz D e f K ne d N=>?_
  .unfold ou at k;rw[ae (by lia)]at k;cases k;exact ew P t D f c M L (by lia) K d N
  .unfold ou at k;rw[ag (by lia),ae y]at k;obtain⟨p,ep,k⟩:=jB.mp k;split at k;case isFalse=>cases k
   rename_i ps;cases k;have I1:Inv X B J H { s with heap:=f }:=oH (C:=s.toks) I R.ns d.ns (sj I.bk d λp hp=>N p (.tail _ hp));have Z:JN (sd S) (kas_sort t.length)=some p:=by rw[<- hl2,<- hl1];exact ep
   refine bv (DF (s:={ s with heap:=f }) (AM I1 L M hs) Lz) (λκ v hv=>?_) λ_ _ x=>x;obtain⟨rfl,W⟩:=hv;exact Bf (a:=p) (Q:=λp u=>yZ X.b X.e.locals m D e (p.toList.map λi=>t.getD i Value.none) (λu=>EP X B J Q (.ref D) u) u) W (PySem.W.KasFin.intro d N (.head ne) λh2 c F2 N2=>ew _ _ D h2 c (w9 M p.toList) (zW L p.toList) (by rw[a8,lY];lia) K F2 N2) _ Z
 rcases G with G|G
 .obtain⟨t,r',pl,hz⟩:=I.list G;obtain⟨o,E,A,n,C⟩:=pl.isList;exact w "list" (.inl rfl) t o n r' E A C
 .obtain⟨t,r',⟨o,E,A,n,C⟩,hz⟩:=I.tuple G;exact w "tuple" (.inr rfl) t o n r' E A C
noncomputable def Hk:List D->Option (List P)
 | []=>some []
 | .p v::r=>(Hk r).map (v::·)
 | .ref _::_=>none
theorem zw:∀{d:List D}{T:List P},Hk d=some T->d=T.map .p
 | [],T,h=>by cases h;rfl
 | .p v::r,T,h=>by
  cases e:Hk r with
  |none=>simp only[Hk,e]at h;cases h
  |some w=>simp only[Hk,e]at h;cases h;rw[zw e];rfl
 | .ref _::_,T,h=>by cases h
theorem Eo:∀{T:List P}{xs:List V},bJ K F H m (T.map .p) xs->bg K F H T xs
 | [],_,h=>h
 |_::_,_,h=>by obtain⟨x,r,e,a,s⟩:=h;exact⟨x,r,e,a,Eo s⟩
noncomputable def C0:P->Option (List P)
 | .lst xs=>some xs
 | .ro xs=>some xs
 | .tup xs=>some xs
 |_=>none
def C2:D->aC->Option (List P)
 | .p v,_=>C0 v
 | .ref i,S=>match S[i]? with
  |some (.lst d)=>Hk d
  |some (.fz v)=>C0 v
  |_=>none
@[simp] def zr(r:EE)(L:Lc)(S:aC):tyV:=aZ (r L S) λd h=>match C2 d h with
 |some xs=>(nH xs).map λv=>(v,h)
 |none=>none
theorem xg(p:RP K F H w v)(h:C0 w=some xs):∃a y,v=.ref a/\(dw K H a y\/kg K H a y)/\bg K F H xs y:=by
 cases w with
 |tup d=>obtain⟨a,y,rfl,t,r⟩:=p;cases h;exact⟨a,y,rfl,.inr t.sq,r⟩
 |lst d=>obtain⟨a,y,rfl,t,r⟩:=p;cases h;exact⟨a,y,rfl,.inl t.sq,r⟩
 |ro d=>obtain⟨a,y,rfl,t,r⟩:=p;cases h;exact⟨a,y,rfl,.inl t.sq,r⟩
 |_=>cases h
theorem C1(r:Rel K F H m S)(p:RD K F H m u v)(h:C2 u S=some xs):∃a y,v=.ref a/\(dw K H a y\/kg K H a y)/\bg K F H xs y:=by
 cases u with
 |p w=>exact xg p h
 |ref i=>
  obtain⟨a,rfl,x⟩:=p;simp only[C2]at h;split at h
  .rename_i d es;obtain⟨y,e,s⟩:=r.obj i a _ x es;rw[zw h]at s;exact⟨a,y,rfl,.inl (dw.of e),Eo s⟩
  .rename_i w es;exact xg (r.obj i a _ x es) h
  .cases h
theorem zj(i:Gl X "sorted")(j:X.g "sorted"=none)(g:Y X e (tE X.K q))(n:starEach [e] X.e=[(false,eval e X.e)]:=by rfl):Y X (.Call (.Name "sorted" p) [e] [] N) (tV X.K (zr q)):=
 (mU qM i j Cr (dh g eP (by rw[n];rfl)) (by decide) (by decide) (by rw[n];rfl) rfl).imp' λJ H Q s=>by
  obtain⟨F,m,L,S,d,E,r,l,h,k⟩:=s;obtain⟨x,c,t,h⟩:=ah h;refine⟨F,m,L,S,x,c,r,l,t,λv b K H1 C f P=>?_⟩;split at h
  .rename_i xs w;unfold nH at h;split at h
   .rename_i n;cases o:ou xs with
    |none=>rw[o]at h;cases h
    |some u=>rw[o]at h;cases h;obtain⟨a,D,rfl,y,A⟩:=C1 f P w;exact⟨b,a,D,xs,u,rfl,y,A,n,o,λz G s B=>k _ _ K _ (C.trans (bA s).stp) (f.grow (bA s)) (.newLst s B)⟩
   .cases h
  .cases h
end
noncomputable def Kz(K:FG)(e:Bool)(a:Addr):It:=if e=true then Eh K a else Kj K a
inductive tIOI(K:FG)(en:Bool)(fe:EE)(J:L2.St)(H:Hp)(R:It->Hp->Prop):Prop
 |mk (F:Aa) (m:List Addr) (L:Lc) (S:aC) (j:Nat) (S':aC) (ds:List D) (h0_:Rel K F H m S) (h1_:RL K F H m J L) (h2_:fe L S=some (.ref j,S')) (h3_:S'[j]? = some (.lst ds)) (h4_:∀a F' m' H',Stp F m H F' m' H'->Rel K F' H' m' S'->m'[j]? = some a->R (Kz K en a) H'):tIOI K en fe J H R
noncomputable def Nw(K:FG)(e:Bool)(q:EE):TI:=λJ H R=>tIOI K e q J H R
theorem GP{K:FG}{F:Aa}{H:Hp}{e:Bool}{a:Addr}{xs:List V}{x:V}{i:Nat}{v:P}(q:dw K H a xs)(s:xs[i]? = some x)(p:RP K F H v x) :
  (Kz K e a).go i H/\∀y h,(Kz K e a).yld i H y h->∃n,Grow F H n h/\RP K n h (if e=true then .tup [.int (i:Int),v] else v) y:=by
 cases e with
 |true=>
  refine⟨⟨xs,x,q,s⟩,λz h y=>?_⟩;obtain⟨b,y,rfl,k,rfl,f⟩:=y;have:y=x:=by have:=f xs q;rw[s]at this;cases this;rfl
  subst this;exact⟨F,bj k,RP.newTup k ⟨_,_,rfl,rfl,_,_,rfl,p,rfl⟩⟩
 |false=>
  refine⟨⟨xs,x,q,s⟩,λy h z=>?_⟩;obtain⟨rfl,z⟩:=z;have:=z xs q
  rw[s]at this;cases this;exact⟨F,.refl,p⟩
variable{xs:List V}
theorem AU(q:dw K H a xs)(h:xs.length≤i):(Kz K v a).stop i H:=by
 cases v with
 |true=>exact⟨xs,q,h⟩
 |false=>exact⟨xs,q,h⟩
section
variable{X:Cx}{N:Pos}
theorem iO(h:Y X iter (tE X.K q)):PI X u iter (Nw X.K false q):=(Dk h).imp' λJ H R z=>by obtain⟨F,m,L,S,j,v,d,r,l,f,es,k⟩:=z;refine⟨F,m,L,S,_,_,r,l,f,λx n c H1 t s p=>?_⟩;obtain⟨a,rfl,e⟩:=p;obtain⟨xs,b,w⟩:=s.obj j a _ e es;exact⟨a,rfl,⟨xs,dw.of b⟩,k a n c H1 t s e⟩
theorem uW:cm X (.type "range") (λxs H Q=>∃j:Int,xs=[.int j]/\∀r,H r=none->Q (.ref r) (a7 H r (.rng 0 j))):=by intro B s J H xs a Q I r h;obtain⟨j,rfl,q⟩:=h;obtain⟨u,rfl,x⟩:=vals1 r;obtain⟨t,rfl⟩:=x;refine call_range_1 ?_;exact⟨.ref s.heap.objs.size,_,I.laid (o:=.rng 0 j) (λb o e=>aE _ e) (ai _) ⟨_,_,_,aS _ rfl⟩,rfl,q _ (I.h.fresh (ai _))⟩
theorem oB:∀{xs:List d}{s:List l},xs.length=s.length->(∀(i:Nat) x y,xs[i]? = some x->s[i]? = some y->R x y)->Paired R xs s
 | [],[],_,_=>.nil
 | [],_::_,h,_=>by simp at h
 |_::_,[],h,_=>by simp at h
 |x::xs,y::s,h,k=>.cons (k 0 x y rfl rfl) (oB (by simpa using h) λi a b e n=>k (i+1) a b (by simpa using e) (by simpa using n))
theorem uB(h:ItemsOf (λi v=>∃t,v=Value.int (0+i * 1) t) u n):aM ((List.range n).map λ(i:Nat)=>V.int (i:Int)) u.toList:=by
 obtain⟨z,f⟩:=h;refine oB (by simp[z]) λi x y a b=>?_;rw[cR]at a;cases e:(List.range n)[i]? with
 |none=>rw[e]at a;cases a
 |some k=>
  rw[e]at a;cases a;have hk:k=i:=by have:=a9.mp e;obtain⟨c,s⟩:=this;simpa using s.symm
  subst hk;obtain⟨t,rfl⟩:=f k y (by simpa using b);exact⟨t,by simp⟩
theorem sZ(a:X.c=true):cm X (.type "list") (λxs H Q=>∃r j,xs=[.ref r]/\H r=some (.rng 0 j)/\j.natAbs < 1000000/\∀l,H l=none->Q (.ref l) (a7 H l (.lst ((List.range j.toNat).map λ(i:Nat)=>V.int (i:Int))))):=by
 intro B s J H xs w Q I r h;obtain⟨m,j,rfl,b,d,q⟩:=h;obtain⟨u,rfl,p⟩:=vals1 r;cases p;obtain⟨t,u,v,o⟩:=I.h m _ b;refine call_list_range (n:=j.toNat) (I.o.hd a) o (small_one (by lia) (by lia) (by lia) (by lia)) (by rw[wF];split<;>lia) (by lia) λk tk x c hk e f=>?_
 exact⟨.ref s.heap.objs.size,_,I.laid (t':=tk) hk (ai _) (show bX X.p X.w _ k _ (.lst _) from ⟨by rw[a8,List.length_range];exact aI (by lia:j.toNat≤1000000) (by decide),x.toList,c,uB f,by simpa using e⟩),rfl,q _ (I.h.fresh (ai _))⟩
@[simp] def Il(a:EV)(L:Lc)(S:aC):tyV:=aZ (a L S) λv h=>match v with
 | .int j=>if decide (j.natAbs < 1000000)=true then some (.lst (intsFrom 0 j.toNat),h) else none
 |_=>none
theorem rJ:∀s:List Nat,bg K F H (s.map λ(i:Nat)=>P.int (0+(i:Int))) (s.map λ(i:Nat)=>V.int (i:Int))
 | []=>rfl
 |i::s=>⟨_,_,rfl,by show V.int _=V.int _;rw[o9],rJ s⟩
theorem Cz{a:Expr}{C:EV}{p E u i:Pos}(h:X.c=true)(P:Gl X "list")(B:X.g "list"=none)(g:Gl X "range")(s:X.g "range"=none)(o:Y X a (tV X.K C))(c:starEach [a] X.e=[(false,eval a X.e)])
  : Y X (.Call (.Name "list" p) [.Call (.Name "range" E) [a] [] i] [] u) (tV X.K (Il C)):=
 (iV (sZ h) P B pA (dh (iV uW g s boot_range (dh o eP (by rw[c];rfl)) (by decide) (by decide) (by rw[c];rfl) rfl) eP rfl) (by decide) (by decide) rfl rfl).imp' λJ H Q e=>by
  obtain⟨F,m,L,S,d,M,r,l,q,k⟩:=e;obtain⟨x,w,y,q⟩:=ah q;refine⟨F,m,L,S,x,w,r,l,y,λv f D H1 I G p=>?_⟩;cases x with
  |int j=>
   dsimp only at q;split at q
   .rename_i K;have A:j.natAbs < 1000000:=aD K;cases q;cases (show v=.int j from p);refine⟨j,rfl,λt n=>⟨t,j,rfl,au,A,λz e=>?_⟩⟩;have b:Grow f H1 f (a7 H1 t (.rng 0 j)):=bj n;exact k _ _ D _ (I.trans (b.stp.trans (bA e).stp)) ((G.grow b).grow (bA e)) (.newLst e (rJ _))
   .cases q
  |_=>cases q
end
section
variable{X:Cx}{N:Pos}
theorem xY{prog:Program}{w:World}{A:Around}{E:VP}{s:Shared}{t l:Addr}{i:Array Value}{v u:Value}{lo x:Option Int}{Q:VP}(h:IsTup s.heap t i)(a:s.heap.IsSliceOf l v u .none)(p:IsPart v lo)(b:IsPart u x)
  (k:HT.cW i.size 0 lo=0) (f:HT.cW i.size i.size x=i.size) (q:Q (.ref t) s):wpAny (model prog w) A (getItem (.ref t) (.ref l)) Q E s:=by
 have T:s.TypeIs (.ref l) "slice":=by obtain⟨o,e,n,_⟩:=a;exact⟨o,e,n⟩
 unfold getItem;try with_reducible refine cZ ?_
 first|refine ac (am ?_)|skip
 refine ac (wV h.typeIs (by decide) ?_);refine ac (my (name:=Str.ofString "__getitem__") h.typeIs gA (kq gA h.typeIs vU ?_ (vT _ _)));show wpAny _ _ (yW (.ref t) >>= _) _ _ s;refine ac (vP h (ac (jn T ?_)));rw[ae (by decide)];refine ac (HT.gb a p b ?_);rw[k,f];have y:((((0:Nat):Int) == 0 && (1:Int) == 1 && (i.size-0) == i.size)=true):=by simp
 show wpAny _ _ (if ((((0:Nat):Int) == 0 && (1:Int) == 1 && (i.size-0) == i.size)=true) then _ else _) _ _ s;rw[ae y];refine ac (ac (jn h.typeIs ?_));refine am ?_;rw[ae (by rfl)];first
  |exact ac (am (am ⟨_,rfl,am q⟩))
  |exact ac (mn (am ⟨_,rfl,am q⟩))
  |exact am ⟨_,rfl,am q⟩
theorem zL:EH X (λx lo e H Q=>∃a xs,x=.ref a/\kg X.K H a xs/\HT.cW xs.length 0 lo=0/\HT.cW xs.length xs.length e=xs.length/\Q (.ref a) H):=by
 intro B s J H x v d w lo e m Q I c f p u h;obtain⟨a,xs,rfl,b,n,k,q⟩:=h;cases c;obtain⟨i,r,t,_⟩:=I.tuple b;have l:i.toArray.size=xs.length:=by rw[aP];exact r.length.symm
 exact⟨"tuple",_,gA.lookup,t.typeIs,xY t f p u (by rw[l];exact n) (by rw[l];exact k) ⟨.ref a,H,I,rfl,q⟩⟩
def Mw:P->Option Int->Option Int->Option P
 | .tup xs,lo,h=>some (.tup (cut xs lo h))
 |x,lo,h=>NX x lo h
@[simp] def CH(a:EV)(lo n:EO)(L:Lc)(S:aC):tyV:=aZ (a L S) λx h=>aZ (lo L h) λi e=>aZ (n L e) λj s=>(Mw x i j).map λv=>(v,s)
theorem Lh{e:Expr}{lo A:Option Expr}{C:EV}{P K:EO}{N p2:Pos}(Z:Y X e (tV X.K C))(hl:PO X lo (tO X.K P))(hh:PO X A (tO X.K K)):Y X (.Subscript e (.Slice lo A none p2) N) (tV X.K (CH C P K)):=
 (rN (xf.or (FD.or zL)) Z hl hh).imp' λJ H Q hz=>by
  obtain⟨F,m,L,S,d,S',r,l,q,k⟩:=hz;obtain⟨x,z,R,q⟩:=ah q;obtain⟨i,o,T,q⟩:=ah q;obtain⟨j,M,V,q⟩:=ah q;refine⟨F,m,L,S,x,z,r,l,R,λv D m1 H1 g r1 p1=>?_⟩;refine⟨D,m1,L,z,i,o,r1,l.mono g,T,λE m2 H2 y r2=>?_⟩;refine⟨E,m2,L,o,j,M,r2,(l.mono g).mono y,V,λG f I B b=>?_⟩;have u:=RP.mono B (RP.mono y p1);have c:=g.trans (y.trans B);cases x with
  |lst n=>cases q;obtain⟨a,xs,rfl,t,s⟩:=u;exact .inl ⟨a,xs,rfl,t.sq,λp h=>k _ _ f _ (c.trans (bA h).stp) (b.grow (bA h)) (.newLst h (s.cut i j))⟩
  |ro n=>cases q;obtain⟨a,xs,rfl,t,s⟩:=u;exact .inl ⟨a,xs,rfl,t.sq,λp h=>k _ _ f _ (c.trans (bA h).stp) (b.grow (bA h)) (.newLst h (s.cut i j))⟩
  |tup n=>
   obtain⟨a,xs,rfl,t,s⟩:=u;cases q;by_cases w:HT.cW xs.length 0 i=0/\HT.cW xs.length xs.length j=xs.length
   .have W:cut n i j=n:=by
     unfold cut;rw[s.length,w.1,w.2,pO,Nat.sub_zero,<- s.length,wm]
    rw[W]at k;exact .inr (.inr ⟨a,xs,rfl,t.sq,w.1,w.2,k _ G f I c b ⟨a,xs,rfl,t,s⟩⟩)
   .exact .inr (.inl ⟨a,xs,rfl,t.sq,w,λp h=>k _ _ f _ (c.trans (bj h).stp) (b.grow (bj h)) (.newTup h (s.cut i j))⟩)
  |_=>cases q
abbrev fV:List P->Option P:=nI
variable{e:Expr}{es:Ab}{fs:ki}{p:Pos}
theorem ER(g:Gl X "int")(m:X.g "int"=none)(a:PA X (e::es) (lq X.K fs))(x:starEach (e::es) X.e=(false,eval e X.e)::starEach es X.e)(h:(backTo N (starEach es X.e)).any (·.1)=false) :
  Y X (.Call (.Name "int" p) (e::es) [] N) (tV X.K (aJ fV fs)):=t0 D6 g m Co a (by decide) (by decide) x h
inductive PEs(X:Cx):Ab->List EV->Prop
 |nil:PEs X [] []
 |cons {e es f fs}:Y X e (tV X.K f)->PEs X es fs->PEs X (e::es) (f::fs)
@[simp] def Ek(a b c:EV)(L:Lc)(S:aC):tyV:=aZ (a L S) λd h=>aZ (b L h) λy x=>aZ (c L x) λz e=>match d with
 | .dct s T=>match di y with
  |some k=>some ((eB k s T).getD z,e)
  |none=>none
 |_=>none
theorem on:∀{k:List (cn×V)}{d:List P},bg K F H d (k.map (·.2))->eB u (k.map (·.1)) d=none->dX k u=none
 | [],d,r,h=>rfl
 |(a,v)::k,[],r,h=>by have:=r.length;simp at this
 |(a,v)::k,f::d,r,h=>by
  obtain⟨x,c,e,p,s⟩:=r;rw[az]at e;injection e with b n;simp only[az,eB]at h;by_cases hk:a=u
  .rw [ae hk]at h;cases h
  .rw [ag hk]at h;rw[<- n]at s;rw[dW (p:=(a,v)) hk];exact on s h
theorem ET{o a b:Expr}{I C t:EV}{D E:Pos}(hu:X.A.units+1 < cLine)(ho:Y X o (tV X.K I))(ha:Y X a (tV X.K C))(hb:Y X b (tV X.K t))(m:M2 X o "get" D a b E):Y X (.Call (.Attribute o "get" D) [a,b] [] E) (tV X.K (Ek I C t)):=
 (Ai hu ho ha hb m).imp' λJ H Q hz=>by
  obtain⟨F,m,L,S,d,S',r,l,q,k⟩:=hz;obtain⟨x,A,Z,q⟩:=ah q;obtain⟨y,B,e2,q⟩:=ah q;obtain⟨z,V,e3,q⟩:=ah q;refine⟨F,m,L,S,x,A,r,l,Z,λv R m1 H1 K r1 p1=>?_⟩;cases x with
  |dct ks W=>
   obtain⟨a,s,rfl,i,hk,ek,ra⟩:=id p1;refine⟨a,rfl,.inl ⟨s,.inl hk⟩,?_⟩;refine⟨R,m1,L,A,y,B,r1,l.mono K,e2,λvy T m2 H2 f r2 p2=>?_⟩;refine⟨T,m2,L,B,z,V,r2,(l.mono K).mono f,e3,λvz P G p c M p3=>?_⟩;have h:p a=some (.dK s):=(f.trans c).frk _ _ i hk;have e:=bg.mono c (bg.mono f ra);have py:=RP.mono c p2;dsimp only at q;split at q
   .rename_i j u;cases q;have g:=eS u py;subst g ek;have N:=K.trans (f.trans c);cases n:eB j (s.map (·.1)) W with
    |none=>have hm:=on e n;refine⟨none,by rw[<- hm];exact g8.k h,?_⟩;rw[n]at k;exact k vz P G p N M p3
    |some w=>obtain⟨v,h1,h2⟩:=kz e n;refine⟨some v,by rw[<- h1];exact g8.k h,?_⟩;rw[n]at k;exact k v P G p N M h2
   .cases q
  |_=>cases q
def Kl(w:World):List DictEntry->List (Str×P)->Prop
 | [],[]=>True
 |e::es,(k,p)::r=>(∃t,e.key=.str k t)/\e.hash=hashStr w k/\(∃v,RelV v e.val/\∀K F H,RP K F H p v)/\Kl w es r
 |_,_=>False
def MJ(w:World)(K:FG)(m:SV)(x:Str)(k:List (Str×P)):Prop:=
 ∃a o es e,m x=some (.ref a)/\K.lookup a=some o/\o.ExactDict/\o.data=.dict es e/\Kl w es.toList k/\(k.map (·.1)).Nodup
end
noncomputable def Iw:List cn->List P->Option (List (Str×P))
 | [],[]=>some []
 | .inr k::s,v::T=>(Iw s T).map λr=>(k,v)::r
 |_,_=>none
noncomputable def AX:P->Bool
 | .dct _ _=>true
 |_=>false
def kh(w:World)(K:FG)(m:SV)(x:Str)(v:P):Prop:=(AX v=false->qT K m x v)/\∀s T,v=.dct s T->∃k,Iw s T=some k/\MJ w K m x k
theorem kh.plain(h:qT K u x v)(a:AX v=false):kh w K u x v:=⟨λ_=>h,λk T e=>by subst e;cases a⟩
end Ev
namespace Ev
open PySem PySem.Spec PyProof.Rows L2
theorem sC(f:Nat->β->Sem (ForInStep β))(I:Nat->β->Shared->Prop)(Q:β->Shared->Prop)(k:Nat)
  (turn:∀i b s,i < k->I i b s->wpAny M A (f i b) (λr s'=>match r with | .yield b'=>I (i+1) b' s' | .done b'=>Q b' s') E s)
  (ew:∀b s,I k b s->Q b s) (b:β) (h:I 0 b s):wpAny M A (forIn [0:k] b f) Q E s:=by
 rw[Std.Legacy.Range.forIn_eq_forIn_range'];refine wQ f (λrest b s=>∃i,rest=jF i (k-i)/\i≤k/\I i b s) Q (λx rest b s ⟨i,e,hi,hI⟩=>?_) (λb s ⟨i,e,hi,hI⟩=>?_) _ b ⟨0,by simp[Std.Legacy.Range.size],br _,h⟩
 .obtain⟨m,hm⟩:∃m,k-i=m+1:=by
   cases q:k-i with
   |zero=>rw[q]at e;simp at e
   |succ m=>exact⟨m,rfl⟩
  rw[hm,lT]at e;injection e with e1 e2;subst e1;refine bv (turn x b s (by lia) hI) (λr s' hr=>?_) λ_ _ z=>z;cases r with
  |done b'=>exact hr
  |yield b'=>exact⟨x+1,by rw[e2];congr 1;lia,by lia,hr⟩
 .have:k-i=0:=by
   cases q:k-i with
   |zero=>rfl
   |succ m=>rw[q,lT]at e;cases e
  have:i=k:=by lia
  subst this;exact ew b s hI
section
open PySem.SeqAt PySem.MeetsSeq
open PySem.AutoSeq1 (wpAny_loadPart')
theorem xZ(l:Addr)(items:Array Value)(n:Nat)(dd:Option Addr)(sl:Array (OV))(x:Value)(e:Value->Bool)(j:Nat)(hj:j < items.size)
  (hit:e items[j]=true) (hno:∀m (hm:m < items.size),m < j->e items[m]=false) :
  Meets (Builtin.«tuple.index» ⟨[.ref l,x],[]⟩)
   (λA R s=>s.heap.get? l=some { cls:=.type "tuple",dict:=dd,data:=.seq items n,slots:=sl }/\(∀y,y ∈ items->EqAt A.in1 s y x (e y))/\R (.ok (.ret (.int j s.toks))) { s with toks:=s.toks+1 }):=
 .of_wp λprog w A R s h=>by
  obtain⟨hp,g,d,tk,os⟩:=s;obtain⟨hl,he,h⟩:=h
  wp_walk using jo hl,sC _ (λi b s'=>i≤j/\b.1=none/\s'=⟨hp,g,d,tk,os⟩) _
  case turn=>
   rintro i b s' hi ⟨hij,hb,rfl⟩;have hi':i < items.size:=by lia
   rw[wB hi'];refine ac (he _ (Array.getElem_mem hi') prog w _ _ ?_);by_cases hc:i=j
   .subst hc;rw[hit]
    wp_walk
    exact⟨_,rfl,h⟩
   .rw [hno i hi' (by lia)]
    wp_walk
    exact⟨by lia,rfl,rfl⟩
  case ew=>rintro b s' ⟨hij,_,_⟩;exact absurd hij (by lia)
  case h=>exact⟨br _,rfl,rfl⟩
end
def jt(ps:List P)(y:P):Option Nat:=if (ps.all (eQ 19) && eQ 19 y)=true then (eZ ps).findIdx? λz=>b_ z (pd y) else none
@[simp] def zu(fa fb:EV)(L:Lc)(S:aC):tyV:=aZ (fa L S) λv x=>match v with
 | .lst ps=>aZ (fb L x) λy h=>(jt ps y).map λ(i:Nat)=>(.int (i:Int),h)
 | .tup ps=>aZ (fb L x) λy h=>(jt ps y).map λ(i:Nat)=>(.int (i:Int),h)
 |_=>none
section
variable{X:Cx}{pins:PN}{J:L2.St}{H:Hp}{s:Shared}{F:Aa}{ps:List P}{y:P}{vy:V}{u:Value}{i:Nat}{Q:VK}{a:Addr}
theorem xp:∀s:List P,(eZ s).length=s.length
 | []=>rfl
 |q::s=>by simp[eZ,xp s]
theorem A3(o:X.A.units+64 < cLine)(I:Inv X pins J H s)(d:RP X.K F H y vy)(g:RelV vy u)(e:jt ps y=some i){v:Array Value}{f:List Addr}(k:ReadsAll s.heap v.toList (eZ ps) f) :
  ∃t:i < v.size,b_ (gF s.heap v[i]) (pd y)=true/\(∀m (x:m < v.size),m < i->b_ (gF s.heap v[m]) (pd y)=false)/\v.size=ps.length /\
   ∀z,z ∈ v->SeqAt.EqAt X.A.in1 s z u (b_ (gF s.heap z) (pd y)):=by
 unfold jt at e;split at e;case isFalse=>cases e
 rename_i c;rw[aq]at c;obtain⟨j,w⟩:=dg I 19 d g c.2;have l:=xq c.1;have q:=cT 19 _ c.2;obtain⟨t,b,r⟩:=List.findIdx?_eq_some_iff_getElem.mp e;have n:=we _ _ _ l.1 k;have h:v.size=(eZ ps).length:=by rw[<- n];simp
 have a:∀(m:Nat)(x:m < v.size),gF s.heap v[m]=(eZ ps)[m]'(h ▸ x):=λm x=>by
  have:(v.toList.map (gF s.heap))[m]? = (eZ ps)[m]?:=by rw[n]
  rw[cR,Array.getElem?_toList,wB x,wv (h ▸ x)]at this;simpa using this
 refine⟨by lia,?_,λm x p=>?_,by rw[h,xp],wd k w l.1 q.1 (by lia)⟩
 .rw [a];exact b
 .rw [a];simpa using r m p
theorem A2(e:jt ps y=some i):ps.all (eQ 19)=true:=by
 unfold jt at e;split at e
 .rename_i h;rw[aq]at h;exact h.1
 .cases e
theorem uT(P:X.A.units+64 < cLine)(I:Inv X pins J H s)(p:RP X.K F H (.lst ps) (.ref a))(D:RP X.K F H y vy)(G:RelV vy u)(e:jt ps y=some i)(q:Q (.int i) H) :
  wpAny (model X.p X.w) X.A (call (.builtin "list.index") [.ref a,u]) (EP X pins J Q) X.xe s:=by
 have S:=A2 e;obtain⟨N,b⟩:=dg I 20 p (show RelV (.ref a) (.ref a) from rfl) (by simpa[eQ] using S);rw[pd]at b;cases b with
 | @list l o L n _ c x k f w=>
  obtain⟨j,t,v,V,d⟩:=A3 P I D G e w;obtain⟨oc,B,C,h⟩:=o;dsimp only at k f;subst k f;have T:ps.length≤sizeLine:=by obtain⟨M,xs,m,K,E⟩:=p;cases m;obtain⟨z,A,Z,r,R,_⟩:=I.lstM K.2;have W:=E.length;lia
  have g:sizeLine < 2 ^ 63:=by decide
  exact dD vH ⟨_,x,rfl⟩ PySem.F.entry_list_index (PySem.F.args_list_index_2 _ _) (SeqAt.list_indexAt a L n B h u _ i j (by lia) t v) ⟨x,d,⟨.int i,H,I.tok _,⟨_,rfl⟩,q⟩⟩
theorem sX(hu:X.A.units+64 < cLine)(I:Inv X pins J H s)(px:RP X.K F H (.tup ps) (.ref a))(py:RP X.K F H y vy)(ru:RelV vy u)(e:jt ps y=some i)(q:Q (.int i) H) :
  wpAny (model X.p X.w) X.A (call (.builtin "tuple.index") [.ref a,u]) (EP X pins J Q) X.xe s:=by
 have ho:=A2 e;obtain⟨as,ra⟩:=dg I 20 px (show RelV (.ref a) (.ref a) from rfl) (by simpa[eQ] using ho);rw[pd]at ra;cases ra with
 | @tuple l o vs n _ as' h1 h2 h3 h4=>obtain⟨hi,e1,e2,hz,eq⟩:=A3 hu I py ru e h4;obtain⟨oc,od,odt,osl⟩:=o;dsimp only at h2 h3;subst h2 h3;exact dD vK ⟨_,h1,rfl⟩ PySem.F.entry_tuple_index (PySem.F.args_tuple_index_2 _ _) (xZ a vs n od osl u _ i hi e1 e2) ⟨h1,eq,⟨.int i,H,I.tok _,⟨_,rfl⟩,q⟩⟩
theorem EX(hu:X.A.units+64 < cLine)(ho:Y X o (tV X.K fo))(he:Y X e (tV X.K fe))(hs:starEach [e] X.e=[(false,eval e X.e)])
  (c:attributeBase o "index" X.e (eval o X.e)=eval o X.e) (w:(M.endLine == g.line)=true):Y X (.Call (.Attribute o "index" M) [e] [] g) (tV X.K (zu fo fe)):=by
 intro pins s J H Q I ⟨F,m,L,S,d,S',r,l,q,k⟩;obtain⟨x,W,e1,q⟩:=ah q;refine tP c (by rw[hs];rfl) w rfl (bB (ho pins s J H (λv H1=>∃f j,Stp F m H f j H1/\Rel X.K f H1 j W/\RP X.K f H1 x v) I ⟨F,m,L,S,x,W,r,l,e1,λv f j H1 Z r1 A=>⟨f,j,Z,r1,A⟩⟩) λu Z hz=>?_);obtain⟨v,H1,I1,ru,f,j,R,r1,A⟩:=hz;have t:∀(id:String)(ps:List P),aZ (fe L W) (λy S2=>(jt ps y).map λ(i:Nat)=>((.int (i:Int):P),S2))=some (d,S') ->
   (∀(s:Shared)(h:Hp)(n:Aa)(y:P)(vy:V)(B:Value)(i:Nat),Inv X pins J h s->(∀p,RP X.K f H1 p v->RP X.K n h p v)->RP X.K n h y vy->RelV vy B->jt ps y=some i->Q (.int i) h->wpAny (model X.p X.w) X.A (call (.builtin id) [u,B]) (EP X pins J Q) X.xe s) ->
   wpAny (model X.p X.w) X.A (callWith g (.builtin id) [u] (backTo g (starEach [e] X.e)) []) (EP X pins J Q) X.xe Z:=by
  intro id ps q hc;obtain⟨y,S2,e2,q⟩:=ah q;obtain⟨i,D,q⟩:=b8.mp q;cases q;rw[hs];refine gB rfl (iK (bM (bB (he pins Z J H1 (λvy h=>∃n K,Stp f j H1 n K h/\Rel X.K n h K S'/\RP X.K n h y vy) I1 ⟨f,j,L,W,y,S',r1,l.mono R,e2,λv n K h s2 r2 G=>⟨n,K,s2,r2,G⟩⟩) λB s2 ⟨vy,h,C,ruy,n,K,T,r2,G⟩=>cL ?_)));exact hc s2 h n y vy B i C (λp N=>RP.mono T N) G ruy D (k _ n K h (R.trans T) r2 rfl)
 cases x with
 |lst ps=>obtain⟨a,xs,rfl,hq,rp⟩:=id A;cases (show u=Value.ref a from ru);obtain⟨z,its,n',rr,hl,E⟩:=I1.lstM hq.2;exact⟨"list","list.index",jA,vH,PySem.F.type_list_index,⟨_,E,rfl⟩,λb eb=>by cases eb;exact⟨_,E,rfl⟩,t _ ps q λs h n y vy B i C N py ry D q=>uT hu C (N _ A) py ry D q⟩
 |tup ps=>obtain⟨a,xs,rfl,hq,rp⟩:=id A;cases (show u=Value.ref a from ru);obtain⟨its,rr,o,E,⟨ec,n',ed⟩,en⟩:=I1.tupleN hq.sq;exact⟨"tuple","tuple.index",PySem.F.plainAttrs_tuple,vK,PySem.F.type_tuple_index,⟨_,E,ec⟩,λb eb=>by cases eb;exact⟨_,E,en⟩,t _ ps q λs h n y vy B i C N py ry D q=>sX hu C (N _ A) py ry D q⟩
 |_=>cases q
end
variable{L:Type}
noncomputable def g9[DecidableEq L](k:L):List L->List D->Option D
 |h::s,v::x=>if h=k then some v else g9 k s x
 |_,_=>none
noncomputable def qE[DecidableEq L](k:L)(v:D):List L->List D->List L×List D
 |h::s,w::x=>if h=k then (h::s,v::x) else (h::(qE k v s x).1,w::(qE k v s x).2)
 |_,_=>([k],[v])
def cV:List P->Option (List cn)
 | []=>some []
 |p::r=>(di p).bind λk=>(cV r).map λs=>k::s
noncomputable def kG(d:D)(S:aC):Option (Nat×List (List cn)×List D):=match d with
 | .ref i=>match S[i]? with
  |some (.dtt k v)=>some (i,k,v)
  |_=>none
 |_=>none
theorem lZ(h:kG d S=some (i,k,n)):d=.ref i/\S[i]? = some (.dtt k n):=by
 unfold kG at h;split at h
 .split at h
  .rename_i e;cases h;exact⟨rfl,e⟩
  .cases h
 .cases h
section
variable{K:FG}{F:Aa}{H:Hp}{m:List Addr}
theorem gc:∀{ps:List P}{s:List cn}{a:List V},cV ps=some s->bg K F H ps a->a=s.map kV
 | [],s,a,h,r=>by cases h;exact r
 |p::ps,s,a,h,r=>by
  obtain⟨x,m,rfl,b,c⟩:=r;unfold cV at h;cases e:di p with
  |none=>rw[e]at h;cases h
  |some k=>
   rw[e]at h;cases n:cV ps with
   |none=>rw[n]at h;cases h
   |some f=>rw[n]at h;cases h;rw[az,eS e b,gc n c]
theorem gJ[DecidableEq L]:∀{C:List (L×V)}{s:List D},bJ K F H m s (C.map (·.2)) ->
  match g9 k (C.map (·.1)) s with|some d=>∃v,dX C k=some v/\RD K F H m d v|none=>dX C k=none
 | [],s,r=>by have:s=[]:=fx r.length;subst this;rfl
 |(h,v)::C,[],r=>by have:=r.length;simp at this
 |(h,v)::C,d::s,r=>by
  obtain⟨x,b,e,p,a⟩:=r;rw[az]at e;injection e with n f;rw[<- f]at a;simp only[az,g9];by_cases hk:h=k
  .rw [ae hk];exact⟨v,eJ (p:=(h,v)) hk,by rw[show v=x from n];exact p⟩
  .rw [ag hk,dW (p:=(h,v)) hk];exact gJ a
theorem kD[DecidableEq L](f:RD K F H m y u):∀{C:List (L×V)}{s:List D},(C.map (·.1)).Nodup->bJ K F H m s (C.map (·.2)) ->
  (L2.putK C k u).map (·.1)=(qE k y (C.map (·.1)) s).1/\bJ K F H m (qE k y (C.map (·.1)) s).2 ((L2.putK C k u).map (·.2))
 | [],s,_,r=>by have:s=[]:=fx r.length;subst this;exact⟨rfl,u,[],rfl,f,rfl⟩
 |(h,w)::C,[],_,r=>by have:=r.length;simp at this
 |(h,w)::C,d::s,p,r=>by
  obtain⟨x,B,e,A,G⟩:=r;rw[az]at e p;injection e with g i;subst g;subst i;obtain⟨b,t⟩:=bN.mp p;simp only[az,qE];by_cases hk:h=k
  .subst hk;rw[ae rfl];have same:∀l:List (L×V),h ∉ l.map (·.1)->l.map (λv=>if v.1=h then (v.1,u) else v)=l:=by
    intro l;induction l with
    |nil=>intro _;rfl
    |cons q l P=>
     intro n;rw[az]at n;have j:¬q.1=h:=λz=>n (by rw[<- z];exact aV)
     rw[az,ag j,P λz=>n (aW _ z)]
   have a:L2.putK ((h,w)::C) h u=(h,u)::C:=by unfold L2.putK;rw[ae (by simp),az,ae rfl,same C b]
   rw[a];exact⟨rfl,u,_,rfl,f,G⟩
  .rw [ag hk];obtain⟨o,S⟩:=kD (k:=k) f t G;have a:L2.putK ((h,w)::C) k u=(h,w)::L2.putK C k u:=by
    unfold L2.putK;rw[cw,aU (show ¬(h,w).1=k from hk),iR];by_cases c:(C.any λv=>decide (v.1=k))=true
    .rw [ae c,ae c,az,ag (show ¬(h,w).1=k from hk)]
    .rw [ag c,ag c];rfl
   rw[a,az,az,o];exact⟨rfl,w,_,rfl,A,S⟩
end
section
variable{X:Cx}{pos G:Pos}{o T:Expr}{c:Ab}{fo:EE}{fs:ki}{fv:EV}
@[simp] def Bj(_L:Lc)(S:aC):oo:=some (.ref S.length,S++[.dtt [] []])
theorem E2:Y X (.Dict [] [] pos) (tE X.K Bj):=Ag.imp' λJ H Q z=>by obtain⟨F,m,L,S,d,x,r,l,q,k⟩:=z;cases q;intro p h;refine k (.ref p) F (m++[p]) _ (bH h) (r.own h ⟨[],au,rfl,rfl⟩) ⟨p,rfl,?_⟩;rw[<- r.len,bb (ai _)];simp
@[simp] def sI(o:EE)(k:ki)(L:Lc)(S:aC):oo:=aZ (o L S) λd x=>aZ (k L x) λps h=>match kG d h,cV ps with
 |some (_,s,v),some B=>if few ps=true then (g9 B s v).map λz=>(z,h) else none
 |_,_=>none
theorem DG(b:X.A.units+1 < cLine):yI X (λx y H Q=>∃a v,x=.ref a/\g8 H a y (some v)/\(∃C,H a=some (.dT C))/\Q v H):=by intro T l pins s J H x y v u Q I c m h f;obtain⟨a,w,rfl,g,⟨C,hk⟩,q⟩:=h;cases c;obtain⟨_,_,_,_,o,_,_,e,k,_⟩:=I.h a _ hk;exact jC ⟨o,e,k.1⟩ tJ.lookup (oP b I g m λp t n r=>⟨w,H,n,r,q⟩) f
theorem Lp {N} (hu:X.A.units+1 < cLine) (ho:Y X o (tE X.K fo)) (hk:PA X c (lq X.K fs)) (hs:i4 (.Tuple c N G)):Y X (.Subscript o (.Tuple c N G) pos) (tE X.K (sI fo fs)):=
 (xn (DG hu) ho (qp hk) hs).imp' λJ H Q hz=>by
  obtain⟨F,m,L,S,d,S',r,l,q,k⟩:=hz;obtain⟨x,K,W,q⟩:=ah q;obtain⟨ps,P,Z,q⟩:=ah q;refine⟨F,m,L,S,x,K,r,l,W,λv T m1 H1 I r1 p1=>?_⟩;refine⟨T,m1,L,K,ps,P,r1,l.mono I,Z,λR y m2 V M E G=>?_⟩;cases s:kG x P with
  |none=>rw[s]at q;cases q
  |some t=>
   obtain⟨j,ks,vs⟩:=t;rw[s]at q;cases h:cV ps with
   |none=>rw[h]at q;cases q
   |some B=>
    rw[h]at q;dsimp only at q;split at q
    .rename_i hf;obtain⟨z,eg,q⟩:=b8.mp q;cases q;obtain⟨rfl,n⟩:=lZ s;obtain⟨a,rfl,hm⟩:=RD.mono M p1;obtain⟨C,f,u,rs⟩:=E.obj j a _ hm n;subst u;have A:=gJ (k:=B) rs;rw[eg]at A;obtain⟨w,ev,i⟩:=A;refine⟨by rw[<- G.length];exact iv hf,λb D=>?_⟩;have p:a≠b:=λz=>by rw[z,D]at f;cases f
     have e:a7 V b (.tup R) a=some (.dT C):=by rw[al p];exact f
     have g:=bj (F:=y) (o:=.tup R) D;rw[gc h G]at e g ⊢;refine⟨a,w,rfl,by rw[<- ev];exact g8.t e au,⟨C,e⟩,?_⟩;exact k w y m2 _ (I.trans (M.trans g.stp)) (E.grow g) (RD.mono g.stp i)
    .cases q
@[simp] def sJ(o:EE)(k:ki)(L:Lc)(S:aC):oo:=aZ (o L S) λd h=>match kG d h with
 |none=>none
 |some _=>aZ (k L h) λps x=>match kG d x,cV ps with
  |some (_,s,v),some B=>if few ps=true then some ((g9 B s v).getD (.p .non),x) else none
  |_,_=>none
theorem H_ {N} (hu:X.A.units+1 < cLine) (ho:Y X o (tE X.K fo)) (hk:PA X c (lq X.K fs)) (I:M1 X o "get" ap (.Tuple c N G) cp) :
  Y X (.Call (.Attribute o "get" ap) [.Tuple c N G] [] cp) (tE X.K (sJ fo fs)):=
 (Aj hu ho (qp hk) I).imp' λJ H Q hz=>by
  obtain⟨F,m,L,S,d,S',r,l,q,k⟩:=hz;obtain⟨x,p,e1,q⟩:=ah q;refine⟨F,m,L,S,x,p,r,l,e1,λv F1 m1 H1 V r1 p1=>?_⟩;cases e:kG x p with
  |none=>rw[e]at q;cases q
  |some t1=>
   obtain⟨j,ks1,vs1⟩:=t1;rw[e]at q;dsimp only at q;obtain⟨ps,Z,e2,q⟩:=ah q;obtain⟨rfl,y⟩:=lZ e;obtain⟨a,rfl,hm⟩:=id p1;obtain⟨s,A,_,_⟩:=r1.obj j a _ hm y;refine⟨a,rfl,.inr ⟨s,.inl A⟩,?_⟩;refine⟨F1,m1,L,p,ps,Z,r1,l.mono V,e2,λus f m2 H2 W R G=>?_⟩;cases i:kG (.ref j) Z with
   |none=>rw[i]at q;cases q
   |some t=>
    obtain⟨j2,ks,vs⟩:=t;rw[i]at q;cases u:cV ps with
    |none=>rw[u]at q;cases q
    |some B=>
     rw[u]at q;dsimp only at q;split at q
     .rename_i hf;cases q;obtain⟨h,K⟩:=lZ i;cases h;obtain⟨a',e4,M⟩:=RD.mono W p1;cases e4;obtain⟨C,P,E,rs⟩:=R.obj j a _ M K;subst E;have n:=gJ (k:=B) rs;refine⟨by rw[<- G.length];exact iv hf,λb hb=>?_⟩;have D:a≠b:=λz=>by rw[z,hb]at P;cases P
      have h:a7 H2 b (.tup us) a=some (.dT C):=by rw[al D];exact P
      have g:=bj (F:=f) (o:=.tup us) hb;rw[gc u G]at h g ⊢;refine⟨dX C B,g8.t h au,?_⟩;cases eg:g9 B (C.map (·.1)) vs with
      |none=>rw[eg]at n k;rw[show dX C B=none from n];exact k .non f m2 _ (V.trans (W.trans g.stp)) (R.grow g) rfl
      |some z=>rw[eg]at n k;obtain⟨w,ev,T⟩:=n;rw[ev];exact k w f m2 _ (V.trans (W.trans g.stp)) (R.grow g) (RD.mono g.stp T)
     .cases q
@[simp] def En(o:EE)(k:ki)(v:EV)(L:Lc)(S:aC):zy:=aZ (v L S) λy a=>aZ (o L a) λd e=>aZ (k L e) λps h=>match kG d h,cV ps with
 |some (i,s,x),some B=>if (s.Nodup/\few s=true/\few ps=true) then some (.nx,L,h.set i (.dtt (qE B (.p y) s x).1 (qE B (.p y) s x).2)) else none
 |_,_=>none
theorem HD {N} (hu:X.A.units+1 < cLine) (ho:Y X o (tE X.K fo)) (hk:PA X c (lq X.K fs)) (hv:Y X T (tV X.K fv)) (hs:swapsWith T (some (.Subscript o (.Tuple c N G) h)) pos.line X.e=pure false) :
  PS X (.Assign [.Subscript o (.Tuple c N G) h] T pos) (h_ X.K (En fo fs fv)):=(xl hu ho (qp hk) hv hs).imp' λD J H hz=>by
 obtain⟨F,m,L,S,fl,L',S',r,l,q,k⟩:=hz;obtain⟨y,A,e1,q⟩:=ah q;obtain⟨d,E,e2,q⟩:=ah q;obtain⟨ps,I,e3,q⟩:=ah q;refine⟨F,m,L,S,y,A,r,l,e1,λv K V H1 s r1 p1=>?_⟩;refine⟨K,V,L,A,d,E,r1,l.mono s,e2,λx F2 m2 H2 e r2 G=>?_⟩;refine⟨F2,m2,L,E,ps,I,r2,(l.mono s).mono e,e3,λus P W H3 n r3 p3=>?_⟩;cases w:kG d I with
 |none=>rw[w]at q;cases q
 |some t=>
  obtain⟨j,ks,vs⟩:=t;rw[w]at q;cases p:cV ps with
  |none=>rw[p]at q;cases q
  |some B=>
   rw[p]at q;dsimp only at q;split at q
   .rename_i u;cases q;obtain⟨rfl,c⟩:=lZ w;refine⟨by rw[<- p3.length];exact iv u.2.2,λb hb=>?_⟩;have M:=bj (F:=P) (o:=.tup us) hb;have i:=r3.grow M;have f:=M.stp (m:=W);obtain⟨a,rfl,g⟩:=RD.mono f (RD.mono n G);obtain⟨C,R,hk,rs⟩:=i.obj j a _ g c;subst hk;have pv:=RD.mono f (RD.mono n (RD.mono e (show RD X.K K H1 V (.p y) v from p1)));obtain⟨h1,h2⟩:=kD (k:=B) pv u.1 rs;have Z:∀zs,a7 H3 b (.tup us) a≠some (.tup zs):=λzs z=>by rw[R]at z;cases z
    have st:=cS (o:=.dT (L2.putK C B v)) i g c trivial Z;have hl:C.length < sizeLine:=by have Q:(C.map (·.1)).length≤1000000:=aD u.2.1;rw[a8]at Q;exact gE Q (by decide)
    refine⟨a,_,rfl,tf.t (k:=B) R ?_ hl,?_⟩
    .rw [gc p p3];exact au
    .exact k J P W _ (s.trans (e.trans (n.trans (f.trans st)))) (i.set g c trivial Z ⟨_,au,h1,bJ.mono st h2⟩) ((((l.mono s).mono e).mono n).mono (f.trans st))
   .cases q
end
section
variable{X:Cx}{pins:PN}{J:L2.St}{H:Hp}{s:Shared}{a:Addr}{C:List (cn×V)}{B:cn}{u r:Value}{x:V}{A:Around}{E:VP}
theorem Bv(I:Inv X pins J H s)(e:H a=some (.dK C))(K:C.length < sizeLine)(S:RelV (kV B) u)(o:RelV x r)
  (t:∀v w n,dX C B=some v->RelV v w->Inv X pins J H n->Q w n) (p:dX C B=none->∀n,Inv X pins J (a7 H a (.dK (L2.putK C B x))) n->Q r n) :
  wpAny (model X.p X.w) A (call (.builtin "dict.setdefault") [.ref a,u,r]) Q E s:=by
 obtain⟨z,f,F,l,dd⟩:=ED I.h e;have h:=l.val B;refine mq vL dd.typeIs PySem.F.entry_dict_setdefault (PySem.F.args_dict_setdefault_3 _ _ _) (kt_meets_setdefault (bx X.p X.w) a (kZ S) f r)
  ⟨F,dd,by rw[<- l.length];exact z,λv k=>?_,λc m d j=>?_⟩
 .cases q:dX C B with
  |none=>rw[q,k]at h;cases h
  |some b=>rw[q,k]at h;exact t b v _ q h (I.tok _)
 .have q:dX C B=none:=by
   cases q:dX C B with
   |none=>rfl
   |some b=>rw[q,c]at h;cases h
  refine p q _ ?_;have g:∃q,m.get? a=some q:=let ⟨q,_,_,i,_⟩:=d;⟨q,i⟩
  have y:(L2.putK C B x).length≤sizeLine:=by have:=iq C B x;lia
  exact jZ I (by rw[e];exact True.intro) j g (Bp y f (l.put B o) d)
end
section
variable{X:Cx}{o e f:Expr}{ap cp:Pos}{fo fd:EE}{fk:EV}
@[simp] def xI(o:EE)(k:EV)(d:EE)(L:Lc)(S:aC):oo:=aZ (o L S) λx a=>match qu x a with
 |none=>none
 |some _=>aZ (k L a) λz e=>aZ (d L e) λy h=>match qu x h,di z with
  |some (i,s,v),some B=>if (s.Nodup/\few s=true) then match g9 B s v with
    |some w=>some (w,h)
    |none=>some (y,h.set i (.dct (qE B y s v).1 (qE B y s v).2))
   else none
  |_,_=>none
theorem CB(ho:Y X o (tE X.K fo))(he:Y X e (tV X.K fk))(hf:Y X f (tE X.K fd))(n:M2 X o "setdefault" ap e f cp):Y X (.Call (.Attribute o "setdefault" ap) [e,f] [] cp) (tE X.K (xI fo fk fd)):=by
 intro pins s J H Q I ⟨F,m,L,S,d,S',r,l,q,k⟩;obtain⟨x,S1,e1,q⟩:=ah q;refine tK n.base n.few n.line ph vL PySem.F.type_dict_setdefault
  (bB (ho pins s J H (λv H1=>∃b i,Stp F m H b i H1/\Rel X.K b H1 i S1/\RD X.K b H1 i x v) I ⟨F,m,L,S,x,S1,r,l,e1,λv b i H1 s1 r1 p1=>⟨b,i,s1,r1,p1⟩⟩) λu s1 ⟨v,H1,I1,ru,b,i,N,r1,p1⟩=>?_)
 cases A:qu x S1 with
 |none=>rw[A]at q;cases q
 |some t1=>
  obtain⟨j,ks1,vs1⟩:=t1;rw [A] at q;dsimp only at q;obtain⟨z,S2,e2,q⟩:=ah q;obtain⟨y,S3,e3,q⟩:=ah q;obtain⟨rfl,es1⟩:=qt A;obtain⟨a,rfl,hm⟩:=id p1;obtain⟨kvs1,hH1,_,_⟩:=r1.obj j a _ hm es1;cases (show u=Value.ref a from ru);obtain⟨t1,t2,_⟩:=uE I1 (.inl ⟨kvs1,.inl hH1⟩);refine⟨t1,t2,?_⟩;rw [n.trees];refine gB rfl (iK (bM (bB (he pins s1 J H1 (fun vz P=>∃c M,Stp b i H1 c M P/\Rel X.K c P M S2/\RP X.K c P z vz) I1 ⟨b,i,L,S1,z,S2,r1,l.mono N,e2,fun v c M P s2 r2 G=>⟨c,M,s2,r2,G⟩⟩) fun uz s2 ⟨vz,P,I2,rz,c,M,R,r2,G⟩=>
   bM (bB (hf pins s2 J P (λvy g=>∃p K,Stp c M P p K g/\Rel X.K p g K S3/\RD X.K p g K y vy) I2 ⟨c,M,L,S2,y,S3,r2,(l.mono N).mono R,e3,λv p K g s3 V p3=>⟨p,K,s3,V,p3⟩⟩) λuy s3 ⟨vy,g,I3,ry,p,K,qj,V,p3⟩=>cL ?_))))
  cases eo:qu (.ref j) S3 with
  |none=>rw[eo]at q;cases q
  |some t=>
   obtain⟨j2,ks,vs⟩:=t;rw[eo]at q;cases ek:di z with
   |none=>rw[ek]at q;cases q
   |some B=>
    rw[ek]at q;dsimp only at q;split at q
    .rename_i hc;obtain⟨e4,D⟩:=qt eo;cases e4;obtain⟨a',e5,E⟩:=RD.mono (R.trans qj) p1;cases e5;obtain⟨C,hH,hk,rs⟩:=V.obj j a _ E D;subst hk;have T:=gJ (k:=B) rs;have pz:=RP.mono qj G;have ez:=eS ek pz;subst ez;have hl:C.length < sizeLine:=by
      have h9:(C.map (·.1)).length≤1000000:=aD hc.2;rw[a8]at h9;exact gE h9 (by decide)
     have stA:=N.trans (R.trans qj);refine Bv I3 hH hl rz ry (λv w s' Z rv I'=>?_) λZ s' I'=>?_
     .cases W:g9 B (C.map (·.1)) vs with
      |none=>rw[W]at T;rw[show dX C B=none from T]at Z;cases Z
      |some w'=>rw[W]at T q;dsimp only at q;cases q;obtain⟨v',h,rd⟩:=T;rw[Z]at h;cases h;exact⟨v,g,I',rv,k v p K g stA V rd⟩
     .cases W:g9 B (C.map (·.1)) vs with
      |some w'=>rw[W]at T;obtain⟨v',h,_⟩:=T;rw[Z]at h;cases h
      |none=>
       rw[W]at q;dsimp only at q;cases q;obtain⟨h1,h2⟩:=kD (k:=B) p3 hc.1 rs;have nt:∀zs,g a≠some (.tup zs):=λzs z=>by rw[hH]at z;cases z
       have st:=cS (o:=.dK (L2.putK C B vy)) V E D trivial nt;exact⟨vy,_,I',ry,k vy p K _ (stA.trans st) (V.set E D trivial nt ⟨_,au,h1,bJ.mono st h2⟩) (RD.mono st p3)⟩
    .cases q
end
end Ev
set_option tactic.hygienic false
namespace PySem
open PySem PyProof.Rows
section
variable{prog:Program}{w:World}{A:Around}{E:VP}{s:Shared}
theorem mK(t:s.heap.IsTupleIter k h i)(b:s.heap.IsTuple h n)(m:n[i]? = some x)
  (f:∀a,a.IsTupleIter k h (i+1)->cq k s.heap a->Q x { s with heap:=a }):wpAny (model prog w) A (c0 (.ref k)) Q E s:=by
 have T:=t.typeIs;obtain⟨⟨v,u,r,p⟩,o,c,e⟩:=id t;obtain⟨g,l,_,q,d⟩:=b;dsimp only at c e;subst c e;unfold c0;apply ac;apply my (name:=Str.ofString "__next__") T lI;refine kq lI T vv ?_ (vx _);repeat first|with_reducible refine ac (cg o rfl (x:=.ref h) rfl ?_)|wp_step
 rw[d];apply am;simp only[o_,m];apply ac;apply wI o rfl (by simp);refine am ⟨x,rfl,am (f _ ⟨_,pH _ o rfl,rfl,?_⟩ (jz ..))⟩;simp[vd,rawInt]
theorem jO(m:A.handled=none)(t:s.heap.IsTupleIter q h i)(p:s.heap.IsTuple h n)(v:n[i]? = none)
  (b:∀a e,pG q s.heap a->(∃o,a.get? e=some o/\o.cls=.type "StopIteration")->E (.ref e) { s with heap:=a }):wpAny (model prog w) A (c0 (.ref q)) Q E s:=by
 have T:=t.typeIs;obtain⟨⟨y,z,u,g⟩,r,c,k⟩:=id t;obtain⟨H,l,_,j,d⟩:=p;dsimp only at c k;subst c k;unfold c0;apply ac;apply my (name:=Str.ofString "__next__") T lI;refine kq lI T vv ?_ (vx _);repeat first|with_reducible refine ac (cg r rfl (x:=.ref h) rfl ?_)|wp_step
 rw[d];apply am;simp only[o_,v];have f:A.in1.handled=none:=m;repeat first|assumption|wp_step
 unfold raiseNew;apply ac;apply wpAny_handled;rw[f];apply wpAny_throw;exact b _ _ (((jz ..).extBut.push _).push _) ⟨_,aS _ rfl,rfl⟩
def yJ(t:Bool)(h:Heap)(i l:Addr)(k:Nat):Prop:=if t=true then h.IsTupleIter i l k else h.IsListIter i l k
def Ef(t:Bool)(h:Heap)(l:Addr)(y:Array Value):Prop:=if t=true then h.IsTuple l y else h.IsList l y
theorem yJ.extBut(x:yJ n h a l i)(s:pG b h k)(e:a≠b):yJ n k a l i:=by
 cases n
 .exact Heap.IsListIter.extBut x s e
 .exact Heap.IsTupleIter.extBut x s e
theorem Ef.extBut(x:Ef n h a q)(s:pG b h k)(e:a≠b):Ef n k a q:=by
 cases n
 .exact Heap.IsList.extBut x s e
 .exact Heap.IsTuple.extBut x s e
theorem yJ.obj(x:yJ k h a l i):∃o,h.get? a=some o/\(∃v,o.data=.fields v)/\∀s,s.get? a=some o->yJ k s a l i:=by
 cases k
 .obtain⟨o,e,c,d⟩:=x;exact⟨o,e,⟨_,d⟩,λs n=>⟨o,n,c,d⟩⟩
 .obtain⟨o,e,c,d⟩:=x;exact⟨o,e,⟨_,d⟩,λs n=>⟨o,n,c,d⟩⟩
theorem AV(t:yJ q s.heap k h i)(f:Ef q s.heap h n)(b:n[i]? = some x)
  (e:∀a,yJ q a k h (i+1)->cq k s.heap a->Q x { s with heap:=a }):wpAny (model prog w) A (c0 (.ref k)) Q E s:=by
 cases q
 .exact tR t f b e
 .exact mK t f b e
def dt(h:Heap)(z TI TO:Addr)(f x:Value):Prop:=h.get? z=some { cls:=.type "zip",data:=.fields #[f,x,.bool false,.ref TI,.ref TO] }
def cf(h:Heap)(T:Addr)(a b:Value):Prop:=h.get? T=some { cls:=.type "tuple",data:=.seq #[a,b] }
theorem zb (l y:Addr) (xs ys:Array Value):Meets (Builtin.«zip.__new__» ⟨[.type "zip",.ref l,.ref y],[]⟩) (fun _ R s=>s.heap.IsList l xs/\s.heap.IsTuple y ys /\
  ∀v S F TI TO z,(∀b o,s.heap.get? b=some o->v.get? b=some o)->s.heap.objs.size≤S->S < F->F < TI->TI < TO->TO < z->v.IsListIter S l 0->v.IsTupleIter F y 0->cf v TI (.ref S) (.ref F)->cf v TO .none .none ->
   dt v z TI TO .none (.bool false)->R (.ok (.ret (.ref z))) { s with heap:=v }):=
 .of_wp λprog w A R s h=>by
  obtain⟨i,g,d,tk,os⟩:=s;obtain⟨B,C,h⟩:=h;have X:=sub_zip;have L:Heap.IsList (Shared.heap ⟨i,g,d,tk,os⟩) l xs:=B;have P:v9 (Shared.heap ⟨i.push { cls:=.type "list_iterator",data:=.fields #[.ref l,.int 0 0] },g,d,tk,os⟩) y ys:=C.push _
  wp_walk using o6 L,o7 P
  have j:∀(u n x a f c:Heap)(r t p q m:Obj),n=u.push r->x=n.push t->a=x.push p->f=a.push q->c=f.push m->r.isFreed=false->t.isFreed=false->p.isFreed=false->q.isFreed=false->m.isFreed=false ->
    (∀b o,u.get? b=some o->c.get? b=some o)/\u.objs.size < n.objs.size/\n.objs.size < x.objs.size/\x.objs.size < a.objs.size/\a.objs.size < f.objs.size /\
    c.get? u.objs.size=some r/\c.get? n.objs.size=some t/\c.get? x.objs.size=some p/\c.get? a.objs.size=some q/\c.get? f.objs.size=some m:=by
   intro u n x a f c r t p q m E G I M N f1 f2 f3 f4 f5;have Q:n.get? u.objs.size=some r:=by rw[E];exact aS _ f1
   have T:x.get? n.objs.size=some t:=by rw[G];exact aS _ f2
   have V:a.get? x.objs.size=some p:=by rw[I];exact aS _ f3
   have W:f.get? a.objs.size=some q:=by rw[M];exact aS _ f4
   have g5:c.get? f.objs.size=some m:=by rw[N];exact aS _ f5
   have Z:∀b o,n.get? b=some o->x.get? b=some o:=λb o e=>by rw[G];exact aE _ e
   have D:∀b o,x.get? b=some o->a.get? b=some o:=λb o e=>by rw[I];exact aE _ e
   have K:∀b o,a.get? b=some o->f.get? b=some o:=λb o e=>by rw[M];exact aE _ e
   have H:∀b o,f.get? b=some o->c.get? b=some o:=λb o e=>by rw[N];exact aE _ e
   exact⟨λb o e=>H _ _ (K _ _ (D _ _ (Z _ _ (by rw[E];exact aE _ e)))),ar Q,ar T,ar V,ar W,H _ _ (K _ _ (D _ _ (Z _ _ Q))),H _ _ (K _ _ (D _ _ T)),H _ _ (K _ _ V),H _ _ W,g5⟩
  let r:Obj:={ cls:=.type "list_iterator",data:=.fields #[.ref l,.int 0 0] }
  let n:=i.push r
  let t:Obj:={ cls:=.type "tuple_iterator",data:=.fields #[.ref y,.int 0 0] }
  let x:=n.push t
  let p:Obj:={ cls:=.type "tuple",data:=.seq #[.ref i.objs.size,.ref n.objs.size] }
  let a:=x.push p
  let q:Obj:={ cls:=.type "tuple",data:=.seq #[.none,.none] }
  let f:=a.push q
  let m:Obj:={ cls:=.type "zip",data:=.fields #[.none,.bool false,.bool false,.ref x.objs.size,.ref a.objs.size] }
  obtain⟨k,s1,s2,s3,s4,a1,a2,a3,a4,a5⟩:=j i n x a f (f.push m) r t p q m rfl rfl rfl rfl rfl rfl rfl rfl rfl rfl;exact⟨_,rfl,h (f.push m) i.objs.size n.objs.size x.objs.size a.objs.size f.objs.size k (ai _) s1 s2 s3 s4 ⟨_,a1,rfl,rfl⟩ ⟨_,a2,rfl,rfl⟩ a3 a4 a5⟩
end
section
variable{prog:Program}{w:World}{A:Around}{E:VP}{s:Shared}
theorem yE(h:Q (s.heap.get? a) s):wpAny M A (loadIfAlive a) Q E s:=λx p _=>by unfold loadIfAlive;rw[Sem.wp_loadIfAlive];exact(Sem.wp_pure ..).mpr h
theorem nh{z TI TO T:Addr}{f:Bool}{o:Obj}{Q:Bool->Shared->Prop}(a:dt s.heap z TI TO (rawInt T) (.bool f))(n:s.heap.get? T=some o)
  (h:∀e,dt e z TI TO (rawInt T) (.bool true)->cq z s.heap e->Q false { s with heap:=e }):wpAny (model prog w) A (lA (.ref z)) Q E s:=by
 unfold lA;apply ac;refine cg (show s.heap.get? z=some _ from a) rfl (x:=rawInt T) rfl ?_;unfold rawInt;dsimp only;apply ac;refine yE ?_;rw[o_,n];rw[ag (by simp)];apply ac;refine cg (show s.heap.get? z=some _ from a) rfl (x:=.bool f) rfl ?_;cases f with
 |true=>rw[ag (by decide)];exact am (h s.heap a ⟨rfl,λ_ _=>rfl⟩)
 |false=>rw[ae (by decide)];apply ac;refine wI (show s.heap.get? z=some _ from a) rfl (by simp) (am (h _ ?_ (jz ..)));unfold dt;rw[pH _ (show s.heap.get? z=some _ from a) rfl];simp[vd]
theorem xR{z TI TO i a l r T:Addr}{K:Bool}{k:Nat}{H S:Array Value}{x y:Value}{oT:Obj}{Q:VP}(q:dt s.heap z TI TO (rawInt T) (.bool K))(I:cf s.heap TI (.ref i) (.ref a))(D:s.heap.get? T=some oT)
  (P:s.heap.IsListIter i l k) (B:s.heap.IsTupleIter a r k) (t:s.heap.IsList l H) (p:s.heap.IsTuple r S) (L:H[k]? = some x) (M:S[k]? = some y)
  (u:i≠z) (g:a≠z) (W:l≠z) (X:r≠z) (j:a≠i) (Z:r≠i) (n7:l≠a) (n8:l≠i) (n9:r≠a)
  (C:∀m:Heap,dt m z TI TO (rawInt T) (.bool true)->m.IsListIter i l (k+1)->m.IsTupleIter a r (k+1)->(∀c o,c≠z->c≠i->c≠a->s.heap.get? c=some o->m.get? c=some o) ->
   Q (.ref m.objs.size) { s with heap:=m.push { cls:=.type "tuple",data:=.seq #[x,y] } }) :
  wpAny (model prog w) A (Builtin.«zip.__next__» ⟨[.ref z],[]⟩) (λew s'=>∃h,ew=.done (.ret h)/\Q h s') E s:=by
 unfold Builtin.«zip.__next__»;apply ac;apply am;apply ac;refine cg (show s.heap.get? z=some _ from q) rfl (x:=.bool false) rfl ?_;apply ac;refine cg (show s.heap.get? z=some _ from q) rfl (x:=.ref TI) rfl ?_;apply ac;refine fL (show s.heap.get? TI=some _ from I) rfl ?_;dsimp only;rw[ag (by simp)];apply ac;refine nh q D λh0 d b=>?_
 rw[ag (by simp)];apply ac;rw[<- lX];show wpAny _ _ (forIn [Value.ref i,Value.ref a] _ _) _ _ _;rw[fh];apply ac;apply ac;apply cZ;show wpAny _ _ (c0 (.ref i) >>= _) _ _ _;apply ac;refine tR (P.extBut b.extBut u) (t.extBut b.extBut W) L λha R n=>am ?_;dsimp only;apply am;dsimp only;rw[fh];apply ac;apply ac;apply cZ;show wpAny _ _ (c0 (.ref a) >>= _) _ _ _;apply ac;refine mK ((B.extBut b.extBut g).extBut n.extBut j) ((p.extBut b.extBut X).extBut n.extBut Z) M λG V f=>am ?_;dsimp only;apply am;dsimp only;rw[wg];apply am;dsimp only;apply ac;refine tB (hsz:=by show 2≤sizeLine;decide) (am ⟨_,rfl,C G ?_ ?_ V ?_⟩)
 .exact f.extBut _ _ (aG g) (n.extBut _ _ (aG u) d)
 .exact R.extBut f.extBut (aG j)
 .exact λc o N v F e=>f.extBut _ _ F (n.extBut _ _ v (b.extBut _ _ N e))
theorem zc{z TI TO i f n T:Addr}{t:Bool}{k:Nat}{m:Array Value}{S:Obj}{Q:Fin->Shared->Prop}(u:A.handled=none)(a:dt s.heap z TI TO (rawInt T) (.bool t))(I:cf s.heap TI (.ref i) (.ref f))(d:s.heap.get? T=some S)
  (p:s.heap.IsListIter i n k) (l:s.heap.IsList n m) (g:m[k]? = none) (y:i≠z) (H:n≠z)
  (q:∀h e,(∀c o,c≠z->c≠i->s.heap.get? c=some o->h.get? c=some o)->(∃o,h.get? e=some o/\o.cls=.type "StopIteration")->E (.ref e) { s with heap:=h }) :
  wpAny (model prog w) A (Builtin.«zip.__next__» ⟨[.ref z],[]⟩) Q E s:=by
 unfold Builtin.«zip.__next__»;apply ac;apply am;apply ac;refine cg (show s.heap.get? z=some _ from a) rfl (x:=.bool false) rfl ?_;apply ac;refine cg (show s.heap.get? z=some _ from a) rfl (x:=.ref TI) rfl ?_;apply ac;refine fL (show s.heap.get? TI=some _ from I) rfl ?_;dsimp only;rw[ag (by simp)];apply ac;refine nh a d λF j b=>?_
 rw[ag (by simp)];apply ac;rw[<- lX];show wpAny _ _ (forIn [Value.ref i,Value.ref f] _ _) _ _ _;rw[fh];apply ac;apply ac;apply cZ;show wpAny _ _ (c0 (.ref i) >>= _) _ _ _;apply ac;exact yN u (p.extBut b.extBut y) (l.extBut b.extBut H) g λh e x o=>q h e (λc K N v r=>x _ _ v (b.extBut _ _ N r)) o
end
section
variable{prog:Program}{w:World}{A:Around}{E:VP}{s:Shared}
theorem oj{tp:Bool}{k:Nat}{z TI TO i d G H:Addr}{xs ys:Array Value}{x y p q:Value}{Q:VP}(S:dt s.heap z TI TO .none (.bool false))(L:cf s.heap TI (.ref i) (.ref d))(M:cf s.heap TO p q)
  (h1:s.heap.IsListIter i G k) (h2:yJ tp s.heap d H k) (R:s.heap.IsList G xs) (V:Ef tp s.heap H ys) (hx:xs[k]? = some x) (hy:ys[k]? = some y)
  (n1:i≠z) (n2:d≠z) (n3:G≠z) (n4:H≠z) (n5:d≠i) (n6:H≠i) (I:TO≠z) (n8:TO≠i) (n9:TO≠d) (n10:H≠TO)
  (hQ:∀(g:Heap) (T:Addr),dt g z TI TO (rawInt T) (.bool false)->g.IsListIter i G (k+1)->yJ tp g d H (k+1)->cf g TO x y->cf g T x y->T=s.heap.objs.size->(∀c o,c≠z->c≠i->c≠d->c≠TO->s.heap.get? c=some o->g.get? c=some o) ->
   Q (.ref T) { s with heap:=g }) :
  wpAny (model prog w) A (Builtin.«zip.__next__» ⟨[.ref z],[]⟩) (λew s'=>∃h,ew=.done (.ret h)/\Q h s') E s:=by
 unfold Builtin.«zip.__next__»;apply ac;apply am;apply ac;refine cg (show s.heap.get? z=some _ from S) rfl (x:=.bool false) rfl ?_;apply ac;refine cg (show s.heap.get? z=some _ from S) rfl (x:=.ref TI) rfl ?_;apply ac;refine fL (show s.heap.get? TI=some _ from L) rfl ?_;dsimp only;rw[ag (by simp)];apply ac;unfold lA;apply ac;refine cg (show s.heap.get? z=some _ from S) rfl (x:=.none) rfl (am ?_);rw[ae rfl];apply ac;apply mn;apply ac;refine cg (show s.heap.get? z=some _ from S) rfl (x:=.ref TO) rfl ?_;dsimp only;apply ac;refine mw (show s.heap.get? z=some _ from S) (by simp) λh0 W b=>?_
 apply ac;show wpAny _ _ (forIn [(Value.ref i,0),(Value.ref d,1)] _ _) _ _ _;rw[fh];apply ac;apply ac;apply tz;show wpAny _ _ (c0 (.ref i) >>= _) _ _ _;apply ac;refine tR (h1.extBut b.extBut n1) (R.extBut b.extBut n3) hx λha ia n=>am ?_;dsimp only;have B:ha.get? TO=some { cls:=.type "tuple",data:=.seq #[p,q] }:=n.extBut _ _ n8 (b.extBut _ _ I M);apply ac;refine fL B rfl ?_;dsimp only;apply ac;refine yL (s:={ s with heap:=ha }) B λhb j f=>?_;replace j:hb.get? TO=some { cls:=.type "tuple",data:=.seq #[x,q] }:=j;apply ac;apply wpAny_letGo;apply am;dsimp only;rw[fh];apply ac;apply ac;apply tz;show wpAny _ _ (c0 (.ref d) >>= _) _ _ _;apply ac;refine AV (((h2.extBut b.extBut n2).extBut n.extBut n5).extBut f.extBut (aG n9)) (((V.extBut b.extBut n4).extBut n.extBut n6).extBut f.extBut n10) hy λhc ic m=>am ?_;dsimp only;have C:hc.get? TO=some { cls:=.type "tuple",data:=.seq #[x,q] }:=m.extBut _ _ n9 j;apply ac;refine fL C rfl ?_;dsimp only;apply ac;refine yL (s:={ s with heap:=hc }) C λl u t=>?_;replace u:l.get? TO=some { cls:=.type "tuple",data:=.seq #[x,y] }:=u;apply ac;apply wpAny_letGo;apply am;dsimp only;rw[wg];apply am;dsimp only;apply ac;refine fL u rfl ?_;dsimp only;apply ac;refine tB (hsz:=by show 2≤sizeLine;decide) ?_;have F:l.get? z=some { cls:=.type "zip",data:=.fields #[.ellipsis,.bool false,.bool false,.ref TI,.ref TO] }:=t.extBut _ _ (aG I) (m.extBut _ _ (aG n2) (f.extBut _ _ (aG I) (n.extBut _ _ (aG n1) W)));have D:=ar F;have X:(l.push { cls:=.type "tuple",data:=.seq #[x,y] }).get? z=some { cls:=.type "zip",data:=.fields #[.ellipsis,.bool false,.bool false,.ref TI,.ref TO] }:=aE _ F;apply ac;unfold BX;dsimp only;apply ac;refine mw X (by simp) λhe Z K=>?_;refine mw Z (by simp) λhf hz7 P=>?_;have a:∀c o,c≠z->l.get? c=some o->hf.get? c=some o:=λc o N e=>P.extBut _ _ N (K.extBut _ _ N (aE _ e));refine am ⟨_,rfl,hQ hf l.objs.size hz7 ?_ ?_ (a _ _ I u) ?_ ?_ ?_⟩
 .exact (((ia.extBut f.extBut (aG n8)).extBut m.extBut (aG n5)).extBut t.extBut (aG n8)).at λo e=>a _ o n1 e
 .obtain⟨o,e,_,r⟩:=(ic.extBut t.extBut (aG n9)).obj;exact r _ (a _ o n2 e)
 .exact P.extBut _ _ (bf D) (K.extBut _ _ (bf D) (aS _ rfl))
 .show l.objs.size=s.heap.objs.size;rw[t.1,m.1,f.1,n.1,b.1]
 .exact λc o N v c3 c4 e=>a c o N (t.extBut _ _ c4 (m.extBut _ _ c3 (f.extBut _ _ c4 (n.extBut _ _ v (b.extBut _ _ N e)))))
theorem qZ(H:A.handled=none)(a:dt s.heap z TI TO .none (.bool false))(T:cf s.heap TI (.ref d) (.ref I))
  (i:s.heap.IsListIter d g k) (l:s.heap.IsList g M) (S:M[k]? = none) (t:d≠z) (K:g≠z)
  (y:∀h e,(∀c o,c≠z->c≠d->s.heap.get? c=some o->h.get? c=some o)->(∃o,h.get? e=some o/\o.cls=.type "StopIteration")->E (.ref e) { s with heap:=h }) :
  wpAny (model prog w) A (Builtin.«zip.__next__» ⟨[.ref z],[]⟩) Q E s:=by
 unfold Builtin.«zip.__next__»;apply ac;apply am;apply ac;refine cg (show s.heap.get? z=some _ from a) rfl (x:=.bool false) rfl ?_;apply ac;refine cg (show s.heap.get? z=some _ from a) rfl (x:=.ref TI) rfl ?_;apply ac;refine fL (show s.heap.get? TI=some _ from T) rfl ?_;dsimp only;rw[ag (by simp)];apply ac;unfold lA;apply ac;refine cg (show s.heap.get? z=some _ from a) rfl (x:=.none) rfl (am ?_);rw[ae rfl];apply ac;apply mn;apply ac;refine cg (show s.heap.get? z=some _ from a) rfl (x:=.ref TO) rfl ?_;dsimp only;apply ac;refine mw (show s.heap.get? z=some _ from a) (by simp) λB r b=>?_
 apply ac;show wpAny _ _ (forIn [(Value.ref d,0),(Value.ref I,1)] _ _) _ _ _;rw[fh];apply ac;apply ac;apply tz;show wpAny _ _ (c0 (.ref d) >>= _) _ _ _;apply ac;refine yN H (i.extBut b.extBut t) (l.extBut b.extBut K) S λh e x o=>?_;have n:=x _ _ (aG t) r;refine mw (s:={ s with heap:=h }) n (by simp) λj F f=>y j e (λc p N v u=>f.extBut _ _ N (x _ _ v (b.extBut _ _ N u))) ?_;obtain⟨p,m,c⟩:=o;have P:e≠z:=λq=>by rw[q,n]at m;cases m;exact absurd (show Value.type "zip"=Value.type "StopIteration" from c) (by decide)
 exact⟨p,f.extBut _ _ P m,c⟩
end
theorem qX:typeLookup (.type "zip") "keys"=pure none:=by rw[tF,tN];kernel_rfl
theorem mH:typeLookup (.type "zip") "__getattr__"=pure none:=by rw[tF,tN];kernel_rfl
theorem kx:entryFor table "zip.__getattribute__"=some Builtin.«object.__getattribute__»:=
 entryFor_alias (id':="object.__getattribute__") (by kernel_rfl) (by decide +kernel) (by decide +kernel) (by kernel_rfl)
section
variable{prog:Program}{w:World}{A:Around}{E:VP}{s:Shared}
theorem y'(z TI TO:Addr)(f0 f1:Value)(u:Tok):Meets (Builtin.«object.__getattribute__» ⟨[.ref z,.str "keys" u],[]⟩) (λA R s=>dt s.heap z TI TO f0 f1/\raisesAttr (.ref z) "keys" A R s):=
 .of_wp λprog w A R s hs=>by
  obtain⟨hp,g,d,tk,os⟩:=s;obtain⟨hx,hs⟩:=hs;unfold dt at hx;have hT:(⟨hp,g,d,tk,os⟩:Shared).TypeIs (.ref z) "zip":=⟨_,hx,rfl⟩;have nk:=qX;unfold Builtin.«object.__getattribute__»;repeat any_goals first|assumption|wp_step
  exact wpAny_raiseAttrError hs.1 hs.2 (attrMsg_fits (by decide +kernel) (by size_fits))
theorem xQ(q:dt s.heap z TI TO l j)(v:A.handled=none)
  (h:∀x tk,(∀b o,s.heap.get? b=some o->x.get? b=some o)->Q none { s with heap:=x,toks:=tk }):wpAny (model prog w) A (getAttr? (.ref z) "keys") Q E s:=by
 obtain⟨p,g,d,tk,os⟩:=s;have T:∀t,(⟨p,g,d,t,os⟩:Shared).TypeIs (.ref z) "zip":=λ_=>⟨_,q,rfl⟩;have j:=wW;have i:=pb.lookup;have y:=pb.bind (.ref z);have H:=mH;have step:∀(n:Nat)(u:Tok)(m:VP)(f:VP),(∀x c e,v_ p x e (.ref z) "keys"->f (.ref e) ⟨x,g,d,c,os⟩) ->
   wpAny (model prog w) A (call (Value.builtin "zip.__getattribute__") ([Value.ref z]++[Value.str "keys" u]) []) m f ⟨p,g,d,n,os⟩:=λn u m f k=>
  dD pb (T _) kx (F.args_zip_getattribute_2 _ _) (y' z TI TO _ _ u) ⟨q,v,k⟩
 unfold getAttr?;unfold getAttrBy?;unfold getAttrBy;repeat any_goals first|assumption|exact T _|(with_reducible refine step _ _ _ _ λx t e a=>?_)|wp_step
 have r:=a.there;obtain⟨S,K,r⟩:=r;repeat any_goals first|assumption|wp_step
 exact h _ _ a.keeps
end
section
variable{prog:Program}{w:World}{A:Around}{E:VP}{s:Shared}
theorem p0(n:s.TypeIs (.ref z) "zip")
  (h:wpAny (model prog w) A.in1 (Builtin.«zip.__next__» ⟨[.ref z],[]⟩) (λew x=>∃v,ew=.done (.ret v)/\Q (some v) x) (λe x=>∃a o,e=.ref a/\x.heap.get? a=some o/\o.cls=.type "StopIteration"/\Q none x) s) :
  wpAny (model prog w) A (pyNext (.ref z)) Q E s:=by
 unfold pyNext;apply ac;apply wpAny_attempt;refine my (name:=Str.ofString "__next__") n vi (kq vi n F.entry_zip_next (bv h (λew x ⟨v,e,q⟩=>⟨v,e,am q⟩) λe x ⟨a,o,k,f,c,q⟩=>?_) (F.args_zip_next_1 _));subst k;apply ac;exact wR (T:="StopIteration") (b:=true) ⟨_,f,c⟩ isSubtype_stop (am q)
def Ed(d:Addr)(h:Heap)(z TI TO i x l a:Addr)(k:Nat):Prop:=cf h TI (.ref i) (.ref x)/\h.IsListIter i l k/\h.IsTupleIter x a k /\
 ((k=0/\dt h z TI TO .none (.bool false)/\cf h TO .none .none)\/∃(T:Addr)(o:Obj)(f:Bool),dt h z TI TO (rawInt T) (.bool f)/\h.get? T=some o/\T≠z/\T≠i/\T≠x/\T≠d)
structure ZAp(d z TI TO i1 i2 l1 l2:Addr):Prop where
 nd:[d,z,TI,TO,i1,i2].Nodup
 l1n:l1 ∉ [d,z,TI,TO,i1,i2]
 l2n:l2 ∉ [d,z,TI,TO,i1,i2]
theorem Ed.typeIs(x:Ed d s.heap z TI TO n q l g k):s.TypeIs (.ref z) "zip":=by
 obtain⟨_,_,_,⟨_,h,_⟩|⟨T,o,f,h,_⟩⟩:=x
 .exact⟨_,h,rfl⟩
 .exact⟨_,h,rfl⟩
theorem Ed.but(x:Ed d h z TI TO q g l j k)(p:ZAp d z TI TO q g l j)(s:cq d h I):Ed d I z TI TO q g l j k:=by
 have n:=p.nd;simp only[bN,aH,bF,bE,eC]at n;obtain⟨b,c,m,r⟩:=x;refine⟨s.extBut _ _ (aG n.1.2.1) b,c.extBut s.extBut (aG n.1.2.2.2.1),m.extBut s.extBut (aG n.1.2.2.2.2),?_⟩;rcases r with ⟨e,a,t⟩|⟨T,o,v,a,t,w,u,i,f⟩
 .exact .inl ⟨e,s.extBut _ _ (aG n.1.1) a,s.extBut _ _ (aG n.1.2.2.1) t⟩
 .exact .inr ⟨T,o,v,s.extBut _ _ (aG n.1.1) a,s.extBut _ _ f t,w,u,i,f⟩
theorem zf(p:ZAp d z TI TO I M l1 l2)(a:Ed d s.heap z TI TO I M l1 l2 k)(S:s.heap.get? d=some od)(l:s.heap.IsList l1 xs)(b:s.heap.IsTuple l2 ys)(C:xs[k]? = some x)(D:ys[k]? = some y)
  (B:∀h T,Ed d h z TI TO I M l1 l2 (k+1)->cf h T x y->T≠d->(∀c o,c ∉ [z,TO,I,M]->s.heap.get? c=some o->h.get? c=some o)->Q (some (.ref T)) { s with heap:=h }) :
  wpAny (model prog w) A (pyNext (.ref z)) Q E s:=by
 have Z:=p.nd;have W:=p.l1n;have X:=p.l2n;simp only[bN,aH,bF,bE,eC]at Z W X;refine p0 a.typeIs ?_;obtain⟨m,g,i,V⟩:=a;rcases V with ⟨e,v,t⟩|⟨T,oT,f1,v,t,L,N,R,t4⟩
 .subst e;refine oj (tp:=true) v m t g i l b C D (by grind) (by grind) (by grind) (by grind) (by grind) (by grind) (by grind) (by grind) (by grind) (by grind) λh T F K P _ G q5 q=>?_
  have fresh:∀c o,s.heap.get? c=some o->T≠c:=λc o f z=>absurd (ar f) (by rw[<- z,q5];exact cN _);obtain⟨oi1,j,_⟩:=g;obtain⟨oi2,H,_⟩:=i;exact B h T ⟨q _ _ (by grind) (by grind) (by grind) (by grind) m,K,P,.inr ⟨T,_,false,F,G,fresh _ _ v,fresh _ _ j,fresh _ _ H,fresh _ _ S⟩⟩ G (fresh _ _ S) λc o n f=>q c o (λz=>n (by simp[z])) (λz=>n (by simp[z])) (λz=>n (by simp[z])) (λz=>n (by simp[z])) f
 .refine xR v m t g i l b C D (by grind) (by grind) (by grind) (by grind) (by grind) (by grind) (by grind) (by grind) (by grind) λh F K P q=>?_;have dl:d < h.objs.size:=ar (q _ _ (by grind) (by grind) (by grind) S);have u:∀c o,h.get? c=some o->(h.push { cls:=.type "tuple",data:=.seq #[x,y] }).get? c=some o:=λc o e=>aE _ e;refine B _ _ ⟨u _ _ (q _ _ (by grind) (by grind) (by grind) m),?_,?_,.inr ⟨T,oT,true,u _ _ F,u _ _ (q _ _ L N R t),L,N,R,t4⟩⟩ (aS _ rfl) (bf dl) λc o n f=>u _ _ (q c o (λz=>n (by simp[z])) (λz=>n (by simp[z])) (λz=>n (by simp[z])) f)
  .obtain⟨o,e,r⟩:=K;exact⟨o,u _ _ e,r⟩
  .obtain⟨o,e,r⟩:=P;exact⟨o,u _ _ e,r⟩
theorem Cw(u:A.handled=none)(p:ZAp d z TI TO j I M l2)(a:Ed d s.heap z TI TO j I M l2 k)(l:s.heap.IsList M xs)(i:xs[k]? = none)
  (v:∀h,(∀c o,c ∉ [z,TO,j,I]->s.heap.get? c=some o->h.get? c=some o)->Q none { s with heap:=h }):wpAny (model prog w) A (pyNext (.ref z)) Q E s:=by
 have S:=p.nd;have H:=p.l1n;simp only[bN,aH,bF,bE,eC]at S H;refine p0 a.typeIs ?_;obtain⟨r,t,F,y⟩:=a;rcases y with ⟨e,n,g⟩|⟨T,P,K,n,g,B,C,D,G⟩
 .subst e;exact qZ u n r t l i (by grind) (by grind) λh e q n=>by obtain⟨o,b,m⟩:=n;exact⟨e,o,rfl,b,m,v h λc o x f=>q c o (λz=>x (by simp[z])) (λz=>x (by simp[z])) f⟩
 .exact zc u n r g t l i (by grind) (by grind) λh e q ⟨o,b,m⟩=>⟨e,o,rfl,b,m,v h λc o x f=>q c o (λz=>x (by simp[z])) (λz=>x (by simp[z])) f⟩
end
section
variable{prog:Program}{w:World}{K:Type}[DecidableEq K]{t:KeyKind prog w K}{A:Around}{E:VP}{R:Result->Shared->Prop}
inductive ZipsAt(knd:KeyKind prog w K):LV->LV->List (K×Value)->Prop
 |nil {vs:LV}:ZipsAt knd [] vs []
 |cons {key v:Value}{k:K}{us vs:LV}{kvs:List (K×Value)}:knd.is k key=true->ZipsAt knd us vs kvs->ZipsAt knd (key::us) (v::vs) ((k,v)::kvs)
set_option tactic.hygienic true in
theorem uP(hh:A.handled=none){u:Heap}(p:ZAp d z TI TO i1 i2 l1 l2)(fr:∀a ∈ [d,z,TI,TO,i1,i2],u.get? a=none)(L:u.IsList l1 j)(hl2:u.IsTuple l2 ys) :
  ∀(n:List (K×Value))(i:Nat)(f:List (K×Value))(s:Shared),(∀b o,u.get? b=some o->s.heap.get? b=some o)->Ed d s.heap z TI TO i1 i2 l1 l2 i->s.heap.DictOf t d f->ZipsAt t (j.toList.drop i) (ys.toList.drop i) n ->
   ((f++n).map (·.1)).Nodup->(f++n).length≤sizeLine->i+n.length=j.size ->
   (∀l t',(∀b o,u.get? b=some o->l.get? b=some o)->l.DictOf t d (f++n)->R (.ok (.ret .none)) { s with heap:=l,toks:=t' }) ->
   codeAny (model prog w) A (.builtin "dict.update.loop" ⟨[.ref d,.ref z,rawInt i,.none],[]⟩) R s:=by
 have nd:=p.nd;simp only[bN,aH,bF,bE,eC]at nd;have P:∀b o,u.get? b=some o->b ∉ [d,z,TI,TO,i1,i2]:=λb o e m=>by rw[fr b m]at e;cases e
 have dz:d ∉ [z,TO,i1,i2]:=by simp only[aH,bF,bE,eC];grind
 intro n;induction n with
 |nil=>
  intro i f s C y hd X N Z hi h;have I:j[i]? = none:=by simp at hi ⊢;lia
  have H:s.heap.IsList l1 j:=by obtain⟨o,S,r⟩:=L;exact⟨o,C _ _ S,r⟩
  refine o3 F.entry_dict_update_loop ?_;rw[lW F.plain_dict_update_loop _];unfold Builtin.«dict.update.loop»;show wpAny _ A.in1 (pyNext (.ref z) >>= _) _ _ s;refine ac (Cw hh p y H I λl D=>?_);show wpAny _ A.in1 (u3 d [] >>= _) _ _ _;rw[b9]at h;apply ac;apply am;apply am;refine h l s.toks (λb o e=>D b o (λm=>P b o e (by simp only[aH,bF,bE]at m ⊢;grind)) (C b o e)) ?_;obtain⟨o,c,ep,S,r⟩:=hd;exact⟨o,c,ep,D _ _ dz S,r⟩
 |cons kv n ih=>
  intro i f s C y hd X N Z hi h;have H:s.heap.IsList l1 j:=by obtain⟨o,S,r⟩:=L;exact⟨o,C _ _ S,r⟩
  have M:s.heap.IsTuple l2 ys:=by obtain⟨o,S,r⟩:=hl2;exact⟨o,C _ _ S,r⟩
  generalize er:j.toList.drop i=us at X;generalize c:ys.toList.drop i=vs at X;cases X with
  |cons hk hps=>
   rename_i B v k us' vs';have hx:j[i]? = some B:=by have:=bR (·[0]?) er;simpa using this
   have hy:ys[i]? = some v:=by have:=bR (·[0]?) c;simpa using this
   have er':j.toList.drop (i+1)=us':=by rw[<- pN,er];rfl
   have es':ys.toList.drop (i+1)=vs':=by rw[<- pN,c];rfl
   obtain⟨od,ed1,ed2,Q,hdr⟩:=id hd;refine o3 F.entry_dict_update_loop ?_;rw[lW F.plain_dict_update_loop _];unfold Builtin.«dict.update.loop»;show wpAny _ A.in1 (pyNext (.ref z) >>= _) _ _ s;refine ac (zf p y Q H M hx hy λW T za g hTd D=>?_);have kp1:∀b o,u.get? b=some o->W.get? b=some o:=λb o e=>D b o (λm=>P b o e (by simp only[aH,bF,bE]at m ⊢;grind)) (C b o e);have hd1:W.DictOf t d f:=⟨od,ed1,ed2,D _ _ dz Q,hdr⟩;show wpAny _ A.in1 (holding [Value.ref T] _ >>= _) _ _ _;apply ac;apply cZ;apply ac;apply wJ;unfold u0;refine ac (jn (T:="tuple") ⟨_,g,rfl⟩ ?_);rw[ae (by decide)];refine ac (fL (show W.get? T=some _ from g) rfl (am ?_));show wpAny _ A.in1 (holding [B,v] (dictSet d B v)) _ _ _;refine cZ ?_;refine wpAny_dictSet_pairs (s:={ s with heap:=W }) hk hd1 (λh2 G V=>?_) (by simp at Z;lia);have hnk:k ∉ f.map (·.1):=by intro hm;rw[fj,jJ]at N;exact N.2.2 _ hm _ (by simp) rfl
   have est:stored f k v=f++[(k,v)]:=by unfold stored;rw[ag];intro E;obtain⟨x,hx1,hx2⟩:=lR.mp E;exact hnk (dH.mpr ⟨x,hx1,aD hx2⟩)
   rw[est]at G;refine am ⟨oZ F.plain_dict_update_loop _,?_⟩;have kp2:∀b o,u.get? b=some o->h2.get? b=some o:=λb o e=>V.extBut _ _ (λq=>P b o e (by simp[q])) (kp1 b o e);have e1:f++(k,v)::n=(f++[(k,v)])++n:=by simp
   rw[e1]at N Z h;exact ih (i+1) (f++[(k,v)]) { s with heap:=h2,toks:=s.toks+1 } kp2 (za.but p V) G (er' ▸ es' ▸ hps) N Z (by simp at hi;lia) λl t' k1 k2=>h l t' k1 k2
end
section
variable{prog:Program}{w:World}{K:Type}[DecidableEq K]{t:KeyKind prog w K}{A:Around}{E:VP}{s:Shared}
theorem lh(l:s.heap.IsList n I)(e:s.heap.IsTuple q M)
  (h:∀x i a TI TO z,(∀b o,s.heap.get? b=some o->x.get? b=some o)->s.heap.objs.size≤i->i < a->a < TI->TI < TO->TO < z->x.IsListIter i n 0->x.IsTupleIter a q 0->cf x TI (.ref i) (.ref a)->cf x TO .none .none ->
   dt x z TI TO .none (.bool false)->Q (.ref z) { s with heap:=x }):wpAny (model prog w) A (call (.type "zip") [.ref n,.ref q]) Q E s:=by
 refine callType_new F.called_zip (by decide) (F.typeCall_zip_2 _ _) (F.newCall_zip_2 _ _) (λj=>F.args_object_init_3 j _ _) F.entry_zip_new (zb n q I M) ⟨l,e,λx i a TI TO z k c m r t p v d u g f=>?_⟩;show _/\_;exact⟨⟨_,f,rfl⟩,h x i a TI TO z k c m r t p v d u g f⟩
theorem oe{k:Heap}(hh:A.handled=none)(k0:∀b o,k.get? b=some o->s.heap.get? b=some o)(H:k.IsList l1 xs)(S:k.IsTuple l2 ys)
  (i:k.objs.size≤I) (D:I < M) (G:M < TI) (P:TI < TO) (j:TO < z) (b1:s.heap.IsListIter I l1 0) (b2:s.heap.IsTupleIter M l2 0) (b3:cf s.heap TI (.ref I) (.ref M)) (b4:cf s.heap TO .none .none) (y:dt s.heap z TI TO .none (.bool false))
  (hp:ZipsAt t xs.toList ys.toList C) (hn:(C.map (·.1)).Nodup) (hz:C.length≤sizeLine) (hi:C.length=xs.size)
  (h:∀d X,(∀b o,k.get? b=some o->d.get? b=some o)->d.DictOf t s.heap.objs.size C->Q (.ref s.heap.objs.size) { s with heap:=d,toks:=X }) :
  wpAny (model prog w) A (call (.type "dict") [.ref z]) Q E s:=by
 have fresh:(s.heap.push { cls:=.type "dict",data:=.dict #[] }).DictOf t s.heap.objs.size []:=.new s.heap;have u:∀b o,s.heap.get? b=some o->(s.heap.push { cls:=.type "dict",data:=.dict #[] }).get? b=some o:=λb o=>aE _;have q:z < s.heap.objs.size:=ar y;have K:=wL (prog:=prog) (w:=w) (A:=A.in1) (E:=E) (s:=s) (Value.ref z) (Q₁:=λx z=>x=.ref s.heap.objs.size/\z={ s with heap:=s.heap.push { cls:=.type "dict",data:=.dict #[] } }) ⟨rfl,rfl⟩;apply wH vj (vm (.ref z)) vk K;rintro _ _ ⟨e,e'⟩;subst e e';generalize s.heap.push { cls:=.type "dict",data:=.dict #[] }=h1 at fresh u;refine⟨fresh.typeIs,vl (.ref s.heap.objs.size) (.ref z),?_⟩;unfold Builtin.«dict.__init__» u4;apply ac;apply ac;apply yO fresh.typeIs;apply am;show wpAny _ _ (lz "dict.__init__" s.heap.objs.size (.ref z) [] .none) _ _ _;unfold lz;refine ac (jn (T:="zip") ⟨_,u _ _ y,rfl⟩ ?_);rw[ae (by decide)];refine ac (xQ (u _ _ y) hh λh2 tk k2=>?_);rw[ae (by rfl)];refine ac (mn ?_);have g:∀b o,s.heap.get? b=some o->h2.get? b=some o:=λb o e=>k2 b o (u b o e);have R:h2.DictOf t s.heap.objs.size []:=by obtain⟨o,c,ep,ho,r⟩:=fresh;exact⟨o,c,ep,k2 _ _ ho,r⟩
 refine ac (tH (z:=z) (TI:=TI) (TO:=TO) (f0:=.none) (g _ _ y) ?_);refine am ⟨oZ F.plain_dict_update_loop _,?_⟩;have V:l1 < k.objs.size:=by obtain⟨o,e,_⟩:=H;exact ar e
 have W:l2 < k.objs.size:=by obtain⟨o,e,_⟩:=S;exact ar e
 have f:∀{a b n:Nat},a < b->b < n->a < n:=λh d=>iL h d;have N:=f D G;have v:=f N P;have L:=f v j;have Z:=f L q;have c5:=f G P;have c6:=f c5 j;have c7:=f c6 q;have c8:=f P j;have c9:=f c8 q;have ca:=f j q;have low:∀{l n:Nat},l < k.objs.size->k.objs.size≤n->l≠n:=λh d=>aL (a_ h d);have ge:∀n ∈ [s.heap.objs.size,z,TI,TO,I,M],k.objs.size≤n:=λn B=>by
  simp only[aH,bF,bE]at B;rcases B with rfl|rfl|rfl|rfl|rfl|rfl
  .exact aI i (cM Z)
  .exact aI i (cM L)
  .exact aI i (cM N)
  .exact aI i (cM v)
  .exact i
  .exact aI i (cM D)
 have p:ZAp s.heap.objs.size z TI TO I M l1 l2:=by refine⟨?_,λm=>low V (ge _ m) rfl,λm=>low W (ge _ m) rfl⟩;simp only[bN,aH,bF,bE,eC,jG,not_false_eq_true,and_true];exact⟨⟨bf q,bf c9,bf ca,bf Z,bf c7⟩,⟨bf c8,bf j,bf L,bf c6⟩,⟨aL P,bf N,bf G⟩,⟨bf v,bf c5⟩,aL D⟩
 refine uP (A:=A.in1) (t:=t) (u:=k) hh p (λn B=>?_) H S C 0 [] _ (λb o e=>g b o (k0 b o e)) ⟨g _ _ b3,?_,?_,.inl ⟨rfl,g _ _ y,g _ _ b4⟩⟩ R (by simpa using hp) (by simpa using hn) (by simpa using hz) (by lia) λd X q1 q2=>?_
 .cases e:k.get? n with
  |none=>rfl
  |some o=>exact absurd rfl (low (ar e) (ge n B))
 .obtain⟨o,e,r⟩:=b1;exact⟨o,g _ _ e,r⟩
 .obtain⟨o,e,r⟩:=b2;exact⟨o,g _ _ e,r⟩
 .exact⟨rfl,h d X q1 q2⟩
end
end PySem
set_option tactic.hygienic true
namespace Ev
open PySem PySem.Spec PyProof.Rows L2
@[simp] def Bi(fa fb:EV)(L:Lc)(S:aC):oo:=aZ (fa L S) λx a=>aZ (fb L a) λy h=>match x,y with
 | .lst k,.tup v=>match cV k with
  |some B=>if (B.Nodup/\few k=true/\B.length≤v.length) then some (.ref h.length,h++[.dct B ((v.take B.length).map .p)]) else none
  |none=>none
 |_,_=>none
theorem w6:∀{B:List cn}{s i:LV}{x:List V},aM (B.map kV) s->aM x i->B.length≤x.length->ZipsAt (bx g w) s i (B.zip i)/\L2.KV (B.zip x) (B.zip i)
 | [],_,i,x,h,_,_=>by cases h;exact⟨.nil,.nil⟩
 |k::B,_,_,[],h,_,l=>absurd l (by simp)
 |k::B,_,_,y::x,h,e,l=>by
  cases h with
  |cons r t=>
   cases e with
   |cons n f=>obtain⟨a,b⟩:=w6 (g:=g) (w:=w) t f (by simpa using l);exact⟨.cons (kZ r) a,.cons ⟨rfl,n⟩ b⟩
theorem kt:∀{xs:List L}{ys:List n},xs.length≤ys.length->(xs.zip ys).map (·.1)=xs/\(xs.zip ys).map (·.2)=ys.take xs.length
 | [],ys,_=>by simp
 |x::xs,[],h=>absurd h (by simp)
 |x::xs,y::ys,h=>by obtain⟨a,b⟩:=kt (xs:=xs) (ys:=ys) (by simpa using h);simp[a,b]
section
variable{X:Cx}{a b:Expr}{fa fb:EV}{p G N v:Pos}
theorem EZ(hc:X.c=true)(gd:Gl X "dict")(md:X.g "dict"=none)(gz:Gl X "zip")(mz:X.g "zip"=none)(ha:Y X a (tV X.K fa))(hb:Y X b (tV X.K fb))(hs:starEach [a,b] X.e=[(false,eval a X.e),(false,eval b X.e)])(V:starEach [b] X.e=[(false,eval b X.e)])(hz:bootBuiltins "zip"=some (.type "zip")) :
  Y X (.Call (.Name "dict" p) [.Call (.Name "zip" G) [a,b] [] v] [] N) (tE X.K (Bi fa fb)):=by
 intro pins s J H Q I ⟨F,m,L,S,d,S',r,l,q,k⟩;obtain⟨x,S1,e1,q⟩:=ah q;obtain⟨y,S2,e2,q⟩:=ah q;have hh:X.A.handled=none:=I.o.hd hc;refine eI (gO I gd md vY ?_ (by decide) (by decide));refine e7 (bM ?_) rfl rfl;refine eI (gO I gz mz hz ?_ (by decide) (by decide));refine e7 ?_ (by rw [hs,V]) (by rw [V];rfl);rw [hs];refine bM (bB (ha pins s J H (fun h H1=>∃n K,Stp F m H n K H1/\Rel X.K n H1 K S1/\RP X.K n H1 x h) I ⟨F,m,L,S,x,S1,r,l,e1,fun h n K H1 s1 r1 p1=>⟨n,K,s1,r1,p1⟩⟩) fun u s1 ⟨h,H1,I1,ru,n,K,st1,r1,p1⟩=>
  bM (bB (hb pins s1 J H1 (λh A=>∃f C,Stp n K H1 f C A/\Rel X.K f A C S2/\RP X.K f A y h) I1 ⟨n,K,L,S1,y,S2,r1,l.mono st1,e2,λh f C A D r2 G=>⟨f,C,D,r2,G⟩⟩) λu2 D ⟨v2,A,E,ru2,f,C,st2,r2,G⟩=>cL ?_))
 cases x with
 |lst ks=>
  cases y with
  |tup vs=>
   dsimp only at q;cases ek:cV ks with
   |none=>rw[ek]at q;cases q
   |some B=>
    rw[ek]at q;dsimp only at q;split at q
    .rename_i c;cases q;obtain⟨ax,xs,rfl,hq,rp⟩:=RP.mono st2 p1;obtain⟨ay,ys,rfl,ta,rq⟩:=G;cases (show u=Value.ref ax from ru);cases (show u2=Value.ref ay from ru2);obtain⟨z1,W,n1,rx,T,ex⟩:=E.lstM hq.2;obtain⟨i,ry,Z,hzy⟩:=E.tuple ta.sq;have exs:=gc ek rp;subst exs;have j:B.length≤ys.length:=by rw[<- rq.length];exact c.2.2
     obtain⟨za,zk⟩:=w6 (g:=X.p) (w:=X.w) rx ry j;have hl2:B.length≤i.length:=by rw[<- ry.length];exact j
     obtain⟨zf1,zf2⟩:=kt (xs:=B) (ys:=ys) j;obtain⟨P,_⟩:=kt (xs:=B) (ys:=i) hl2;have M:(B.zip i).length=W.toArray.size:=by have:=bR lN P;rw[a8]at this;rw[this,aP,<- T,a8]
     have hkz:(B.zip i).length≤sizeLine:=by rw[M,aP,<- T];exact z1
     have R:D.heap.IsList ax W.toArray:=⟨_,ex,rfl,n1,rfl⟩;refine lh R Z λe i1 i2 TI TO z k0 a1 a2 a3 a4 a5 b1 b2 b3 b4 b5=>cL ?_;refine oe (t:=bx X.p X.w) (s:={ D with heap:=e }) (k:=D.heap) hh k0 R Z a1 a2 a3 a4 a5 b1 b2 b3 b4 b5 (by simpa using za) (by rw[P];exact c.1) hkz M λh'' t' k1 dd=>?_;have g:D.heap.objs.size≤e.objs.size:=cM (gE a1 (iL a2 (iL a3 (iL a4 (iL a5 (ar b5))))));have hf:A e.objs.size=none:=E.h.fresh g;have hsm:(e.objs.size == sysModules)=false:=by have:=E.big;simp only[eD];exact bf (a_ this g)
     have hkv:(B.zip ys).length≤sizeLine:=by have e1:=bR lN zf1;have e2:=bR lN P;rw[a8]at e1 e2;lia
     have I3:=E.laid (a:=e.objs.size) (o:=.dK (B.zip ys)) (t':=t') k1 g ⟨hkv,hsm,_,zk,dd⟩;refine⟨.ref e.objs.size,_,I3,rfl,k (.ref e.objs.size) f (C++[e.objs.size]) _ (st1.trans (st2.trans (bH hf))) (r2.own hf ⟨_,au,zf1,?_⟩) ⟨e.objs.size,rfl,?_⟩⟩
     .rw [zf2,List.map_take];exact(bJ.mono (bH hf) (bJ.ofP rq)).take _
     .rw [<- r2.len,bb (ai _)];simp
    .cases q
  |_=>cases q
 |_=>cases y<;>cases q
end
end Ev
namespace Ev
open PySem PySem.Spec PyProof.Rows L2
noncomputable def Mj:P->Bool
 | .tup _=>true
 |_=>false
def bO(k:P):Bool:=Mj k && (eQ 8 k && Nk.kd (pd k))
noncomputable def nS(d:D)(S:aC):Option (Nat×List P×List D):=match d with
 | .ref i=>match S[i]? with
  |some (.dtn k v)=>some (i,k,v)
  |_=>none
 |_=>none
theorem qr(h:nS d S=some (i,k,r)):d=.ref i/\S[i]? = some (.dtn k r):=by
 unfold nS at h;split at h
 .split at h
  .cases h;exact⟨rfl,by assumption⟩
  .cases h
 .cases h
def lu(k:P)(s:List P):Bool:=s.any λq=>b_ (pd q) (pd k)
def KC(d c:D)(S:aC):Option Bool:=match d,nS c S with
 | .p k,some (_,s,_)=>if (bO k && s.all bO)=true then some (lu k s) else none
 |_,_=>none
def iX(d c:D)(S:aC):Option P:=(KC d c S).map λb=>.bl (!b)
section
variable{X:Cx}{pins:PN}{J:L2.St}{H:Hp}{s:Shared}{F:Aa}
theorem kJ(I:Inv X pins J H s)(g:bO k=true)(r:RP X.K F H k y):kU s.heap (pd k) y:=by
 unfold bO at g;simp only[aq]at g;obtain⟨t,o,h⟩:=g;cases k with
 |tup e=>obtain⟨b,z,rfl,x⟩:=r;obtain⟨a,d⟩:=dg I 8 (p:=.tup e) (v:=.ref b) (u:=.ref b) ⟨b,z,rfl,x⟩ rfl o;exact⟨b,rfl,h,(cT 8 _ o).2,a,d⟩
 |_=>cases t
theorem l8(I:Inv X pins J H s):∀{kvs:List (PyData×V×V)}{h:List P},h.all bO=true->kvs.map (·.1)=eZ h->bg X.K F H h (kvs.map (·.2.1))->∀p ∈ kvs,kU s.heap p.1 p.2.1
 | [],_,_,_,_,_,a=>nomatch a
 |q::kvs,h,g,e,r,p,a=>by
  cases h with
  |nil=>cases r
  |cons k h=>
   rw[gG,aq]at g;rw[az,eZ]at e;injection e with n f;obtain⟨x,v,b,c,m⟩:=r;injection b with z t;subst z t;rcases aH.mp a with rfl|a
   .rw [n];exact kJ I g.1 c
   .exact l8 I g.2 f m p a
theorem gh(g:bO k=true):Nk.kd (pd k)=true:=by unfold bO at g;simp only[aq]at g;exact g.2.2
theorem uG(g:bO k=true):∀{kvs:List (PyData×V×V)}{ks:List P},ks.all bO=true->kvs.map (·.1)=eZ ks->uH kvs (pd k)=lu k ks
 | [],ks,_,e=>by
  cases ks with
  |nil=>rfl
  |cons _ _=>cases e
 |q::kvs,ks,h,e=>by
  cases ks with
  |nil=>cases e
  |cons p ks=>rw[gG,aq]at h;rw[az,eZ]at e;injection e with e1 e2;have ih:=uG g h.2 e2;unfold uH lu at ih ⊢;rw[cw,cw,ih,e1];congr 1;rw[gH,Nk.eqv_kd _ _ (gh h.1) (gh g),pJ]
theorem GS(h:KC d c S=some b):∃k i s v,d=.p k/\nS c S=some (i,s,v)/\bO k=true/\s.all bO=true/\b=lu k s:=by
 unfold KC at h;split at h
 .split at h
  .rename_i e x;rw[aq]at x;cases h;exact⟨_,_,_,_,rfl,e,x.1,x.2,rfl⟩
  .cases h
 .cases h
end
section
variable{X:Cx}
theorem As(C:X.A.units+64 < cLine):fK X (compareOp .NotIn) (rE X.K iX):=by
 intro pins s J H x y v u Q I A B h;obtain⟨F,m,S,d,e,r,P,l,z,q,k⟩:=h;unfold iX at q;obtain⟨b,p,rfl⟩:=b8.mp q;obtain⟨j,i,D,G,rfl,o,g,f,rfl⟩:=GS p;obtain⟨rfl,N⟩:=qr o;obtain⟨a,rfl,w⟩:=z;obtain⟨kvs,t,n,K,_⟩:=P.obj i a _ w N;cases B;refine Dx (by lia) I t (l8 I f n K) (kJ I g l) A λE c=>⟨.bl _,H,c,rfl,?_⟩
 rw[uG g f n];exact k _ F H .refl rfl
end
section
variable{X:Cx}{B G:Pos}{o i n:Expr}{j:EE}{fk fv:EV}{td ty tv:TE}
def IN(X:Cx)(td ty tv:TE):TS:=λD J H=>tv J H λv H1=>td J H1 λx e=>ty J e λy h=>∃a kvs d,x=.ref a/\h a=some (.dN kvs)/\(∀pins s,Inv X pins J h s->kU s.heap d y/\∀p ∈ kvs,kU s.heap p.1 p.2.1)/\uH kvs d=false/\kvs.length < sizeLine/\D.nx J (a7 h a (.dN (kvs++[(d,y,v)])))
theorem Dd(S:X.A.units+9 < cLine)(j:Y X o td)(w:Y X i ty)(F:Y X n tv)(z:swapsWith n (some (.Subscript o i G)) B.line X.e=pure false):PS X (.Assign [.Subscript o i G] n B) (IN X td ty tv):=by intro pins s J H D I h;refine yR (bB (F pins s J H _ I h) λr Q ⟨v,H1,b,L,A⟩=>bB (j pins Q J H1 _ b A) λu R ⟨x,f,c,M,C⟩=>bB (w pins R J f _ c C) λW T K=>?_) z;obtain⟨y,V,k,N,a,kvs,d,t,e,g,P,l,E⟩:=K;subst t;obtain rfl:u=Value.ref a:=M;obtain⟨p,q⟩:=g pins T k;exact Jr S k e q p N L P l λZ m=>⟨J,_,m,E⟩
def xi(o:EE)(k v:EV):ES:=λL S=>aZ (v L S) λy x=>aZ (o L x) λd a=>aZ (k L a) λe h=>match nS d h with
 |some (i,s,n)=>if (bO e && (s.all bO && (few s && !lu e s)))=true then some (.nx,L,h.set i (.dtn (s++[e]) (n++[.p y]))) else none
 |none=>none
theorem rQ(k:P):∀s:List P,eZ (s++[k])=eZ s++[pd k]
 | []=>rfl
 |x::s=>by rw[wj,eZ,eZ,rQ k s,wj]
theorem HF(hu:X.A.units+9 < cLine)(ho:Y X o (tE X.K j))(hk:Y X i (tV X.K fk))(hv:Y X n (tV X.K fv))(hs:swapsWith n (some (.Subscript o i G)) B.line X.e=pure false) :
  PS X (.Assign [.Subscript o i G] n B) (h_ X.K (xi j fk fv)):=(Dd hu ho hk hv hs).imp' λD J H hz=>by
 obtain⟨F,m,L,S,fl,L',S',r,l,q,k⟩:=hz;obtain⟨y,R,e1,q⟩:=ah q;obtain⟨d,T,e2,q⟩:=ah q;obtain⟨e,V,e3,q⟩:=ah q;refine⟨F,m,L,S,y,R,r,l,e1,λv A m1 H1 f r1 M=>?_⟩;refine⟨A,m1,L,R,d,T,r1,l.mono f,e2,λx F2 m2 H2 b r2 C=>?_⟩;refine⟨F2,m2,L,T,e,V,r2,(l.mono f).mono b,e3,λg E m3 Q c K p3=>?_⟩;cases w:nS d V with
 |none=>rw[w]at q;cases q
 |some t=>
  obtain⟨h,ks,vs⟩:=t;rw[w]at q;dsimp only at q;split at q
  .rename_i hc;simp only[aq,jL]at hc;obtain⟨W,Z,g3,g4⟩:=hc;cases q;obtain⟨rfl,N⟩:=qr w;obtain⟨a,rfl,u⟩:=RD.mono c C;obtain⟨kvs,hH,p,P,rs⟩:=K.obj h a _ u N;have nt:∀zs,Q a≠some (.tup zs):=λzs z=>by rw[hH]at z;cases z
   have st:=cS (o:=.dN (kvs++[(pd e,g,v)])) K u N trivial nt;have pv:=RD.mono st (RD.mono c (RD.mono b (show RD X.K A H1 m1 (.p y) v from M)));have pk:RP X.K E (a7 Q a (.dN (kvs++[(pd e,g,v)]))) e g:=RP.kp st.kp p3;have hl:kvs.length < sizeLine:=by have h9:ks.length≤1000000:=aD g3;have h8:=P.length;rw[a8]at h8;exact gE (by lia) (show(1000000:Nat) < sizeLine by decide)
   refine⟨a,kvs,pd e,rfl,hH,λpins s I=>⟨kJ I W p3,l8 I Z p P⟩,(uG W Z p).trans g4,hl,?_⟩;refine k J E m3 _ (f.trans (b.trans (c.trans st))) (K.set u N trivial nt ⟨_,au,?_,?_,?_⟩) ((((l.mono f).mono b).mono c).mono st)
   .rw [fj,p,rQ];rfl
   .rw [fj];exact bg.append (bg.kp st.kp P) ⟨_,_,rfl,pk,rfl⟩
   .rw [fj];exact bJ.append (bJ.mono st rs) ⟨_,_,rfl,pv,rfl⟩
  .cases q
end
def Mm(x c:P):Option Bool:=match c with
 | .lst s=>if (s.all (eQ 19) && eQ 19 x)=true then some (s.any λy=>b_ (pd y) (pd x)) else none
 | .tup s=>if (s.all (eQ 19) && eQ 19 x)=true then some (s.any λy=>b_ (pd y) (pd x)) else none
 |_=>none
def JA(d c:D)(S:aC):Option Bool:=(de S 9 d).bind λx=>(de S 9 c).bind λy=>Mm x y
def A_(d c:D)(S:aC):Option P:=(oQ c S).elim ((JA d c S).map .bl) λ_=>Mr d c S
def uJ(d c:D)(S:aC):Option P:=(JA d c S).map λb=>.bl (!b)
section
variable{X:Cx}{pins:PN}{J:L2.St}{H:Hp}{s:Shared}{F:Aa}{m:List Addr}{S:aC}{d e:D}{x y:V}{v u:Value}{b:Bool}{Q:VK}
theorem A1(K:X.A.units+64 < cLine)(I:Inv X pins J H s)(g:RelV x v)(i:RelV y u)(t:Rel X.K F H m S)(p:RD X.K F H m d x)(w:RD X.K F H m e y)(q:JA d e S=some b) :
  (Q (.bl b) H->wpAny (model X.p X.w) X.A (compareOp .In v u) (EP X pins J Q) X.xe s)/\(Q (.bl (!b)) H->wpAny (model X.p X.w) X.A (compareOp .NotIn v u) (EP X pins J Q) X.xe s):=by
 unfold JA at q;cases f:de S 9 d with
 |none=>rw[f]at q;cases q
 |some M=>
  rw[f]at q;cases c:de S 9 e with
  |none=>rw[c]at q;cases q
  |some C=>
   rw[c]at q;simp only[lJ]at q;cases C with
   |lst o=>
    simp only[Mm]at q;split at q
    .rename_i h;rw[aq]at h;cases q;obtain⟨j,r⟩:=cD I t 9 20 w i c (by simpa[eQ] using h.1);obtain⟨z,n⟩:=cD I t 9 19 p g f h.2;have l:=xq h.1;have a:=cT 19 _ h.2;rw[pd]at r;exact⟨λk=>SeqAt.in_list_reads r n l.1 a.1 (by lia) ⟨.bl _,H,I,rfl,by rw[jV];exact k⟩,λk=>SeqAt.notIn_list_reads r n l.1 a.1 (by lia) ⟨.bl _,H,I,rfl,by rw[jV];exact k⟩⟩
    .cases q
   |tup o=>
    simp only[Mm]at q;split at q
    .rename_i h;rw[aq]at h;cases q;obtain⟨j,r⟩:=cD I t 9 20 w i c (by simpa[eQ] using h.1);obtain⟨z,n⟩:=cD I t 9 19 p g f h.2;have l:=xq h.1;have a:=cT 19 _ h.2;rw[pd]at r;exact⟨λk=>SeqAt.in_tuple_reads r n l.1 a.1 (by lia) ⟨.bl _,H,I,rfl,by rw[jV];exact k⟩,λk=>SeqAt.notIn_tuple_reads r n l.1 a.1 (by lia) ⟨.bl _,H,I,rfl,by rw[jV];exact k⟩⟩
    .cases q
   |_=>cases q
end
section
variable{X:Cx}
theorem Jk(n:X.A.units+64 < cLine):fK X (compareOp .In) (rE X.K A_):=by
 intro pins s J H x y v u Q I c t h;obtain⟨F,m,S,d,e,r,l,p,f,q,k⟩:=h;unfold A_ at q;cases a:oQ e S with
 |some g=>rw[a]at q;exact Jj n pins s J H x y v u Q I c t ⟨F,m,S,d,e,r,l,p,f,q,k⟩
 |none=>rw[a]at q;obtain⟨b,w,rfl⟩:=b8.mp (show(JA d e S).map P.bl=some r from q);exact(A1 n I c t l p f w).1 (k _ F H .refl rfl)
theorem Au(n:X.A.units+64 < cLine):fK X (compareOp .NotIn) (rE X.K uJ):=by intro pins s J H x y v u Q I c t h;obtain⟨F,m,S,d,e,r,l,p,f,q,k⟩:=h;unfold uJ at q;obtain⟨b,a,rfl⟩:=b8.mp q;exact(A1 n I c t l p f a).2 (k _ F H .refl rfl)
end
section
variable{X:Cx}{B:Pos}{a b c:Expr}{qa:EB}{t l:EE}{va vb:EV}
@[simp] def Mu(c:EB)(a b:EE)(L:Lc)(S:aC):oo:=aZ (c L S) λt h=>if t=true then a L h else b L h
theorem Lu(K:PT X c (tQ X.K qa))(z:Y X a (tE X.K t))(o:Y X b (tE X.K l)):Y X (.IfExp c a b B) (tE X.K (Mu qa t l)):=
 (rO K z o).imp' λJ H Q P=>by
  obtain⟨F,m,L,S,d,g,r,h,q,k⟩:=P;obtain⟨c,n,y,q⟩:=ah q;refine⟨F,m,L,S,c,n,r,h,y,λu i A s j=>?_⟩;cases c with
  |true=>rw[ae rfl]at q ⊢;exact⟨u,i,L,n,d,g,j,h.mono s,q,λv x f e w p=>k v x f e (s.trans w) p⟩
  |false=>rw[ag aY]at q ⊢;exact⟨u,i,L,n,d,g,j,h.mono s,q,λv x f e w p=>k v x f e (s.trans w) p⟩
end
end Ev
namespace L2
open PySem PySem.Spec PyProof.Rows
noncomputable def Ho(kvs:List (PyData×V×V))(d:PyData):Option V:=(kvs.find? λp=>decide (p.1=d)).map (·.2.2)
theorem KN.look(r:KN kvs k)(h:Ho kvs d=some v):∃p,atKey k d=some p/\RelV v p.2:=by
 induction r with
 |nil=>cases h
 | @cons p q T f a t i=>
  unfold Ho at h;by_cases e:p.1=d
  .have x:q.1=d:=a.1.symm.trans e;rw[wu (by simpa using e)]at h;cases h;exact⟨q.2,by simp[atKey,dI,x],a.2.2⟩
  .have x:¬q.1=d:=λz=>e (a.1.trans z);rw[pS (by simpa using e)]at h;obtain⟨z,s,n⟩:=i h;exact⟨z,by rw[<- s];simp[atKey,dI,x],n⟩
section
variable{X:Cx}{pins:PN}{J:St}{H:Hp}{s:Shared}{a:Addr}{d:PyData}{y v:V}{u:Value}{A:Around}{E:VP}{kvs:List (PyData×V×V)}
theorem Js(hu:A.units+9 < cLine)(I:Inv X pins J H s)(e:H a=some (.dN kvs))(ks:∀p ∈ kvs,kU s.heap p.1 p.2.1)(ky:kU s.heap d y)(ry:RelV y u)(hl:Ho kvs d=some v)
  (h:∀w s',Inv X pins J H s'->RelV v w->Q w s'):wpAny (model X.p X.w) A (getItem (.ref a) u) Q E s:=by
 obtain⟨b,rfl,k⟩:=ky;cases (show u=Value.ref b from ry);obtain⟨z,hd,xs,rel,dd⟩:=xJ I.h e ks;obtain⟨p,e1,e2⟩:=rel.look hl;exact wY (knd:=Nk.nest X.p X.w) (show(A.in1).units+8 < cLine by rw[iT];lia) k dd e1 (h _ _ (I.tok _) e2)
theorem DH(t:X.A.units+9 < cLine):yI X (λx y H Q=>∃a kvs d v,x=.ref a/\H a=some (.dN kvs)/\(∀pins J s,Inv X pins J H s->kU s.heap d y/\∀p ∈ kvs,kU s.heap p.1 p.2.1)/\Ho kvs d=some v/\Q v H):=by intro n l pins s J H x y v u Q I j z h r;obtain⟨a,kvs,d,w,rfl,hk,g,m,q⟩:=h;cases j;obtain⟨b,c⟩:=g pins J s I;obtain⟨_,_,_,_,o,_,_,e,f,_⟩:=I.h a _ hk;exact jC ⟨o,e,f.1⟩ tJ.lookup (Js t I hk c b z m λF S k i=>⟨w,H,k,i,q⟩) r
end
end L2
namespace Ev
open PySem PySem.Spec PyProof.Rows L2
def sf(k:P):List P->List D->Option D
 |q::s,v::h=>if b_ (pd q) (pd k)=true then some v else sf k s h
 |_,_=>none
@[simp] def JP(o:EE)(k:EV)(L:Lc)(S:aC):oo:=aZ (o L S) λd x=>aZ (k L x) λe h=>(nS d h).elim none λz=>if (bO e && z.2.1.all bO)=true then (sf e z.2.1 z.2.2).map λv=>(v,h) else none
theorem xy{K:FG}{F:Aa}{H:Hp}{m:List Addr}{k:P}{v:D}(g:bO k=true):∀{kvs:List (PyData×V×V)}{ks:List P}{vs:List D},ks.all bO=true->kvs.map (·.1)=eZ ks->bJ K F H m vs (kvs.map (·.2.2))->sf k ks vs=some v->∃w,Ho kvs (pd k)=some w/\RD K F H m v w
 | [],ks,vs,_,e,r,h=>by
  cases ks with
  |nil=>cases h
  |cons _ _=>cases e
 |q::kvs,ks,vs,gs,e,r,h=>by
  cases ks with
  |nil=>cases e
  |cons p ks=>
   cases vs with
   |nil=>cases h
   |cons d vs=>
    rw[gG,aq]at gs;rw[az,eZ]at e;injection e with e1 e2;obtain⟨x,r',er,r1,r2⟩:=r;injection er with z1 z2;subst z1 z2;have iff:b_ (pd p) (pd k)=decide (q.1=pd k):=by rw[e1,gH,Nk.eqv_kd _ _ (gh gs.1) (gh g),pJ]
    unfold sf at h;unfold Ho;rw[iff]at h;by_cases hq:q.1=pd k
    .rw [ae (ff hq)]at h;cases h;rw[wu (by simpa using hq)];exact⟨_,rfl,r1⟩
    .rw [ag (by simpa using hq)]at h;rw[pS (by simpa using hq)];exact xy g gs.2 e2 r2 h
section
variable{X:Cx}{B:Pos}{o i:Expr}{j:EE}{fk:EV}
theorem Lq(hu:X.A.units+9 < cLine)(ho:Y X o (tE X.K j))(hk:Y X i (tV X.K fk))(hs:i4 i):Y X (.Subscript o i B) (tE X.K (JP j fk)):=
 (xn (DH hu) ho hk hs).imp' λJ H Q hz=>by
  obtain⟨F,m,L,S,d,R,r,l,q,k⟩:=hz;obtain⟨x,u,T,q⟩:=ah q;obtain⟨e,n,V,q⟩:=ah q;refine⟨F,m,L,S,x,u,r,l,T,λv E m1 H1 A r1 M=>?_⟩;refine⟨E,m1,L,u,e,n,r1,l.mono A,V,λy G m2 N D P C=>?_⟩;cases f:nS x n with
  |none=>rw[f]at q;cases q
  |some t=>
   obtain⟨h,K,vs⟩:=t;rw[f]at q;replace q:(if (bO e && K.all bO)=true then (sf e K vs).map λv=>(v,n) else none)=some (d,R):=q;split at q
   .rename_i c;rw[aq]at c;obtain⟨z,W,q⟩:=b8.mp q;cases q;obtain⟨rfl,b⟩:=qr f;obtain⟨a,rfl,hm⟩:=RD.mono D M;obtain⟨kvs,hH,g,rk,rs⟩:=P.obj h a _ hm b;obtain⟨w,Z,p⟩:=xy c.1 c.2 g rs W;exact⟨a,kvs,pd e,w,rfl,hH,λpins J s I=>⟨kJ I c.1 C,l8 I c.2 g rk⟩,Z,k w G m2 N (A.trans D) P p⟩
   .cases q
end
@[simp] def zt(va vb:EV)(L:Lc)(S:aC):tyV:=aZ (va L S) λx h=>(qc x).bind λt=>if t=true then some (.bl false,h) else aZ (vb L h) λy a=>(qc y).map λu=>(.bl (!u),a)
section
variable{X:Cx}{a b:Expr}{M C:Pos}{va vb:EV}
theorem Lk(ha:Y X a (tV X.K va))(hb:Y X b (tV X.K vb)):Y X (.UnaryOp .Not (.BoolOp .Or [a,b] M) C) (tV X.K (zt va vb)):=by
 intro pins s J H Q I ⟨F,m,L,S,d,W,r,l,q,k⟩;obtain⟨x,D,e1,q⟩:=ah q;refine pj (BoolOp_or (bB (ha pins s J H (λv H1=>∃e f,Stp F m H e f H1/\Rel X.K e H1 f D/\RP X.K e H1 x v) I ⟨F,m,L,S,x,D,r,l,e1,λv e f H1 R P M=>⟨e,f,R,P,M⟩⟩) λu R n=>?_));obtain⟨v,H1,I1,ru,e,f,w,P,M⟩:=n;obtain⟨t,Z,q⟩:=jB.mp q;refine bv (p_ pins R J H1 v u (λc g=>c=t/\g=H1) I1 ru ⟨t,jP M Z,rfl,rfl⟩) (λc A n=>?_) λ_ _ z=>z
 obtain⟨g,V,j,o⟩:=n;subst j o;cases c with
 |true=>cases q;rw[ae rfl];refine not_of (bv (p_ pins A J g v u (λc h=>c=true/\h=g) V ru ⟨true,jP M Z,rfl,rfl⟩) (λc s3 n=>?_) λ_ _ z=>z);obtain⟨h,B,j,o⟩:=n;subst j o;exact⟨.bl false,h,B,rfl,k _ e f h w P rfl⟩
 |false=>rw[ag aY]at q ⊢;obtain⟨y,S2,e2,q⟩:=ah q;obtain⟨t2,E,q⟩:=b8.mp q;cases q;refine bB (Ae hb pins A J g (λv h=>∃p i,Stp e f g p i h/\Rel X.K p h i W/\RP X.K p h y v) V ⟨e,f,L,D,y,W,P,l.mono w,e2,λv p i h A G C=>⟨p,i,A,G,C⟩⟩) λu2 s3 n=>?_;obtain⟨v2,h,B,N,p,i,T,G,C⟩:=n;refine not_of (bv (p_ pins s3 J h v2 u2 (λc K=>c=t2/\K=h) B N ⟨t2,jP C E,rfl,rfl⟩) (λc s4 n=>?_) λ_ _ z=>z);obtain⟨K,I4,j,o⟩:=n;subst j o;exact⟨.bl (!c),K,I4,rfl,k _ p i K (w.trans T) G rfl⟩
end
noncomputable def gD(g:GF):GF:=λd S=>g (d++[.p .non]) S
section
variable{X:Cx}{B:Pos}{e:Expr}{N:Ab}{fs:qU}
theorem EW(i:Mk X.K h z)(G:FnOk X.p X.w X.K X.g X.b kW k z fd T (km X.K g))(hr:Room (k+1) X.A)(hg:Gl X x)(hm:X.g x=some (.ref h))(hC:gv X.K x h)(hb:Binds X.K fd T [.none])
  (ha:PA X (e::N) (tj X.K fs)) (o:(x == ("__debug__":Str))=false) (he:starEach (e::N) X.e=(false,eval e X.e)::starEach N X.e) (P:(backTo B (starEach N X.e)).any (·.1)=false) :
  Y X (.Call (.Name x p) (e::N) [] B) (tE X.K (gi (gD g) x fs)):=
 (xm i G hr hg hm hb (dvs:=[.non]) (.cons rfl .nil) mV ha o he P).imp' λJ H Q hz=>by
  obtain⟨F,m,L,S,d,C,r,l,q,k⟩:=hz;obtain⟨u,b,e1,q⟩:=ah q;refine⟨F,m,L,S,u,b,r,l,e1,λxs f s H1 s1 D M=>λy a hy t K=>?_⟩;split at q
  .rename_i _ S2 eg;cases q;have E:Stp f s H1 f s (a7 H1 a (.own y)):=cz t;have r2:Rel X.K f (a7 H1 a (.own y)) s b:=D.new t;have w:a7 H1 a (.own y) y=none:=by rw[al (aG K)];exact hy
   have I:Stp f s (a7 H1 a (.own y)) f (s++[y]) (a7 (a7 H1 a (.own y)) y (.ins h a [])):=bH w;have r3:Rel X.K f (a7 (a7 H1 a (.own y)) y (.ins h a [])) (s++[y]) (b++[.ins x [] []]):=r2.own w ⟨h,a,[],hC,au,rfl,rfl⟩;have c:(s++[y])[b.length]? = some y:=by rw[<- D.len,bb (ai _)];simp
   have p3:=bJ.mono I (bJ.mono E M);have j:g (.ref b.length::(u++[.p .non])) (b++[.ins x [] []])=some (.p .non,C):=eg;have A:RD X.K f (a7 (a7 H1 a (.own y)) y (.ins h a [])) (s++[y]) (.p .non) .non:=show V.non=V.non from rfl;have pp:bJ X.K f (a7 (a7 H1 a (.own y)) y (.ins h a [])) (s++[y]) (u++[.p .non]) (xs++[.non]):=bJ.append p3 ⟨_,_,rfl,A,rfl⟩;refine⟨f,s++[y],.ref b.length::(u++[.p .non]),_,.p .non,C,r3,⟨_,_,rfl,⟨y,rfl,c⟩,pp⟩,j,λv W m4 Z R r4 p4=>⟨p4,?_⟩⟩;refine k (.ref y) W m4 Z (s1.trans (E.trans (I.trans R))) r4 ⟨y,rfl,?_⟩;obtain⟨n,en⟩:=R.pre;rw[en,bu (a9.mp c).1];exact c
  .cases q
end
section
variable{X:Cx}{pins:PN}{J:L2.St}{H:Hp}{s:Shared}{L:List Addr}{f:Heap}
theorem AY(I:Inv X pins J H s)(t:∀b ∈ L,nO X pins H b)(k:∀b o,b ∉ L->s.heap.get? b=some o->f.get? b=some o)
  (w:f.get? s.heap.objs.size=some { cls:=.type "tuple",data:=.seq #[u,v] }) (P:RelV x u) (A:RelV y v):Inv X pins J (a7 H s.heap.objs.size (.tup [x,y])) { s with heap:=f }:=by
 have h:H s.heap.objs.size=none:=I.h.fresh (ai _);have p:∀{b:Addr}{o:HO},H b=some o->b ∉ L:=λ{b o} q z=>by rw[(t b z).1]at q;cases q
 refine I.step (g':=s.gens) (d':=s.drawn) (t':=s.toks) (ch:=L) (λb e=>?_) (λb o _ _ a q _=>k b o a q) (λb o _ _ a q _=>⟨o.slots,k b o a q⟩) (λb o _ q n=>?_) (λb o a q=>⟨o,k b o a q⟩)
  (λb d q=>?_) (λb o d q=>?_) (λb q=>?_) (λm F=>?_) (λb B q=>?_) I.bare
 .obtain⟨_,i,_,j,l,S⟩:=t b e;exact⟨j,i,l,S⟩
 .rw [al (aL (ar q))];exact n
 .rw [al (aN q h)];exact q
 .rw [al (aN q h)];exact q
 .rw [al (aN q h)];exact q
 .obtain⟨o,N,g,K,r⟩:=F;exact⟨o,N,g,k _ o (λz=>(t _ z).2.1 rfl) K,r⟩
 .by_cases e:b=s.heap.objs.size
  .subst e;rw[au]at q;cases q;exact⟨by show 2≤sizeLine;decide,[u,v],.cons P (.cons A .nil),⟨_,w,⟨rfl,_,rfl⟩,rfl⟩⟩
  .rw [al e]at q;refine(I.h b B q).stay (λc v a z=>k c v ?_ z) (λc z=>by rw[al (aN z h)];exact z) λc d z=>by rw[al (aN z h)];exact z
   rcases a with rfl|a
   .exact p q
   .exact p a
theorem GR(I:Inv X pins J H s)(x:∀b ∈ L,nO X pins H b)(k:∀b o,b ∉ L->s.heap.get? b=some o->f.get? b=some o):Inv X pins J H { s with heap:=f }:=by
 have e:∀{b:Addr}{o:HO},H b=some o->b ∉ L:=λ{b o} q z=>by rw[(x b z).1]at q;cases q
 refine I.step (g':=s.gens) (d':=s.drawn) (t':=s.toks) (ch:=L) (λb u=>?_) (λb o _ _ h q _=>k b o h q) (λb o _ _ h q _=>⟨o.slots,k b o h q⟩) (λ_ _ _ _ n=>n) (λb o h q=>⟨o,k b o h q⟩)
  (λ_ _ q=>q) (λ_ _ _ q=>q) (λ_ q=>q) (λm g=>?_) (λb j q=>?_) I.bare
 .obtain⟨_,a,_,t,d,w⟩:=x b u;exact⟨t,a,d,w⟩
 .obtain⟨o,N,p,i,r⟩:=g;exact⟨o,N,p,k _ o (λz=>(x _ z).2.1 rfl) i,r⟩
 .refine (I.h b j q).stay (λc v h z=>k c v ?_ z) (λc z=>z) λc y z=>z;rcases h with rfl|h
  .exact e q
  .exact e h
def Hi(t:Bool)(K:FG)(H:Hp)(a:Addr)(x:List V):Prop:=if t=true then kg K H a x else dw K H a x
theorem C3(I:Inv X pins J H s)(h:Hi k X.K H a q):∃i:LV,aM q i/\Ef k s.heap a i.toArray:=by
 cases k
 .obtain⟨i,r,p,_⟩:=I.list h;exact⟨i,r,p.isList⟩
 .obtain⟨i,r,⟨o,e,c,n⟩,_⟩:=I.tuple h;exact⟨i,r,o,e,c,n⟩
theorem CW(p:Ef k h a r)(q:Ef k h a g):r=g:=by cases k<;>(obtain⟨o,e,c,n,d⟩:=p;obtain⟨m,s,f,b,x⟩:=q;rw[e]at s;cases s;rw[d]at x;cases x;rfl)
theorem zN(I:Inv X pins J H s)(p:Hi g X.K H a z)(q:Hi g X.K H a ys):z=ys:=by
 obtain⟨i,r,k⟩:=C3 I p;obtain⟨x,n,f⟩:=C3 I q;have e:=CW k f;have h:i=x:=by simpa using bR pY e
 subst h;exact aM.inj r n
end
def Hj(K:FG)(t:Bool)(a b:Addr):It:=
 ⟨λi H=>∃s h x y,dw K H a s/\Hi t K H b h/\s[i]? = some x/\h[i]? = some y,λi H x e=>∃p u v,x=.ref p/\H p=none/\e=a7 H p (.tup [u,v])/\(∀s,dw K H a s->s[i]? = some u)/\∀h,Hi t K H b h->h[i]? = some v,λi H=>∃s,dw K H a s/\s.length≤i⟩
theorem zz{P:Program}{w:World}{K:FG}{N:Ab}{n:Nat}{B:Pos}(tp:Bool){a b z TI TO t d:Addr}(nd:[z,TI,TO,t,d].Nodup)(na:a ∉ [z,TI,TO,t,d])(nb:b ∉ [z,TI,TO,t,d]) :
  Turn P w K (.Tuple N n B) (Hj K tp a b) [z,TI,TO,t,d] z (λi h=>dt h z TI TO .none (.bool false)/\cf h TI (.ref t) (.ref d)/\(∃p q,cf h TO p q)/\h.IsListIter t a i/\yJ tp h d b i) where
 mem:=by simp
 obj:=λi h st c m=>by
  obtain⟨r,g,⟨p,q,S⟩,⟨o1,M,c1,d1⟩,l⟩:=st;obtain⟨o2,A,⟨vs,d2⟩,_⟩:=l.obj;simp only[aH,bF,bE]at m;rcases m with rfl|rfl|rfl|rfl|rfl
  .exact⟨_,r,λv x=>by have D:Data.fields _=Data.cell v:=x;cases D⟩
  .exact⟨_,g,λv x=>by have D:Data.seq _ _=Data.cell v:=x;cases D⟩
  .exact⟨_,S,λv x=>by have D:Data.seq _ _=Data.cell v:=x;cases D⟩
  .exact⟨o1,M,λv x=>by rw[d1]at x;cases x⟩
  .exact⟨o2,A,λv x=>by rw[d2]at x;cases x⟩
 keep:=λi h f st k=>by obtain⟨r,g,⟨p,q,S⟩,F,l⟩:=st;obtain⟨o2,A,_,r2⟩:=l.obj;exact⟨k z (by simp) _ r,k TI (by simp) _ g,⟨p,q,k TO (by simp) _ S⟩,F.at λo e=>k t (by simp) o e,r2 _ (k d (by simp) _ A)⟩
 item:=by
  intro X V hw R m i pins s J H E I G st Z;subst V hw R;obtain⟨xs,ys,x,y,L,C,hx,hy⟩:=Z;obtain⟨its,rv,pl,_⟩:=I.list L;obtain⟨u,hu,ru⟩:=rv.get hx;obtain⟨its2,rv2,s2⟩:=C3 I C;obtain⟨v,hv,rv'⟩:=rv2.get hy;obtain⟨r,g,⟨p,q,S⟩,F,l⟩:=st;have lt:∀c ∈ [z,TI,TO,t,d],c < s.heap.objs.size:=λc m=>by
   obtain⟨o1,M,_⟩:=id F;obtain⟨o2,A,_⟩:=l.obj;simp only[aH,bF,bE]at m;rcases m with rfl|rfl|rfl|rfl|rfl
   .exact ar r
   .exact ar g
   .exact ar S
   .exact ar M
   .exact ar A
  simp only[bN,aH,bF,bE,eC]at nd na nb;refine p0 ⟨_,r,rfl⟩ (oj r g S F l pl.isList s2 (by simpa using hu) (by simpa using hv) (by grind) (by grind) (by grind) (by grind) (by grind) (by grind) (by grind) (by grind) (by grind) (by grind) λf T q1 q2 q3 q4 q5 q6 q7=>?_);subst q6;refine⟨_,rfl,wpAny_letOwnedTupleGo_zip (s:={ s with heap:=f }) q1 λQ z2 j=>?_⟩;replace j:cq z f Q:=j;have kp:∀c o,c ∉ [z,TI,TO,t,d]->s.heap.get? c=some o->Q.get? c=some o:=λc o m e=>by simp only[aH,bF,bE,eC]at m;exact j.extBut _ _ m.1 (q7 c o m.1 m.2.2.2.1 m.2.2.2.2 m.2.2.1 e)
  have zlt:=lt z (by simp);have W:H s.heap.objs.size=none:=I.h.fresh (ai _);have I2:Inv X pins J (a7 H s.heap.objs.size (.tup [x,y])) { s with heap:=Q }:=AY I G kp (j.extBut _ _ (bf zlt) q5) ru rv';refine⟨.ref s.heap.objs.size,_,I2,rfl,⟨_,x,y,rfl,W,rfl,λxs' h=>by rw[I.list_inj h L];exact hx,λys' h=>by rw[zN I h C];exact hy⟩,⟨z2,j.extBut _ _ (by grind) (q7 _ _ (by grind) (by grind) (by grind) (by grind) g),⟨u,v,j.extBut _ _ (by grind) q4⟩,q2.extBut j.extBut (by grind),q3.extBut j.extBut (by grind)⟩,λc m=>?_⟩;rw[al (aL (lt c m))];exact(G c m).1
 done:=by intro X V hw R m i pins s J H E I G st Z;subst V hw R;obtain⟨xs,L,hx⟩:=Z;obtain⟨its,rv,pl,_⟩:=I.list L;obtain⟨r,g,⟨p,q,S⟩,F,l⟩:=st;have hl:=rv.length;simp only[bN,aH,bF,bE,eC]at nd na;refine p0 ⟨_,r,rfl⟩ (qZ (show X.A.in1.handled=none from I.o.hd m) r g F pl.isList (by simp;lia) (by grind) (by grind) λf e kp hz=>?_);obtain⟨o,eo,co⟩:=hz;refine⟨e,o,rfl,eo,co,rfl,GR I G λc ob m ec=>kp c ob (λx=>m (by simp[x])) (λx=>m (by simp[x])) ec⟩
 self:=λ_ _ _ _ _ st h=>tH st.1 h
theorem yy(t:Bool)(l:s.heap.IsList r g)(x:Ef t s.heap q I)
  (h:∀f i a TI TO z,(∀b o,s.heap.get? b=some o->f.get? b=some o)->s.heap.objs.size≤i->i < a->a < TI->TI < TO->TO < z->f.IsListIter i r 0->yJ t f a q 0->cf f TI (.ref i) (.ref a)->cf f TO .none .none ->
   dt f z TI TO .none (.bool false)->Q (.ref z) { s with heap:=f }):wpAny (model prog w) A (call (.type "zip") [.ref r,.ref q]) Q E s:=by
 cases t
 .refine call_zip_2 l x λf c T e n k _ hk=>?_;exact h f s.heap.objs.size (s.heap.objs.size+1) (s.heap.objs.size+2) (s.heap.objs.size+3) (s.heap.objs.size+4) hk (ai _) (c_ _) (c_ _) (c_ _) (c_ _) n k T e c
 .exact lh l x h
noncomputable def zd(x y:List P):List P:=(x.zip y).map λz=>.tup [z.1,z.2]
@[simp] def MX(a b:EV)(L:Lc)(S:aC):xW:=aZ (a L S) λv e=>aZ (b L e) λw h=>match v,w with
 | .lst x,.lst y=>if x.length≤y.length then some (zd x y,h) else none
 | .lst x,.tup y=>if x.length≤y.length then some (zd x y,h) else none
 |_,_=>none
theorem AR{K:FG}{F:Aa}{m:List Addr}{H:Hp}{A:Bool}{a b:Addr}{d w:List P}{n f:List V}(I:d.length≤w.length)(L:∀k t h,Stp F m H k t h->dw K h a n/\Hi A K h b f)(r:bg K F H d n)(Q:bg K F H w f):EJ K (Hj K A a b) (zd d w) F m H:=by intro k t h st;obtain⟨c,s⟩:=L k t h st;have M:=r.length;refine⟨λi v e=>?_,⟨n,c,by unfold zd;rw[a8,List.length_zip,Nat.min_eq_left I,M];exact ai _⟩⟩;unfold zd at e;rw[cR]at e;obtain⟨⟨T,W⟩,B,rfl⟩:=b8.mp e;obtain⟨C,D⟩:=List.getElem?_zip_eq_some.mp B;obtain⟨x,l,p⟩:=r.get C;obtain⟨y,o,N⟩:=Q.get D;refine⟨⟨n,f,x,y,c,s,l,o⟩,λz R q=>?_⟩;obtain⟨X,u,v,rfl,S,rfl,E,G⟩:=q;have g:=E n c;have j:=G f s;rw[l]at g;rw[o]at j;cases g;cases j;exact⟨k,bj S,RP.newTup S ⟨_,_,rfl,RP.mono st p,_,_,rfl,RP.mono st N,rfl⟩⟩
theorem iZ{X:Cx}{B:Pos}{N:Ab}{n:Nat}{a b:Expr}{t l:EV}{p Q:Pos}(gz:Gl X "zip")(mz:X.g "zip"=none)(ha:Y X a (tV X.K t))(hb:Y X b (tV X.K l))(hs:starEach [a,b] X.e=[(false,eval a X.e),(false,eval b X.e)])(W:starEach [b] X.e=[(false,eval b X.e)]) :
  PI X (.Tuple N n B) (.Call (.Name "zip" p) [a,b] [] Q) (tI X.K (MX t l)):=by
 intro pins s J H R I ⟨F,m,L,S,vs,S',r,h,q,k⟩;obtain⟨x,S1,e1,q⟩:=ah q;obtain⟨y,S2,e2,q⟩:=ah q;refine eI (gO I gz mz vX ?_ (by decide) (by decide));refine e7 ?_ (by rw [hs,W]) (by rw [W];rfl);rw [hs];refine bM (bB (ha pins s J H (fun v H1=>∃g K,Stp F m H g K H1/\Rel X.K g H1 K S1/\RP X.K g H1 x v) I ⟨F,m,L,S,x,S1,r,h,e1,fun v g K H1 Z r1 M=>⟨g,K,Z,r1,M⟩⟩) fun u Z ⟨v,H1,I1,ru,g,K,D,r1,M⟩=>
  bM (bB (hb pins Z J H1 (λv d=>∃i P,Stp g K H1 i P d/\Rel X.K i d P S2/\RP X.K i d y v) I1 ⟨g,K,L,S1,y,S2,r1,h.mono D,e2,λv i P d A r2 C=>⟨i,P,A,r2,C⟩⟩) λu2 A ⟨v2,d,G,ru2,i,P,w,r2,C⟩=>cL ?_))
 have go:∀(E:Bool){j o:Addr}{xs ys:List V},v=.ref j->v2=.ref o->dw X.K d j xs->Hi E X.K d o ys->R (Hj X.K E j o) d->wpAny (model X.p X.w) X.A (call (.type "zip") [u,u2]) (λv Z=>wpAny (model X.p X.w) X.A (pyIter v) (Kg X pins J (.Tuple N n B) R) X.xe Z) X.xe A:=λE {j o xs ys} ea eb hq hq2 qR=>by
  subst ea eb;cases ru;cases ru2;obtain⟨its,_,pl,_⟩:=G.list hq;obtain⟨its2,_,sq⟩:=C3 G hq2;have la:j < A.heap.objs.size:=by obtain⟨_,e,_⟩:=pl.isList;exact ar e
  have lb:o < A.heap.objs.size:=by cases E<;>(obtain⟨_,e,_⟩:=sq;exact ar e)
  refine yy E pl.isList sq λf i1 i2 TI TO z kp n0 n1 n2 n3 n4 hi1 hi2 hTI hTO hz=>tH hz ?_;refine⟨z,[z,TI,TO,i1,i2],_,_,d,rfl,G.kept (t':=A.toks) kp,zz E (a:=j) (b:=o) (by simp;grind) (by simp;grind) (by simp;grind),⟨hz,hTI,⟨_,_,hTO⟩,hi1,hi2⟩,λc hc=>?_,qR⟩;have T:A.heap.objs.size≤c:=by simp only[aH,bF,bE]at hc;grind
  exact G.fpOk T (G.h.fresh T)
 cases x with
 |lst ds=>
  cases y with
  |lst ds2=>
   dsimp only at q;split at q
   .rename_i hl;cases q;obtain⟨j,xs,rfl,ta,ra⟩:=RP.mono w M;obtain⟨o,ys,rfl,tb,rb⟩:=C;exact go false rfl rfl ta.sq tb.sq (k _ i P d (D.trans w) r2 (AR (A:=false) hl (λF3 m3 H3 s=>⟨(ta.kp s.kp).sq,(tb.kp s.kp).sq⟩) ra rb))
   .cases q
  |tup ds2=>
   dsimp only at q;split at q
   .rename_i hl;cases q;obtain⟨j,xs,rfl,ta,ra⟩:=RP.mono w M;obtain⟨o,ys,rfl,tb,rb⟩:=C;exact go true rfl rfl ta.sq tb.sq (k _ i P d (D.trans w) r2 (AR (A:=true) hl (λF3 m3 H3 s=>⟨(ta.kp s.kp).sq,(tb.kp s.kp).sq⟩) ra rb))
   .cases q
  |_=>cases q
 |_=>cases q
def G8(T:List P)(y:P):Option Nat:=if (T.all (eQ 19) && eQ 19 y)=true then some ((eZ T).countP λz=>b_ z (pd y)) else none
@[simp] def Io(t l:EV)(L:Lc)(S:aC):tyV:=aZ (t L S) λv h=>match v with
 | .lst T=>aZ (l L h) λy x=>(G8 T y).map λ(i:Nat)=>(.int (i:Int),x)
 |_=>none
section
variable{X:Cx}{pins:PN}{J:L2.St}{H:Hp}{s:Shared}{F:Aa}{T:List P}{y:P}{vy:V}{u:Value}{i:Nat}{Q:VK}{a:Addr}
theorem uV(D:X.A.units+64 < cLine)(I:Inv X pins J H s)(S:RP X.K F H (.lst T) (.ref a))(K:RP X.K F H y vy)(A:RelV vy u)(e:G8 T y=some i)(q:Q (.int i) H) :
  wpAny (model X.p X.w) X.A (call (.builtin "list.count") [.ref a,u]) (EP X pins J Q) X.xe s:=by
 unfold G8 at e;split at e;case isFalse=>cases e
 rename_i h;cases e;rw[aq]at h;obtain⟨B,r⟩:=dg I 20 S (show RelV (.ref a) (.ref a) from rfl) (by simpa[eQ] using h.1);obtain⟨C,P⟩:=dg I 19 K A h.2;have m:=xq h.1;have w:=cT 19 _ h.2;rw[pd]at r;cases r with
 | @list l o v n _ t k f b c=>
  obtain⟨E,g,j,x⟩:=o;dsimp only at f b;subst f b;have d:=we _ _ _ m.1 c;have p:v.toList.countP (λz=>b_ (gF s.heap z) (pd y))=(eZ T).countP λz=>b_ z (pd y):=by rw[<- d,List.countP_map];rfl
  exact dD vG ⟨_,k,rfl⟩ PySem.F.entry_list_count (PySem.F.args_list_count_2 _ _) (SeqAt.list_countAt a v n g x u (λz=>b_ (gF s.heap z) (pd y))) ⟨k,wd c P m.1 w.1 (by lia),⟨.int _,H,I.tok _,⟨_,rfl⟩,by rw[p];exact q⟩⟩
theorem E6(hu:X.A.units+64 < cLine)(ho:Y X o (tV X.K j))(he:Y X e (tV X.K fe))(W:starEach [e] X.e=[(false,eval e X.e)])
  (f:attributeBase o "count" X.e (eval o X.e)=eval o X.e) (c:(g.endLine == cpos.line)=true):Y X (.Call (.Attribute o "count" g) [e] [] cpos) (tV X.K (Io j fe)):=by
 intro pins s J H Q I ⟨F,m,L,S,d,R,r,l,q,k⟩;obtain⟨x,A,e1,q⟩:=ah q;refine tP f (by rw[W];rfl) c rfl (bB (ho pins s J H (λv H1=>∃h t,Stp F m H h t H1/\Rel X.K h H1 t A/\RP X.K h H1 x v) I ⟨F,m,L,S,x,A,r,l,e1,λv h t H1 G B M=>⟨h,t,G,B,M⟩⟩) λu G hz=>?_);obtain⟨v,H1,N,ru,h,t,K,B,M⟩:=hz;cases x with
 |lst T=>obtain⟨y,S2,e2,q⟩:=ah q;obtain⟨i,ei,q⟩:=b8.mp q;cases q;obtain⟨a,xs,rfl,hq,rp⟩:=id M;cases (show u=Value.ref a from ru);obtain⟨z,its,n',rr,hl,V⟩:=N.lstM hq.2;refine⟨"list","list.count",jA,vG,PySem.F.type_list_count,⟨_,V,rfl⟩,λb eb=>by cases eb;exact⟨_,V,rfl⟩,?_⟩;rw[W];refine gB rfl (iK (bM (bB (he pins G J H1 (λvy p=>∃n w,Stp h t H1 n w p/\Rel X.K n p w R/\RP X.K n p y vy) N ⟨h,t,L,A,y,R,B,l.mono K,e2,λv n w p Z D C=>⟨n,w,Z,D,C⟩⟩) λuy Z ⟨vy,p,I2,E,n,w,P,D,C⟩=>cL ?_)));exact uV hu I2 (RP.mono P M) C E ei (k _ n w p (K.trans P) D rfl)
 |_=>cases q
end
noncomputable def JZ:P->Option (List P)
 | .lst x=>some x
 | .tup x=>some x
 |_=>none
@[simp] def sK(a:EV)(L:Lc)(S:aC):oo:=aZ (a L S) λv h=>(JZ v).map λx=>(.ref h.length,h++[.lst (x.map .p)])
@[simp] def G1(a b:EV)(L:Lc)(S:aC):oo:=aZ (a L S) λv e=>aZ (b L e) λw h=>match v,w with
 | .lst x,.int n=>if (gS (x.length * n.toNat) && decide (n.natAbs < 1000000))=true then some (.ref h.length,h++[.lst ((List.replicate n.toNat x).flatten.map .p)]) else none
 |_,_=>none
section
variable{X:Cx}
theorem zm{a:Expr}{t:EV}{p B:Pos}(A:Gl X "list")(C:X.g "list"=none)(P:Y X a (tV X.K t))(g:starEach [a] X.e=[(false,eval a X.e)]):Y X (.Call (.Name "list" p) [a] [] B) (tE X.K (sK t)):=
 (iV gU A C pA (dh P eP (by rw[g];rfl)) (by decide) (by decide) (by rw[g];rfl) rfl).imp' λJ H Q z=>by
  obtain⟨F,m,L,S,d,D,r,l,q,k⟩:=z;obtain⟨x,j,K,q⟩:=ah q;obtain⟨E,c,q⟩:=b8.mp q;cases q;refine⟨F,m,L,S,x,j,r,l,K,λv h e H1 i f M=>?_⟩;cases x with
  |lst o=>cases c;obtain⟨a,y,rfl,u,w⟩:=M;refine⟨a,y,rfl,.inl u.sq,λb s=>?_⟩;have n:Stp h e H1 h (e++[b]) (a7 H1 b (.lst y)):=bH s;refine k (.ref b) h (e++[b]) _ (i.trans n) (f.own s ⟨y,au,bJ.ofP (bg.mono n w)⟩) ⟨b,rfl,?_⟩;rw[<- f.len,bb (ai _)];simp
  |tup o=>cases c;obtain⟨a,y,rfl,u,w⟩:=M;refine⟨a,y,rfl,.inr u.sq,λb s=>?_⟩;have n:Stp h e H1 h (e++[b]) (a7 H1 b (.lst y)):=bH s;refine k (.ref b) h (e++[b]) _ (i.trans n) (f.own s ⟨y,au,bJ.ofP (bg.mono n w)⟩) ⟨b,rfl,?_⟩;rw[<- f.len,bb (ai _)];simp
  |_=>cases c
theorem xj{K:FG}{F:Aa}{H:Hp}{d:List P}{x:List V}(r:bg K F H d x):∀n:Nat,bg K F H (List.replicate n d).flatten (List.replicate n x).flatten
 |0=>rfl
 |n+1=>by rw[bS,bS,cQ,cQ];exact r.append (xj r n)
theorem Li{a b:Expr}{t l:EV}{B:Pos}(T:Y X a (tV X.K t))(V:Y X b (tV X.K l)):Y X (.BinOp a .Mult b B) (tE X.K (G1 t l)):=
 (Ep Ao T V).imp' λJ H Q W=>by
  obtain⟨F,m,L,S,d,S',r,h,q,k⟩:=W;obtain⟨v,u,I,q⟩:=ah q;obtain⟨w,D,N,q⟩:=ah q;refine⟨F,m,L,S,v,u,r,h,I,λx A Z H1 z r1 M=>?_⟩;refine⟨A,Z,L,u,w,D,r1,h.mono z,N,λy e s f o i C=>?_⟩;cases v with
  |lst G=>
   cases w with
   |int n=>
    dsimp only at q;split at q
    .rename_i c;rw[aq]at c;cases q;obtain⟨E,P,rfl,ta,j⟩:=RP.mono o M;cases (show y=.int n from C);have h1:=aD c.2;have R:G.length * n.toNat≤1000000:=aD c.1;refine⟨E,n,P,rfl,rfl,ta.2,by lia,by lia,?_,λp g=>?_⟩
     .rw [<- j.length];exact aI R (by decide)
     .have K:Stp e s f e (s++[p]) (a7 f p (.lst (List.replicate n.toNat P).flatten)):=bH g;refine k (.ref p) e (s++[p]) _ (z.trans (o.trans K)) (i.own g ⟨_,au,bJ.ofP (bg.mono K (xj j n.toNat))⟩) ⟨p,rfl,?_⟩;rw[<- i.len,bb (ai _)];simp
    .cases q
   |_=>cases q
  |_=>cases q
end
section
variable{X:Cx}{a:Expr}{t:EE}{p B:Pos}
end
noncomputable def FR:List D->Option (List P)
 | []=>some []
 | .p v::r=>(FR r).map (v::·)
 | .ref _::_=>none
theorem qo:∀{d:List D}{T:List P},FR d=some T->d=T.map .p
 | [],_,h=>by cases h;rfl
 | .p v::r,T,h=>by obtain⟨q,e,rfl⟩:=b8.mp h;rw[az,<- qo e]
 | .ref _::_,_,h=>by cases h
def Es(d:D)(S:aC):Option (Nat×List P):=(im d S).bind λz=>(FR z.2).map λT=>(z.1,T)
def zv(j:EE)(t:List Nat)(n:Nat)(g:i3)(c:EB)(e:EV)(L:Lc)(S:aC):tyV:=aZ (j L S) λd x=>(Es d x).bind λz=>if few z.2=true then aZ (fU (λh=>h[z.1]? = some (.lst (z.2.map .p))) g c e z.2 (nP t n L) x) λy h=>some (.lst y,h) else none
theorem G6(Q:Y X iter (tE X.K j)):ln X tg iter (zv j ts h g I fe) ts h g I fe:=by
 refine⟨_,iO Q,λJ H F m L S d u r l q=>?_⟩;obtain⟨d',b,y,q⟩:=ah q;obtain⟨⟨s,T⟩,C,q⟩:=jB.mp q;obtain⟨⟨f,ds⟩,z,o⟩:=jB.mp C;obtain⟨W,K,P⟩:=b8.mp o;cases P;obtain⟨rfl,N⟩:=fC z;cases qo K;dsimp only at q;split at q;case isFalse=>cases q
 rename_i G;obtain⟨ys,S3,A,q⟩:=ah q;cases q;refine⟨_,T,b,ys,rfl,G,⟨F,m,L,S,f,b,_,r,l,y,N,λa w R H1 s1 r1 t=>⟨w,R,s1,r1,λF2 V H2 u st r2 ok=>?_⟩⟩,A⟩;have n:V[f]? = some a:=by obtain⟨k,B⟩:=st.pre;rw[B,bu (a9.mp t).1];exact t
 obtain⟨xs,c,p⟩:=r2.obj f a _ n ok;have M:=p.length;refine⟨λi v e=>?_,AU (dw.of c) (by rw[<- M,a8];exact ai _)⟩;obtain⟨x,E,Z⟩:=p.get (show(T.map D.p)[i]? = some (.p v) by rw[cR,e];rfl);exact GP (e:=false) (dw.of c) E Z
@[simp] def Ik(a:EE)(lo s:EO)(L:Lc)(S:aC):tyV:=aZ (a L S) λd x=>aZ (lo L x) λi e=>aZ (s L e) λj h=>(Es d h).map λz=>(.lst (cut z.2 i j),h)
theorem zZ{K:FG}{F:Aa}{H:Hp}{m:List Addr}:∀{T:List P}{s:List V},bJ K F H m (T.map .p) s->bg K F H T s
 | [],_,r=>r
 |p::T,_,r=>by obtain⟨x,h,rfl,M,C⟩:=r;exact⟨x,h,rfl,M,zZ C⟩
theorem Lg{X:Cx}{e:Expr}{lo g:Option Expr}{t:EE}{u w:EO}{B C:Pos}(he:Y X e (tE X.K t))(hl:PO X lo (tO X.K u))(hh:PO X g (tO X.K w)):Y X (.Subscript e (.Slice lo g none C) B) (tV X.K (Ik t u w)):=
 (rN xf he hl hh).imp' λJ H Q hz=>by obtain⟨F,m,L,S,d,P,r,l,q,k⟩:=hz;obtain⟨x,b,A,q⟩:=ah q;obtain⟨i,c,D,q⟩:=ah q;obtain⟨j,S3,E,q⟩:=ah q;obtain⟨⟨n,T⟩,G,q⟩:=b8.mp q;obtain⟨⟨n',ds⟩,I,R⟩:=jB.mp G;obtain⟨ps',V,W⟩:=b8.mp R;cases W;cases q;obtain⟨rfl,N⟩:=fC I;cases qo V;refine⟨F,m,L,S,_,b,r,l,A,λv o m1 H1 s r1 M=>?_⟩;refine⟨o,m1,L,b,i,c,r1,l.mono s,D,λK m2 H2 f r2=>?_⟩;refine⟨K,m2,L,c,j,P,r2,(l.mono s).mono f,E,λF3 m3 H3 z y=>?_⟩;obtain⟨a,rfl,hm⟩:=RD.mono z (RD.mono f M);obtain⟨xs,Z,rs⟩:=y.obj _ a _ hm N;exact⟨a,xs,rfl,dw.of Z,λp h=>k _ _ m3 _ ((s.trans (f.trans z)).trans (bA h).stp) (y.grow (bA h)) (.newLst h ((zZ rs).cut i j))⟩
end Ev
namespace PySem
open PySem PyProof.Rows
section
variable{prog:Program}{w:World}{A:Around}{E:VP}{s:Shared}
theorem yq(u:A.handled=none)(n t:Addr)(k:t≠n)(m:Array Value):Draws prog w A n [n,t] m.size (λi v=>m[i]? = some v) (λi h=>h.IsTupleIter n t i/\h.IsTuple t m) where
 live:=λ_ _ st=>by obtain⟨⟨o,g,_⟩,_⟩:=st;exact⟨o,g⟩
 frame:=λ_ _ _ st hk=>⟨st.1.at λo e=>hk n (by simp) o e,st.2.at λo e=>hk t (by simp) o e⟩
 item:=λi s Q E r st d=>by obtain⟨a,b⟩:=st;exact mK a b (x:=m[i]) (by simp[r]) λf c p=>d _ f s.toks (by simp[r]) ⟨c,b.extBut p.extBut k⟩ p
 done:=λs Q E st q=>by obtain⟨a,b⟩:=st;exact jO u a b (by simp) q
theorem yr(a:A.handled=none)(f:q[k]? = none):Draws prog w A g [g,r] k (λ_ _=>True) (λj h=>j=k/\h.IsTupleIter g r k/\h.IsTuple r q) where
 live:=λ_ _ st=>by obtain⟨_,⟨o,b,_⟩,_⟩:=st;exact⟨o,b⟩
 frame:=λ_ _ _ st hk=>⟨st.1,st.2.1.at λo e=>hk g (by simp) o e,st.2.2.at λo e=>hk r (by simp) o e⟩
 item:=λi s Q E n st _=>absurd st.1 (aL n)
 done:=λs Q E st x=>jO a st.2.1 st.2.2 f x
theorem p7{h:Heap}(t:h.IsTuple k r)(e:h.IsTupleIter q k i):k≠q:=λz=>by subst z;obtain⟨o,s,a,_⟩:=t;obtain⟨n,x,c,_⟩:=e;rw[s]at x;cases x;rw[a]at c;simp at c
theorem p9{i:Int}(t:h.IsTuple k r)(s:IsEnum h e q i x):e≠k:=λz=>by subst z;obtain⟨o,a,c,_⟩:=t;rw[show h.get? e=_ from s]at a;cases a;simp at c
theorem yp (t:Addr) (r:Array Value):Meets (Builtin.«enumerate.__new__» ⟨[.type "enumerate",.ref t],[]⟩) (fun _ R s=>s.heap.IsTuple t r /\
  ∀f,IsEnum f (s.heap.objs.size+1) s.heap.objs.size 0 .none->f.IsTupleIter s.heap.objs.size t 0->f.objs.size=s.heap.objs.size+2->(∀b o,s.heap.get? b=some o->f.get? b=some o)->R (.ok (.ret (.ref (s.heap.objs.size+1)))) { s with heap:=f }):=
 .of_wp λprog w A R s h=>by
  obtain⟨p,g,d,tk,os⟩:=s;obtain⟨m,h⟩:=h;have u:=sub_enumerate;obtain⟨⟨H,i,j,y⟩,l,a,n,k⟩:=id m;dsimp only at a k;subst a k;have T:v9 (Shared.heap ⟨p,g,d,tk,os⟩) t r:=m
  wp_walk using o8 l
  let e:Obj:={ cls:=.type "tuple_iterator",data:=.fields #[.ref t,.int 0 0] }
  let v:Obj:={ cls:=.type "enumerate",data:=.fields #[.none,.bool false,.ref p.objs.size,rawInt 0,.none,.none] }
  have z:(p.push e).objs.size=p.objs.size+1:=jD ..;have q:IsEnum ((p.push e).push v) (p.objs.size+1) p.objs.size 0 .none:=by rw[<- z];exact aS _ rfl
  have ew:=h _ q ⟨_,aE _ (aS _ rfl),rfl,rfl⟩ ((jD ..).trans (by rw[z])) λb o x=>aE _ (aE _ x);rw[show Array.size p.objs+1=(p.push e).objs.size from z.symm]at ew;apply wpAny_stack_any;intro st;apply am;split
  .rename_i c _ _ _ _ _;rcases c == Value.type "enumerate" with _|_;all_goals
    wp_walk using o8 l,o7 T
    exact⟨_,rfl,ew⟩
  .wp_walk using o8 l,o7 T
   exact⟨_,rfl,ew⟩
theorem uU(t:s.heap.IsTuple k r)
  (h:∀f,IsEnum f (s.heap.objs.size+1) s.heap.objs.size 0 .none->f.IsTupleIter s.heap.objs.size k 0->f.objs.size=s.heap.objs.size+2->(∀b o,s.heap.get? b=some o->f.get? b=some o)->Q (.ref (s.heap.objs.size+1)) { s with heap:=f }) :
  wpAny (model prog w) A (call (.type "enumerate") [.ref k]) Q E s:=callType_new F.called_enumerate (by decide) (F.typeCall_enumerate_1 _) (F.newCall_enumerate_1 _) (λj=>F.args_object_init_2 j _) F.entry_enumerate_new (yp k r) ⟨t,λf e i z hk=>⟨⟨_,e,rfl⟩,h f e i z hk⟩⟩
end
end PySem
namespace Ev
open PySem PySem.Spec PyProof.Rows L2
section
variable{X:Cx}{B:Pos}
def Kk(K:FG)(a:Addr):It:=
 ⟨λi H=>∃s x,kg K H a s/\s[i]? = some x,λi H x h=>∃p y,x=.ref p/\H p=none/\h=a7 H p (.tup [.int i,y])/\∀s,kg K H a s->s[i]? = some y,λi H=>∃s,kg K H a s/\s.length≤i⟩
theorem t_{P:Program}{w:World}{K:FG}{N:Ab}{n:Nat}(a e g:Addr)(R:e≠g):Turn P w K (.Tuple N n B) (Kk K a) [e,g] e (λi h=>(∃l,IsEnum h e g i l)/\h.IsTupleIter g a i) where
 mem:=by simp
 obj:=λi h st b y=>by
  obtain⟨⟨l,C⟩,⟨o,ho,c,d⟩⟩:=st;have:b=e\/b=g:=by simpa using y
  rcases this with rfl|rfl
  .exact⟨_,C,λv z=>by have z':Data.fields _=Data.cell v:=z;cases z'⟩
  .exact⟨o,ho,λv z=>by rw[d]at z;cases z⟩
 keep:=λi h f st k=>by obtain⟨⟨l,C⟩,j⟩:=st;exact⟨⟨l,k e (by simp) _ C⟩,j.at λo q=>k g (by simp) o q⟩
 item:=by
  intro X hP hw hK p i pins s J H E I hf st hg;subst hP hw hK;obtain⟨xs,x,hq,hx⟩:=hg;obtain⟨Q,rv,pl,hz⟩:=I.tuple hq;obtain⟨u,hu,ru⟩:=rv.get hx;obtain⟨⟨l,C⟩,j⟩:=st;obtain⟨f0,f1,f2,f3,f4,f5⟩:=hf e (by simp);obtain⟨g0,g1,g2,g3,g4,g5⟩:=hf g (by simp);have Z:s.heap.IsTuple a Q.toArray:=pl;have hai:=p7 Z j;have hae:=p9 Z C;have D:=yq (prog:=X.p) (w:=X.w) (A:=X.A.in1) (I.o.hd p) g a hai Q.toArray;refine wpAny_pyNext_enum_itemD D C ⟨j,Z⟩ (by simpa using (a9.mp hu).1) R (by simp[R,hae]) λu2 h1 tk W ho1 G ht1 hz1 hk1=>?_
  obtain⟨G,_⟩:=G;have hu3:u2=u:=by simp[hu]at W;exact W.symm
  subst hu3;refine⟨_,rfl,yV (s:={ s with heap:=h1,toks:=tk+1 }) ho1 λh2 he2 M=>?_⟩;replace M:cq e h1 h2:=M;have T:e < s.heap.objs.size:=ar C;have L:∀b o,b≠e->b≠g->s.heap.get? b=some o->h2.get? b=some o:=λb o b1 b2 q=>(M.2 b b1).trans (hk1 b o b1 b2 q)
  have V:h2.get? s.heap.objs.size=some { cls:=.type "tuple",data:=.seq #[.int i tk,u2] }:=(M.2 _ (bf T)).trans ht1;have F:H s.heap.objs.size=none:=I.h.fresh (ai _);have ne:∀{b:Addr}{o:HO},H b=some o->b≠e/\b≠g:=λ{b o} q=>⟨λz=>(by rw[z,f0]at q;cases q),λz=>(by rw[z,g0]at q;cases q)⟩;have S:∀b,b ∉ [e,g]->b≠e/\b≠g:=λb y=>⟨λz=>y (by simp[z]),λz=>y (by simp[z])⟩;have I':Inv X pins J (a7 H s.heap.objs.size (.tup [.int i,x])) { s with heap:=h2,gens:=s.gens,drawn:=s.drawn,toks:=tk+1 }:=by
   refine I.step (ch:=[e,g]) (λb y=>?_) (λb o _ _ p q _=>L b o (S b p).1 (S b p).2 q) (λb o _ _ p q _=>⟨o.slots,L b o (S b p).1 (S b p).2 q⟩) (λb o _ q n=>?_) (λb o p q=>⟨o,L b o (S b p).1 (S b p).2 q⟩)
    (λb ys q=>?_) (λb o ys q=>?_) (λb q=>?_) (λm hm=>?_) (λb u' q=>?_) I.bare
   .have:b=e\/b=g:=by simpa using y
    rcases this with rfl|rfl
    .exact⟨f3,f1,f4,f5⟩
    .exact⟨g3,g1,g4,g5⟩
   .rw [al (aL (ar q))];exact n
   .rw [al (aN q F)];exact q
   .rw [al (aN q F)];exact q
   .rw [al (aN q F)];exact q
   .obtain⟨o,N,ep,ho,r⟩:=hm;exact⟨o,N,ep,L _ o (aG f1) (aG g1) ho,r⟩
   .by_cases y:b=s.heap.objs.size
    .subst y;rw[au]at q;cases q;exact⟨by show 2≤sizeLine;decide,[.int i tk,u2],.cons ⟨_,rfl⟩ (.cons ru .nil),⟨_,V,⟨rfl,_,rfl⟩,rfl⟩⟩
    .rw [al y]at q;refine(I.h b u' q).stay (λc v p z=>L c v ?_ ?_ z) (λc z=>by rw[al (aN z F)];exact z) λc ys z=>by rw[al (aN z F)];exact z
     .rcases p with rfl|p
      .exact (ne q).1
      .exact (ne p).1
     .rcases p with rfl|p
      .exact (ne q).2
      .exact (ne p).2
  refine⟨.ref s.heap.objs.size,_,I',rfl,⟨s.heap.objs.size,x,rfl,F,rfl,λys hy=>by rw[I.tuple_inj hy hq];exact hx⟩,⟨⟨u2,by simpa using he2⟩,G.at λo q=>(M.2 g (aG R)).trans q⟩,λb y=>?_⟩;have hb':b=e\/b=g:=by simpa using y
  obtain⟨oi,hoi,_⟩:=id j;rcases hb' with rfl|rfl
  .rw [al (aL T)];exact f0
  .rw [al (aL (ar hoi))];exact g0
 done:=by intro X hP hw hK p i pins s J H E I hf st hg;subst hP hw hK;obtain⟨xs,hq,hx⟩:=hg;obtain⟨Q,rv,pl,hz⟩:=I.tuple hq;obtain⟨⟨l,C⟩,j⟩:=st;obtain⟨g0,g1,g2,g3,g4,g5⟩:=hf g (by simp);have hl:=rv.length;have Z:s.heap.IsTuple a Q.toArray:=pl;exact wpAny_pyNext_enum_endD (yr (prog:=X.p) (w:=X.w) (A:=X.A.in1) (I.o.hd p) (g:=g) (r:=a) (q:=Q.toArray) (k:=i) (by simp;lia)) C ⟨rfl,j,Z⟩ λf eb=>⟨rfl,I.turned (t':=s.toks) (λb o y e=>eb b o y e) g0 g1 g3 g4 g5⟩
 self:=λ_ _ _ _ _ st h=>by obtain⟨⟨l,C⟩,_⟩:=st;exact o5 C h
theorem DI{K:FG}{F:Aa}{m:List Addr}{H:Hp}{a:Addr}{c:List P}{s:List V}(w:∀h k n,Stp F m H h k n->kg K n a s)(r:bg K F H c s):EJ K (Kk K a) (dB 0 c) F m H:=by
 intro h k n st;have q:=w h k n st;have l:=r.length;refine⟨λi v e=>?_,⟨s,q,by rw[kK,l];exact ai _⟩⟩;obtain⟨d,t,rfl⟩:=kL e;obtain⟨x,f,p⟩:=r.get t;refine⟨⟨s,x,q,f⟩,λz g y=>?_⟩;obtain⟨j,y,rfl,b,rfl,u⟩:=y;have:y=x:=by have:=u s q;rw[f]at this;cases this;rfl
 subst this;refine⟨h,bj b,RP.newTup b ⟨_,_,rfl,?_,_,_,rfl,RP.mono st p,rfl⟩⟩;show V.int (i:Int)=V.int (0+(i:Int));rw[o9]
@[simp] def yg(a:EV)(L:Lc)(S:aC):xW:=aZ (a L S) λv h=>match v with
 | .lst x=>some (dB 0 x,h)
 | .ro x=>some (dB 0 x,h)
 | .tup x=>some (dB 0 x,h)
 |_=>none
theorem NK{N:Ab}{n:Nat}{a:Expr}{t:EV}{p c:Pos}(P:Gl X "enumerate")(C:X.g "enumerate"=none)(z:Y X a (tV X.K t))(i:starEach [a] X.e=[(false,eval a X.e)]):PI X (.Tuple N n B) (.Call (.Name "enumerate" p) [a] [] c) (tI X.K (yg t)):=by
 intro pins s J H R I ⟨F,m,L,S,Z,G,r,l,q,k⟩;obtain⟨v,Q,y,q⟩:=ah q;cases v with
 |lst g=>exact iE P C z i pins s J H R I ⟨F,m,L,S,Z,G,r,l,by unfold Mi;rw[y];exact q,k⟩
 |ro g=>exact iE P C z i pins s J H R I ⟨F,m,L,S,Z,G,r,l,by unfold Mi;rw[y];exact q,k⟩
 |tup g=>
  have hA:PA X [a] (lq X.K (O t aj)):=BO z Ec (by rw[i];rfl);refine Call_ (gO I P C vQ (e7 (bB (hA c pins s J H (λj H1=>∃x e,Stp F m H x e H1/\Rel X.K x H1 e Q/\bg X.K x H1 [.tup g] j) I ⟨F,m,L,S,[.tup g],Q,r,l,?_,λj x e H1 h E M=>⟨x,e,h,E,M⟩⟩) λus h ⟨j,H1,d,V,x,e,st,E,M⟩=>?_) (by rw[i];rfl) rfl))
  .simp only[O,aj,y,av]
  obtain⟨x1,rfl,px⟩:=uj M;obtain⟨u,rfl,ru⟩:=vals1 V;cases q;obtain⟨b,j,rfl,W,ra⟩:=px;have kk:=k _ x e H1 st E (DI (λF2 m2 H2 s=>(W.kp s.kp).sq) ra);cases ru;obtain⟨D,V,pl,hz⟩:=d.tuple W.sq;refine uU (show h.heap.IsTuple b D.toArray from pl) λf T A hsz hk=>?_;refine o5 T ?_;have w:∀b,h.heap.objs.size≤b->H1 b=none:=λb o=>d.h.fresh o;refine⟨h.heap.objs.size+1,[h.heap.objs.size+1,h.heap.objs.size],_,_,H1,rfl,d.kept (t':=h.toks) hk,t_ b _ _ (bf (c_ _)),⟨⟨_,T⟩,A⟩,λb o=>?_,kk⟩;have K:b=h.heap.objs.size+1\/b=h.heap.objs.size:=by simpa using o
  rcases K with rfl|rfl
  .exact d.fpOk (e_ _) (w _ (e_ _))
  .exact d.fpOk (ai _) (w _ (ai _))
 |_=>cases q
end
end Ev
set_option tactic.hygienic false
namespace Ev
open PySem PySem.Spec PyProof.Rows L2
section
variable{X:Cx}{M:PN}{J:L2.St}{H:Hp}{s:Shared}
set_option tactic.hygienic true in
theorem DD(G:FnOk X.p X.w X.K X.g X.b kW k fe fd ps sp)(D:Room (k+1) X.A)(V:X.g "ends_on"=some (.ref fe))(hk:cC X.K (.ref fe)=true)(c:Binds X.K fd ps [])
  (I:Inv X M J H s) (W:s.heap.get? f=some (sh p1 p2 p3 p4 p5 T pm c' ctv)) (S:s.heap.CodeRec (.ref c') uA) (N:s.heap.IsCell T (some g)) (Z:RelV vb g) (rv:RelV v t) (h:sp [vb,v] H Q E0) :
  wpAny (model X.p X.w) X.A (call (.ref f) [t]) (EP X M J Q) X.xe s:=by
 refine ml (PySem.W.kla_callFunE (body:=qy p2 p3 p4 p5) D.depth W rfl rfl rfl rfl S ?_);rw[show bindArgs (PySem.W.kla_fn "<lambda>" uA (si p1) (qy p2 p3 p4 p5) lr [(Str.ofString "board",T)] pm (.ref c') ctv) ⟨[t],[]⟩=pure [(Str.ofString "standing",t)] from rfl];refine am (w5 (show ∀x ∈ lr.names,x.2≠.cell by decide) (show ∀x ∈ [(Str.ofString "standing",t)],lr.names.lookup x.1=some .local by simp) (λa p l=>⟨I.nolimit.fresh _ l,?_⟩) rfl);have m:∀b o,s.heap.get? b=some o->a.get? b=some o:=λb o e=>l.extBut b o (aL (ar e)) (aE _ e);have y:a.IsCell T (some g):=let ⟨o,e,d⟩:=N;⟨o,m _ _ e,d⟩
 have F:a.Ns mainGlobals X.g:=I.mod.glob.keeps λb o e=>m b o (I.bk b o e);have C:X.K.In a:=I.o.mod.kin.keeps λb o e=>m b o (I.bk b o e);have R:[g,t].length=ps.length:=G.len _ _ _ _ h;refine PySem.W.kla_codeExpr (eI (pB rfl rfl (vZ F V ?_) (by decide)));refine mF (h₀:=X.b) I.o.mod.kin hk ?_ rfl rfl;show wpAny _ _ (spliced ((false,eval (.Name "board" p3) _)::(false,eval (.Name "standing" p4) _)::[])) _ _ _;refine bM (mj (w4 rfl rfl rfl y (bM (mj (tM rfl rfl p rfl (cL ⟨C,?_⟩))))));refine ml (ko (G.run _ (_::X.k) { s with heap:=a,toks:=s.toks+1 } H ⟨[g,t],[]⟩ [g,t] [vb,v] Q E0 (D.deeper _) ⟨wz I.o.frames,I.o.mod,λb o e=>⟨m b o (I.bs b o e).1,(I.bs b o e).2⟩,?_,?_,?_,λP L=>I.base.tbls P (I.o.tab P L),I.h.kept m,I.bare⟩ (c _ [g,t] C R) (.cons Z (.cons rv .nil)) h) λr s' i=>?_)
 .refine aI (aI I.o.bsz I.sz) ?_;exact cM p.lt
 .refine .cons (show ScopeKind.function≠ScopeKind.module by decide) rfl p (wa (aI I.o.bsz I.sz)) (I.stack.of_keeps λb o e _=>⟨o,m b o e,rfl⟩)
 .intro b c;have c:b=s.heap.objs.size\/b ∈ yn X.k:=aH.mp c;rcases c with rfl|c
  .exact I.h.fresh (ai _)
  .exact I.stkFree b c
 .cases r with
  |error e=>exact False.elim i
  |ok E=>
   cases E with
   |ret w=>
    obtain⟨v',j,os,u,un,K,B,q⟩:=i;refine I.after ⟨v',j,os,u,⟨λb o e n c _=>?_,λb o e n c _=>?_,λb o e n A=>un.free b o (m b o e) n A,λb o e A=>un.there b o (m b o e) A,un.tups,un.frzs,un.tbls⟩,K,B,q⟩
    .refine un.keep b o (m b o e) n (λz=>?_) (by simp);have z:b=s.heap.objs.size\/b ∈ yn X.k:=aH.mp z;rcases z with rfl|z
     .exact absurd (ar e) (cN _)
     .exact c z
    .exact un.slot b o (m b o e) n (aW _ c) (by simp)
   |next=>exact False.elim i
   |brk=>exact False.elim i
   |cont=>exact False.elim i
theorem AJ{E:VP}{Q:VP}{c P K:Addr}{p1 p2 p3 p4 p5:Pos}(I:Inv X M J H s)(i:X.e.code=.ref c)(C:mB X.b c P)(hP:P ∈ bz X.K)(hq:X.e.qual++Str.ofString "<lambda>"=uA)(cl:X.e.cells.lookup (Str.ofString "board")=some K)
  (k:∀f h y pm p w tk j,Inv X M J j { s with heap:=w,toks:=tk }->(j=a7 H f (.frz (sh p1 p2 p3 p4 p5 K pm h p) (.own f))\/H h=none/\h≠f/\j=a7 (a7 H h (.frz y (.own P))) f (.frz (sh p1 p2 p3 p4 p5 K pm h p) (.own f)))->H f=none->j h=some (.frz y (.own P))->uC y->Q (.ref f) { s with heap:=w,toks:=tk }) :
  wpAny (model X.p X.w) X.A (eval (.Lambda (si p1) (qy p2 p3 p4 p5) lr qx) X.e) Q E s:=by
 have S:H P=some .tbl:=I.base.tbls P (I.o.tab P hP);obtain⟨ps,e0,z⟩:=(show nL H s.heap P from I.h P _ S);have C':=C.keeps I.bk;obtain⟨bm,ob,b1,b2,b3,b4,b5,b6⟩:=I.mod.bmain;have B:s.heap.Ns mainGlobals X.g:=I.mod.glob.keeps I.bk;have hgP:mainGlobals≠P:=λq=>by obtain⟨o,es,ep,e,l,_⟩:=B;rw[q,e0]at e;cases e;cases l
 have F:bm≠P:=λq=>by have e:=I.bk _ _ b3;rw[q,e0]at e;cases e;cases b4
 have hbG:bm≠mainGlobals:=λq=>by obtain⟨o,es,ep,e,l,_⟩:=I.mod.glob;rw[q,e]at b3;cases b3;rw[l]at b6;cases b6
 have hB:s.heap.BuiltinsAt X.g P:=⟨bm,ob,b1,b2,hbG,F,I.bk _ _ b3,b4,b5,b6⟩;have N:closureFor lr X.e=pure [(Str.ofString "board",K)]:=by
  have:cellOf X.e (Str.ofString "board")=pure K:=by unfold cellOf;rw[cl]
  simp[closureFor,this]
 refine PySem.W.kla_eval rfl ?_;rw[hq];rcases z with rfl|⟨h,y,rfl,h1,h2⟩
 .refine PySem.W.kla_makeFunction (mg:=X.g) N I.o.glob B i C' e0 trivial rfl hgP hB λh p w tk Z A T V W=>?_;obtain⟨x,y,vs,t,ex,ec,d1,d2⟩:=V;cases ex;have L:H h=none:=I.h.fresh A;have D:∀b,H b=none->b≠P:=λb n q=>by rw[q,S]at n;cases n
  have g:∀b o,H b=some o->b≠h:=λb o e q=>by rw[q,L]at e;cases e
  have hs':s.heap.objs.size≤w.objs.size:=aI A (cM T);have I1:Inv X M J (a7 H h (.frz y (.own P))) { s with heap:=w,toks:=tk }:=by
   refine I.step (g':=s.gens) (d':=s.drawn) (ch:=[]) (λ_ z=>nomatch z) (λb o _ _ _ e n=>Z b o (D b n) e) (λb o _ _ _ e n=>⟨o.slots,Z b o (D b n) e⟩) (λb o _ e n=>?_) (λb o _ e=>?_) (λb xs q=>(al (g b _ q)).trans q) (λb o u q=>(al (g b _ q)).trans q) (λb q=>(al (g b _ q)).trans q) (λm hm=>?_) (λb u q=>?_) I.bare
   .rw [al (aL (a_ (ar e) A))];exact n
   .by_cases G:b=P
    .subst G;exact⟨_,W⟩
    .exact⟨o,Z b o G e⟩
   .obtain⟨o,es,ep,ho,r⟩:=hm;exact⟨o,es,ep,Z _ o (D _ I.free) ho,r⟩
   .by_cases G:b=h
    .subst G;rw[au]at q;cases q;exact⟨ec,⟨y,ec⟩⟩
    .rw [al G]at q;by_cases F:b=P
     .subst F;rw[S]at q;cases q;exact⟨_,W,.inr ⟨h,y,by simp,au,vs,t,d1,d2⟩⟩
     .refine (I.h b u q).stay (λd v l e=>Z d v (λz=>?_) e) (λd e=>(al (g d _ e)).trans e) (λd xs e=>(al (g d _ e)).trans e) (λd xs e=>(al (g d _ e)).trans e);rcases l with l|l
      .exact F (l ▸ z)
      .rw [z,S]at l;cases l
  have R:h≠w.objs.size:=aL T;refine k w.objs.size h y ((X.g "__name__").getD .none) p _ tk _ (I1.laid (a:=w.objs.size) (o:=.frz (sh p1 p2 p3 p4 p5 K ((X.g "__name__").getD .none) h p) (.own w.objs.size)) (λb u e=>aE _ e) (ai _) ⟨aS _ rfl,⟨_,aS _ rfl⟩⟩) (.inr ⟨L,R,rfl⟩) (I.h.fresh hs') ?_ ⟨vs,t,d1,d2⟩;rw[al R];exact au
 .refine PySem.W.kla_makeFunctionHit (mg:=X.g) (cv:=.ref h) N I.o.glob B i C' e0 ?_ ?_ hB λp w tk hk hsz=>?_
  .exact trivial
  .simp [codeAmong,rawInt]
  .have I1:Inv X M J H { s with heap:=w,toks:=tk }:=I.kept hk;have hf:H w.objs.size=none:=I1.h.fresh (ai _);refine k w.objs.size h y ((X.g "__name__").getD .none) p _ tk _ (I1.laid (a:=w.objs.size) (o:=.frz (sh p1 p2 p3 p4 p5 K ((X.g "__name__").getD .none) h p) (.own w.objs.size)) (λb u e=>aE _ e) (ai _) ⟨aS _ rfl,⟨_,aS _ rfl⟩⟩) (.inl rfl) hf ?_ h2;rw[al (aN h1 hf)];exact h1
end
noncomputable def fnOf(d:D)(S:aC):Option D:=match d with
 | .ref i=>match S[i]? with
  |some (.fn (some b))=>some b
  |_=>none
 |_=>none
theorem DS(h:fnOf d S=some b):∃i,d=.ref i/\S[i]? = some (.fn (some b)):=by
 unfold fnOf at h;split at h
 .split at h
  .cases h;exact⟨_,rfl,by assumption⟩
  .cases h
 .cases h
def mJ(g:GF)(i:Nat)(a:EV):EV:=λL S=>aZ (U i L S) λf _=>(fnOf f S).elim none λb=>aZ (a L S) λv h=>aZ (g [b,.p v] h) λd x=>aZ (toP 9 d x) λr e=>some (r,trunc h.length e)
section
variable{X:Cx}{e:Expr}{C:EV}{N p:Pos}{x:Str}{i:Nat}
theorem Fb(G:FnOk X.p X.w X.K X.g X.b kW k fe fd ps (km X.K g))(hr:Room (k+1) X.A)(hm:X.g "ends_on"=some (.ref fe))(hk:cC X.K (.ref fe)=true)(hb:Binds X.K fd ps [])
  (hx:Y X (.Name x p) (tE X.K (U i))) (ha:Y X e (tV X.K C)) (he:starEach [e] X.e=[(false,eval e X.e)]):Y X (.Call (.Name x p) [e] [] N) (tV X.K (mJ g i C)):=by
 intro M s J H Q I ⟨F,m,L,S,d,S',r,l,q,kk⟩;obtain⟨f,D,V,q⟩:=ah q;have hS:D=S:=by
  unfold U at V;split at V
  .cases V;rfl
  .cases V
 subst hS;cases eb:fnOf f D with
 |none=>rw[eb]at q;cases q
 |some b=>
  rw[eb]at q;obtain⟨v,c,e1,q⟩:=ah (show aZ (C L D) _=_ from q);obtain⟨d1,S2,e2,q⟩:=ah q;obtain⟨v1,T,e3,q⟩:=ah q;cases q;obtain⟨j,rfl,es⟩:=DS eb;refine eI (bB (hx M s J H (λv H1=>∃z K,Stp F m H z K H1/\Rel X.K z H1 K D/\RD X.K z H1 K (.ref j) v) I ⟨F,m,L,D,_,D,r,l,V,λv z K H1 s1 r1 Z=>⟨z,K,s1,r1,Z⟩⟩) λfu s1 hz=>?_);obtain⟨vf,H1,I1,rf,z,K,E,r1,Z⟩:=hz;obtain⟨a,rfl,hma⟩:=Z;cases (show fu=Value.ref a from rf);obtain⟨vb,⟨Z,p2,p3,p4,p5,cr,c',P,o,oc,pm,ctv,ub,h1,h2,h3,h4,h5,h6⟩,rb⟩:=r1.obj j a _ hma es _ rfl;refine callWith_def (o:=sh Z p2 p3 p4 p5 cr pm c' ctv) rfl ?_ he;refine bB ((dh ha eP (by rw[he];rfl)) N M s1 J H1 (λxs R=>∃y B A,xs=[y]/\Stp z K H1 B A R/\Rel X.K B R A c/\RP X.K B R v y) I1 ⟨z,K,L,D,v,c,r1,l.mono E,e1,λy B A R s2 r2 p2=>⟨y,B,A,rfl,s2,r2,p2⟩⟩) λus s2 hz=>?_;obtain⟨vs,R,I2,rv,y,B,A,ev,h,r2,p2⟩:=hz;subst ev;obtain⟨u,rfl,ru⟩:=vals1 rv;have h1':=h.cod _ _ _ h1;have h2':=h.cod _ _ _ h2;have h5':=h.cod _ _ _ h5;have oa:=(I2.h _ _ h1').1;have ocr:=(I2.h _ _ h2').1;have occ:=(I2.h _ _ h5').1;obtain⟨vs,t,d1',d2'⟩:=h6;refine⟨oa,DD G hr hm hk hb I2 oa ⟨c',oc,vs,t,rfl,occ,d1',d2'⟩ ⟨o,ocr,h3⟩ h4 ru ?_⟩;refine⟨B,A,[b,.p v],c,d1,S2,r2,⟨vb,_,rfl,RD.mono h rb,_,_,rfl,p2,rfl⟩,e2,λw F3 m3 H3 s3 r3 p3=>?_⟩;obtain⟨F4,s4,r4,l4,p4⟩:=kA 9 e3 r3 p3;have st:=s3.trans s4;have W:=r2.len;by_cases hc:(T.take c.length).all (DA c.length)=true
  .have et:Ev.trunc c.length T=T.take c.length:=ae hc;rw[et]at kk;have hle:A.length≤m3.length:=by
    obtain⟨nn,e⟩:=st.pre;rw[e,bw];lia
   have rt:=r4.trunc (n:=c.length) (by rw[<- W];exact hle) hc;refine kk w F4 (m3.take A.length) H3 (E.trans (h.trans st.trunc)) ?_ p4;rw[W];exact rt
  .have et:Ev.trunc c.length T=T:=ag hc;rw[et]at kk;exact kk w F4 m3 H3 (E.trans (h.trans st)) r4 p4
end
noncomputable def era(H:Hp)(c:Addr):Hp:=λb=>if b=c then none else H b
section
variable{K:FG}{F B:Aa}{H j:Hp}{m G:List Addr}{S:aC}{c:Addr}{x:Obj}{y:Addr}
theorem dF(h:b≠c):era H c b=H b:=ag h
theorem d7(a:H c=some (.frz x (.own y)))(h:H b=some o)(n:o≠.frz x (.own y)):era H c b=some o:=by rw[dF];exact h;rintro rfl;rw[a]at h;cases h;exact n rfl
mutual
theorem RP.era(hc:H c=some (.frz x (.own y))):∀{d:P}{v:V},RP K F H d v->RP K F (era H c) d v
 | .non,_,h=>h
 | .bl _,_,h=>h
 | .int _,_,h=>h
 | .str _,_,h=>h
 | .tup _,_,h=>by obtain⟨a,xs,e,t,r⟩:=h;exact⟨a,xs,e,t.imp (λz=>d7 hc z (by simp)) id,bg.era hc r⟩
 | .lst _,_,h=>by obtain⟨a,xs,e,t,r⟩:=h;exact⟨a,xs,e,⟨t.1,d7 hc t.2 (by simp)⟩,bg.era hc r⟩
 | .ro _,_,h=>by obtain⟨a,xs,e,t,r⟩:=h;refine⟨a,xs,e,t.imp (λz=>?_) id,bg.era hc r⟩;obtain⟨f,o,z⟩:=z;exact⟨f,o,d7 hc z (by simp)⟩
 | .dct _ _,_,h=>by obtain⟨a,kvs,e,f,t,k,r⟩:=h;exact⟨a,kvs,e,f,d7 hc t (by simp),k,bg.era hc r⟩
theorem bg.era(hc:H c=some (.frz x (.own y))):∀{ds:List P}{xs:List V},bg K F H ds xs->bg K F (era H c) ds xs
 | [],_,h=>h
 |_::_,_,h=>by obtain⟨x,r,e,h1,h2⟩:=h;exact⟨x,r,e,RP.era hc h1,bg.era hc h2⟩
end
theorem RD.era(a:H c=some (.frz x (.own y))):∀{d:D}{v:V},RD K F H m d v->RD K F (era H c) m d v
 | .p _,_,h=>RP.era a h
 | .ref _,_,h=>h
theorem bJ.era(a:H c=some (.frz x (.own y))):∀{d:List D}{s:List V},bJ K F H m d s->bJ K F (era H c) m d s
 | [],_,h=>h
 |_::_,_,h=>by obtain⟨x,r,e,n,k⟩:=h;exact⟨x,r,e,RD.era a n,bJ.era a k⟩
noncomputable def Gu:SO->Bool
 | .fn (some _)=>false
 |_=>true
theorem RO.era(s:H c=some (.frz x (.own y)))(w:Gu o=true)(h:RO K F H m a o):RO K F (era H c) m a o:=by
 cases o with
 |lst b=>obtain⟨g,e,r⟩:=h;exact⟨g,d7 s e (by simp),r.era s⟩
 |dct t b=>obtain⟨k,e,f,r⟩:=h;exact⟨k,d7 s e (by simp),f,r.era s⟩
 |fz v=>exact RP.era s (show RP K F H v (.ref a) from h)
 |ins c t b=>obtain⟨C,p,k,n,e,f,r⟩:=h;exact⟨C,p,k,n,d7 s e (by simp),f,r.era s⟩
 |dtn t b=>obtain⟨k,e,f,u,r⟩:=h;exact⟨k,d7 s e (by simp),f,u.era s,r.era s⟩
 |dtt t b=>obtain⟨k,e,f,r⟩:=h;exact⟨k,d7 s e (by simp),f,r.era s⟩
 |fn i=>intro d q;subst q;cases w
theorem Rel.era(r:Rel K F H m S)(k:H c=some (.frz x (.own y)))(n:¬F c)(b:c ∉ m)(t:S.all Gu=true):Rel K F (era H c) m S where
 len:=r.len
 nd:=r.nd
 obj:=λi a o s e=>(r.obj i a o s e).era k (bt.mp t o (cx e))
 sep:=r.sep
 trk:=λa h=>by rw[dF (by rintro rfl;exact b h)];exact r.trk a h
 ft:=λa f=>by rw[dF (by rintro rfl;exact n f)];exact r.ft a f
theorem Stp.era(s:Stp F m (a7 H c (.frz x (.own y))) B G j)(a:H c=none):Stp F m H B G (era j c):=by
 have n:∀{b:Addr}{o:HO},H b=some o->b≠c:=λh z=>by rw[z,a]at h;cases h
 have p:∀{b:Addr}{o:HO},H b=some o->a7 H c (.frz x (.own y)) b=some o:=λh=>(al (n h)).trans h;refine⟨s.pre,λb o h k=>?_,s.frz,λb o f h=>?_,λb r h=>?_,λb h=>?_,λb h=>?_,λb h=>?_,λb o u h=>?_⟩
 .rw [dF (n h)];exact s.oth b o (p h) k
 .rw [dF (n h)];exact s.frk b o f (p h)
 .rw [dF (n h)];exact s.tup b r (p h)
 .cases q:H b with
  |none=>exact absurd q h
  |some o=>rw[dF (n q)];exact s.trk b (by rw[p q];exact λz=>nomatch z)
 .rcases s.nf b h with z|z|z
  .exact .inl z
  .by_cases e:b=c
   .subst e;exact .inr (.inl a)
   .rw [al e]at z;exact .inr (.inl z)
  .exact .inr (.inr z)
 .rcases s.nm b h with z|z
  .exact .inl z
  .by_cases e:b=c
   .subst e;exact .inr a
   .rw [al e]at z;exact .inr z
 .rw [dF (n h)];exact s.cod b o u (p h)
theorem Rel.swap(r:Rel K F H m S)(n:m[i]? = some a)(k:RO K F H m a o)(f:¬o.own):Rel K F H m (S.set i o) where
 len:=by rw[cP];exact r.len
 nd:=r.nd
 obj:=λj b u h e=>by
  by_cases x:i=j
  .subst x;rw[n]at h;cases h;have s:i < S.length:=by rw[<- r.len];exact(a9.mp n).1
   rw[cy s]at e;cases e;exact k
  .rw [bG x]at e;exact r.obj j b u h e
 sep:=λj b u h e w=>by
  by_cases x:i=j
  .subst x;have s:i < S.length:=by rw[<- r.len];exact(a9.mp n).1
   rw[cy s]at e;cases e;exact absurd w f
  .rw [bG x]at e;exact r.sep j b u h e w
 trk:=r.trk
 ft:=r.ft
end
noncomputable def yx:SO->SO
 | .fn _=>.fn none
 |o=>o
theorem Rel.clr{K:FG}{F:Aa}{H:Hp}{m:List Addr}{S:aC}(r:Rel K F H m S):Rel K F H m (S.map yx) where
 len:=by rw[a8];exact r.len
 nd:=r.nd
 obj:=λi a o h e=>by
  rw[cR]at e;cases q:S[i]? with
  |none=>rw[q]at e;cases e
  |some u=>
   rw[q]at e;cases e;have:=r.obj i a u h q
   cases u with
   |fn _=>exact λd z=>nomatch z
   |_=>exact this
 sep:=λi a o h e w=>by
  rw[cR]at e;cases q:S[i]? with
  |none=>rw[q]at e;cases e
  |some u=>
   rw[q]at e;cases e;cases u with
   |fn _=>exact absurd w id
   |_=>exact r.sep i a _ h q w
 trk:=r.trk
 ft:=r.ft
theorem G9(S:aC):(S.map yx).all Gu=true:=by rw[List.all_map];refine bt.mpr λo _=>?_;cases o<;>rfl
def qJ(g:GF)(i:Nat)(a:EV):EE:=λL S=>aZ (a L S) λv h=>aZ (U i L h) λd _=>aZ (g [.p v,.ref h.length] (h++[.fn (some d)])) λr x=>some (r,x.map yx)
def EI(X:Cx):Prop:=X.e.qual++Str.ofString "<lambda>"=uA/\∃c P,X.e.code=.ref c/\tW X.K c P=true/\P ∈ bz X.K
theorem ga.cell{P:Program}{w:World}{H:Hp}{h:Heap}{c:Addr}{o:Obj}(ok:ga P w H h)(a:H c=none)(e:h.get? c=some o):ga P w (a7 H c (.frz o (.own c))) h:=λb u q=>by
 have n:∀{b:Addr}{o:HO},H b=some o->b≠c:=λh z=>by rw[z,a]at h;cases h
 by_cases x:b=c
 .subst x;rw[au]at q;cases q;exact⟨e,o,e⟩
 .rw [al x]at q;exact(ok b u q).stay (λ_ _ _ z=>z) (λd z=>(al (n z)).trans z) (λd s z=>(al (n z)).trans z) (λd s z=>(al (n z)).trans z)
theorem ga.era{P:Program}{w:World}{H:Hp}{h:Heap}{c:Addr}{o:Obj}(ok:ga P w H h)(a:H c=some (.frz o (.own c))):ga P w (era H c) h:=λb u q=>by
 by_cases x:b=c
 .subst x;cases (show(none:Option HO)=some u from(ae rfl).symm.trans q)
 .rw [dF x]at q;refine(ok b u q).stay (λ_ _ _ z=>z) (λd z=>d7 a z (by simp)) (λd s z=>d7 a z (by simp)) (λd s z=>?_);refine d7 a z λw=>?_;injection w with _ w;injection w with w;exact x w
section
variable{X:Cx}{e:Expr}{C:EV}{N p:Pos}{x:Str}{i:Nat}
set_option tactic.hygienic true in
theorem Fa(G:FnOk X.p X.w X.K X.g X.b kW k f fd ps (km X.K g))(hr:Room k X.A)(hg:Gl X x)(hm:X.g x=some (.ref f))(hk:cC X.K (.ref f)=true)(W:Binds X.K fd ps [])
  (lm:EI X) (hN:X.N[i]? = some (Str.ofString "board")) (hK:X.e.scope.names.lookup (Str.ofString "board")=some .cell) (hfn:X.fn (Str.ofString "board")=true) (ha:Y X e (tV X.K C)) (hdb:(x == ("__debug__":Str))=false)
  (he:starEach [e,.Lambda (si p1) (qy p2 p3 p4 p5) lr qx] X.e=(false,eval e X.e)::starEach [.Lambda (si p1) (qy p2 p3 p4 p5) lr qx] X.e) :
  Y X (.Call (.Name x p) [e,.Lambda (si p1) (qy p2 p3 p4 p5) lr qx] [] N) (tE X.K (qJ g i C)):=by
 intro M s J H Q I ⟨F,m,L,S,d,S',r,l,q,kk⟩;obtain⟨v,S1,e1,q⟩:=ah q;obtain⟨b,S0,e0,q⟩:=ah q;obtain⟨d2,S2,e2,q⟩:=ah q;cases q;obtain⟨hq,c,P,hcode,a,hP⟩:=lm;refine eI (l0 I hg hm ?_ hdb);refine mF (h₀:=X.b) I.o.mod.kin hk ?_ he rfl;rw[he];show wpAny _ _ (spliced ((false,eval e X.e)::(false,eval (.Lambda (si p1) (qy p2 p3 p4 p5) lr qx) X.e)::[])) _ _ _;have eL:L[i]? = some (some b):=by
  unfold U at e0;split at e0
  .cases e0;assumption
  .cases e0
 obtain⟨vb,hJ,rb⟩:=l.at' i b eL;refine bM (bB (ha M s J H (λv1 H1=>∃A E,Stp F m H A E H1/\Rel X.K A H1 E S1/\RP X.K A H1 v v1) I ⟨F,m,L,S,v,S1,r,l,e1,λv A E H1 s1 r1 p1=>⟨A,E,s1,r1,p1⟩⟩) λu1 s1 hz=>?_);obtain⟨v1,H1,I1,ru1,A,E,st1,r1,pv⟩:=hz;obtain⟨t,cl⟩:=I1.o.has (Str.ofString "board") (.inl hK);refine bM (AJ (p1:=p1) (p2:=p2) (p3:=p3) (p4:=p4) (p5:=p5) I1 hcode (y6 I1.mod.kin a) hP hq cl λj c' oc pm ctv h' tk B Z hH hf0 hc' hlam=>cL ⟨Z.kIn,?_⟩);have hf2:B j=some (.frz (sh p1 p2 p3 p4 p5 t pm c' ctv) (.own j)):=by rcases hH with rfl|⟨_,_,rfl⟩<;>exact au
 have st2:Stp A E H1 A (E++[j]) B/\Rel X.K A B (E++[j]) (S1++[.fn none]):=by
  rcases hH with rfl|⟨hc0,hcf,rfl⟩
  .exact⟨bH hf0,r1.own hf0 λd z=>nomatch z⟩
  .have hf1:a7 H1 c' (.frz oc (.own P)) j=none:=(al (aG hcf)).trans hf0;exact⟨(cz hc0).trans (bH hf1),(r1.new hc0).own hf1 λd z=>nomatch z⟩
 obtain⟨st2,r2⟩:=st2;obtain⟨mm,_,hl⟩:=id Z.loc;obtain⟨ub,rub,lk⟩:=hl i _ _ hN hJ (.inr (.inl hK));have hcell:h'.IsCell t (some ub):=by
  rcases lk with ⟨z,_⟩|⟨_,cr',z1,z2⟩
  .have z:X.e.scope.names.lookup (Str.ofString "board")=some .local:=z;rw[hK]at z;cases z
  .rw [cl]at z1;cases z1;exact z2
 obtain⟨o,ocr,od⟩:=hcell;have D:B t=none:=Z.freeC _ _ cl;have R:∀{b:Addr}{o:HO},B b=some o->b≠t:=λh z=>by rw[z,D]at h;cases h
 have sab:X.z.heap.objs.size≤t:=Z.o.cab _ _ hfn cl;have qj:Stp A (E++[j]) B A (E++[j]) (a7 B t (.frz o (.own t))):=cz D;have hfm:(E++[j])[S1.length]? = some j:=by rw[<- r1.len,bb (ai _)];simp
 have rb3:RD X.K A (a7 B t (.frz o (.own t))) (E++[j]) b vb:=RD.mono (st1.trans (st2.trans qj)) rb;have up:∀{b:Addr}{K:HO},B b=some K->a7 B t (.frz o (.own t)) b=some K:=λh=>(al (R h)).trans h;have r3:Rel X.K A (a7 B t (.frz o (.own t))) (E++[j]) (S1++[.fn (some b)]):=by
  have z:=(r2.new (o:=.frz o (.own t)) D).swap (i:=S1.length) (o:=.fn (some b)) hfm (λd hd=>by cases hd;exact⟨vb,⟨p1,p2,p3,p4,p5,t,c',P,o,oc,pm,ctv,ub,up hf2,au,od,rub,up hc',hlam⟩,rb3⟩) id
  have e:(S1++[SO.fn none]).set S1.length (.fn (some b))=S1++[.fn (some b)]:=by simp
  rw[e]at z;exact z
 have hnF:¬A t:=r2.fresh_F D;have hnm:t ∉ E++[j]:=r2.fresh_m D;have hsp:km X.K g [v1,.ref j] (a7 B t (.frz o (.own t))) (λv H4=>Q v (era H4 t)) E0:=by
  refine⟨A,E++[j],[.p v,.ref S1.length],S1++[.fn (some b)],_,S2,r3,⟨_,_,rfl,RP.mono (st2.trans qj) pv,_,_,rfl,⟨j,rfl,hfm⟩,rfl⟩,e2,λw F4 m4 H4 st4 r4 p4=>?_⟩;have V:H4 t=some (.frz o (.own t)):=st4.cod _ _ _ au;have hF4:¬F4 t:=λz=>by
   rcases st4.nf t z with z|z|z
   .exact hnF z
   .rw [au]at z;cases z
   .exact hnm z
  have hm4:t ∉ m4:=λz=>by
   rcases st4.nm t z with z|z
   .exact hnm z
   .rw [au]at z;cases z
  exact kk w F4 m4 (era H4 t) (st1.trans (st2.trans (st4.era D))) (r4.clr.era V hF4 hm4 (G9 _)) (p4.era V)
 have hps:[u1,Value.ref j].length=ps.length:=G.len _ _ _ _ hsp;have E3:Env0 X.p X.w X.K X.g X.b X.A X.k { s1 with heap:=h',toks:=tk } (a7 B t (.frz o (.own t))):=by
  have z:=Z.env0;refine⟨z.frames,z.mod,λb K e=>⟨(z.bs b K e).1,?_⟩,z.bsz,z.funs,λb W=>?_,λT hT=>up (z.tab T hT),ga.cell z.h D ocr,z.bare⟩
  .rw [al];exact(z.bs b K e).2;rintro rfl;exact absurd (a_ (ar e) (aI Z.o.bsz sab)) (cN _)
  .rw [al];exact z.frf b W;rintro rfl;rcases aH.mp (Z.stkSub b W) with W|W
   .exact Z.cne _ _ cl W
   .obtain⟨_,K,ho',_⟩:=Z.o.funs.mem W;exact absurd (a_ (ar ho') sab) (cN _)
 refine ml (ko (G.run X.A X.k _ _ ⟨[u1,.ref j],[]⟩ [u1,.ref j] [v1,.ref j] _ E0 hr E3 (W _ [u1,.ref j] Z.kIn hps) (.cons ru1 (.cons rfl .nil)) hsp) λr s' hq=>?_);cases r with
 |error e=>exact False.elim hq
 |ok fl'=>
  cases fl' with
  |ret w=>
   obtain⟨v',H4,os,bare,un,hok,rw',q4⟩:=hq;have V:H4 t=some (.frz o (.own t)):=un.frzs t o _ au;have dn:∀{b:Addr},b≠t->B b=none->a7 B t (.frz o (.own t)) b=none:=λh z=>(al h).trans z;refine Z.after ⟨v',era H4 t,os,bare,⟨λb K e n W hx=>?_,λb K e n W hx=>?_,λb K e n hx=>?_,λb K e hx=>un.there b K e hx,λb xs z=>?_,λb K u z=>?_,λb z=>?_⟩,ga.era hok V,rw',q4⟩
   .by_cases y:b=t
    .subst y;have e:h'.get? b=some K:=e;rw[ocr]at e;cases e;exact(hok _ _ V).1
    .exact un.keep b K e (dn y n) W hx
   .by_cases y:b=t
    .subst y;have e:h'.get? b=some K:=e;rw[ocr]at e;cases e;exact⟨o.slots,(hok _ _ V).1⟩
    .exact un.slot b K e (dn y n) W hx
   .by_cases y:b=t
    .exact ae y
    .rw [dF y];exact un.free b K e (dn y n) hx
   .rw [dF (R z)];exact un.tups b xs (up z)
   .rw [dF (R z)];exact un.frzs b K u (up z)
   .rw [dF (R z)];exact un.tbls b (up z)
  |next=>exact False.elim hq
  |brk=>exact False.elim hq
  |cont=>exact False.elim hq
end
end Ev
set_option tactic.hygienic true
namespace PySem
open PySem PyProof.Rows
section
variable{prog:Program}{w:World}{A:Around}{E:VP}{R:Result->Shared->Prop}
theorem oC(k:∀c o,h.get? c=some o->h'.get? c=some o)(x:(Nk.nest prog w).is h d b):(Nk.nest prog w).is h' d b:=by obtain⟨x1,x2,as,r⟩:=x;exact⟨x1,x2,as,Nk.stay _ x1 r λc o hc _ _=>k c o hc⟩
inductive PairsN(prog:Program)(w:World)(h:Heap):LV->List (PyData×Addr×Value)->Prop
 |nil:PairsN prog w h [] []
 |cons {t b:Addr}{v:Value}{d:PyData}{us:LV}{xs:List (PyData×Addr×Value)}:IsTup h t #[.ref b,v]->(Nk.nest prog w).is h d b->PairsN prog w h us xs->PairsN prog w h (.ref t::us) ((d,b,v)::xs)
def lx(w:World)(h:Heap)(d:Addr)(xs:List (PyData×Addr×Value)):Prop:=∃o es ep,h.get? d=some o/\o.ExactDict/\o.data=.dict es ep/\es.toList=xs.map (λx=>(⟨Nk.hk w x.1,.ref x.2.1,x.2.2⟩:DictEntry))/\(xs.map (·.1)).Nodup
theorem lx.of(x:lx w h d xs)(k:∀y ∈ xs,(Nk.nest prog w).is h y.1 y.2.1):h.DictOfH (Nk.nest prog w) d xs:=
 let ⟨o,es,ep,h1,h2,h3,h4,h5⟩:=x;⟨o,es,ep,h1,h2,h3,h4,k,h5⟩
theorem lx.to(x:h.DictOfH (Nk.nest prog w) d xs):lx w h d xs:=
 let ⟨o,es,ep,h1,h2,h3,h4,_,h5⟩:=x;⟨o,es,ep,h1,h2,h3,h4,h5⟩
theorem lx.at(x:lx w h d f)(k:∀o,h.get? d=some o->h'.get? d=some o):lx w h' d f:=
 let ⟨o,s,e,a,r⟩:=x;⟨o,s,e,k o a,r⟩
theorem x'(hh:A.handled=none)(hu:A.units+9 < cLine)(hd₀:h₀.get? d=none)(hi₀:h₀.get? it=none)(hdi:d≠it)(hl:h₀.IsList l items) :
  ∀(rest:List (PyData×Addr×Value))(i:Nat)(acc:List (PyData×Addr×Value))(s:Shared),(∀b o,h₀.get? b=some o->s.heap.get? b=some o)->s.heap.IsListIter it l i->lx w s.heap d acc->(∀y ∈ acc,(Nk.nest prog w).is h₀ y.1 y.2.1)->PairsN prog w h₀ (items.toList.drop i) rest ->
   ((acc++rest).map (·.1)).Nodup->(acc++rest).length≤sizeLine->i+rest.length=items.size ->
   (∀h' t',(∀b o,h₀.get? b=some o->h'.get? b=some o)->lx w h' d (acc++rest)->R (.ok (.ret .none)) { s with heap:=h',toks:=t' }) ->
   codeAny (model prog w) A (.builtin "dict.update.loop" ⟨[.ref d,.ref it,rawInt i,.none],[]⟩) R s:=by
 intro rest;induction rest with
 |nil=>
  intro i acc s kp hit hd ha hp hn hz hi h;have hl1:s.heap.IsList l items:=let ⟨o,ho,r⟩:=hl;⟨o,kp _ _ ho,r⟩
  refine o3 F.entry_dict_update_loop ?_;rw[lW F.plain_dict_update_loop _];unfold Builtin.«dict.update.loop»;show wpAny _ A.in1 (pyNext (.ref it) >>= _) _ _ s;refine ac (yP hh hit hl1 (by simp at hi ⊢;lia) λh1 eb=>?_);show wpAny _ A.in1 (u3 d [] >>= _) _ _ _;rw[b9]at h;refine ac (am (am (h h1 s.toks (λb o e=>eb b o (λz=>by rw[z,hi₀]at e;cases e) (kp b o e)) (hd.at λo e=>eb d o hdi e))))
 |cons kv rest ih=>
  intro i acc s kp hit hd ha hp hn hz hi h;have hl1:s.heap.IsList l items:=let ⟨o,ho,r⟩:=hl;⟨o,kp _ _ ho,r⟩
  generalize er:items.toList.drop i=us at hp;cases hp with
  | @cons t b v k us1 _ hpt hk hps=>
   have hx:items[i]? = some (.ref t):=by have:=bR (·[0]?) er;simpa using this
   have er1:items.toList.drop (i+1)=us1:=by rw[<- pN,er];rfl
   refine o3 F.entry_dict_update_loop ?_;rw[lW F.plain_dict_update_loop _];unfold Builtin.«dict.update.loop»;show wpAny _ A.in1 (pyNext (.ref it) >>= _) _ _ s;refine ac (yS hit hl1 hx λh1 hit1 sb1=>?_);have kp1:∀c o,h₀.get? c=some o->h1.get? c=some o:=λc o e=>(sb1.2 c (λz=>by rw[z,hi₀]at e;cases e)).trans (kp c o e);obtain⟨ot,hot,hct,nt,hdt⟩:=hpt;have hot1:=kp1 _ _ hot;show wpAny _ A.in1 (holding [Value.ref t] _ >>= _) _ _ _;refine ac (cZ (ac (wJ ?_)));unfold u0;refine ac (jn (T:="tuple") ⟨ot,hot1,hct⟩ ?_);rw[ae (by decide)];refine ac (fL hot1 hdt (am ?_));show wpAny _ A.in1 (holding [Value.ref b,v] (dictSet d (.ref b) v)) _ _ _;have dd:=(hd.at (h':=h1) λo e=>(sb1.2 d hdi).trans e).of (prog:=prog) λy hy=>oC kp1 (ha y hy);refine cZ (wX (knd:=Nk.nest prog w) (s:={ s with heap:=h1 }) (hsz:=by simp at hz;lia) (show A.in1.units+8 < cLine by rw[iT];lia) (oC kp1 hk) dd λh2 dd2 sb2=>?_);have hnk:k ∉ acc.map (·.1):=λhm=>by rw[fj,jJ]at hn;exact hn.2.2 _ hm _ (by simp) rfl
   have none:atKey acc k=none:=by unfold atKey;rw[Option.map_eq_none_iff,List.find?_eq_none];intro y hy z;exact hnk (dH.mpr ⟨y,hy,aD z⟩)
   rw[storedH_new none]at dd2;refine am ⟨oZ F.plain_dict_update_loop _,?_⟩;have e1:acc++(k,b,v)::rest=(acc++[(k,b,v)])++rest:=by simp
   rw[e1]at hn hz h;refine ih (i+1) (acc++[(k,b,v)]) { s with heap:=h2,toks:=s.toks+(Nk.nest prog w).draws k } (λc o e=>(sb2.2 c (λz=>by rw[z,hd₀]at e;cases e)).trans (kp1 c o e)) ?_ (.to dd2) (λy hy=>?_) (er1 ▸ hps) hn hz (by simp at hi;lia) λh3 t3 k1 k2=>h h3 t3 k1 k2
   .obtain⟨o,ho,r⟩:=hit1;exact⟨o,(sb2.2 it (aG hdi)).trans ho,r⟩
   .rcases dJ.mp hy with hy|hy
    .exact ha y hy
    .cases List.mem_singleton.mp hy;exact hk
theorem call_dict_nest(j:A.handled=none)(V:A.units+10 < cLine)(y:s.heap.get? a=some { cls:=.type "list",data:=.seq t n })(C:PairsN prog w s.heap t.toList k)
  (P:(k.map (·.1)).Nodup) (G:k.length≤sizeLine) (R:k.length=t.size)
  (h:∀x i,(∀b o,s.heap.get? b=some o->x.get? b=some o)->lx w x s.heap.objs.size k->Q (.ref s.heap.objs.size) { s with heap:=x,toks:=i }) :
  wpAny (model prog w) A (call (.type "dict") [.ref a]) Q E s:=by
 have fresh:(s.heap.push { cls:=.type "dict",data:=.dict #[] }).DictOf (intKind prog w) s.heap.objs.size []:=.new s.heap;have p:lx w (s.heap.push { cls:=.type "dict",data:=.dict #[] }) s.heap.objs.size []:=⟨_,#[],0,aS _ rfl,⟨rfl,rfl,rfl⟩,rfl,rfl,jG⟩;have d:∀b o,s.heap.get? b=some o->(s.heap.push { cls:=.type "dict",data:=.dict #[] }).get? b=some o:=λb o=>aE _;have r:=wL (prog:=prog) (w:=w) (A:=A.in1) (E:=E) (s:=s) (Value.ref a) (Q₁:=λv z=>v=.ref s.heap.objs.size/\z={ s with heap:=s.heap.push { cls:=.type "dict",data:=.dict #[] } }) ⟨rfl,rfl⟩;apply wH vj (vm (.ref a)) vk r;rintro _ _ ⟨e,H⟩;subst e H;generalize s.heap.push { cls:=.type "dict",data:=.dict #[] }=N at fresh d p;have g:=d _ _ y;refine⟨fresh.typeIs,vl (.ref s.heap.objs.size) (.ref a),?_⟩;unfold Builtin.«dict.__init__» u4;apply ac;apply ac;apply yO fresh.typeIs;apply am;show wpAny _ _ (lz "dict.__init__" s.heap.objs.size (.ref a) [] .none) _ _ _;unfold lz;refine ac (jn (T:="list") ⟨_,g,rfl⟩ ?_);rw[ae (by decide)];refine ac (ux (name:="keys") g rfl rfl rfl F.list_no_keys (by decide) j λf tk u=>?_);rw[ae (by rfl)];refine ac (mn ?_);have q:=u _ _ g;have I:∀b o,s.heap.get? b=some o->f.get? b=some o:=λb o e=>u b o (d b o e);have c:lx w f s.heap.objs.size []:=p.at λo e=>u _ _ e;refine ac (o6 (l:=a) (items:=t) ⟨_,q,rfl,n,rfl⟩ ?_);refine am ⟨oZ F.plain_dict_update_loop _,?_⟩;have m:s.heap.objs.size < f.objs.size:=by obtain⟨o,_,_,B,_⟩:=c;exact ar B
 have S:s.heap.get? f.objs.size=none:=by
  cases e:s.heap.get? f.objs.size with
  |none=>rfl
  |some o=>exact absurd (ar e) (pC.mpr (cM m))
 have K:s.heap.get? s.heap.objs.size=none:=by
  cases e:s.heap.get? s.heap.objs.size with
  |none=>rfl
  |some o=>exact absurd (ar e) (cN _)
 refine x' (A:=A.in1) (w:=w) j (by rw[iT];lia) (h₀:=s.heap) (items:=t) (l:=a) K S (aL m) ⟨_,y,rfl,n,rfl⟩ k 0 [] _ (λb o e=>aE _ (I b o e)) ?_ (c.at λo e=>aE _ e) (λ_ D=>nomatch D) (by simpa using C) (by simpa using P) (by simpa using G) (by lia) λx i L M=>?_
 .exact⟨_,aS _ rfl,rfl,rfl⟩
 .exact⟨rfl,h x i L M⟩
end
end PySem
namespace Ev
open PySem PySem.Spec PyProof.Rows L2
noncomputable def rM:List P->Option (List P×List P)
 | []=>some ([],[])
 | .tup [k,v]::r=>(rM r).map λz=>(k::z.1,v::z.2)
 |_=>none
def Eu:List P->Bool
 | []=>true
 |k::s=>!lu k s && Eu s
theorem ni(g:bO k=true):∀{ks:List P},ks.all bO=true->(lu k ks=true↔pd k ∈ eZ ks)
 | [],_=>by simp[lu,eZ]
 |q::ks,h=>by rw[gG,aq]at h;have ih:=ni g h.2;unfold lu at ih ⊢;rw[cw,pW,ih,eZ,aH,Nk.eqv_kd _ _ (gh h.1) (gh g)];exact⟨λz=>z.imp Eq.symm id,λz=>z.imp Eq.symm id⟩
theorem AA:∀{s:List P},s.all bO=true->Eu s=true->(eZ s).Nodup
 | [],_,_=>jG
 |k::s,h,n=>by rw[gG,aq]at h;simp only[Eu,aq,jL]at n;refine bN.mpr ⟨λz=>?_,AA h.2 n.2⟩;rw[(ni h.1 h.2).mpr z]at n;cases n.1
theorem x5(e:rM (p::b)=some (f,t)):∃k v s x,p=.tup [k,v]/\rM b=some (s,x)/\f=k::s/\t=v::x:=by
 unfold rM at e;split at e
 .rename_i h;cases h
 .rename_i k v r h;cases h;obtain⟨z,a,e⟩:=b8.mp e;cases e;exact⟨k,v,z.1,z.2,rfl,a,rfl,rfl⟩
 .cases e
theorem oA(I:Inv X M J H s):∀{c a m:List P}{d:List V}{n:LV},bg X.K F H c d->aM d n->rM c=some (a,m)->a.all bO=true ->
  ∃(h:List (PyData×V×V))(f:List (PyData×Addr×Value)),h.map (·.1)=eZ a/\bg X.K F H a (h.map (·.2.1))/\bg X.K F H m (h.map (·.2.2))/\KN h f/\PySem.PairsN X.p X.w s.heap n f/\h.length=n.length
 | [],_,_,_,_,r,v,e,_=>by cases e;cases r;cases v;exact⟨[],[],rfl,rfl,rfl,.nil,.nil,rfl⟩
 |p::c,_,_,_,_,r,v,e,g=>by
  obtain⟨k,w,a,m,rfl,S,rfl,rfl⟩:=x5 e;rw[gG,aq]at g;obtain⟨x,xr,rfl,E,G⟩:=r;obtain⟨t,ys,rfl,R,N⟩:=E;obtain⟨y1,y2,rfl,q,L⟩:=FK N;cases v with
  | @cons _ u _ n T W=>cases (show u=Value.ref t from T);obtain⟨C,Q,B,_⟩:=I.tuple R.sq;obtain⟨Z,w2,rfl,K,A⟩:=vals2 Q;obtain⟨h,f,i,j,l,y,z,o⟩:=oA I G W S g.2;obtain⟨b,rfl,D⟩:=kJ I g.1 q;cases (show Z=Value.ref b from K);exact⟨(pd k,.ref b,y2)::h,(pd k,b,w2)::f,by rw[az,i];rfl,⟨_,_,rfl,q,j⟩,⟨_,_,rfl,L,l⟩,.cons ⟨rfl,rfl,A⟩ y,.cons B D z,by simp[o]⟩
def qI(C:EV):EE:=λL S=>aZ (C L S) λx h=>match x with
 | .lst p=>match rM p with
  |some (k,v)=>if (k.all bO && (Eu k && few p))=true then some (.ref h.length,h++[.dtn k (v.map .p)]) else none
  |none=>none
 |_=>none
section
variable{X:Cx}{a:Expr}{C:EV}{p c1:Pos}
theorem E4(hc:X.c=true)(hu:X.A.units+10 < cLine)(gd:Gl X "dict")(md:X.g "dict"=none)(ha:Y X a (tV X.K C))(Z:starEach [a] X.e=[(false,eval a X.e)]) :
  Y X (.Call (.Name "dict" p) [a] [] c1) (tE X.K (qI C)):=by
 intro M s J H Q I ⟨F,m,L,S,d,S',r,l,q,k⟩;obtain⟨x,N,e1,q⟩:=ah q;have hh:X.A.handled=none:=I.o.hd hc;refine eI (gO I gd md vY ?_ (by decide) (by decide));refine e7 ?_ (by rw[Z];rfl) rfl;rw[Z];refine bM (bB (ha M s J H (λv H1=>∃f t,Stp F m H f t H1/\Rel X.K f H1 t N/\RP X.K f H1 x v) I ⟨F,m,L,S,x,N,r,l,e1,λv f t H1 e j D=>⟨f,t,e,j,D⟩⟩) λu e ⟨v,H1,w,ru,f,t,E,j,D⟩=>cL ?_);cases x with
 |lst ps=>
  dsimp only at q;cases A:rM ps with
  |none=>rw[A]at q;cases q
  |some z=>
   obtain⟨ks,vs⟩:=z;rw[A]at q;dsimp only at q;split at q
   .rename_i c;simp only[aq]at c;obtain⟨W,g2,g3⟩:=c;cases q;obtain⟨P,xs,rfl,hq,rp⟩:=D;cases (show u=Value.ref P from ru);obtain⟨zl,i,n,rv,ho⟩:xs.length≤sizeLine/\∃(i:LV)(n:Nat),aM xs i/\e.heap.get? P=some { cls:=.type "list",data:=.seq i.toArray n }:=w.h P _ hq.2;obtain⟨b,G,y,R,T,K,V,a6⟩:=oA w rp rv A W;have el:b.length=G.length:=Paired.length K;have e2:=rv.length;have B:G.map (·.1)=b.map (·.1):=by
     clear y R T V a6 el;induction K with
     |nil=>rfl
     |cons h _ ih=>rw[az,az,ih,h.1]
    refine PySem.call_dict_nest hh hu ho (by simpa using V) (by rw[B,y];exact AA W g2) (by lia) (by simp;lia) λh' t' k1 k2=>?_;have g:H1 e.heap.objs.size=none:=w.h.fresh (ai _);obtain⟨ob,es,ep,h1,h2,h3,h4,h5⟩:=k2;have I3:=w.laid (a:=e.heap.objs.size) (o:=.dN b) (t':=t') k1 (ai _) ⟨by lia,eD.mpr (aG (aL w.big)),G,K,ob,es,ep,h1,h2,h3,h4,h5⟩;refine⟨.ref e.heap.objs.size,_,I3,rfl,k (.ref e.heap.objs.size) f (t++[e.heap.objs.size]) _ (E.trans (bH g)) (j.own g ⟨_,au,y,bg.kp (bH (m:=t) g).kp R,bJ.mono (bH g) (bJ.ofP T)⟩) ⟨e.heap.objs.size,rfl,?_⟩⟩;rw[<- j.len,bb (ai _)];simp
   .cases q
 |_=>cases q
end
theorem An{K:FG}{F B:Aa}{m G:List Addr}{H j:Hp}{S:aC}{p:Addr}{c:SO}(st:Stp F m H B G j)(r:Rel K B j G S)(t:H p=none)(l:¬B p)(nm:p ∉ G)(v:j p≠none)(q:RO K B j (G++[p]) p c) :
  Stp F m H B (G++[p]) j/\Rel K B j (G++[p]) (S++[c]):=by
 have g:Kp B G j B (G++[p]) j:=⟨⟨[p],rfl⟩,λ_ h=>h,λ_ _ _ h=>h,λ_ _ h=>h,λ_ _ _ h=>h⟩;have lt:∀{i:Nat}{a:Addr},(G++[p])[i]? = some a->i < G.length\/(i=G.length/\a=p):=λ{i a} e=>by
  rcases v4 i G.length with h|h
  .exact .inl h
  .rw [bb h]at e;have d:i-G.length=0:=by
    rcases v6 (i-G.length) with z|z
    .exact z
    .rw [lU (by simp;lia)]at e;cases e
   rw[d]at e;exact .inr ⟨by lia,by simpa using e.symm⟩
 refine⟨⟨?_,st.oth,st.frz,st.frk,st.tup,st.trk,st.nf,λb f=>?_,st.cod⟩,⟨by rw[bw,bw,r.len];rfl,?_,λi a o s x=>?_,λi a o s x w=>?_,λa k=>?_,r.ft⟩⟩
 .obtain⟨n,e⟩:=st.pre;exact⟨n++[p],by rw[e,iN]⟩
 .rcases dJ.mp f with f|f
  .exact st.nm b f
  .have:b=p:=by simpa using f
   subst this;exact .inr t
 .rw [jJ];refine⟨r.nd,by simp,λa k b f e=>?_⟩;have:b=p:=by simpa using f
  subst this;subst e;exact nm k
 .rcases lt s with h|⟨h,rfl⟩
  .rw [bu h]at s;rw[bu (by rw[<- r.len];exact h)]at x;exact(r.obj i a o s x).kp g λu z=>z
  .subst h;rw[r.len,bb (ai _)]at x;simp at x;subst x;exact q
 .rcases lt s with h|⟨h,rfl⟩
  .rw [bu h]at s;rw[bu (by rw[<- r.len];exact h)]at x;exact r.sep i a o s x w
  .exact l
 .rcases dJ.mp k with k|k
  .exact r.trk a k
  .have:a=p:=by simpa using k
   subst this;exact v
def Bk(f v:EV):EE:=λL S=>aZ (f L S) λk x=>aZ (v L x) λy h=>if bO k=true then some (.ref h.length,h++[.dtn [k] [.p y]]) else none
theorem E5{X:Cx}{N:Pos}{ke ve:Expr}{fk fv:EV}(hu:X.A.units+9 < cLine)(hk:Y X ke (tV X.K fk))(hv:Y X ve (tV X.K fv)):Y X (.Dict [some ke] [ve] N) (tE X.K (Bk fk fv)):=by
 intro M s J H Q I ⟨F,m,L,S,d,S',r,l,q,k⟩;obtain⟨e,R,e1,q⟩:=ah q;obtain⟨y,S2,e2,q⟩:=ah q;split at q;case isFalse=>cases q
 rename_i g;cases q;have i:H s.heap.objs.size=none:=I.h.fresh (ai _);have I1:=I.laid (a:=s.heap.objs.size) (o:=.dN []) (h':=s.heap.push { cls:=.type "dict",data:=.dict #[] }) (t':=s.toks) (fun _ _ q=>aE _ q) (ai _) (Bo s.heap I.big);refine wpAny_Dict_any rfl rfl (by simp) (by simp) (pairTrees_cons_walk (bB (hk M _ J _ (fun v j=>∃w P,Stp F m (a7 H s.heap.objs.size (.dN [])) w P j/\Rel X.K w j P R/\RP X.K w j e v) I1 ⟨F,m,L,S,e,R,r.new i,l.mono (cz i),e1,fun v w P j s2 r2 p2=>⟨w,P,s2,r2,p2⟩⟩) fun ku s2 ⟨kv,j,I2,rk,w,P,B,r2,pk⟩=>
  bB (hv M s2 J j (λv n=>∃h f,Stp w P j h f n/\Rel X.K h n f S2/\RP X.K h n y v) I2 ⟨w,P,L,R,y,S2,r2,(l.mono (cz i)).mono B,e2,λv h f n s3 C p3=>⟨h,f,s3,C,p3⟩⟩) λD s3 ⟨E,n,G,rv,h,f,qj,C,pv⟩=>pairTrees_nil_walk ?_))
 have t:=B.trans qj;have K:s.heap.objs.size ∉ m:=r.fresh_m i;have c:n s.heap.objs.size=some (.dN []):=t.oth _ _ au K;have Z:¬h s.heap.objs.size:=λz=>by
  rcases t.nf _ z with z|z|z
  .exact r.fresh_F i z
  .rw [au]at z;cases z
  .exact K z
 have nm:s.heap.objs.size ∉ f:=λz=>by
  rcases t.nm _ z with z|z
  .exact K z
  .rw [au]at z;cases z
 have nt:∀zs,n s.heap.objs.size≠some (.tup zs):=λzs z=>by rw[c]at z;cases z
 have nc:∀x u,n s.heap.objs.size≠some (.frz x (.own u)):=λx u z=>by rw[c]at z;cases z
 have A:RP X.K h n e kv:=RP.mono qj pk;obtain⟨b,V,ky⟩:=kJ G g A;subst V;cases (show ku=Value.ref b from rk);obtain⟨z,hd,xs,rel,dd⟩:=xJ G.h c (λp hp=>nomatch hp);cases rel;show wpAny _ _ (storeAll s.heap.objs.size [(Value.ref b,D)]) _ _ _;have es:storeAll s.heap.objs.size [(Value.ref b,D)]=(do dictSet s.heap.objs.size (Value.ref b) D;pure PUnit.unit):=by unfold storeAll;simp
 rw[es];refine ac (wX (knd:=Nk.nest X.p X.w) (hsz:=br _) (show(X.A).units+8 < cLine by lia) ky dd λh' T hs=>am ?_);have kb:Kp h f n h f (a7 n s.heap.objs.size (.dN [(pd e,.ref b,E)])):=Kp.bump Z nt nc;have st:Stp F m H h f (a7 n s.heap.objs.size (.dN [(pd e,.ref b,E)])):=((cz i).trans t).bump i;have ob:RO X.K h (a7 n s.heap.objs.size (.dN [(pd e,.ref b,E)])) (f++[s.heap.objs.size]) s.heap.objs.size (.dtn [e] [.p y]):=
  ⟨_,au,rfl,⟨_,_,rfl,RP.kp kb A,rfl⟩,⟨_,_,rfl,RP.kp kb pv,rfl⟩⟩
 obtain⟨a1,a2⟩:=An st (C.bump Z nm nt nc) i Z nm (by rw[au];exact λz=>nomatch z) ob;obtain⟨q,W,ep,hq,h2,h3,h4,_,h5⟩:=T;refine⟨.ref s.heap.objs.size,_,jZ (N:=.dN [(pd e,.ref b,E)]) G (by rw[c];exact True.intro) hs ⟨q,hq⟩ ⟨show 1≤sizeLine by decide,hd,[(pd e,b,D)],.cons ⟨rfl,rfl,rv⟩ .nil,q,W,ep,hq,h2,h3,h4,h5⟩,rfl,k _ h _ _ a1 a2 ⟨_,rfl,?_⟩⟩;rw[<- C.len,bb (ai _)];simp
section
variable{X:Cx}{u:Scope}{I:LS}{L:List Nat}{n:Nat}
theorem EM(i:Nat)(hN:X.N.Nodup)(h:BlockOk X u I L n)(w:X.c=true)
  (W:ln X tg iter f L n g fc fe) (hg:∀s H C y,PG (inn X u I s H C y) tg (gT X.K g)) (hc:∀s H C y,PIfs (inn X u I s H C y) z fc) (he:∀s H C y,Y (inn X u I s H C y) t (tV X.K fe))
  (o:closureFor u X.e=pure (jv u X.e)) (Z:swapsWith (.ListComp t [⟨tg,iter,z,0⟩] u N) (some (.Name x px)) T.line X.e=pure true:=by rfl)
  (hs:∀x,foldedSetIterable iter X.e x=pure x:=by intro _;rfl) (R:X.N[i]? = some x:=by rfl) (hx:Loc X.e.scope x:=by first|exact Or.inl rfl|exact Or.inr rfl)
  (hf:X.fn x=true\/X.e.scope.names.lookup x=some .local:=by first|exact .inl rfl|exact .inr rfl|assumption) :
  PS X (.Assign [.Name x px] (.ListComp t [⟨tg,iter,z,0⟩] u N) T) (h_ X.K (aF i (jb f))):=by
 intro M s J H D b ⟨F,m,c,S,fl,L',S',r,l,q,k⟩;obtain⟨d,S1,e1,q⟩:=ah q;cases q;obtain⟨v,S2,e2,e3⟩:=ah e1;rw[yM _ _ _ _ Z];refine ac (o0 (ac ?_));show wpAny _ _ (do let _ <- comprehension (.ListComp t [⟨tg,iter,z,0⟩] u N) u X.e _ (newList []) false (eval iter X.e) (some (assign (.Name x px) X.e))) _ _ s;obtain⟨wi,hi,W⟩:=W;obtain⟨ok,vs,S3,ds,rfl,P,hw,e4⟩:=W J H F m c S v _ r l e2;cases e3;refine ac (bv (iY (use:=some (assign (.Name x px) X.e)) (Q:=λ_ s'=>SP X M D .next s') h w hi hg hc he o hs b r l hw P e4 λp B G j sx C xs I' FA r0 f hC h0 h1 h2 h3 hz=>?_) (λ_ s' hq=>am (am hq)) λ_ _ e=>e);obtain⟨mC,V⟩:=hz;obtain⟨st,r'⟩:=sT FA r0 f;have rp:RD X.K B j (G++[p]) (.ref S2.length) (.ref p):=⟨p,rfl,by rw[<- r0.len,bb (ai _)];simp⟩;refine tL (kB I' hN R hx (v:=.ref p) rfl (λs' E A=>?_) hf);refine⟨mC,?_,λh' sb=>⟨_,j,E.letGo sb hC h0 h1 h2 h3,k _ _ (G++[p]) j st r' ((l.mono st).set (d:=.ref S2.length) rp i)⟩⟩;obtain⟨a,sbA,K⟩:=A;refine V.sameBut sbA ?_;rcases K with K|K
 .rw [K];exact h1
 .exact aG (h2 x a K)
end
end Ev
namespace Ev
open PySem PySem.Spec PyProof.Rows L2
def pureOf(g:GF)(p:List P):Option P:=match g (p.map .p) [] with
 |some (d,S)=>(toP 9 d S).map (·.1)
 |none=>none
@[simp] noncomputable def fQ:Option (Fl×Lc×aC)->Option (D×aC)
 |some (.rt d,_,S)=>some (d,S)
 |some (.nx,_,S)=>some (.p .non,S)
 |_=>none
def iu(p n:Nat)(b:ES):GF:=λd S=>if d.length=p then fQ (b (d.map some++List.replicate (n-d.length) none) S) else none
theorem Rel.nil{K:FG}{F:Aa}{H:Hp}(f:∀a,F a->H a≠none):Rel K F H [] []:=⟨rfl,by simp,by simp,by simp,by simp,f⟩
variable{K:FG}{H:Hp}
theorem mO(h:Kq K (pureOf g) A H s b):km K g A H s b:=by
 obtain⟨F,n,d,t,r,q,k⟩:=h;unfold pureOf at q;cases e:g (n.map .p) [] with
 |none=>rw[e]at q;cases q
 |some z=>
  obtain⟨a,S⟩:=z;rw[e]at q;dsimp only at q;cases x:toP 9 a S with
  |none=>rw[x]at q;cases q
  |some y=>obtain⟨p,P⟩:=y;rw[x]at q;cases q;refine⟨F,[],n.map .p,[],a,S,.nil t,bJ.ofP r,e,λv o B c j w i=>?_⟩;obtain⟨f,l,u,_,m⟩:=kA 9 x w i;exact k v f c ((j.trans l).toGrow u.ft) m
theorem FnOk.pure(G:FnOk s w K m base kW k f d p (km K g)):FnOk s w K m base kW k f d p (Kq K (pureOf g)):=
 FnOk.imp G λ_ _ _ _ h=>mO h
theorem bJ.toSt(r:bJ K F H m s k):RL K F H m (L2.start N k) (s.map some++List.replicate (N.length-s.length) none):=by
 have l:=r.length;refine⟨by unfold L2.start;simp[l],λi d e=>?_⟩;by_cases h:i < s.length
 .rw [bu (by simpa using h),cR]at e;cases q:s[i]? with
  |none=>rw[q]at e;cases e
  |some v=>rw[q]at e;cases e;obtain⟨x,a,p⟩:=r.get q;refine⟨x,?_,p⟩;unfold L2.start;rw[bu (by simpa[<- l] using h),cR,a];rfl
 .rw [bb (by simpa using h),pV]at e;split at e<;>cases e
theorem DQ{P:Program}{w:World}{K:FG}{m:SV}{base:Heap}{x u:Str}{st:Stmt}{f:Addr}{n:FuncData}{N a:LS}{k:Nat}{e:Sp}(F:Fun K x u st f n)(S:FnScope N a (aX st))(len:∀v H Q E,e v H Q E->v.length=a.length)
  (b:∀(c:Value),fN K c u=true->∀(A:Around) (o:List Env) (s:Shared) (H:Hp) (v:List V) (Q:VK) (E:XK),Room k (A.deeper (envOfC u (aX st) s.heap.objs.size f c))->e v H Q E ->
   ∃t,kT (sO kW P w K m base N u (aX st) f c A o s H E).nox (cU st) t/\t { nx:=λ_ r=>Q .non r,rt:=Q } (start N v) H):FnOk P w K m base kW (k+1) f n a e:=by
 obtain⟨B,C,z,kV,g,D,j,c,y,l,rfl,lk,d⟩:=F.ex;refine JK lk d S len λA o s H v Q E i p=>?_;obtain⟨t,h,q⟩:=b c d A o s H v Q E i p;exact⟨t,h.nox,q⟩
theorem G0{P:Program}{w:World}{K:FG}{y:SV}{base:Heap}{x u:Str}{st:Stmt}{f:Addr}{i:FuncData}{N p:LS}{k:Nat}{b:ES}(F:Fun K x u st f i)(S:FnScope N p (aX st))
  (M:∀(c:Value),fN K c u=true->∀(A:Around) (o:List Env) (s:Shared) (H:Hp) (E:XK),Room k (A.deeper (envOfC u (aX st) s.heap.objs.size f c)) ->
   kT (sO kW P w K y base N u (aX st) f c A o s H E).nox (cU st) (h_ K b)):FnOk P w K y base kW (k+1) f i p (km K (iu p.length N.length b)):=by
 refine DQ F S (λV H Q E h=>?_) (λc n A o s H V Q E R h=>⟨_,M c n A o s H E R,?_⟩)
 .obtain⟨F,m,a,S,d,G,C,r,q,k⟩:=h;rw[<- r.length];unfold iu at q;split at q
  .assumption
  .cases q
 .obtain⟨F,m,a,S,d,G,C,r,q,k⟩:=h;unfold iu at q;split at q
  .cases e:b (a.map some++List.replicate (N.length-a.length) none) S with
   |none=>rw[e]at q;cases q
   |some z=>
    obtain⟨l,L,I⟩:=z;rw[e]at q;refine⟨F,m,_,S,l,L,I,C,r.toSt,e,λW t j g D B X=>?_⟩;cases l with
    |nx=>cases q;exact k .non t j g D B rfl
    |bk=>cases q
    |ct=>cases q
    |rt dd=>intro v T;cases q;exact k v t j g D B T
  .cases q
theorem Ba{P:Program}{w:World}{K:FG}{g:SV}{base:Heap}{f:Addr}{x:FuncData}{p:LS}{k:Nat}:FnOk P w K g base kW k f x p (km K λ_ _=>none):=by
 have n:∀v H Q E,¬km K (λ_ _=>none) v H Q E:=λv H Q E h=>by obtain⟨F,m,b,S,d,e,_,_,q,_⟩:=h;cases q
 exact⟨λv H Q E h=>absurd h (n v H Q E),λA o s H a u v Q E _ _ _ _ h=>absurd h (n v H Q E)⟩
structure Tr where
 v:Option EV:=none
 e:Option EE:=none
 b:Option EB:=none
 w:Option EB:=none
def Tr.ofV(f:Option EV):Tr:=⟨f,f.map eV,f.map λg=>bT (eV g),f.map bV⟩
def Tr.ofC(f:Option EV):Tr:=⟨f,f.map eV,f.map bV,f.map bV⟩
def Tr.ofE(f:Option EE):Tr:=⟨f.map vE,f,f.map bT,f.map λg=>bV (vE g)⟩
def Tr.ofB(b w:Option EB):Tr:=⟨w.map vB,w.map λg=>eV (vB g),b,w⟩
structure Cn where
 N:LS
 own:LS
 deep:LS
 refs:LS
 ks:List (Str×NameKind)
 F:Str->Option GF
 G:Str->Option P
 A:Str->Str->Bool
 M:Str->Str->Option GF
 I:Str->Option GF
 L:Option GF
noncomputable def ir:LS->Str->Option Nat
 | [],_=>none
 |y::r,x=>if y=x then some 0 else (ir r x).map (·+1)
theorem m7:∀{N:LS}{x:Str}{i:Nat},ir N x=some i->N[i]? = some x
 | [],_,_,h=>by cases h
 |y::r,x,i,h=>by
  unfold ir at h;split at h
  .rename_i e;cases h;simp[e]
  .cases q:ir r x with
   |none=>rw[q]at h;cases h
   |some j=>rw[q]at h;cases h;simpa using m7 q
theorem k3:∀{N:LS}{x:Str}{i:Nat},N.Nodup->N[i]? = some x->ir N x=some i
 | [],_,_,_,h=>by simp at h
 |y::r,x,0,_,h=>by
  have:y=x:=by simpa using h
  unfold ir;rw[ae this]
 |y::r,x,i+1,d,h=>by
  have a:r[i]? = some x:=by simpa using h
  have n:¬y=x:=λe=>by subst e;exact(bN.mp d).1 (cx a)
  unfold ir;rw[ag n,k3 (bN.mp d).2 a];rfl
noncomputable def b7(s:List (Str×NameKind))(x:Str)(l:List NameKind):Bool:=match s.lookup x with
 |some k=>l.contains k
 |none=>false
noncomputable def fR(x:Str):Bool:=!(x == ("__debug__":Str)) && !(x == ("__classdict__":Str))
noncomputable def Md:LS:=["listed"]
noncomputable def BU:LS:=["Scene"]
def M6:Operator->Option (P->P->Option P)
 | .Add=>some bW
 | .Sub=>some qK
 | .Mult=>some fH
 | .FloorDiv=>some ce
 | .Mod=>some d9
 | .Pow=>some DW
 |_=>none
def Hy:CmpOp->Option (P->P->Option P)
 | .Lt=>some tq
 | .LtE=>some EG
 | .Gt=>some KR
 | .GtE=>some KS
 |_=>none
def J0:CmpOp->Option (D->D->aC->Option P)
 | .Eq=>some k5
 | .NotEq=>some DP
 | .In=>some A_
 | .NotIn=>some uJ
 | .Is=>some yH
 | .IsNot=>some eT
 |_=>none
def Bx (n:Bool) (o:CmpOp):Option (D->D->aC->Option P):=if n=true then (match o with
 | .NotIn=>some iX
 |_=>none) else J0 o
def mM:List (Option EV)->Option ki
 | []=>some aj
 |a::r=>a.bind λf=>(mM r).map λg=>O f g
def rB:List (Option EE)->Option qU
 | []=>some aO
 |a::r=>a.bind λf=>(rB r).map λg=>af f g
def rg(o:BoolOp):List (Option EB)->Option EB
 | []=>none
 | [a]=>a
 |a::r=>a.bind λf=>(rg o r).map λg=>match o with | .And=>yD f g | .Or=>KY f g
def Iu(o:Option (Option EV)):Option EO:=match o with
 |none=>some xu
 |some a=>a.map rS
def BE(f:Str):Option (List P->Option P):=
 if f=("int":Str) then some fV else if f=("list":Str) then some qP else if f=("tuple":Str) then some i0 else if f=("abs":Str) then some nJ else none
def Hc(f:Str):Option (List P->Option P):=if f=("max":Str) then some iF else if f=("min":Str) then some iD else none
noncomputable def D8:LS:=["len","isinstance","int","bool","tuple","list","str","max","min","dict","range","abs","enumerate","sorted","all","any","sum","set","zip"]
noncomputable def ox(a s:List (Str×NameKind)):List (Str×NameKind):=a.map λ(n,k)=>if (k == .free && s.lookup n == some .cell) then (n,.cell) else (n,k)
def uX(j:Cn)(E:Scope)(o:LS)(Q:List Nat)(n:Nat):Bool:=
 decide (E.kind=.function) && E.names.all (λx=>x.2 != .cell) && E.names.all (λx=>x.2 != .local ||E.names.lookup x.1 == some .local)
  && E.names.all (λx=>x.2 != .free ||(E.names.lookup x.1 == some .free && (j.ks.lookup x.1 == some .cell ||j.ks.lookup x.1 == some .free)))
  && decide (j.N=o.take j.N.length) && decide (o.length=j.N.length+n)
  && E.names.all (λx=>x.2 != .local ||match ir j.N x.1 with|some i=>Q.contains i|none=>true)
def m_(j:Cn)(f g:Str):Bool:=decide (f=g) && b7 j.ks f [.globalImplicit]
variable{B:Type}
noncomputable def i5:List B->Option B
 | [a]=>some a
 |_=>none
noncomputable def lp{B:Type}:List B->Option (B×B)
 | [a,b]=>some (a,b)
 |_=>none
theorem ci{B:Type}{l:List B}{a:B}(h:i5 l=some a):l=[a]:=by
 unfold i5 at h;split at h
 .cases h;rfl
 .cases h
theorem fy{B:Type}{l:List B}{a b:B}(h:lp l=some (a,b)):l=[a,b]:=by
 unfold lp at h;split at h
 .cases h;rfl
 .cases h
theorem ak{B e:Type}{x:Option B}{f:B->Option e}{r:e}(h:x.bind f=some r):∃a,x=some a/\f a=some r:=by
 cases x with
 |none=>cases h
 |some a=>exact⟨a,rfl,h⟩
theorem ao{B e:Type}{x:Option B}{f:B->e}{r:e}(h:x.map f=some r):∃a,x=some a/\r=f a:=by
 cases x with
 |none=>cases h
 |some a=>cases h;exact⟨a,rfl,rfl⟩
theorem Bt{B:Type}{c:Prop}[Decidable c]{f:c->Option B}{x:B}(h:(if q:c then f q else none)=some x):c:=by
 by_cases q:c
 .exact q
 .rw [dif_neg q]at h;cases h
section
variable{e:Expr}
noncomputable def Ax(e:Expr):Option Str:=if h:e.ctorIdx=23 then Expr.Name.elim e h λx _=>some x else none
theorem mY{x:Str}(h:Ax e=some x):∃p,e=.Name x p:=by have c:=Bt h;revert h;exact Expr.Name.elim e c λ_ p h=>by cases h;exact⟨p,rfl⟩
noncomputable def ik(e:Expr):Option (Ab):=if h:e.ctorIdx=25 then Expr.Tuple.elim e h λs _ _=>some s else none
theorem eM{s:Ab}(h:ik e=some s):∃c p,e=.Tuple s c p:=by have c:=Bt h;revert h;exact Expr.Tuple.elim e c λ_ c p h=>by cases h;exact⟨c,p,rfl⟩
noncomputable def xF(e:Expr):Option (Ab):=if h:e.ctorIdx=24 then Expr.List.elim e h λs _=>some s else none
theorem m9{s:Ab}(h:xF e=some s):∃p,e=.List s p:=by have c:=Bt h;revert h;exact Expr.List.elim e c λ_ p h=>by cases h;exact⟨p,rfl⟩
noncomputable def Ke(e:Expr):Option (Expr×Str×Pos):=if h:e.ctorIdx=20 then Expr.Attribute.elim e h λo m p=>some (o,m,p) else none
theorem BL{o:Expr}{m:Str}{p:Pos}(h:Ke e=some (o,m,p)):e=.Attribute o m p:=by have c:=Bt h;revert h;exact Expr.Attribute.elim e c λ_ _ _ h=>by cases h;rfl
noncomputable def Ks(e:Expr):Option (Expr×Expr):=if h:e.ctorIdx=21 then Expr.Subscript.elim e h λo i _=>some (o,i) else none
theorem FI{o i:Expr}(h:Ks e=some (o,i)):∃p,e=.Subscript o i p:=by have c:=Bt h;revert h;exact Expr.Subscript.elim e c λ_ _ p h=>by cases h;exact⟨p,rfl⟩
noncomputable def MP(e:Expr):Option (Option Expr×Option Expr×Option Expr):=if h:e.ctorIdx=26 then Expr.Slice.elim e h λi j k _=>some (i,j,k) else none
theorem FE{i j k:Option Expr}(h:MP e=some (i,j,k)):∃p,e=.Slice i j k p:=by have c:=Bt h;revert h;exact Expr.Slice.elim e c λ_ _ _ p h=>by cases h;exact⟨p,rfl⟩
noncomputable def MA(e:Expr):Option (Expr×Ab×Pos):=if h:e.ctorIdx=16 then Expr.Call.elim e h λf a k p=>if k.isEmpty=true then some (f,a,p) else none else none
theorem G'{f:Expr}{a:Ab}{p:Pos}(h:MA e=some (f,a,p)):e=.Call f a [] p:=by
 have c:=Bt h;revert h;exact Expr.Call.elim e c λ_ _ k _ h=>by
  cases k with
  |nil=>cases h;rfl
  |cons _ _=>cases h
end
def lj(e:Expr):Option (Str×Ab):=(MA e).bind λz=>(Ax z.1).map λr=>(r,z.2.1)
theorem d4{e:Expr}{r:Str}{a:Ab}(h:lj e=some (r,a)):∃p c,e=.Call (.Name r p) a [] c:=by obtain⟨⟨f,s,c⟩,x,n⟩:=ak h;obtain⟨m,k,b⟩:=ao n;obtain⟨p,rfl⟩:=mY k;cases b;exact⟨p,c,G' x⟩
def M9(e:Expr):Option ((Expr×Str×Pos)×Ab×Pos):=(MA e).bind λz=>(Ke z.1).map λr=>(r,z.2)
def Ew(j:Cn)(f:Str)(a:Expr):Option Expr:=(lj a).bind λz=>(i5 z.2).bind λb=>if (decide (f=("list":Str)) && m_ j z.1 "range")=true then some b else none
def ze(j:Cn)(f:Str)(a:Expr):Option (Expr×Expr):=(lj a).bind λz=>(lp z.2).bind λb=>if (decide (f=("dict":Str)) && m_ j z.1 "zip")=true then some b else none
def CO(j:Cn)(T:Expr->Tr)(t e:Expr):Option ki:=(lj e).elim ((T e).v.map iW) λz=>if m_ j z.1 "range"=true then (i5 z.2).bind λa=>(T a).v.map qA
  else if m_ j z.1 "enumerate"=true then (i5 z.2).bind λa=>if (ik t).isSome=true then (T a).v.map yg else none
  else if m_ j z.1 "zip"=true then (lp z.2).bind λa=>if (ik t).isSome=true then (T a.1).v.bind λx=>(T a.2).v.map λy=>MX x y else none
  else (T e).v.map iW
def Fi(N:LS)(s:List (Str×NameKind))(k:List NameKind)(e:Expr):Option i3:=(Ax e).bind λx=>if b7 s x k=true then (ir N x).map aQ else none
def zB(N:LS)(s:List (Str×NameKind))(k:List NameKind):Ab->Option (List i3)
 | []=>some []
 |e::r=>(Fi N s k e).bind λg=>(zB N s k r).map λh=>g::h
def CN(N:LS)(s:List (Str×NameKind))(k:List NameKind)(e:Expr):Option i3:=(ik e).elim (Fi N s k e) λh=>(zB N s k h).map cA
def dY(e:Expr):LS:=((ik e).getD [e]).filterMap Ax
noncomputable def kO(N:LS):LS->LS
 | []=>[]
 |t::r=>if (N.contains t ||(kO N r).contains t)=true then kO N r else t::kO N r
def KW(N:LS)(Q:LS):List Nat:=Q.filterMap λt=>ir N t
def I0(j:Cn)(e:Expr):Bool:=(Ax e).any (j.own.contains ·) ||(Ks e).any λz=>(Ax z.1).any (j.deep.contains ·)
def fO(j:Cn)(T:Cn->Expr->Tr)(y t iter:Expr)(i:Ab)(E:Scope):Option EV:=
 if (uX j E (j.N++kO j.N (dY t)) (KW j.N (dY t)) (kO j.N (dY t)).length && decide (j.N++kO j.N (dY t)).Nodup)=true then
  (CN (j.N++kO j.N (dY t)) (ox E.names j.ks) [.local] t).bind λg=>
   (match i with | []=>some lw | [c]=>(T ⟨j.N++kO j.N (dY t),j.own.filter (λx=>!(dY t).contains x),[],j.refs,ox E.names j.ks,j.F,j.G,j.A,j.M,j.I,none⟩ c).b|_=>none).bind λc=>
   (T ⟨j.N++kO j.N (dY t),j.own.filter (λx=>!(dY t).contains x),[],j.refs,ox E.names j.ks,j.F,j.G,j.A,j.M,j.I,none⟩ y).v.bind λe=>
   if I0 j iter=true then (T j iter).e.map λf=>zv f (KW j.N (dY t)) (kO j.N (dY t)).length g c e
   else (CO j (T j) t iter).map λh=>cJ h (KW j.N (dY t)) (kO j.N (dY t)).length g c e
 else none
def k4(j:Cn):Nat->Expr->Bool
 |0,_=>false
 |n+1,e=>(Ax e).any (j.own.contains ·) ||(Ks e).any (λz=>k4 j n z.1) ||(Ke e).any (λz=>k4 j n z.1) ||(M9 e).any λz=>decide (z.1.2.1=("setdefault":Str)) && k4 j n z.1.1
def Em(a:Ab):Option Expr:=(lp a).bind λz=>(xF z.2).bind λe=>if e.isEmpty=true then some z.1 else none
def sn(e:Expr):Bool:=[20,21,23].contains e.ctorIdx ||(M9 e).isSome
def DJ(e:Expr):Bool:=(Ax e).any (Md.contains ·)
def Jp(e:Expr):Option (Expr×Expr):=if h:e.ctorIdx=0 then Expr.BoolOp.elim e h λo s _=>(lp s).bind λz=>if (decide (o.ctorIdx=BoolOp.Or.ctorIdx) && (lj z.1).isSome)=true then some z else none else none
variable{e:Expr}{a:Expr}
theorem Dv(h:Jp e=some (a,b)):∃p,e=.BoolOp .Or [a,b] p:=by
 have c:=Bt h;revert h;exact Expr.BoolOp.elim e c λo k p h=>by
  obtain⟨z,n,x⟩:=ak h;split at x
  .rename_i s;cases x;rw[aq]at s;cases o with
   |Or=>exact⟨p,by rw[fy n]⟩
   |And=>cases aD s.1
  .cases x
noncomputable def dE(e:Expr):Bool:=e.ctorIdx == 8
def Hm(j:Cn)(o:Option EE)(os:Expr)(m:Str)(s:List (Option EE))(p c:Pos):Tr:=
 if (sn os && (p.endLine == c.line) && decide (s.length < 29))=true then .ofE (o.bind λx=>(rB s).map λa=>dC j.M x m a) else {}
def Gw(j:Cn)(o:Expr)(m:Str)(n:Str)(a c:Pos):Bool:=decide (m=n) && k4 j 4 o && sn o && (a.endLine == c.line)
def Hz(s:List Comprehension):Option (Expr×Expr×Ab):=(i5 s).bind λg=>if g.is_async=0 then some (g.target,g.iter,g.ifs) else none
def MM(j:Cn)(T:Expr->Tr)(f:Str)(s:Ab):Tr:=if (b7 j.ks f [.globalImplicit] && fR f && !s.isEmpty)=true then
  (j.I f).elim ((j.F f).elim
   ((i5 s).elim
    (.ofV ((Hc f).bind λg=>(mM (s.map λx=>(T x).v)).map λx=>aJ g x))
    λa=>if f=("len":Str) then .ofV ((T a).e.map d5) else if f=("sorted":Str) then .ofV ((T a).e.map zr) else
     (Ew j f a).elim ((ze j f a).elim (.ofV ((BE f).bind λg=>(mM [(T a).v]).map λx=>aJ g x)) λz=>.ofE ((T z.1).v.bind λx=>(T z.2).v.map λy=>Bi x y)) λb=>.ofV ((T b).v.map Il))
   λg=>if j.refs.contains f=true then .ofV ((rB (s.map λx=>(T x).e)).map λa=>bq g a) else .ofV ((mM (s.map λx=>(T x).v)).map λa=>aJ (pureOf g) a))
  λg=>.ofE ((rB (s.map λx=>(T x).e)).map λa=>gi (if BU.contains f=true then gD g else g) f a)
 else if (b7 j.ks f [.local] && fR f)=true then (i5 s).elim {} λa=>.ofV (j.L.bind λg=>(ir j.N f).bind λi=>(T a).v.map λx=>mJ g i x) else {}
def MN(j:Cn)(T:Expr->Tr)(o:Expr)(m:Str)(p:Pos)(s:Ab)(c:Pos):Tr:=(i5 s).elim
  (if (Gw j o m "clear" p c && s.isEmpty)=true then .ofE ((T o).e.map Bm) else if (decide (m=("get":Str)) && sn o && (p.endLine == c.line))=true then (lp s).elim {} (fun z=>.ofV ((T o).v.bind fun x=>(T z.1).v.bind fun y=>(T z.2).v.map fun z=>Ek x y z)) else
   (Em s).elim (Hm j (T o).e o m (s.map λx=>(T x).e) p c) λa=>if Gw j o m "setdefault" p c=true then .ofE ((T o).e.bind λx=>(T a).v.map λy=>xI x y (iz aj)) else Hm j (T o).e o m (s.map λx=>(T x).e) p c)
  λa=>if Gw j o m "append" p c=true then .ofE ((T o).e.bind λx=>(T a).e.map λy=>eE x y) else
   if Gw j o m "extend" p c=true then .ofE ((T o).e.bind λx=>(T a).v.map λy=>dR x y) else
   if (decide (m=("index":Str)) && sn o && (p.endLine == c.line))=true then .ofV ((T o).v.bind λx=>(T a).v.map λy=>zu x y) else
   if (decide (m=("count":Str)) && sn o && (p.endLine == c.line))=true then .ofV ((T o).v.bind λx=>(T a).v.map λy=>Io x y) else
   (ik a).elim (Hm j (T o).e o m (s.map λx=>(T x).e) p c) λe=>if Gw j o m "get" p c=true then .ofE ((T o).e.bind λx=>(mM (e.map λz=>(T z).v)).map λy=>sJ x y) else Hm j (T o).e o m (s.map λx=>(T x).e) p c
def Nq(j:Cn)(T:Expr->Tr)(d:Cn->Expr->Tr)(e:Expr):Tr:=match e with
  | .Constant c _ _=>match c with
   | .int i=>.ofV (some (vC (.int i)))
   | .bool i=>.ofV (some (vC (.bl i)))
   | .none=>.ofV (some (vC .non))
   | .str i=>.ofV (some (vC (.str i)))
   |_=>{}
  | .Name x _=>if (b7 j.ks x [.local,.cell,.free] && fR x)=true then .ofE ((ir j.N x).map U) else
    if (b7 j.ks x [.globalImplicit] && fR x)=true then .ofV ((j.G x).bind λv=>if AX v=true then none else some (vC v)) else {}
  | .BinOp a p b _=>.ofV ((M6 p).bind λg=>(T a).v.bind λx=>(T b).v.map λh=>aK g x h)
  | .UnaryOp p a _=>match p with
   | .USub=>.ofV ((T a).v.map (kl dj))
   | .Not=>(Jp a).elim (.ofB ((T a).b.map yC) ((T a).w.map yC)) λz=>{ Tr.ofV ((T z.1).v.bind λx=>(T z.2).v.map λh=>zt x h) with b:=none }
   |_=>{}
  | .BoolOp p s _=>.ofB (rg p (s.map λx=>(T x).b)) (rg p (s.map λx=>(T x).w))
  | .Compare a n r _=>(i5 n).elim (.ofC ((lp n).bind λo=>(lp r).bind λz=>(Hy o.1).bind λg=>(Hy o.2).bind λu=>(T a).v.bind λx=>(T z.1).v.bind λh=>(T z.2).v.map λz=>eK g u x h z))
    λp=>(i5 r).elim {} λb=>(Hy p).elim (.ofC ((Bx (DJ b) p).bind λg=>(T a).e.bind λx=>(T b).e.map λh=>bY g x h)) λg=>.ofC ((T a).v.bind λx=>(T b).v.map λh=>aK g x h)
  | .IfExp c a b _=>if (k4 j 4 a ||k4 j 4 b)=true then { Tr.ofE ((T c).b.bind λq=>(T a).e.bind λx=>(T b).e.map λh=>Mu q x h) with b:=none } else { Tr.ofV ((T c).b.bind λq=>(T a).v.bind λx=>(T b).v.map λh=>Im q x h) with b:=none }
  | .Tuple s _ _=>.ofV ((mM (s.map λx=>(T x).v)).map aR)
  | .List s _=>.ofV ((mM (s.map λx=>(T x).v)).map be)
  | .Dict k H _=>if (k.isEmpty && H.isEmpty)=true then { e:=some Bl,v:=some (vE Bl) } else {}
  | .Subscript a i _=>(MP i).elim (if DJ a=true then .ofE ((T a).e.bind λx=>(T i).v.map λh=>JP x h) else if k4 j 4 a=true then (ik i).elim (.ofE ((T a).e.bind λx=>(T i).v.map λh=>i7 x h)) λs=>.ofE ((T a).e.bind λx=>(mM (s.map λz=>(T z).v)).map λh=>sI x h) else .ofV ((T a).v.bind λx=>(T i).v.map λh=>aK bD x h))
    λz=>if z.2.2.isSome=true then {} else if k4 j 4 a=true then .ofV ((T a).e.bind λx=>(Iu (z.1.map λh=>(T h).v)).bind λh=>(Iu (z.2.1.map λz=>(T z).v)).map λz=>Ik x h z) else .ofV ((T a).v.bind λx=>(Iu (z.1.map λh=>(T h).v)).bind λh=>(Iu (z.2.1.map λz=>(T z).v)).map λz=>CH x h z)
  | .Call t m k w=>if k.isEmpty=true then (Ax t).elim ((Ke t).elim {} λz=>MN j T z.1 z.2.1 z.2.2 m w) (λf=>MM j T f m) else {}
  | .Attribute o f _=>if sn o=true then .ofE ((T o).e.map λx=>bZ j.A x f) else {}
  | .ListComp y l E _=>(Hz l).elim {} λz=>.ofV (fO j d y z.1 z.2.1 z.2.2 E)
  |_=>{}
def tr(j:Cn):Nat->Expr->Tr
 |0,_=>{}
 |n+1,e=>Nq j (λx=>tr j n x) (λh x=>tr h n x) e
def GD(e:Expr):Bool:=match e with
 | .Lambda ⟨[],[⟨x,none,_⟩],none,[],[],none,[]⟩ (.Call (.Name g _) [.Name r _,.Name y _] [] _) sc p=>decide (x=Str.ofString "standing") && decide (g=Str.ofString "ends_on") && decide (r=Str.ofString "board") && decide (y=Str.ofString "standing") && decide (sc=lr) && decide (p=qx)
 |_=>false
theorem DE(h:GD e=true):∃p x a s n,e=.Lambda (si p) (qy x a s n) lr qx:=by
 unfold GD at h;split at h
 .simp only[aq,pI]at h;obtain⟨⟨⟨⟨⟨rfl,rfl⟩,rfl⟩,rfl⟩,rfl⟩,rfl⟩:=h;exact⟨_,_,_,_,_,rfl⟩
 .cases h
def GG(j:Cn)(a:Ab):Option Expr:=(lp a).bind λz=>if (GD z.2 && j.deep.contains (Str.ofString "<lambda>") && b7 j.ks (Str.ofString "board") [.cell])=true then some z.1 else none
def CP(j:Cn)(n _k:Nat)(e:Expr):Option EE:=(lj e).elim (tr j n e).e λz=>if (b7 j.ks z.1 [.globalImplicit] && fR z.1 && !z.2.isEmpty && j.deep.contains z.1)=true then
   (j.F z.1).elim (tr j n e).e λg=>(GG j z.2).elim ((rB (z.2.map λx=>(tr j n x).e)).map λa=>d8 g a) λa=>(ir j.N (Str.ofString "board")).bind λi=>(tr j n a).v.map λx=>qJ g i x
  else (tr j n e).e
def Kn(j:Cn)(n k:Nat)(e:Expr):Option EE:=(xF e).elim (CP j n k e) λs=>(rB (s.map λx=>CP j n k x)).map EC
structure XOk(Γ:Cn)(X:Cx):Prop where
 hN:X.N=Γ.N
 nd:X.N.Nodup
 ks:X.e.scope.names=Γ.ks
 kd:X.e.scope.kind=.function
 calm:X.c=true
 hu:X.A.units+64 < cLine
 fns:∀x g,Γ.F x=some g->∃k f fd ps,FnOk X.p X.w X.K X.g X.b kW k f fd ps (km X.K g)/\Room k X.A/\X.g x=some (.ref f)/\cC X.K (.ref f)=true/\Binds X.K fd ps []
 blt:∀x ∈ D8,X.g x=none
 glb:∀x v,Γ.G x=some v->kh X.w X.K X.g x v
 attrs:K4 X.K Γ.A
 meths:K2 X Γ.M
 mks:∀c g,Γ.I c=some g->∃C k f fd ps,gv X.K c C/\X.g c=some (.ref C)/\Mk X.K C f/\FnOk X.p X.w X.K X.g X.b kW k f fd ps (km X.K g)/\Room (k+1) X.A/\Binds X.K fd ps (if BU.contains c=true then [.none] else [])
 lam:Γ.deep.contains (Str.ofString "<lambda>")=true->EI X/\∀x,X.fn x=true
 lmf:∀g,Γ.L=some g->∃k f fd ps,FnOk X.p X.w X.K X.g X.b kW k f fd ps (km X.K g)/\Room (k+1) X.A/\X.g "ends_on"=some (.ref f)/\cC X.K (.ref f)=true/\Binds X.K fd ps []
structure Good(X:Cx)(ex:Expr)(t:Tr):Prop where
 v:∀f,t.v=some f->Y X ex (tV X.K f)
 e:∀f,t.e=some f->Y X ex (tE X.K f)
 b:∀f,t.b=some f->PT X ex (tQ X.K f)
 w:∀f,t.w=some f->Y X ex (tV X.K (vB f))
section
variable{X:Cx}{e:Expr}
theorem Good.no:Good X e {}:=⟨λ_ h=>(by cases h),λ_ h=>(by cases h),λ_ h=>(by cases h),λ_ h=>(by cases h)⟩
theorem Good.el{B:Type}{o:Option B}{b:Tr}{f:B->Tr}(h:∀a,o=some a->Good X e (f a))(x:o=none->Good X e b):Good X e (o.elim b f):=by
 cases o with
 |none=>exact x rfl
 |some a=>exact h a rfl
theorem Good.ite{c:Prop}[Decidable c]{a b:Tr}(h:c->Good X e a)(x:Good X e b):Good X e (if c then a else b):=by
 by_cases q:c
 .rw [ae q];exact h q
 .rw [ag q];exact x
def BP(e:Expr):Prop:=∀env w,isTrue e env w=(do let v <- w;standAt e.pos;holding [v] (truthy v))
theorem Good.ofV{t:Option EV}(h:∀f,t=some f->Y X e (tV X.K f))(p:BP e):Good X e (.ofV t) where
 v:=h
 e:=λf q=>by
  cases t with
  |none=>cases q
  |some g=>cases q;exact EY (h _ rfl)
 b:=λf q=>by
  cases t with
  |none=>cases q
  |some g=>cases q;exact yT (EY (h _ rfl)) (p _)
 w:=λf q=>by
  cases t with
  |none=>cases q
  |some g=>cases q;exact ol (h _ rfl)
theorem Good.ofC{t:Option EV}(h:∀f,t=some f->Y X e (tV X.K f))(x:∀f,t=some f->PT X e (tQ X.K (bV f))):Good X e (.ofC t) where
 v:=h
 e:=λf q=>by
  cases t with
  |none=>cases q
  |some g=>cases q;exact EY (h _ rfl)
 b:=λf q=>by
  cases t with
  |none=>cases q
  |some g=>cases q;exact x _ rfl
 w:=λf q=>by
  cases t with
  |none=>cases q
  |some g=>cases q;exact ol (h _ rfl)
theorem Good.ofE{t:Option EE}(h:∀f,t=some f->Y X e (tE X.K f))(p:BP e):Good X e (.ofE t) where
 v:=λf q=>by
  cases t with
  |none=>cases q
  |some g=>cases q;exact HV (h _ rfl)
 e:=h
 b:=λf q=>by
  cases t with
  |none=>cases q
  |some g=>cases q;exact yT (h _ rfl) (p _)
 w:=λf q=>by
  cases t with
  |none=>cases q
  |some g=>cases q;exact ol (HV (h _ rfl))
theorem Good.ofB{b w:Option EB}(x:∀f,b=some f->PT X e (tQ X.K f))(h:∀f,w=some f->Y X e (tV X.K (vB f))):Good X e (.ofB b w) where
 v:=λf q=>by
  cases w with
  |none=>cases q
  |some g=>cases q;exact h _ rfl
 e:=λf q=>by
  cases w with
  |none=>cases q
  |some g=>cases q;exact EY (h _ rfl)
 b:=x
 w:=h
end
theorem d0{B x:Type}{o:Option B}{b r:x}{f:B->x}(h:o.elim b f=r):(∃a,o=some a/\f a=r)\/(o=none/\b=r):=by
 cases o with
 |none=>exact .inr ⟨rfl,h⟩
 |some a=>exact .inl ⟨a,rfl,h⟩
def du(e:Expr):Prop:=∀s env,starEach (e::s) env=(false,eval e env)::starEach s env
structure RdE(e:Expr):Prop where
 st:du e
 ix:i4 e
 mr:∀op,behindInMarks op e=false
 ms:∀op op' b,lastMarks [op,op'] [b,e]=false
 ps:nN e
 sw:dE e=false->∀t l env,swapsWith e t l env=pure false
 fs:∀env x,foldedSetIterable e env x=pure x
theorem rd_of{j:Cn}{n:Nat}{e:Expr}(h:(tr j n e).v.isSome=true\/(tr j n e).e.isSome=true):RdE e:=by
 cases n with
 |zero=>rcases h with h|h<;>cases h
 |succ n=>cases e<;>first|(rcases h with h|h<;>cases h;done)|exact⟨λ_ _=>rfl,λ_ _=>rfl,λ_=>rfl,λ_ _ _=>rfl,λ_ _ _ _=>rfl,λc _ _ _=>(by first|rfl|cases c),λ_ _=>rfl⟩
theorem cY{j:Cn}{n:Nat}{e:Expr}{f:EV}(h:(tr j n e).v=some f):RdE e:=rd_of (.inl (by rw[h];rfl))
theorem mR{j:Cn}{n:Nat}{e:Expr}{f:EE}(h:(tr j n e).e=some f):RdE e:=rd_of (.inr (by rw[h];rfl))
variable{env:Env}{u:Pos}
theorem fJ(h:∀e ∈ s,du e):(backTo u (starEach s env)).any (·.1)=false:=by
 induction s with
 |nil=>rfl
 |cons e s i=>
  rw[h e aV s env];have:=i λx a=>h x (aW _ a)
  unfold backTo at this ⊢;rw[az,cw,this];rfl
section
variable{j:Cn}{X:Cx}(h:XOk j X)
include h
theorem XOk.gl(q:b7 j.ks x [.globalImplicit]=true):Gl X x:=by
 unfold Gl Env.kindOf;rw[h.ks];unfold b7 at q;cases e:j.ks.lookup x with
 |none=>rw[e]at q;cases q
 |some k=>rw[e]at q;cases k<;>first|rfl|cases q
theorem XOk.vis(q:b7 j.ks x [.local,.cell,.free]=true):Ee X.e.scope x:=by
 unfold Ee;rw[h.ks];unfold b7 at q;cases e:j.ks.lookup x with
 |none=>rw[e]at q;cases q
 |some k=>rw[e]at q;cases k<;>first|exact .inl rfl|exact .inr (.inl rfl)|exact .inr (.inr rfl)|cases q
theorem XOk.loc(q:b7 j.ks x [.local,.cell]=true):L2.Loc X.e.scope x:=by
 unfold L2.Loc;rw[h.ks];unfold b7 at q;cases e:j.ks.lookup x with
 |none=>rw[e]at q;cases q
 |some k=>rw[e]at q;cases k<;>first|exact .inl rfl|exact .inr rfl|cases q
theorem XOk.local(q:b7 j.ks x [.local]=true):X.e.scope.names.lookup x=some .local:=by
 rw[h.ks];unfold b7 at q;cases e:j.ks.lookup x with
 |none=>rw[e]at q;cases q
 |some k=>rw[e]at q;cases k<;>first|rfl|cases q
omit h in
theorem cc{x:Str}(q:fR x=true):(x == ("__debug__":Str))=false/\(x == ("__classdict__":Str))=false:=by unfold fR at q;rw[aq]at q;exact⟨by simpa using q.1,by simpa using q.2⟩
theorem XOk.get(q:ir j.N x=some i):X.N[i]? = some x:=by rw[h.hN];exact m7 q
omit h in
theorem dM{j:Cn}{n:Nat}:∀{s:Ab}{k:ki},(∀e ∈ s,Good X e (tr j n e))->mM (s.map λx=>(tr j n x).v)=some k->PA X s (lq X.K k)/\∀e ∈ s,du e
 | [],k,_,q=>by cases q;exact⟨Ec,λ_ z=>by cases z⟩
 |e::s,k,g,q=>by
  obtain⟨f,b,p⟩:=ak q;obtain⟨r,v,rfl⟩:=ao p;obtain⟨m,t⟩:=dM (λx a=>g x (aW _ a)) v;have b:(tr j n e).v=some f:=b;have c:du e:=(cY b).st;refine⟨BO ((g e aV).v f b) m (c _ _),λx a=>?_⟩;rcases aH.mp a with a|a
  .subst a;exact c
  .exact t x a
omit h in
theorem jR{j:Cn}{n:Nat}:∀{s:Ab}{k:qU},(∀e ∈ s,Good X e (tr j n e))->rB (s.map λx=>(tr j n x).e)=some k->PA X s (tj X.K k)/\∀e ∈ s,du e
 | [],k,_,q=>by cases q;exact⟨EF,λ_ z=>by cases z⟩
 |e::s,k,g,q=>by
  obtain⟨f,b,p⟩:=ak q;obtain⟨r,v,rfl⟩:=ao p;obtain⟨m,t⟩:=jR (λx a=>g x (aW _ a)) v;have b:(tr j n e).e=some f:=b;have c:du e:=(mR b).st;refine⟨Bu ((g e aV).e f b) m (c _ _),λx a=>?_⟩;rcases aH.mp a with a|a
  .subst a;exact c
  .exact t x a
omit h in
theorem rc{o:BoolOp}{u:Pos}{j:Cn}{n:Nat}:∀{s:Ab}{f:EB},(∀e ∈ s,Good X e (tr j n e))->rg o (s.map λx=>(tr j n x).b)=some f->PW X (.BoolOp o s u) (tQ X.K f)
 | [],f,_,q=>by cases q
 | [a],f,g,q=>by
  cases o with
  |And=>exact HP ((g a aV).b f q)
  |Or=>exact K' ((g a aV).b f q)
 |a::b::s,f,g,q=>by
  obtain⟨x,k,m⟩:=ak q;obtain⟨r,t,rfl⟩:=ao m;have i:=rc (s:=b::s) (u:=u) (λx c=>g x (aW _ c)) t;cases o with
  |And=>exact Ld ((g a aV).b x k) i
  |Or=>exact Ni ((g a aV).b x k) i
omit h in
theorem re{o:BoolOp}{u:Pos}{j:Cn}{n:Nat}:∀{s:Ab}{f:EB},(∀e ∈ s,Good X e (tr j n e))->rg o (s.map λx=>(tr j n x).w)=some f->Y X (.BoolOp o s u) (tV X.K (vB f))
 | [],f,_,q=>by cases q
 | [a],f,g,q=>Ie ((g a aV).w f q)
 |a::b::s,f,g,q=>by
  obtain⟨x,k,m⟩:=ak q;obtain⟨r,t,rfl⟩:=ao m;have i:=re (s:=b::s) (u:=u) (λx c=>g x (aW _ c)) t;cases o with
  |And=>exact Ly ((g a aV).w x k) i
  |Or=>exact Nj ((g a aV).w x k) i
omit h in
theorem qd{j:Cn}{n:Nat}{o:Option Expr}{f:EO}(g:∀e,Good X e (tr j n e))(q:Iu (o.map λy=>(tr j n y).v)=some f):PO X o (tO X.K f):=by
 cases o with
 |none=>cases q;exact Gr
 |some e=>obtain⟨x,a,rfl⟩:=ao (show((tr j n e).v).map rS=some f from q);exact Gq ((g e).v x a)
theorem Ha{o:Operator}{g:P->P->Option P}(q:M6 o=some g):ly X (binaryOp o) g:=by cases o<;>first|(cases q;exact Gn)|(cases q;exact Jd)|(cases q;exact Gm)|(cases q;exact Ds)|(cases q;exact Jh)|(cases q;exact Je)|cases q
omit h in
theorem kN{o:CmpOp}{g:P->P->Option P}(q:Hy o=some g):ly X (compareOp o) g:=by cases o<;>first|(cases q;exact L8)|(cases q;exact L9)|(cases q;exact L_)|(cases q;exact Ma)|cases q
theorem DY{o:CmpOp}{g:D->D->aC->Option P}(q:J0 o=some g):fK X (compareOp o) (rE X.K g):=by cases o<;>first|(cases q;exact Jm h.hu)|(cases q;exact Jf h.hu)|(cases q;exact Jk h.hu)|(cases q;exact Au h.hu)|(cases q;exact Ji)|(cases q;exact Av)|cases q
theorem sQ(q:Bx k p=some g):fK X (compareOp p) (rE X.K g):=by
 cases k
 .exact DY h q
 .cases p<;>first|(cases q;exact As h.hu)|cases q
theorem D3{f:Str}{g:GF}{a:Expr}{s:Ab}{x:ki}{b u:Pos}(t:j.F f=some g)(hk:b7 j.ks f [.globalImplicit]=true)(v:fR f=true)(c:PA X (a::s) (lq X.K x))(n:∀e ∈ a::s,du e) :
  Y X (.Call (.Name f b) (a::s) [] u) (tV X.K (aJ (pureOf g) x)):=by
 obtain⟨k,w,i,l,G,d,q,p,m⟩:=h.fns f g t;exact Ic (FnOk.pure G) d (h.gl hk) q p m c (cc v).1 (n a aV _ _) (fJ λe r=>n e (aW _ r))
theorem sY{f:Str}{g:GF}{a:Expr}{s:Ab}{x:qU}{c u:Pos}(d:j.F f=some g)(hk:b7 j.ks f [.globalImplicit]=true)(q:fR f=true)(m:PA X (a::s) (tj X.K x))(n:∀e ∈ a::s,du e) :
  Y X (.Call (.Name f c) (a::s) [] u) (tV X.K (bq g x))/\Y X (.Call (.Name f c) (a::s) [] u) (tE X.K (d8 g x)):=by
 obtain⟨k,w,i,l,G,v,t,p,r⟩:=h.fns f g d;exact⟨CA G v (h.gl hk) t p r m (cc q).1 (n a aV _ _) (fJ fun e b=>n e (aW _ b)),
  E_ G v (h.gl hk) t p r m (cc q).1 (n a aV _ _) (fJ λe b=>n e (aW _ b))⟩
theorem Hb{f:Str}{g:List P->Option P}{a:Expr}{n:Ab}{b:ki}{m u:Pos}(x:BE f=some g)(hk:b7 j.ks f [.globalImplicit]=true)(k:PA X (a::n) (lq X.K b))(c:∀e ∈ a::n,du e) :
  Y X (.Call (.Name f m) (a::n) [] u) (tV X.K (aJ g b)):=by
 have s:=c a aV n X.e;have p:=fJ (env:=X.e) (u:=u) λe s=>c e (aW _ s);unfold BE at x;split at x
 .rename_i e;subst e;cases x;exact ER (h.gl hk) (h.blt _ (by decide)) k s p
 split at x
 .rename_i e;subst e;cases x;exact EQ (h.gl hk) (h.blt _ (by decide)) k s p
 split at x
 .rename_i e;subst e;cases x;exact Cy (h.gl hk) (h.blt _ (by decide)) k s p
 split at x
 .rename_i e;subst e;cases x;exact HS (h.gl hk) (h.blt _ (by decide)) k s p
 .cases x
theorem D9(x:Hc f=some g)(hk:b7 j.ks f [.globalImplicit]=true)(n:PA X (a::k) (lq X.K c))(b:∀e ∈ a::k,du e) :
  Y X (.Call (.Name f m) (a::k) [] u) (tV X.K (aJ g c)):=by
 have s:=b a aV k X.e;have p:=fJ (env:=X.e) (u:=u) λe s=>b e (aW _ s);unfold Hc at x;split at x
 .rename_i e;subst e;cases x;exact HR (h.gl hk) (h.blt _ (by decide)) n h.calm s p
 split at x
 .rename_i e;subst e;cases x;exact HQ (h.gl hk) (h.blt _ (by decide)) n h.calm s p
 .cases x
omit h in
theorem fD{f g:Str}(q:m_ j f g=true):f=g/\b7 j.ks f [.globalImplicit]=true:=by unfold m_ at q;rw[aq]at q;exact⟨aD q.1,q.2⟩
theorem Ex{n:Nat}{v e:Expr}{f:ki}(g:∀x,Good X x (tr j n x))(q:CO j (λx=>tr j n x) v e=some f):PI X v e (tI X.K f):=by
 have plain:((tr j n e).v.map iW=some f)->PI X v e (tI X.K f):=λq=>by obtain⟨x,s,rfl⟩:=ao q;exact iS ((g e).v x s)
 have H:=d0 q;clear q;rcases H with ⟨⟨S,d⟩,z,q⟩|⟨_,q⟩
 .obtain⟨F,u,rfl⟩:=d4 z;dsimp only at q;split at q
  .rename_i r;obtain⟨rfl,r⟩:=fD r;obtain⟨a,m,k⟩:=ak q;clear q;cases ci m;obtain⟨x,s,rfl⟩:=ao k;exact NJ (h.gl r) (h.blt ("range":Str) (by decide)) ((g a).v x s) ((cY s).st _ _)
  .split at q
   .rename_i r;obtain⟨rfl,r⟩:=fD r;obtain⟨a,m,k⟩:=ak q;clear q;cases ci m;split at k
    .rename_i t;obtain⟨x,s,rfl⟩:=ao k;obtain⟨l,t⟩:=lK.mp t;obtain⟨c,p,rfl⟩:=eM t;exact NK (h.gl r) (h.blt ("enumerate":Str) (by decide)) ((g a).v x s) ((cY s).st _ _)
    .cases k
   .split at q
    .rename_i r;obtain⟨rfl,r⟩:=fD r;obtain⟨⟨a,b⟩,m,k⟩:=ak q;clear q;cases fy m;split at k
     .rename_i t;obtain⟨x,s,o⟩:=ak k;obtain⟨y,w,rfl⟩:=ao o;obtain⟨l,t⟩:=lK.mp t;obtain⟨c,p,rfl⟩:=eM t;have i:starEach [b] X.e=[(false,eval b X.e)]:=(cY w).st _ _;exact iZ (h.gl r) (h.blt ("zip":Str) (by decide)) ((g a).v x s) ((g b).v y w) (by rw[(cY s).st,i]) i
     .cases k
    .exact plain q
 .exact plain q
omit h in
theorem xS{f:Str}{a b c:Expr}(q:ze j f a=some (b,c)):f="dict"/\∃r p x,a=.Call (.Name r p) [b,c] [] x/\m_ j r "zip"=true:=by
 obtain⟨⟨r,m⟩,z,n⟩:=ak q;obtain⟨⟨t,v⟩,k,s⟩:=ak n;clear q n;obtain⟨p,x,rfl⟩:=d4 z;cases fy k;split at s
 .rename_i e;cases s;simp only[aq]at e;exact⟨aD e.1,r,p,x,rfl,e.2⟩
 .cases s
omit h in
theorem AG{f:Str}{a b:Expr}(q:Ew j f a=some b):f="list"/\∃r p c,a=.Call (.Name r p) [b] [] c/\m_ j r "range"=true:=by
 obtain⟨⟨r,m⟩,z,s⟩:=ak q;obtain⟨t,k,e⟩:=ak s;clear q s;obtain⟨p,n,rfl⟩:=d4 z;cases ci k;split at e
 .rename_i x;cases e;simp only[aq]at x;exact⟨aD x.1,r,p,n,rfl,x.2⟩
 .cases e
omit h in
theorem sm{n:Nat}{t e:Expr}{f:ki}(q:CO j (λx=>tr j n x) t e=some f)(env:Env)(x:Value):foldedSetIterable e env x=pure x:=by
 have s:=d0 q;clear q;rcases s with ⟨⟨b,a⟩,z,q⟩|⟨_,q⟩
 .obtain⟨p,u,rfl⟩:=d4 z;rfl
 .obtain⟨x,k,rfl⟩:=ao q;exact(cY k).fs _ _
theorem BF(q:uX j E o Q n=true):BlockOk X E o Q n:=by
 unfold uX at q;simp only[aq]at q;obtain⟨⟨⟨⟨⟨⟨f,b⟩,c⟩,m⟩,r⟩,p⟩,v⟩:=q;have s:j.N=o.take j.N.length:=aD r;refine⟨aD f,λx a=>?_,λx a l=>?_,λx a l=>?_,?_,?_,λx a l i k=>?_⟩
 .simpa using bt.mp b x a
 .have:=bt.mp c x a;rw[l]at this;simpa using this
 .have:=bt.mp m x a;rw[l]at this;have t:E.names.lookup x.1=some .free/\(j.ks.lookup x.1=some .cell\/j.ks.lookup x.1=some .free):=by simpa using this
  refine⟨t.1,?_⟩;unfold Env.kindOf;rw[h.ks];exact t.2
 .rw [h.hN];exact s
 .rw [h.hN];exact aD p
 .have:=bt.mp v x a;rw[l]at this;have e:ir j.N x.1=some i:=k3 (by rw[<- h.hN];exact h.nd) (by rw[<- h.hN];exact k);rw[e]at this;simpa using this
end
theorem Et{X:Cx}{N:LS}{s:List (Str×NameKind)}{k:List NameKind}{e:Expr}{g:i3}(f:X.N=N)(d:X.N.Nodup)(hk:∀x,b7 s x k=true->L2.Loc X.e.scope x/\(X.fn x=true\/X.e.scope.names.lookup x=some .local))(q:Fi N s k e=some g):∃x p,e=.Name x p/\PG X (.Name x p) (gT X.K g):=by
 obtain⟨x,b,h⟩:=ak q;clear q;obtain⟨p,rfl⟩:=mY b;split at h
 .rename_i c;obtain⟨i,m,rfl⟩:=ao h;obtain⟨a,n⟩:=hk _ c;exact⟨x,p,rfl,GZ i d (by rw[f];exact m7 m) a n⟩
 .cases h
theorem tg_ok{X:Cx}{N:LS}{n:List (Str×NameKind)}{k:List NameKind}{e:Expr}{g:i3}(t:X.c=true)(b:X.N=N)(d:X.N.Nodup)(hk:∀x,b7 n x k=true->L2.Loc X.e.scope x/\(X.fn x=true\/X.e.scope.names.lookup x=some .local))(q:CN N n k e=some g):PG X e (gT X.K g):=by
 have all:∀{s:Ab}{h:List i3},zB N n k s=some h->GsOk X s h:=by
  intro s;induction s with
  |nil=>intro h q;cases q;exact .nil
  |cons e s i=>intro h q;obtain⟨g,f,m⟩:=ak q;obtain⟨r,w,rfl⟩:=ao m;clear q m;obtain⟨x,p,rfl,a⟩:=Et b d hk f;exact .cons a (i w)
 have v:=d0 q;clear q;rcases v with ⟨s,z,q⟩|⟨_,q⟩
 .obtain⟨c,p,rfl⟩:=eM z;obtain⟨h,f,rfl⟩:=ao q;exact GY t (all f)
 .obtain⟨x,p,rfl,a⟩:=Et b d hk q;exact a
variable{E:Scope}
theorem zY(hk:env.scope.kind=.function):(relabel E env).names=ox E.names env.scope.names:=by unfold relabel ox Env.kindOf;rw[hk];simp
variable{j:Cn}{X:Cx}{o:LS}{Q:List Nat}{n:Nat}
theorem XOk.inn(h:XOk j X)(B:BlockOk X E o Q n)(d:o.Nodup)(s:Shared)(H:Hp)(C:Addr)(f:List Addr) :
  XOk ⟨o,[],[],j.refs,ox E.names j.ks,j.F,j.G,j.A,j.M,j.I,none⟩ (Ev.inn X E o s H C f) where
 hN:=rfl
 nd:=d
 ks:=by show(relabel E X.e).names=_;rw[zY h.kd,h.ks]
 kd:=B.kind
 calm:=h.calm
 hu:=h.hu
 fns:=h.fns
 blt:=h.blt
 glb:=h.glb
 attrs:=h.attrs
 meths:=h.meths
 mks:=h.mks
 lam:=λz=>by cases z
 lmf:=λg z=>by cases z
theorem gR(B:BlockOk X E o Q n)(I:Inv X m J H s):closureFor E X.e=pure (jv E X.e):=by
 have all:∀x ∈ E.names,x.2=.free->∃c,X.e.cells.lookup x.1=some c:=λx v h=>I.o.has x.1 (B.fr x v h).2;unfold closureFor jv;have f:∀(l:List (Str×NameKind))(a:List (Str×Addr)),(∀x ∈ l,x.2=.free->∃c,X.e.cells.lookup x.1=some c) ->
   (forIn l a fun (x:Str×NameKind) (r:List (Str×Addr))=>(do
    if x.2 == .free then do
     let c <- cellOf X.e x.1
     pure (ForInStep.yield ((x.1,c)::r))
    else pure (ForInStep.yield r):Sem (ForInStep (List (Str×Addr)))))=pure ((((l.filter λx=>x.2 == .free).map λx=>(x.1,(X.e.cells.lookup x.1).getD 0)).reverse)++a):=by
  intro l;induction l with
  |nil=>intro a _;rfl
  |cons x l i=>
   intro a h;rw[fh];by_cases hk:(x.2 == NameKind.free)=true
   .obtain⟨c,b⟩:=h x aV (by simpa using hk);rw[ae hk,List.filter_cons_of_pos (p:=λ(x:Str×NameKind)=>x.2 == .free) hk,az,List.reverse_cons,iN];have q:cellOf X.e x.1=pure c:=by unfold cellOf;rw[b]
    rw[q,b];show(forIn l ((x.1,c)::a) _:Sem _)=_;rw[i ((x.1,c)::a) λy e=>h y (aW _ e)];rfl
   .rw [ag hk,List.filter_cons_of_neg (p:=λ(x:Str×NameKind)=>x.2 == .free) hk];show(forIn l a _:Sem _)=_;rw[i a λy e=>h y (aW _ e)]
 have k:=f E.names [] all;rw [b9] at k;show (Bind.bind (forIn E.names [] fun (x:Str×NameKind) (r:List (Str×Addr))=>(do
    if x.2 == .free then do
     let c <- cellOf X.e x.1
     pure (ForInStep.yield ((x.1,c)::r))
    else pure (ForInStep.yield r):Sem (ForInStep (List (Str×Addr))))) λt=>pure t:Sem (List (Str×Addr)))=_
 rw[k];rfl
def kj(n:Nat):Prop:=∀(j:Cn)(X:Cx),XOk j X->∀e,Good X e (tr j n e)
theorem XOk.own(h:XOk j X)(o:LS):XOk ⟨j.N,o,j.deep,j.refs,j.ks,j.F,j.G,j.A,j.M,j.I,j.L⟩ X:=⟨h.hN,h.nd,h.ks,h.kd,h.calm,h.hu,h.fns,h.blt,h.glb,h.attrs,h.meths,h.mks,h.lam,h.lmf⟩
theorem iC{j:Cn}{X:Cx}(h:XOk j X){n:Nat}(G:kj n){y t iter:Expr}{k:Ab}{E:Scope}{f:EV}(q:fO j (λw x=>tr w n x) y t iter k E=some f) :
  ∃o Q m g u l,BlockOk X E o Q m/\ln X t iter f Q m g u l/\(∀s H C p,PG (inn X E o s H C p) t (gT X.K g))/\(∀s H C p,PIfs (inn X E o s H C p) k u)/\(∀s H C p,Y (inn X E o s H C p) y (tV X.K l)) /\
   ∀x,foldedSetIterable iter X.e x=pure x:=by
 unfold fO at q;generalize N:j.N++kO j.N (dY t)=o at q;generalize P:KW j.N (dY t)=Q at q;generalize I:(kO j.N (dY t)).length=m at q;split at q
 .rename_i v;rw[aq]at v;obtain⟨z,A,q⟩:=ak q;obtain⟨c,d,q⟩:=ak q;obtain⟨e,D,q⟩:=ak q;have B:BlockOk X E o Q m:=BF h v.1;have F:o.Nodup:=aD v.2;have i:=λs H C p=>(h.inn B F s H C p).own (j.own.filter (λx=>!(dY t).contains x))
  have W:ln X t iter f Q m z c e/\∀x,foldedSetIterable iter X.e x=pure x:=by
   split at q
   .obtain⟨K,b,rfl⟩:=ao q;exact⟨G6 ((G j X h iter).e K b),(mR b).fs _⟩
   .obtain⟨L,b,rfl⟩:=ao q;exact⟨J1 (Ex h (G j X h) b),λx=>sm b _ x⟩
  refine⟨o,Q,m,z,c,e,B,W.1,λs H C p=>?_,λs H C p=>?_,λs H C p=>?_,W.2⟩
  .exact tg_ok h.calm rfl F (λx S=>⟨.inl ((i s H C p).local S),.inr ((i s H C p).local S)⟩) A
  .cases k with
   |nil=>cases d;exact PIfs.none
   |cons a r=>
    cases r with
    |nil=>exact PIfs.one ((G _ _ (i s H C p) a).b c d)
    |cons _ _=>cases d
  .exact (G _ _ (i s H C p) y).v e D
 .cases q
theorem sS{j:Cn}{X:Cx}(h:XOk j X){n:Nat}(G:kj n){y t iter:Expr}{k:Ab}{E:Scope}{u:Pos}{f:EV}(q:fO j (λr x=>tr r n x) y t iter k E=some f) :
  Y X (.ListComp y [⟨t,iter,k,0⟩] E u) (tV X.K f)/\∀(i:Nat){x:Str}{c e:Pos},X.N.Nodup->swapsWith (.ListComp y [⟨t,iter,k,0⟩] E u) (some (.Name x c)) e.line X.e=pure true->X.N[i]? = some x->L2.Loc X.e.scope x->(X.fn x=true\/X.e.scope.names.lookup x=some .local) ->
   PS X (.Assign [.Name x c] (.ListComp y [⟨t,iter,k,0⟩] E u) e) (h_ X.K (aF i (eV f))):=by
 obtain⟨o,Q,m,P,F,K,B,W,v,d,w,g⟩:=iC h G q;exact⟨λp s J H a I q=>Ia B h.calm W v d w (gR B I) g p s J H a I q,λi x c e N S b z l p s J H D I q=>HM i N B h.calm W v d w (gR B I) S g b z l p s J H D I q⟩
variable{y:Expr}{f:EV}
theorem oR(h:XOk j X)(G:kj n)(q:fO j (λe x=>tr e n x) y t iter i E=some f):Y X (.ListComp y [⟨t,iter,i,0⟩] E u) (tE X.K (jb f)):=by obtain⟨o,Q,m,g,v,d,B,W,k,b,c,r⟩:=iC h G q;exact λp s J H a I q=>E7 B h.calm W k b c (gR B I) r p s J H a I q
variable{x:Str}
theorem yv(h:XOk j X)(G:kj n)(q:fO j (λe x=>tr e n x) y t iter k E=some f)(i:Nat)(z:swapsWith (.ListComp y [⟨t,iter,k,0⟩] E u) (some (.Name x l)) b.line X.e=pure true)
  (a:X.N[i]? = some x) (r:L2.Loc X.e.scope x) (c:X.fn x=true\/X.e.scope.names.lookup x=some .local):PS X (.Assign [.Name x l] (.ListComp y [⟨t,iter,k,0⟩] E u) b) (h_ X.K (aF i (jb f))):=by
 obtain⟨o,Q,m,K,S,F,B,W,v,d,w,g⟩:=iC h G q;exact λp s J H D I q=>EM i h.nd B h.calm W v d w (gR B I) z g a r c p s J H D I q
theorem zO{s:Ab}{a:Expr}(h:Em s=some a):∃p,s=[a,.List [] p]:=by
 obtain⟨⟨c,b⟩,e,f⟩:=ak h;obtain⟨m,n,x⟩:=ak f;obtain⟨p,rfl⟩:=m9 n;split at x
 .rename_i k;cases x;cases jI.mp k;exact⟨p,fy e⟩
 .cases x
theorem mZ{j:Cn}{o:Expr}{m n:Str}{a c:Pos}(h:Gw j o m n a c=true):m=n/\sn o=true/\(a.endLine == c.line)=true:=by unfold Gw at h;simp only[aq]at h;exact⟨aD h.1.1.1,h.1.2,h.2⟩
theorem bI{o:Expr}{x:Str}{env:Env}(h:sn o=true):attributeBase o x env (eval o env)=eval o env:=by
 cases o with
 |Call f a k p=>
  cases f with
  |Name x q=>cases k<;>cases h
  |_=>rfl
 |_=>rfl
theorem DR(h:∀e ∈ s,du e)(l:s.length < 29):methodCallForm (s.length+([]:List Keyword).length) (backTo u (starEach s env)) (backToKw u (keywordEach [] env))=true:=by
 unfold methodCallForm;have a:=fJ (env:=env) (u:=u) h;have n:(backTo u (starEach s env)).all (λx=>!x.1)=true:=by
  rw[bt];intro x f;cases b:x.1 with
  |false=>rfl
  |true=>have:(backTo u (starEach s env)).any (·.1)=true:=lR.mpr ⟨x,f,b⟩;rw[a]at this;cases this
 rw[n];have k:(backToKw u (keywordEach [] env))=[]:=rfl;rw[k];simp;lia
theorem qe{j:Cn}{X:Cx}(h:XOk j X){n:Nat}(g:∀x,Good X x (tr j n x)){o:Expr}{m:Str}{r:Ab}{p k:Pos}:Good X (.Call (.Attribute o m p) r [] k) (Hm j (tr j n o).e o m (r.map λx=>(tr j n x).e) p k):=by
 unfold Hm;split
 .rename_i c;simp only[aq]at c;have l:r.length < 29:=by have:=aD c.2;rwa [a8]at this
  refine .ofE (λf q=>?_) λ_ _=>rfl;obtain⟨x,t,q⟩:=ak q;obtain⟨a,v,rfl⟩:=ao q;obtain⟨d,s⟩:=jR (λe _=>g e) v;have b:=Gy (o:=o) (y:=m) (j:=p) (N:=k) (u:=r) (v:=X.e) (bI c.1.1) (DR s l) c.1.2;cases r with
  |nil=>cases v;exact EU h.meths ((g o).e x t) b
  |cons e i=>exact HW h.meths ((g o).e x t) d (s e aV _ _) (fJ λy w=>s y (aW _ w)) b
 .exact .no
theorem Dz{j:Cn}{X:Cx}(h:XOk j X){f:Str}{g:GF}{a:Expr}{s:Ab}{x:qU}{w u:Pos}(l:j.I f=some g)(hk:b7 j.ks f [.globalImplicit]=true)(r:fR f=true)(c:PA X (a::s) (tj X.K x))(v:∀e ∈ a::s,du e) :
  Y X (.Call (.Name f w) (a::s) [] u) (tE X.K (gi (if BU.contains f=true then gD g else g) f x)):=by
 obtain⟨C,k,y,z,o,n,m,mk,G,t,b⟩:=h.mks f g l;have p:=v a aV s X.e;have q:=fJ (env:=X.e) (u:=u) λe i=>v e (aW _ i);by_cases d:BU.contains f=true
 .rw [ae d]at b ⊢;exact EW mk G t (h.gl hk) m n b c (cc r).1 p q
 .rw [ag d]at b ⊢;exact HX mk G t (h.gl hk) m n b c (cc r).1 p q
theorem uS{g:List Comprehension}{t iter:Expr}{i:Ab}(h:Hz g=some (t,iter,i)):g=[⟨t,iter,i,0⟩]:=by
 obtain⟨⟨a,b,c,d⟩,x,p⟩:=ak h;split at p
 .rename_i e;cases p;cases (show d=0 from e);exact ci x
 .cases p
section
variable{j:Cn}{X:Cx}(h:XOk j X){n:Nat}(g:∀x,Good X x (tr j n x))
include h g
theorem Fk{f:Str}{u:Ab}{A K:Pos}:Good X (.Call (.Name f A) u [] K) (MM j (λx=>tr j n x) f u):=by
 refine .ite (λs=>?_) (.ite (λs=>.el (λa z=>?_) λ_=>.no) .no);rotate_left
 .rw [aq]at s;cases ci z;refine .ofV (λQ q=>?_) λ_ _=>rfl;obtain⟨C,M,q⟩:=ak q;obtain⟨i,m,q⟩:=ak q;obtain⟨x,d,rfl⟩:=ao q;obtain⟨k,T,R,V,G,v,D,hk,w⟩:=h.lmf C M;have E:Ee X.e.scope f:=by
   unfold Ee;rw[h.ks];have s:=s.1;unfold b7 at s;split at s
   .rename_i I P;rw[P];cases I<;>first|exact .inl rfl|cases s
   .cases s
  exact Fb G v D hk w (HU i (h.get m) E (cc s.2).1 (cc s.2).2) ((g _).v x d) ((cY d).st _ _)
 simp only[aq,jL]at s;cases u with
 |nil=>cases s.2
 |cons a u=>
 refine .el (λB l=>?_) λ_=>.el (λB l=>.ite (λ_=>?_) ?_) λ_=>.el (λN z=>?_) λ_=>?_
 .refine .ofE (λf q=>?_) λ_ _=>rfl;obtain⟨x,m,rfl⟩:=ao q;obtain⟨t,p⟩:=jR (λe _=>g e) m;exact Dz h l s.1.1 s.1.2 t p
 .refine .ofV (λf q=>?_) λ_ _=>rfl;obtain⟨x,m,rfl⟩:=ao q;obtain⟨t,p⟩:=jR (λe _=>g e) m;exact(sY h l s.1.1 s.1.2 t p).1
 .refine .ofV (λf q=>?_) λ_ _=>rfl;obtain⟨x,m,rfl⟩:=ao q;obtain⟨t,p⟩:=dM (λe _=>g e) m;exact D3 h l s.1.1 s.1.2 t p
 .cases ci z;refine .ite (λH=>?_) (.ite (λH=>?_) (.el (λb w=>?_) λ_=>.el (λ⟨b,c⟩ w=>?_) λ_=>?_))
  .subst H;refine .ofV (λf q=>?_) λ_ _=>rfl
   obtain⟨x,m,rfl⟩:=ao q;exact Lo (h.gl s.1.1) (h.blt _ (by decide)) ((g _).e x m) ((mR m).st _ _)
  .subst H;refine .ofV (λf q=>?_) λ_ _=>rfl
   obtain⟨x,m,rfl⟩:=ao q;exact zj (h.gl s.1.1) (h.blt _ (by decide)) ((g _).e x m) ((mR m).st _ _)
  .obtain⟨rfl,r,L,F,rfl,v⟩:=AG w;refine .ofV (λf q=>?_) λ_ _=>rfl;obtain⟨x,m,rfl⟩:=ao q;obtain⟨rfl,v⟩:=fD v;exact Cz h.calm (h.gl s.1.1) (h.blt _ (by decide)) (h.gl v) (h.blt _ (by decide)) ((g _).v x m) ((cY m).st _ _)
  .obtain⟨rfl,r,L,F,rfl,v⟩:=xS w;refine .ofE (λf q=>?_) λ_ _=>rfl;obtain⟨x,m,q⟩:=ak q;obtain⟨y,d,rfl⟩:=ao q;obtain⟨rfl,v⟩:=fD v;have S:starEach [c] X.e=[(false,eval c X.e)]:=(cY d).st _ _;exact EZ h.calm (h.gl s.1.1) (h.blt _ (by decide)) (h.gl v) (h.blt _ (by decide)) ((g _).v x m) ((g _).v y d) (by rw[(cY m).st,S]) S vX
  .refine .ofV (λf q=>?_) λ_ _=>rfl;obtain⟨o,m,q⟩:=ak q;obtain⟨x,d,rfl⟩:=ao q;obtain⟨t,p⟩:=dM (s:=[a]) (λe _=>g e) d;exact Hb h m s.1.1 t p
 .refine .ofV (λf q=>?_) λ_ _=>rfl;obtain⟨o,m,q⟩:=ak q;obtain⟨x,d,rfl⟩:=ao q;obtain⟨t,p⟩:=dM (λe _=>g e) d;exact D9 h m s.1.1 t p
theorem Fm{o:Expr}{m:Str}{w:Ab}{u i:Pos}:Good X (.Call (.Attribute o m u) w [] i) (MN j (λx=>tr j n x) o m u w i):=by
 have l:X.A.units+1 < cLine:=by have:=h.hu;lia
 refine .el (λa d=>?_) λ_=>?_
 .cases ci d;refine .ite (λs=>?_) (.ite (λs=>?_) (.ite (λs=>?_) (.ite (λs=>?_) (.el (λA K=>.ite (λs=>?_) (qe h g)) λ_=>qe h g))))
  .obtain⟨rfl,t,v⟩:=mZ s;refine .ofE (λf q=>?_) λ_ _=>rfl;obtain⟨x,r,q⟩:=ak q;obtain⟨y,k,rfl⟩:=ao q;exact CD ((g _).e x r) ((g _).e y k) ((mR k).st _ _) (bI t) v
  .obtain⟨rfl,t,v⟩:=mZ s;refine .ofE (λf q=>?_) λ_ _=>rfl;obtain⟨x,r,q⟩:=ak q;obtain⟨y,k,rfl⟩:=ao q;exact CC ((g _).e x r) ((g _).v y k) ((cY k).st _ _) (bI t) v
  .simp only[aq]at s;cases aD s.1.1;refine .ofV (λf q=>?_) λ_ _=>rfl;obtain⟨x,r,q⟩:=ak q;obtain⟨y,k,rfl⟩:=ao q;exact EX h.hu ((g _).v x r) ((g _).v y k) ((cY k).st _ _) (bI s.1.2) s.2
  .simp only[aq]at s;cases aD s.1.1;refine .ofV (λf q=>?_) λ_ _=>rfl;obtain⟨x,r,q⟩:=ak q;obtain⟨y,k,rfl⟩:=ao q;exact E6 h.hu ((g _).v x r) ((g _).v y k) ((cY k).st _ _) (bI s.1.2) s.2
  .obtain⟨c,p,rfl⟩:=eM K;obtain⟨rfl,t,v⟩:=mZ s;refine .ofE (λf q=>?_) λ_ _=>rfl;obtain⟨x,r,q⟩:=ak q;obtain⟨y,k,rfl⟩:=ao q;exact H_ l ((g _).e x r) (dM (λe _=>g e) k).1 ⟨bI t,rfl,v,rfl⟩
 .refine .ite (λs=>?_) (.ite (λs=>.el (λ⟨a,b⟩ d=>?_) λ_=>.no) (.el (λa d=>.ite (λs=>?_) (qe h g)) λ_=>qe h g))
  .rw [aq]at s;obtain⟨rfl,t,v⟩:=mZ s.1;cases w with
   |cons _ _=>cases s.2
   |nil=>refine .ofE (λf q=>?_) λ_ _=>rfl;obtain⟨x,r,rfl⟩:=ao q;exact E8 ((g _).e x r) (bI t) v
  .simp only[aq]at s;cases aD s.1.1;cases fy d;refine .ofV (λf q=>?_) λ_ _=>rfl;obtain⟨x,r,q⟩:=ak q;obtain⟨y,k,q⟩:=ak q;obtain⟨z,S,rfl⟩:=ao q;have P:starEach [b] X.e=[(false,eval b X.e)]:=(cY S).st _ _;have F:starEach [a,b] X.e=[(false,eval a X.e),(false,eval b X.e)]:=by rw[(cY k).st,P]
   exact ET l ((g _).v x r) ((g _).v y k) ((g _).v z S) ⟨bI s.1.2,by rw[F];rfl,s.2,by rw[F];rfl⟩
  .obtain⟨p,rfl⟩:=zO d;obtain⟨rfl,t,v⟩:=mZ s;refine .ofE (λf q=>?_) λ_ _=>rfl;obtain⟨x,r,q⟩:=ak q;obtain⟨y,k,rfl⟩:=ao q;have H:=(cY k).st;exact CB ((g _).e x r) ((g _).v y k) (Ej Ec) ⟨bI t,by rw[H];rfl,v,by rw[H];rfl⟩
end
theorem jQ:∀n,kj n
 |0=>λj X h e=>Good.no
 |n+1=>by
  have G:=jQ n;intro j X h e;have g:=G j X h;cases e with
  |Constant c k p=>
   cases c with
   |int i=>exact .ofV (λf q=>by cases q;exact Ls) λ_ _=>rfl
   |bool i=>exact .ofV (λf q=>by cases q;exact No) λ_ _=>rfl
   |none=>exact .ofV (λf q=>by cases q;exact Ll) λ_ _=>rfl
   |str i=>exact .ofV (λf q=>by cases q;exact Lf) λ_ _=>rfl
   |_=>exact .no
  |Name x p=>
   refine .ite (λw=>?_) (.ite (λw=>?_) .no)
   .rw [aq]at w;refine .ofE (λf q=>?_) λ_ _=>rfl;obtain⟨i,r,rfl⟩:=ao q;exact HU i (h.get r) (h.vis w.1) (cc w.2).1 (cc w.2).2
   .rw [aq]at w;refine .ofV (λf q=>?_) λ_ _=>rfl;obtain⟨v,r,q⟩:=ak q;split at q
    .cases q
    .rename_i T;cases q;exact HZ (h.gl w.1) ((h.glb _ v r).1 (by simpa using T)) (cc w.2).1
  |BinOp a H b p=>refine .ofV (λf q=>?_) λ_ _=>rfl;obtain⟨o,r,q⟩:=ak q;obtain⟨x,t,q⟩:=ak q;obtain⟨s,d,rfl⟩:=ao q;exact Nl (Ha h r) ((g _).v x t) ((g _).v s d)
  |UnaryOp H a p=>
   cases H with
   |USub=>refine .ofV (λf q=>?_) λ_ _=>rfl;obtain⟨x,r,rfl⟩:=ao q;exact Lm ((g _).v x r)
   |Not=>
    refine .el (λ⟨b,c⟩ D=>?_) λ_=>.ofB (λf q=>?_) λf q=>?_
    .obtain⟨p3,rfl⟩:=Dv D;have l:∀f,((tr j n b).v.bind λx=>(tr j n c).v.map λs=>zt x s)=some f->Y X (.UnaryOp .Not (.BoolOp .Or [b,c] p3) p) (tV X.K f):=λf q=>by
      obtain⟨x,r,q⟩:=ak q;obtain⟨s,t,rfl⟩:=ao q;exact Lk ((g _).v x r) ((g _).v s t)
     refine⟨l,λf q=>?_,λf q=>(by cases q),λf q=>?_⟩
     .obtain⟨x,r,rfl⟩:=ao (show gy eV _=some f from q);exact EY (l _ r)
     .obtain⟨x,r,rfl⟩:=ao (show gy bV _=some f from q);exact ol (l _ r)
    .obtain⟨x,r,rfl⟩:=ao q;exact La ((g _).b x r)
    .obtain⟨x,r,rfl⟩:=ao q;exact Lj ((g _).w x r)
   |_=>exact .no
  |BoolOp H P p=>exact .ofB (λf q=>(rc (λe _=>g e) q).pt) λf q=>re (λe _=>g e) q
  |Compare a S K p=>
   refine .el (λH B=>?_) λ_=>?_
   .cases ci B;refine .el (λb R=>?_) λ_=>.no
    cases ci R;refine .el (λA r=>?_) λ_=>?_
    .have u:∀f,((tr j n a).v.bind λx=>(tr j n b).v.map λs=>aK A x s)=some f->Y X (.Compare a [H] [b] p) (tV X.K f)/\PT X (.Compare a [H] [b] p) (tQ X.K (bV f)):=λf q=>by
      obtain⟨x,t,q⟩:=ak q;obtain⟨s,d,rfl⟩:=ao q;exact⟨Lw (kN r) ((g _).v x t) ((g _).v s d) ((cY d).mr _),Lb (kN r) ((g _).v x t) ((g _).v s d) ((cY d).mr _)⟩
     exact .ofC (λf q=>(u f q).1) λf q=>(u f q).2
    .have u:∀f,((Bx (DJ b) H).bind λg=>(tr j n a).e.bind λx=>(tr j n b).e.map λs=>bY g x s)=some f->Y X (.Compare a [H] [b] p) (tV X.K f)/\PT X (.Compare a [H] [b] p) (tQ X.K (bV f)):=λf q=>by
      obtain⟨o,r,q⟩:=ak q;obtain⟨x,t,q⟩:=ak q;obtain⟨s,d,rfl⟩:=ao q;exact⟨Ib (sQ h r) ((g _).e x t) ((g _).e s d) ((mR d).mr _),HN (sQ h r) ((g _).e x t) ((g _).e s d) ((mR d).mr _)⟩
     exact .ofC (λf q=>(u f q).1) λf q=>(u f q).2
   .have u:∀f,((lp S).bind λo=>(lp K).bind λz=>(Hy o.1).bind λg=>(Hy o.2).bind λA=>(tr j n a).v.bind λx=>(tr j n z.1).v.bind λs=>(tr j n z.2).v.map λz=>eK g A x s z)=some f->Y X (.Compare a S K p) (tV X.K f)/\PT X (.Compare a S K p) (tQ X.K (bV f)):=λf q=>by
     obtain⟨⟨o1,o2⟩,M,I⟩:=ak q;obtain⟨⟨b,c⟩,N,p1⟩:=ak I;clear q I;cases fy M;cases fy N;obtain⟨o,r,q⟩:=ak p1;obtain⟨o',t,q⟩:=ak q;obtain⟨x,d,q⟩:=ak q;obtain⟨s,L,q⟩:=ak q;obtain⟨z,F,rfl⟩:=ao q;exact⟨E9 (kN r) (kN t) ((g _).v x d) ((g _).v s L) ((g _).v z F) ((cY F).ms _ _ _),EN (kN r) (kN t) ((g _).v x d) ((g _).v s L) ((g _).v z F) ((cY F).ms _ _ _)⟩
    exact .ofC (λf q=>(u f q).1) λf q=>(u f q).2
  |IfExp c a b p=>
   refine .ite (λ_=>?_) ?_
   .have l:∀f,((tr j n c).b.bind λq=>(tr j n a).e.bind λx=>(tr j n b).e.map λs=>Mu q x s)=some f->Y X (.IfExp c a b p) (tE X.K f):=λf q=>by
     obtain⟨o,r,q⟩:=ak q;obtain⟨x,t,q⟩:=ak q;obtain⟨s,d,rfl⟩:=ao q;exact Lu ((g _).b o r) ((g _).e x t) ((g _).e s d)
    refine⟨λf q=>?_,l,λf q=>(by cases q),λf q=>?_⟩
    .obtain⟨x,r,rfl⟩:=ao (show gy vE _=some f from q);exact HV (l _ r)
    .obtain⟨x,r,rfl⟩:=ao (show gy (λg=>bV (vE g)) _=some f from q);exact ol (HV (l _ r))
   have l:∀f,((tr j n c).b.bind λq=>(tr j n a).v.bind λx=>(tr j n b).v.map λs=>Im q x s)=some f->Y X (.IfExp c a b p) (tV X.K f):=λf q=>by obtain⟨o,r,q⟩:=ak q;obtain⟨x,t,q⟩:=ak q;obtain⟨s,d,rfl⟩:=ao q;exact Nn ((g _).b o r) ((g _).v x t) ((g _).v s d)
   refine⟨l,λf q=>?_,λf q=>(by cases q),λf q=>?_⟩
   .obtain⟨x,r,rfl⟩:=ao (show gy eV _=some f from q);exact EY (l _ r)
   .obtain⟨x,r,rfl⟩:=ao (show gy bV _=some f from q);exact ol (l _ r)
  |Tuple P c p=>refine .ofV (λf q=>?_) λ_ _=>rfl;obtain⟨x,r,rfl⟩:=ao q;exact Le (dM (λe _=>g e) r).1
  |List P p=>refine .ofV (λf q=>?_) λ_ _=>rfl;obtain⟨x,r,rfl⟩:=ao q;exact Ln (dM (λe _=>g e) r).1
  |Dict ks vs p=>refine .ite (λw=>?_) .no;rw[aq]at w;cases jI.mp w.1;cases jI.mp w.2;exact⟨λf q=>(by cases q;exact HV zn),λf q=>(by cases q;exact zn),λf q=>(by cases q),λf q=>(by cases q)⟩
  |Subscript a i p=>
   have C:X.A.units+1 < cLine:=by have:=h.hu;lia
   refine .el (λ⟨lo,hi,st⟩ W=>?_) λ_=>.ite (λ_=>?_) (.ite (λ_=>.el (λP Q=>?_) λ_=>?_) ?_)
   .obtain⟨p,rfl⟩:=FE W;cases st with
    |some _=>exact .no
    |none=>
     refine .ite (λ_=>.no) (.ite (λ_=>.ofV (λf q=>?_) λ_ _=>rfl) (.ofV (λf q=>?_) λ_ _=>rfl))
     .obtain⟨x,r,q⟩:=ak q;obtain⟨s,t,q⟩:=ak q;obtain⟨z,d,rfl⟩:=ao q;exact Lg ((g _).e x r) (qd g t) (qd g d)
     .obtain⟨x,r,q⟩:=ak q;obtain⟨s,t,q⟩:=ak q;obtain⟨z,d,rfl⟩:=ao q;exact Lh ((g _).v x r) (qd g t) (qd g d)
   .refine .ofE (λf q=>?_) λ_ _=>rfl;obtain⟨x,r,q⟩:=ak q;obtain⟨s,t,rfl⟩:=ao q;exact Lq (by have:=h.hu;lia) ((g _).e x r) ((g _).v s t) (cY t).ix
   .obtain⟨c,p,rfl⟩:=eM Q;refine .ofE (λf q=>?_) λ_ _=>rfl;obtain⟨x,r,q⟩:=ak q;obtain⟨s,t,rfl⟩:=ao q;exact Lp C ((g _).e x r) (dM (λe _=>g e) t).1 λ_ _=>rfl
   .refine .ofE (λf q=>?_) λ_ _=>rfl;obtain⟨x,r,q⟩:=ak q;obtain⟨s,t,rfl⟩:=ao q;exact Lr C ((g _).e x r) ((g _).v s t) (cY t).ix
   .refine .ofV (λf q=>?_) λ_ _=>rfl;obtain⟨x,r,q⟩:=ak q;obtain⟨s,t,rfl⟩:=ao q;exact Nm C ((g _).v x r) ((g _).v s t) (cY t).ix
  |Call fn as ks cp=>
   refine .ite (λhk=>?_) .no;cases jI.mp hk;refine .el (λf V=>?_) λ_=>.el (λ⟨o,m,ap⟩ B=>?_) λ_=>.no
   .obtain⟨fp,rfl⟩:=mY V;exact Fk h g
   .cases BL B;exact Fm h g
  |Attribute o f p=>refine .ite (λw=>?_) .no;refine .ofE (λf q=>?_) λ_ _=>rfl;obtain⟨x,r,rfl⟩:=ao q;exact Lv h.attrs ((g _).e x r) (bI w)
  |ListComp y gs E p=>refine .el (λ⟨tg,iter,Z⟩ D=>?_) λ_=>.no;cases uS D;exact .ofV (λf q=>(sS h G q).1) λ_ _=>rfl
  |_=>exact .no
theorem qf{j:Cn}{X:Cx}(h:XOk j X){n k:Nat}{e:Expr}{f:EE}(q:CP j n k e=some f):Y X e (tE X.K f)/\(dE e=false->∀t l env,swapsWith e t l env=pure false)/\du e:=by
 have g:=jQ n j X h;have v:∀{e},(tr j n e).e=some f->Y X e (tE X.K f)/\(dE e=false->∀t l env,swapsWith e t l env=pure false)/\du e:=λq=>⟨(g _).e f q,(mR q).sw,(mR q).st⟩;have I:=d0 q;clear q;rcases I with ⟨⟨R,r⟩,z,q⟩|⟨_,q⟩
 .obtain⟨V,Q,rfl⟩:=d4 z;dsimp only at q;split at q
  .rename_i c;simp only[aq,jL]at c;rcases d0 q with ⟨F,w,q⟩|⟨_,q⟩
   .refine⟨?_,(λ_ _ _ _=>rfl),λ_ _=>rfl⟩;cases r with
    |nil=>cases c.1.2
    |cons a M=>
     rcases d0 q with ⟨b,A,d⟩|⟨_,q⟩
     .obtain⟨⟨N,W⟩,H,p⟩:=ak A;split at p
      .rename_i y;cases p;simp only[aq]at y;cases fy H;obtain⟨p,Z,p3,p4,p5,rfl⟩:=DE y.1.1;obtain⟨i,L,d⟩:=ak d;obtain⟨x,s,rfl⟩:=ao d;obtain⟨k,f,T,ps,G,C,B,hk,P⟩:=h.fns _ F w;obtain⟨E,m⟩:=h.lam y.1.2;have K:X.e.scope.names.lookup (Str.ofString "board")=some .cell:=by
        rw[h.ks];have z:=y.2;unfold b7 at z;split at z
        .rename_i D S;rw[S];cases D<;>first|rfl|cases z
        .cases z
       exact Fa G C (h.gl c.1.1.1) B hk P E (h.get L) K (m _) ((g _).v x s) (cc c.1.1.2).1 ((cY s).st _ _)
      .cases p
     .obtain⟨x,s,rfl⟩:=ao q;obtain⟨u,o⟩:=jR (λe _=>g e) s;exact(sY h w c.1.1.1 c.1.1.2 u o).2
   .exact v q
  .exact v q
 .exact v q
theorem rA(h:XOk j X):∀{a:Ab}{s:qU},rB (a.map λx=>CP j n k x)=some s->PA X a (tj X.K s)
 | [],s,q=>by cases q;exact EF
 |e::a,s,q=>by obtain⟨f,c,m⟩:=ak q;obtain⟨r,t,rfl⟩:=ao m;obtain⟨p,_,b⟩:=qf h c;exact Bu p (rA h t) (b _ _)
theorem mL{j:Cn}{X:Cx}(h:XOk j X){n k:Nat}{e:Expr}{f:EE}(q:Kn j n k e=some f):Y X e (tE X.K f)/\(dE e=false->∀t l env,swapsWith e t l env=pure false):=by
 have a:=d0 q;clear q;rcases a with ⟨b,x,q⟩|⟨_,q⟩
 .obtain⟨p,rfl⟩:=m9 x;obtain⟨c,s,rfl⟩:=ao q;exact⟨HY (rA h s),λ_ _ _ _=>rfl⟩
 .exact⟨(qf h q).1,(qf h q).2.1⟩
def rn(T:Stmt->Option ES):List Stmt->Option ES
 | []=>some eY
 | [s]=>T s
 |s::r=>(T s).bind λf=>(rn T r).map λg=>aA f g
noncomputable def Jz(e:Expr):Option Unit:=if h:e.ctorIdx=6 then Expr.Dict.elim e h λk v _=>if (k.isEmpty && v.isEmpty)=true then some () else none else none
theorem DN{e:Expr}{u:Unit}(h:Jz e=some u):∃p,e=.Dict [] [] p:=by
 have c:=Bt h;revert h;exact Expr.Dict.elim e c λk v p h=>by
  cases k with
  |cons _ _=>cases h
  |nil=>
   cases v with
   |cons _ _=>cases h
   |nil=>exact⟨p,rfl⟩
def Jy(e:Expr):Option (Expr×Expr):=if h:e.ctorIdx=6 then Expr.Dict.elim e h λs x _=>(i5 s).bind λk=>k.bind λk=>(i5 x).map λv=>(k,v) else none
theorem DM(h:Jy e=some (k,v)):∃p,e=.Dict [some k] [v] p:=by
 have c:=Bt h;revert h;exact Expr.Dict.elim e c λb r p h=>by obtain⟨n,x,h⟩:=ak h;obtain⟨f,a,h⟩:=ak h;obtain⟨m,s,h⟩:=ao h;cases h;cases ci x;cases ci s;cases (show n=some k from a);exact⟨p,rfl⟩
def NW(j:Cn)(e:Expr):Option Expr:=(lj e).bind λz=>(i5 z.2).bind λa=>if m_ j z.1 "dict"=true then some a else none
def JY(j:Cn)(e:Expr):Option Expr:=(lj e).bind λz=>(i5 z.2).bind λa=>if m_ j z.1 "list"=true then some a else none
def ML(j:Cn)(n:Nat)(t v:Expr):Option ES:=
 (Ax t).elim ((Ks t).elim ((Ke t).elim (if dE v=true then none else (ik t).bind fun _=>if (ik v).isSome=true then none else (CN j.N j.ks [.local,.cell] t).bind fun g=>(tr j n v).v.map fun z=>zR g z)
   λz=>if ((Jz v).isSome && j.deep.contains z.2.1)=true then (tr j n z.1).e.map λx=>ow j.A x z.2.1 Bj else (tr j n z.1).e.bind λx=>(Kn j n 5 v).map λy=>ow j.A x z.2.1 y)
  λz=>if dE v=true then none else (tr j n z.1).e.bind λx=>(tr j n v).v.bind λw=>if DJ z.1=true then (tr j n z.2).v.map λy=>xi x y w else (ik z.2).elim ((tr j n z.2).v.map λy=>jU x y w) λe=>(mM (e.map λz=>(tr j n z).v)).map λy=>En x y w)
 λx=>if b7 j.ks x [.local,.cell]=true then (ir j.N x).bind λi=>(if Md.contains x=true then NW j v else none).elim ((if Md.contains x=true then Jy v else none).elim (if (j.deep.contains x && !dE v)=true then (Kn j n 5 v).map (aF i) else (if j.own.contains x=true then JY j v else none).elim ((if j.own.contains x=true then xF v else none).elim (if (j.own.contains x && dE v)=true then (tr j n v).v.map λf=>aF i (jb f) else (tr j n v).e.map (aF i)) λe=>(mM (e.map λy=>(tr j n y).v)).map λa=>aF i (iz a)) λa=>(tr j n a).v.map λf=>aF i (sK f)) λz=>(tr j n z.1).v.bind λx=>(tr j n z.2).v.map λy=>aF i (Bk x y)) λa=>(tr j n a).v.map λf=>aF i (qI f)
  else none
noncomputable def Jt(e:Expr):Option (Expr×Expr):=if h:e.ctorIdx=2 then Expr.BinOp.elim e h λa o b _=>if o.ctorIdx=Operator.Mult.ctorIdx then some (a,b) else none else none
theorem Dy(h:Jt e=some (a,b)):∃p,e=.BinOp a .Mult b p:=by
 have c:=Bt h;revert h;exact Expr.BinOp.elim e c λx o s p h=>by
  cases o with
  |Mult=>cases h;exact⟨p,rfl⟩
  |_=>cases h
def LB(j:Cn)(n:Nat)(e:Expr):Option ES:=if dE e=true then (tr j n e).v.map λf=>bc (jb f) else
 (Jt e).elim ((JY j e).elim ((Kn j n 5 e).map bc) λa=>(tr j n a).v.map λf=>bc (sK f)) λz=>(tr j n z.1).v.bind λx=>(tr j n z.2).v.map λy=>bc (G1 x y)
def Fg(j:Cn):Nat->Stmt->Option ES
 |0,_=>none
 |n+1,st=>match st with
  | .Assign Q v _=>(i5 Q).bind λt=>ML j n t v
  | .Return r _=>r.bind λe=>if j.own.contains ("return":Str)=true then LB j n e else (tr j n e).e.map bc
  | .AugAssign t p v _=>(Ax t).bind λx=>if (b7 j.ks x [.local,.cell] && decide (p.ctorIdx=Operator.Add.ctorIdx))=true then (ir j.N x).bind λi=>(tr j n v).v.map (zU i) else none
  | .Break _=>some MR
  | .Continue _=>some MQ
  | .Raise ..=>some qm
  | .Expr e _=>if dE e=true then none else (tr j n e).e.map dA
  | .If c a b _=>(tr j n c).b.bind λq=>(rn (Fg j n) a).bind λx=>(rn (Fg j n) b).map λy=>dO q x y
  | .While c o l _=>if l.isEmpty=false then none else (tr j n c).b.bind λq=>(rn (Fg j n) o).map λb=>kC 1000 q b
  | .For h iter o l _=>if l.isEmpty=false then none else (CN j.N j.ks [.local,.cell] h).bind λg=>(CO j (λy=>tr j n y) h iter).bind λs=>(rn (Fg j n) o).map λb=>cX s g b
  |_=>none
theorem Aw{e:Ab}{c:Nat}{p:Pos}{v:Expr}{env:Env}(h:¬(ik v).isSome=true):swappedStores [.Tuple e c p] v env=pure none:=by cases v<;>first|rfl|exact absurd rfl h
theorem CM{j:Cn}{n:Nat}{y:Expr}{g:List Comprehension}{E:Scope}{u:Pos}{f:EE}(h:(tr j n (.ListComp y g E u)).e=some f) :
  ∃k t iter i s,n=k+1/\g=[⟨t,iter,i,0⟩]/\fO j (λa x=>tr a k x) y t iter i E=some s/\f=eV s:=by
 cases n with
 |zero=>cases h
 |succ n=>
  replace h:((Hz g).elim {} λz=>Tr.ofV (fO j (λa x=>tr a n x) y z.1 z.2.1 z.2.2 E)).e=some f:=h;cases e:Hz g with
  |none=>rw[e]at h;cases h
  |some z=>rw[e]at h;obtain⟨x,q,rfl⟩:=ao (show gy eV _=some f from h);exact⟨n,_,_,_,x,rfl,uS e,q,rfl⟩
theorem iU{X:Cx}{T:Stmt->Option ES}(h:∀st f,T st=some f->PS X st (h_ X.K f)):∀{a:List Stmt}{f:ES},rn T a=some f->kT X a (h_ X.K f)
 | [],f,q=>by cases q;exact K8
 | [s],f,q=>K7 (h s f q)
 |s::t::r,f,q=>by obtain⟨x,e,q⟩:=ak q;obtain⟨y,n,rfl⟩:=ao q;exact HK (h s x e) (iU h n)
theorem rl(h:(tr j n (.ListComp y s E u)).v=some f) :
  ∃k t iter i,n=k+1/\s=[⟨t,iter,i,0⟩]/\fO j (λa x=>tr a k x) y t iter i E=some f:=by
 cases n with
 |zero=>cases h
 |succ n=>
  replace h:((Hz s).elim {} λz=>Tr.ofV (fO j (λa x=>tr a n x) y z.1 z.2.1 z.2.2 E)).v=some f:=h;cases e:Hz s with
  |none=>rw[e]at h;cases h
  |some z=>rw[e]at h;exact⟨n,_,_,_,rfl,uS e,h⟩
theorem Fh{j:Cn}{X:Cx}(h:XOk j X){n:Nat}{e:Expr}{p:Pos}{f:ES}(q:LB j n e=some f):PS X (.Return (some e) p) (h_ X.K f):=by
 have g:=jQ n j X h;unfold LB at q;split at q
 .rename_i l;have c:e.ctorIdx=8:=eq_of_beq l;obtain⟨P,s,rfl⟩:=ao q;clear q l;revert s;refine Expr.ListComp.elim e c λa B c d s=>?_
  obtain⟨k,D,iter,H,rfl,rfl,u⟩:=rl s;exact zg (oR h (jQ k) u)
 .have w:=d0 q;clear q;rcases w with ⟨⟨a,b⟩,m,q⟩|⟨_,q⟩
  .obtain⟨C,rfl⟩:=Dy m;obtain⟨x,s,q⟩:=ak q;obtain⟨y,u,rfl⟩:=ao q;exact zg (Li ((g _).v x s) ((g _).v y u))
  .have w:=d0 q;clear q;rcases w with ⟨a,m,q⟩|⟨_,q⟩
   .obtain⟨⟨r,F⟩,z,i⟩:=ak m;obtain⟨S,o,v⟩:=ak i;clear m i;obtain⟨A,K,rfl⟩:=d4 z;cases ci o;split at v
    .rename_i t;cases v;obtain⟨rfl,t⟩:=fD t;obtain⟨x,s,rfl⟩:=ao q;exact zg (zm (h.gl t) (h.blt ("list":Str) (by decide)) ((g _).v x s) ((cY s).st _ _))
    .cases v
   .obtain⟨x,s,rfl⟩:=ao q;exact zg (mL h s).1
theorem Fj{j:Cn}{X:Cx}(h:XOk j X)(H:∀x,X.fn x=true){n:Nat}{t l:Expr}{W:Pos}{f:ES}(q:ML j n t l=some f):PS X (.Assign [t] l W) (h_ X.K f):=by
 have g:=jQ n j X h;have Z:X.A.units+1 < cLine:=by have:=h.hu;lia
 rcases d0 q with ⟨x,hx,C⟩|⟨_,C⟩
 .clear q;obtain⟨R,rfl⟩:=mY hx;split at C
  .rename_i hk;obtain⟨i,G,q⟩:=ak C;have V:=d0 q;clear q C;rcases V with ⟨a,P,q⟩|⟨_,C⟩
   .split at P
    .obtain⟨⟨r,as⟩,b1,S⟩:=ak P;obtain⟨a',b2,S⟩:=ak S;clear P;obtain⟨fp,cp,rfl⟩:=d4 b1;cases ci b2;split at S
     .rename_i L;cases S;obtain⟨rfl,L⟩:=fD L;obtain⟨z,m,rfl⟩:=ao q;exact q9 i h.nd (E4 h.calm (by have:=h.hu;lia) (h.gl L) (h.blt ("dict":Str) (by decide)) ((g _).v z m) ((cY m).st _ _)) (h.get G) (h.loc hk) rfl (.inl (H x))
     .cases S
    .cases P
   have V:=d0 C;clear C;rcases V with ⟨⟨a,b⟩,P,q⟩|⟨_,q⟩
   .split at P
    .obtain⟨p,rfl⟩:=DM P;obtain⟨y,m,q⟩:=ak q;obtain⟨z,F,rfl⟩:=ao q;exact q9 i h.nd (E5 (by have:=h.hu;lia) ((g _).v y m) ((g _).v z F)) (h.get G) (h.loc hk) rfl (.inl (H x))
    .cases P
   split at q
   .rename_i T;rw[aq]at T;obtain⟨fe,m,rfl⟩:=ao q;exact q9 i h.nd (mL h m).1 (h.get G) (h.loc hk) ((mL h m).2 (by simpa using T.2) _ _ _) (.inl (H x))
   .have V:=d0 q;clear q;rcases V with ⟨a,P,q⟩|⟨_,q⟩
    .split at P
     .obtain⟨⟨r,as⟩,b1,S⟩:=ak P;obtain⟨a',b2,S⟩:=ak S;clear P;obtain⟨fp,cp,rfl⟩:=d4 b1;cases ci b2;split at S
      .rename_i L;cases S;obtain⟨rfl,L⟩:=fD L;obtain⟨z,m,rfl⟩:=ao q;exact q9 i h.nd (zm (h.gl L) (h.blt ("list":Str) (by decide)) ((g _).v z m) ((cY m).st _ _)) (h.get G) (h.loc hk) rfl (.inl (H x))
      .cases S
     .cases P
    rcases d0 q with ⟨es,E,q⟩|⟨_,q⟩
    .split at E
     .obtain⟨a,m,rfl⟩:=ao q;obtain⟨p,rfl⟩:=m9 E;exact q9 i h.nd (Ej (dM (λe _=>g e) m).1) (h.get G) (h.loc hk) rfl (.inl (H x))
     .cases E
    split at q
    .rename_i A;rw[aq]at A;have A:=A.2;obtain⟨fe,m,rfl⟩:=ao q;have c:l.ctorIdx=8:=eq_of_beq A;clear q A;revert m;refine Expr.ListComp.elim l c λa gs c d m=>?_
     obtain⟨k,Q,iter,K,rfl,rfl,F⟩:=rl m;have B:swapsWith (.ListComp a [⟨Q,iter,K,0⟩] c d) (some (.Name x R)) W.line X.e=pure (X.e.blockKind == .function && X.e.kindOf x == some .local && R.line == (Expr.ListComp a [⟨Q,iter,K,0⟩] c d).pos.line
       && !(c.names.any λ(n,k)=>n == x && (k == .local ||k == .cell))):=rfl
     revert B;generalize (X.e.blockKind == .function && X.e.kindOf x == some .local && R.line == (Expr.ListComp a [⟨Q,iter,K,0⟩] c d).pos.line && !(c.names.any λ(n,k)=>n == x && (k == .local ||k == .cell)))=b;intro B;cases b with
     |true=>exact yv h (jQ k) F i B (h.get G) (h.loc hk) (.inl (H x))
     |false=>exact q9 i h.nd (oR h (jQ k) F) (h.get G) (h.loc hk) B (.inl (H x))
    .obtain⟨fe,m,rfl⟩:=ao q;cases A:dE l with
     |false=>exact q9 i h.nd ((g l).e fe m) (h.get G) (h.loc hk) ((mR m).sw A _ _ _) (.inl (H x))
     |true=>
      have c:l.ctorIdx=8:=eq_of_beq A;clear q A;revert m;refine Expr.ListComp.elim l c fun a gs c d m=>?_;obtain⟨k,Q,iter,K,f',rfl,rfl,F,rfl⟩:=CM m;have cu:=sS (u:=d) h (jQ k) F;have B:swapsWith (.ListComp a [⟨Q,iter,K,0⟩] c d) (some (.Name x R)) W.line X.e=pure (X.e.blockKind == .function && X.e.kindOf x == some .local && R.line == (Expr.ListComp a [⟨Q,iter,K,0⟩] c d).pos.line
       && !(c.names.any λ(n,k)=>n == x && (k == .local ||k == .cell))):=rfl
      revert B;generalize (X.e.blockKind == .function && X.e.kindOf x == some .local && R.line == (Expr.ListComp a [⟨Q,iter,K,0⟩] c d).pos.line && !(c.names.any λ(n,k)=>n == x && (k == .local ||k == .cell)))=b;intro B;cases b with
      |true=>exact cu.2 i h.nd B (h.get G) (h.loc hk) (.inl (H x))
      |false=>exact q9 i h.nd (EY cu.1) (h.get G) (h.loc hk) B (.inl (H x))
  .cases C
 rcases d0 C with ⟨⟨o,i⟩,hz,S⟩|⟨_,S⟩
 .clear q C;obtain⟨p,rfl⟩:=FI hz;split at S
  .cases S
  rename_i M;obtain⟨x,m,D⟩:=ak S;obtain⟨w,N,I⟩:=ak D;have B:=(cY N).sw (by simpa using M);clear S D;split at I
  .obtain⟨y,F,rfl⟩:=ao I;exact HF (by have:=h.hu;lia) ((g o).e x m) ((g i).v y F) ((g l).v w N) (B _ _ _)
  have q0:=d0 I;clear I;rcases q0 with ⟨es,et,q⟩|⟨_,q⟩
  .obtain⟨c,p,rfl⟩:=eM et;obtain⟨y,F,rfl⟩:=ao q;exact HD Z ((g o).e x m) (dM (λe _=>g e) F).1 ((g l).v w N) (B _ _ _)
  .obtain⟨y,F,rfl⟩:=ao q;exact HH Z ((g o).e x m) ((g i).v y F) ((g l).v w N) (B _ _ _) rfl (cY F).ps
 rcases d0 S with ⟨⟨o,f,ap⟩,hz,D⟩|⟨_,D⟩
 .clear q C S;cases BL hz;split at D
  .rename_i T;rw[aq]at T;obtain⟨s,Z⟩:=lK.mp T.1;obtain⟨p,rfl⟩:=DN Z;obtain⟨x,m,rfl⟩:=ao D;exact HI h.attrs ((g o).e x m) E2 rfl
  obtain⟨x,m,q⟩:=ak D;obtain⟨z,F,rfl⟩:=ao q;refine HI h.attrs ((g o).e x m) (mL h F).1 ?_;cases A:dE l with
  |false=>exact(mL h F).2 A _ _ _
  |true=>have c:l.ctorIdx=8:=eq_of_beq A;clear q F D A;exact Expr.ListComp.elim (motive_1:=λv=>swapsWith v (some (.Attribute o f ap)) W.line X.e=pure false) l c λ_ _ _ _=>rfl
 .clear q C S;split at D
  .cases D
  rename_i M;obtain⟨es,E,I⟩:=ak D;clear D;obtain⟨c,p,rfl⟩:=eM E;split at I
  .cases I
  .rename_i hnt;obtain⟨gg,m,q⟩:=ak I;obtain⟨z,N,rfl⟩:=ao q;exact K5 ((g l).v z N) (tg_ok h.calm h.hN h.nd (λx hx=>⟨h.loc hx,.inl (H x)⟩) m) (show swapsWith l (some (.Tuple es c p)) W.line X.e=pure false from(cY N).sw (by simpa using M) _ _ _) (Aw hnt) rfl
theorem zA{j:Cn}{X:Cx}(h:XOk j X)(k:∀x,X.fn x=true)(S:PassesOwn (model X.p X.w) X.A X.e X.xe):∀n (st:Stmt) (f:ES),Fg j n st=some f->PS X st (h_ X.K f)
 |0,st,f,q=>by cases q
 |n+1,st,f,q=>by
  have u:=zA h k S n;have g:=jQ n j X h;cases st with
  |Assign Q v L=>obtain⟨t,d,m⟩:=ak q;clear q;cases ci d;exact Fj h k m
  |Return r p=>
   obtain⟨e,d,m⟩:=ak q;cases (show r=some e from d);clear q d;split at m
   .exact Fh h m
   .obtain⟨x,s,rfl⟩:=ao m;exact zg ((g _).e x s)
  |AugAssign t P v p=>
   obtain⟨x,d,m⟩:=ak q;clear q;obtain⟨I,rfl⟩:=mY d;split at m
   .rename_i z;rw[aq]at z;obtain⟨i,D,A⟩:=ak m;obtain⟨F,s,rfl⟩:=ao A;cases P with
    |Add=>exact K_ i h.nd ((g _).v F s) (h.get D) (h.loc z.1) (.inl (k x))
    |_=>cases aD z.2
   .cases m
  |Break p=>cases q;exact Nh
  |Continue p=>cases q;exact Ng
  |Raise a b p=>cases q;exact EL
  |Expr e p=>
   replace q:(if dE e=true then none else (tr j n e).e.map dA)=some f:=q;split at q
   .cases q
   .rename_i H;obtain⟨x,s,rfl⟩:=ao q;exact HJ ((g _).e x s) ((mR s).sw (by simpa using H) _ _ _)
  |If c a b p=>obtain⟨c,s,q⟩:=ak q;obtain⟨x,w,q⟩:=ak q;obtain⟨y,C,rfl⟩:=ao q;exact Nf ((g _).b c s) (iU u w) (iU u C)
  |While c o l p=>
   cases l with
   |cons _ _=>cases q
   |nil=>obtain⟨c,s,q⟩:=ak q;obtain⟨b,w,rfl⟩:=ao q;exact EK S ((g _).b c s) (iU u w)
  |For M iter o l p=>
   cases l with
   |cons _ _=>cases q
   |nil=>obtain⟨E,B,q⟩:=ak q;obtain⟨G,s,q⟩:=ak q;obtain⟨b,w,rfl⟩:=ao q;exact K9 S h.calm (Ex h g s) (tg_ok h.calm h.hN h.nd (λx K=>⟨h.loc K,.inl (k x)⟩) B) (iU u w) λx=>sm s _ x
  |_=>cases q
structure Df where
 name:Str
 short:Str
 cls:Str
 st:Stmt
 N:LS
 ps:LS
 own:LS
 deep:LS
 refs:LS
noncomputable abbrev At:=List (Str×LS)
noncomputable def aT(T:At)(c f:Str):Bool:=T.any λx=>decide (x.1=c) && x.2.contains f
noncomputable def fT(D:List Df)(h:Str->GF)(x:Str):Option GF:=if (D.any λd=>decide (d.name=x) && d.cls.cps.isEmpty)=true then some (h x) else none
noncomputable def KA(c m:Str)(d:Df):Bool:=decide (d.cls=c) && decide (d.short=m) && !d.cls.cps.isEmpty
def mT(D:List Df)(h:Str->GF)(c m:Str):Option GF:=if m=("__init__":Str) then none else (D.find? (KA c m)).map λd=>h d.name
def Ml(D:List Df)(h:Str->GF)(c:Str):Option GF:=(D.find? (KA c "__init__")).map λd=>h d.name
noncomputable abbrev P3:=(Str->GF)×(Str->Option GF)×Option GF
def Mn(G:Str->Option P)(T:At)(D:List Df)(p:P3)(d:Df):Cn:=⟨d.N,d.own,d.deep,d.refs,(aX d.st).names,fT D p.1,G,aT T,mT D p.1,p.2.1,p.2.2⟩
def qQ(G:Str->Option P)(T:At)(D:List Df)(p:P3)(d:Df):ES:=(rn (Fg (Mn G T D p d) 60) (cU d.st)).getD qm
noncomputable def stays(n:Nat)(x:Str):Bool:=(decide (x=("ends_on":Str)) && gC 14 n) ||((decide (x=("hand_ends":Str)) ||decide (x=("flaw_ends":Str))) && gC 13 n)
def kS(G:Str->Option P)(T:At)(D:List Df):Nat->P3
 |0=>(λ_ _ _=>none,λ_=>none,none)
 | n+1=>(fun x=>cond (stays n x) ((kS G T D n).1 x) (match D.find? fun d=>decide (d.name=x) with
  |some d=>iu d.ps.length d.N.length (qQ G T D (kS G T D n) d)
  |none=>λ_ _=>none),Ml D (kS G T D n).1,fT D (kS G T D n).1 "ends_on")
noncomputable def Eg(G:Str->Option P)(T:At)(D:List Df)(n:Nat):Str->GF:=(kS G T D n).1
theorem kE{G:Str->Option P}{T:At}{D:List Df}{n:Nat}{x:Str}(h:stays n x=true):Eg G T D (n+1) x=Eg G T D n x:=by show cond (stays n x) _ _=_;rw[h];rfl
theorem cond_ok{B:Type}{c:Bool}{a b:B}{p:B->Prop}(h:p b)(x:p a):p (cond c a b):=by cases c<;>assumption
def Kr(d:Df):Bool:=decide ((aX d.st).kind=.function) && !(aX d.st).isCoroutine && !(aX d.st).isGenerator && decide d.N.Nodup && decide (d.N.take d.ps.length=d.ps)
 && d.ps.all (λx=>(aX d.st).names.lookup x == some .local ||(aX d.st).names.lookup x == some .cell) && (aX d.st).names.all (λy=>y.2 != .free)
theorem FH{d:Df}(h:Kr d=true):FnScope d.N d.ps (aX d.st):=by
 unfold Kr at h;simp only[aq]at h;obtain⟨⟨⟨⟨⟨⟨a,e⟩,s⟩,n⟩,k⟩,f⟩,b⟩:=h;refine⟨aD a,by simpa using e,by simpa using s,aD n,aD k,λx c=>?_,λy m=>?_⟩
 .have:=bt.mp f x c;simpa using this
 .have:=bt.mp b y m;simpa using this
structure DOk(K:FG)(mg:SV)(d:Df)(f:Addr)(fd:FuncData):Prop where
 fn:Fun K d.short d.name d.st f fd
 bd:Binds K fd d.ps []
 pl:d.cls.cps.isEmpty=true->∃kV doc pm an cdv ct,fd=fM d.short d.name (eF d.st) (cU d.st) (aX d.st) .none kV doc pm an cdv ct
 bn:d.short=("__init__":Str)->BU.contains d.cls=true->Binds K fd d.ps [.none]
 gl:d.cls.cps.isEmpty=true->mg d.name=some (.ref f)
 cl:d.cls.cps.isEmpty=false->∃C,gv K d.cls C/\mg d.cls=some (.ref C)/\Cls K C/\(d.short=("__init__":Str)->Mk K C f)/\(d.short≠("__init__":Str)->Meth K C d.short f)
def qB(o:Obj):Bool:=match o.data with
 | .fields v=>(match v.toList with|_::.str n _::_=>n == AL|_=>false)
 |_=>false
def xB(K:FG):Bool:=K.all λp=>!qB p.2 ||(match zE p with|some P=>tW K p.1 P|none=>false)
theorem AK(h:xB K=true)(x:fN K d AL=true):∃c P,d=.ref c/\tW K c P=true/\P ∈ bz K:=by
 unfold fN at x;split at x
 .rename_i c;split at x
  .rename_i l i v n hk;have m:=y_ hk;have a:=bt.mp h _ m;have e:qB ⟨l,i,.fields v,n⟩=true:=x;rw[e]at a;simp only[lV,iR]at a;split at a
   .rename_i P s;exact⟨c,P,rfl,a,iP.mpr ⟨_,m,s⟩⟩
   .cases a
  .cases x
 .cases x
structure TOk(w:World)(G:Str->Option P)(T:At)(D:List Df)(K:FG)(mg:SV):Prop where
 fn:∀d ∈ D,∃f fd,DOk K mg d f fd
 sc:D.all Kr=true
 un:(D.map (·.name)).Nodup
 z:∀x ∈ D8,mg x=none
 gl:∀x v,G x=some v->kh w K mg x v
 at':K4 K (aT T)
 lam:xB K=true
 lm:∀d ∈ D,d.deep.contains (Str.ofString "<lambda>")=true->d.name=AL
theorem nq:∀{D:List Df}{d:Df},(D.map (·.name)).Nodup->d ∈ D->(D.find? λe=>decide (e.name=d.name))=some d
 | [],_,_,h=>by cases h
 |a::r,d,x,h=>by
  rw[az,bN]at x;rcases aH.mp h with h|h
  .subst h;simp
  .have n:¬a.name=d.name:=λz=>x.1 (by rw[z];exact dH.mpr ⟨d,h,rfl⟩);rw[pS (by simpa using n)];exact nq x.2 h
theorem s_{D:List Df}{x:Str}{a:Str->GF}{g:GF}(h:fT D a x=some g):∃d ∈ D,d.name=x/\d.cls.cps.isEmpty=true/\g=a x:=by
 unfold fT at h;split at h
 .rename_i c;cases h;obtain⟨d,s,e⟩:=lR.mp c;rw[aq]at e;exact⟨d,s,aD e.1,e.2,rfl⟩
 .cases h
theorem AW(h:KA c m d=true):d.cls=c/\d.short=m/\d.cls.cps.isEmpty=false:=by unfold KA at h;simp only[aq]at h;exact⟨aD h.1.1,aD h.1.2,by simpa using h.2⟩
theorem BM{D:List Df}{x:Str->GF}{c m:Str}{g:GF}(h:mT D x c m=some g):m≠("__init__":Str)/\∃d ∈ D,d.cls=c/\d.short=m/\d.cls.cps.isEmpty=false/\g=x d.name:=by
 unfold mT at h;split at h
 .cases h
 .rename_i n;obtain⟨d,q,rfl⟩:=ao h;obtain⟨a,e,s⟩:=AW (wh q);exact⟨n,d,wy q,a,e,s,rfl⟩
theorem BN{D:List Df}{x:Str->GF}{c:Str}{g:GF}(h:Ml D x c=some g):∃d ∈ D,d.cls=c/\d.short=("__init__":Str)/\d.cls.cps.isEmpty=false/\g=x d.name:=by unfold Ml at h;obtain⟨d,q,rfl⟩:=ao h;obtain⟨a,e,s⟩:=AW (wh q);exact⟨d,wy q,a,e,s,rfl⟩
theorem xK {G:Str->Option P}{T:At}{D:List Df}{Pg:Program}{w:World}{K:FG}{mg:SV}{base:Heap} (Tk:TOk w G T D K mg):∀n,(∀d ∈ D,
  ∀f fd,Fun K d.short d.name d.st f fd->FnOk Pg w K mg base kW n f fd d.ps (km K (Eg G T D n d.name))) /\
  (∀c g,(kS G T D n).2.1 c=some g->∃m,n=m+1/\∃C f fd ps,gv K c C/\mg c=some (.ref C)/\Mk K C f/\FnOk Pg w K mg base kW m f fd ps (km K g)/\Binds K fd ps (if BU.contains c=true then [.none] else [])) /\
  ∀g,(kS G T D n).2.2=some g->∃m,n=m+1/\∃f fd ps,FnOk Pg w K mg base kW m f fd ps (km K g)/\mg "ends_on"=some (.ref f)/\cC K (.ref f)=true/\Binds K fd ps []
 |0=>⟨λd hd f fd hF=>Ba,λc g h=>(by cases (show(none:Option GF)=some g from h)),λg h=>(by cases (show(none:Option GF)=some g from h))⟩
 |n+1=>by
  have ih:=xK (Pg:=Pg) (w:=w) (base:=base) Tk n;refine⟨λd hd f fd hF=>?_,λc g h=>?_,λg h=>?_⟩
  .have e:Eg G T D (n+1) d.name=cond (stays n d.name) (Eg G T D n d.name) (iu d.ps.length d.N.length (qQ G T D (kS G T D n) d)):=by
    show cond _ _ (match D.find? λd'=>decide (d'.name=d.name) with|some d=>iu d.ps.length d.N.length (qQ G T D (kS G T D n) d)|none=>λ_ _=>none)=_;rw[nq Tk.un hd];rfl
   rw[e];have hsc:=FH (bt.mp Tk.sc d hd);have XO:∀(cdv:Value),fN K cdv d.name=true->∀(A:Around)(outer:List Env)(s:Shared)(H:Hp)(E':XK),Room n (A.deeper (envOfC d.name (aX d.st) s.heap.objs.size f cdv)) ->
     XOk (Mn G T D (kS G T D n) d) (sO kW Pg w K mg base d.N d.name (aX d.st) f cdv A outer s H E').nox:=fun cdv hcd A outer s H E' hr=>{
    hN:=rfl
    nd:=hsc.nd
    ks:=rfl
    kd:=hsc.kind
    calm:=rfl
    hu:=by have:=hr.un;show(A.deeper (envOfC d.name (aX d.st) s.heap.objs.size f cdv)).units+64 < _;lia
    fns:=λx g hg=>by obtain⟨d',hd',hn,hc,rfl⟩:=s_ hg;obtain⟨f',fd',h1⟩:=Tk.fn d' hd';subst hn;exact⟨n,f',fd',d'.ps,(ih.1 d' hd' f' fd' h1.fn),hr,h1.gl hc,h1.fn.kp,h1.bd⟩
    blt:=Tk.z
    glb:=Tk.gl
    attrs:=Tk.at'
    meths:=λc m g hg=>by obtain⟨hm,d',hd',rfl,rfl,hc,rfl⟩:=BM hg;obtain⟨f',fd',h1⟩:=Tk.fn d' hd';obtain⟨C,c1,c2,c3,c4,c5⟩:=h1.cl hc;exact⟨C,n,f',fd',d'.ps,c1,c3,c5 hm,(ih.1 d' hd' f' fd' h1.fn),hr,h1.bd⟩
    mks:=λc g hg=>by obtain⟨m,rfl,C,f',fd',ps,c1,c2,c3,c4,c5⟩:=ih.2.1 c g hg;exact⟨C,m,f',fd',ps,c1,c2,c3,c4,hr,c5⟩
    lam:=λz=>by have hn:=Tk.lm d hd z;rw[hn]at hcd;obtain⟨c,P,e1,e2,e3⟩:=AK Tk.lam hcd;exact⟨⟨by show d.name++Str.ofString ".<locals>."++Str.ofString "<lambda>"=uA;rw[hn];decide,c,P,e1,e2,e3⟩,λ_=>rfl⟩
    lmf:=λg hg=>by obtain⟨m,rfl,f',fd',ps,c1,c2,c3,c4⟩:=ih.2.2 g hg;exact⟨m,f',fd',ps,c1,hr,c2,c3,c4⟩ }
   refine cond_ok (p:=λg=>FnOk Pg w K mg base kW (n+1) f fd d.ps (km K g)) (G0 (N:=d.N) hF hsc λcdv hcd A outer s H E' hr=>?_) ((ih.1 d hd f fd hF).mono (e_ n));have X:=XO cdv hcd A outer s H E' hr;unfold qQ;cases q:rn (Fg (Mn G T D (kS G T D n) d) 60) (cU d.st) with
   |none=>exact x4.imp' λD J H hz=>by obtain⟨F,m,L,S,fl,L',S',r,l,q,k⟩:=hz;cases q
   |some b=>exact iU (λst f q=>zA X (λ_=>rfl) PassesOwn.never 60 st f q) q
  .obtain⟨d,hd,rfl,hs,hc,rfl⟩:=BN (x:=(kS G T D n).1) h;obtain⟨f,fd,h1⟩:=Tk.fn d hd;obtain⟨C,c1,c2,c3,c4,c5⟩:=h1.cl hc;refine⟨n,rfl,C,f,fd,d.ps,c1,c2,c4 hs,(ih.1 d hd f fd h1.fn),?_⟩;by_cases hn:BU.contains d.cls=true
   .rw [ae hn];exact h1.bn hs hn
   .rw [ag hn];exact h1.bd
  .obtain⟨d',hd',hn,hc,rfl⟩:=s_ (show fT D (kS G T D n).1 "ends_on"=some g from h);obtain⟨f',fd',h1⟩:=Tk.fn d' hd';have e:=ih.1 d' hd' f' fd' h1.fn;have e2:=h1.gl hc;rw[hn]at e e2;exact⟨n,rfl,f',fd',d'.ps,e,e2,h1.fn.kp,h1.bd⟩
theorem sr:∀s:List Int,bg K F H (s.map .int) (s.map V.int)
 | []=>rfl
 |n::r=>⟨_,_,rfl,rfl,sr r⟩
theorem GC{K:FG}{H:Hp}{a:Addr}{n:List Int}{g:GF}{E:XK}(e:yG H)(S:dw K H a (n.map V.int))(h:pureOf g [.ro (n.map .int)]=some (.bl true)):km K g [.ref a] H (λv _=>v=.bl true) E:=by
 refine mO ⟨λb=>b=a/\H a≠none,[.ro (n.map .int)],.bl true,λb x=>(by rw[x.1];exact x.2),⟨_,_,rfl,⟨a,_,rfl,?_,sr n⟩,rfl⟩,h,λv F k _ r=>r⟩;rcases S with S|S
 .rcases e a with z|z|⟨o,f,z⟩
  .rcases S with S|⟨o,S⟩<;>rw[z]at S<;>cases S
  .rcases S with S|⟨o,S⟩<;>rw[z]at S<;>cases S
  .rcases S with S|⟨s,S⟩
   .rw [z]at S;cases S
   .exact .inl ⟨⟨rfl,by rw[z];exact λq=>nomatch q⟩,s,S⟩
 .exact .inr (.inr S)
open PySem L2
section
variable(L:Lc)(S:aC)
@[simp] theorem KI(i:Nat):U i L S=match L[i]? with|some (some d)=>some (d,S)|_=>none:=rfl
@[simp] theorem w_(r:EE):d5 r L S=aZ (r L S) λd h=>match d6 d h with|some n=>some (.int (n:Int),h)|none=>none:=by
 unfold d5;cases r L S with
 |none=>rfl
 |some z=>obtain⟨d,h⟩:=z;rw[av,av];cases d6 d h<;>rfl
@[simp] theorem KE(i:Nat)(v:P):aQ i v L=some (L.set i (some (.p v))):=rfl
end
@[simp] theorem Bc(x:List B):(few x=true)=(x.length≤1000000):=by unfold few;simp
@[simp] theorem D2(n:Nat):(gS n=true)=(n≤1000000):=by unfold gS;simp
theorem dq{B:Type}{s:List B}{i:Int}{x:B}(a:0≤i)(h:s[i.toNat]? = some x):L2.atI s i=some x:=by have l:=(a9.mp h).1;unfold L2.atI L2.AO;rw[ae a,ae (by lia)];exact h
@[simp] theorem Kc(x:B)(s:List B):L2.atI (x::s) 0=some x:=dq (by lia) rfl
@[simp] theorem K0(x y:B)(s:List B):L2.atI (x::y::s) 1=some y:=dq (by lia) rfl
@[simp] theorem KZ(x y z:B)(s:List B):L2.atI (x::y::z::s) 2=some z:=dq (by lia) rfl
@[simp] theorem HA(x y z w:B)(s:List B):L2.atI (x::y::z::w::s) 3=some w:=dq (by lia) rfl
@[simp] theorem KO(x:List P)(i:Int):bD (.tup x) (.int i)=L2.atI x i:=rfl
@[simp] theorem KP(x:List P)(i:Int):bD (.lst x) (.int i)=L2.atI x i:=rfl
@[simp] theorem Mz(x:List P)(i:Int):bD (.ro x) (.int i)=L2.atI x i:=rfl
@[simp] theorem KQ(k:List cn)(v:List P)(x:Str):bD (.dct k v) (.str x)=eB (.inr x) k v:=rfl
@[simp] theorem JV(i j:Int):uR (.int i) (.int j)=some (.bl (decide (i=j))):=rfl
@[simp] theorem JU(i j:Str):uR (.str i) (.str j)=some (.bl (decide (i=j))):=rfl
@[simp] theorem KU(i j:Bool):uR (.bl i) (.bl j)=some (.bl (decide (i=j))):=rfl
@[simp] theorem KL(i j:Int):G5 (.int i) (.int j)=some (.bl (!decide (i=j))):=rfl
@[simp] theorem KJ(i j:Str):G5 (.str i) (.str j)=some (.bl (!decide (i=j))):=rfl
@[simp] theorem Mx(i j:Bool):G5 (.bl i) (.bl j)=some (.bl (!decide (i=j))):=rfl
@[simp] theorem JW(i j:Int):qL (.int i) (.int j)=some (.int (i+j)):=rfl
@[simp] theorem JT(i j:Int):sN (.int i) (.int j)=if io i j=true then some (.int (i * j)) else none:=rfl
@[simp] theorem Hr(x:List P)(n:Int):fH (.tup x) (.int n)=if (gS (x.length * n.toNat) && decide (n.natAbs < 1000000))=true then some (.tup (List.replicate n.toNat x).flatten) else none:=rfl
@[simp] theorem Hs(x:Str)(n:Int):fH (.str x) (.int n)=sN (.str x) (.int n):=rfl
@[simp] theorem JS(i:Int):dj (.int i)=some (.int (-i)):=rfl
theorem bQ(a n:Nat)(b:ES)(s:List P):pureOf (iu a n b) s=if s.length=a then match b (s.map (λp=>some (.p p))++List.replicate (n-s.length) none) [] with
 |some (.rt d,_,S)=>(toP 9 d S).map (·.1)
 |some (.nx,_,_)=>some .non
 |_=>none else none:=by
 unfold pureOf iu;rw[a8,pL];by_cases h:s.length=a
 .rw [ae h,ae h];show (match fQ (b (s.map (fun p=>some (D.p p))++List.replicate (n-s.length) none) []) with
   |some (d,S)=>(toP 9 d S).map (λ(x:P×aC)=>x.1)
   |none=>none)=_
  cases b (s.map (λp=>some (D.p p))++List.replicate (n-s.length) none) [] with
  |none=>rfl
  |some z=>obtain⟨f,L,S⟩:=z;cases f<;>simp[fQ]
 .rw [ag h,ag h]
theorem bo{g:i3}{b:ES}{v:P}{r:List P}{L h L2:Lc}{S x:aC}(a:g v L=some h)(e:b h S=some (.nx,L2,x)):cB g b (v::r) L S=cB g b r L2 x:=by simp[cB,a,e]
theorem np{g:i3}{b:ES}{v:P}{r:List P}{L h L2:Lc}{S x:aC}{d:D}(a:g v L=some h)(e:b h S=some (.rt d,L2,x)):cB g b (v::r) L S=some (.rt d,L2,x):=by simp[cB,a,e]
section
variable(L:Lc)(S:aC)
@[simp] theorem xE(a:EV):qA a L S=aZ (a L S) λx h=>match x with | .int n=>if (decide (n.natAbs < 1000000))=true then some (intsFrom 0 n.toNat,h) else none|_=>none:=by
 unfold qA;cases a L S with
 |none=>rfl
 |some z=>obtain⟨x,h⟩:=z;cases x<;>first|rfl|simp
@[simp] theorem JI(g:List i3)(v:List P):cA g (.tup v) L=nj g v L:=rfl
@[simp] theorem JH:nj [] [] L=some L:=rfl
@[simp] theorem Hq(g:i3)(s:List i3)(v:P)(h:List P):nj (g::s) (v::h) L=match g v L with|some k=>nj s h k|none=>none:=rfl
@[simp] theorem LA(v:P):CL (.p v) S=qc v:=rfl
@[simp] theorem Km(b:Bool):qc (.bl b)=some b:=rfl
@[simp] theorem Ir(i:Int):qc (.int i)=some (i != 0):=rfl
@[simp] theorem M0(x y:P):k5 (.p x) (.p y) S=(DT x y).map .bl:=rfl
@[simp] theorem MZ(x y:P):DP (.p x) (.p y) S=(Dw x y).map .bl:=rfl
end
@[simp] theorem KH(i j:Int):DT (.int i) (.int j)=some (decide (i=j)):=rfl
@[simp] theorem KG(i j:Str):DT (.str i) (.str j)=some (decide (i=j)):=rfl
@[simp] theorem Ms(i j:Bool):DT (.bl i) (.bl j)=some (decide (i=j)):=rfl
@[simp] theorem Kv(i j:Int):Dw (.int i) (.int j)=some (!decide (i=j)):=rfl
@[simp] theorem Ku(i j:Str):Dw (.str i) (.str j)=some (!decide (i=j)):=rfl
@[simp] theorem Me(i j:Bool):Dw (.bl i) (.bl j)=some (!decide (i=j)):=rfl
@[simp] theorem Hx(i j:Int):bW (.int i) (.int j)=some (.int (i+j)):=rfl
@[simp] theorem Hv(x y:Str):bW (.str x) (.str y)=qL (.str x) (.str y):=rfl
@[simp] theorem Hw(x y:List P):bW (.lst x) (.lst y)=if gS (x.length+y.length)=true then some (.lst (x++y)) else none:=rfl
@[simp] theorem Hu(i j:Int):fH (.int i) (.int j)=if io i j=true then some (.int (i * j)) else none:=rfl
@[simp] theorem Ht(x:List P)(n:Int):fH (.lst x) (.int n)=if (gS (x.length * n.toNat) && decide (n.natAbs < 1000000))=true then some (.lst (List.replicate n.toNat x).flatten) else none:=rfl
theorem Bg(h:eQ 20 v=true):DT v v=some true:=by
 unfold DT;have e:b_ (pd v) (pd v)=true:=wf _ (cT 20 v h).1;cases q:uR v v with
 |none=>simp[h,e]
 |some z=>
  cases v with
  |int i=>cases q;simp
  |str i=>cases q;simp
  |bl i=>cases q;simp
  |non=>cases q
  |tup _=>cases q
  |lst _=>cases q
  |ro _=>cases q
  |dct _ _=>cases h
theorem Az(h:eQ 20 v=true):Dw v v=some false:=by
 unfold Dw;have e:b_ (pd v) (pd v)=true:=wf _ (cT 20 v h).1;cases q:G5 v v with
 |none=>simp[h,e]
 |some z=>
  cases v with
  |int i=>cases q;simp
  |str i=>cases q;simp
  |bl i=>cases q;simp
  |non=>cases q
  |tup _=>cases q
  |lst _=>cases q
  |ro _=>cases q
  |dct _ _=>cases h
section
variable{L:Lc}{S:aC}
@[simp high] theorem NV(d:D):U 0 (some d::L) S=some (d,S):=rfl
@[simp high] theorem NU(a:Option D)(i:Nat):U (i+1) (a::L) S=U i L S:=rfl
@[simp ↓ high] theorem NT(x y:s):(if few ([]:List B)=true then x else y)=x:=rfl
@[simp ↓ high] theorem NS(a:B)(x y:s):(if few ([a]:List B)=true then x else y)=x:=rfl
@[simp ↓ high] theorem NR(a h:B)(x y:s):(if few ([a,h]:List B)=true then x else y)=x:=rfl
@[simp ↓ high] theorem NQ(a h e:B)(x y:s):(if few ([a,h,e]:List B)=true then x else y)=x:=rfl
@[simp ↓ high] theorem NP(a h e s:B)(x y:k):(if few ([a,h,e,s]:List B)=true then x else y)=x:=rfl
@[simp ↓ high] theorem NO(a h e s n:B)(x y:k):(if few ([a,h,e,s,n]:List B)=true then x else y)=x:=rfl
@[simp ↓ high] theorem NN(a h e s n k:B)(x y:b):(if few ([a,h,e,s,n,k]:List B)=true then x else y)=x:=rfl
@[simp ↓ high] theorem NM(a h e s n k f:B)(x y:b):(if few ([a,h,e,s,n,k,f]:List B)=true then x else y)=x:=rfl
@[simp high] theorem NZ(v:P)(S:aC):toP 9 (.p v) S=some (v,S):=rfl
@[simp ↓ high] theorem M7(x:Option (B×aC))(f:B->aC->Option s):aZ x f=match x with|some (a,S)=>f a S|none=>none:=rfl
@[simp ↓ high] theorem NG(x y:s):(if true=true then x else y)=x:=rfl
@[simp ↓ high] theorem NH(x y:s):(if false=true then x else y)=y:=rfl
end
@[simp] theorem L6(a b:String):(Str.ofString a=Str.ofString b)=(a=b):=by rw[vg,vg];exact propext ⟨λh=>String.toList_inj.mp ((wo λ_ _=>Char.toNat_inj.mp).mp (by simpa using h)),λh=>by rw[h]⟩
end Ev
set_option tactic.hygienic false
namespace My
open PySem L2 Ev
noncomputable def zC(i:Nat):Stmt:=PySem.Challenge.pw_roadsall_k44_tickets_end.main.body.getD i (.Pass ⟨0,0,0,0⟩)
noncomputable def Gv(x:Str):Option P:=if x=("HAND_PARTS":Str) then some (.tup [.str "some",.str "all",.str "many"]) else if x=("HIGHEST_LETTER":Str) then some (.int 999) else if x=("MOST_STANDINGS":Str) then some (.int 2000) else if x=("NOBODY":Str) then some (.int (-1)) else none
noncomputable def Hn:LS:=["Board.family_of","Board.__init__","flaw_ends","Board.hands_beside","takeable","targets_of","posted","sendings","step_ends","hand_ends","ends_on","known_truths","knowing_truths","fitting_numbers","hand_truths","letter_truths","is_dry","Scene.dry_truths","truths_in","Scene.__init__"]
def fS(x:Str)(t k:Nat)(N o d:LS):Df:=⟨x,x,"",zC t,N,N.take k,o,d,Hn⟩
def k_:Df:=fS "_law_mix" 52 2 ["_law_cell","_law_k","_law_turn","_law_number"] [] []
def j8:Df:=fS "_law_plan" 53 5 ["_law_number","_law_more","_law_kind","_law_room","_law_by_cell","_law_tree","_law_low","_law_cells","_law_next_one","_law_first","_law_back","_law_forth","_law_families"] [] []
def hU:Df:=fS "families_of" 11 1 ["plan","homes","place","family"] ["homes"] []
def j7:Df:=fS "pairs_of" 12 1 ["plan","names","pairs","road","one","name","others"] ["pairs"] []
def i8:Df:=⟨"Board.family_of","family_of","Board",(L2.dP (zC 10) 1),["self","hand"],["self","hand"],["self"],[],Hn⟩
def nD:Df:=⟨"Board.__init__","__init__","Board",(L2.dP (zC 10) 0),["self","plan","place","pair","hand"],["self","plan"],["self"],["families_of","pairs_of","places","self"],Hn⟩
def jf:Df:=fS "rows_from" 38 2 ["firsts","ends_of","rows","listed","place","thing","deed","end"] ["listed","rows"] []
def oO:Df:=fS "begin" 13 1 ["plan","hands","place","cells","whos"] ["hands"] []
def j9:Df:=fS "has_flaw" 28 3 ["road","word","letters"] [] []
def gj:Df:=fS "unlike_spots" 20 2 ["kind","letters","spots"] [] []
def j6:Df:=fS "replaced" 31 3 ["row","place","thing"] [] []
def k9:Df:=fS "without" 30 2 ["row","place"] [] []
def nB:Df:=fS "flawed" 29 3 ["word","letters","spot"] [] []
def ji:Df:=fS "flaw_ends" 27 3 ["board","standing","word","ends","place","pair","road","one","other","letters","spot","roads"] ["board","ends"] []
def jc:Df:=fS "values_of" 18 2 ["family","cells"] [] []
def j_:Df:=fS "compared" 6 3 ["word","one","other"] [] []
def j3:Df:=fS "value_of" 4 2 ["tree","values","kind","one","other"] [] []
def oM:Df:=fS "holds" 5 2 ["condition","values","kind"] [] []
def gQ:Df:=⟨"Board.hands_beside","hands_beside","Board",(L2.dP (zC 10) 2),["self","hand","name"],["self","hand","name"],["self"],[],Hn⟩
def j4:Df:=fS "takeable" 19 4 ["board","roads","hand","take","found","sender","place","kind","letters","spots"] ["board","found"] []
def gm:Df:=fS "cells_behind" 22 4 ["family","cells","step","values","given","name","amount","numbers","place","cell","number"] ["given","numbers"] []
def hG:Df:=fS "whos_behind" 23 4 ["family","whos","take","letter"] [] []
def iA:Df:=fS "targets_of" 25 5 ["board","hand","way","name","whos","others"] ["board"] []
def ny:Df:=fS "posted" 26 5 ["board","roads","hand","targets","letter","target","place","road","letters"] ["board"] []
def j5:Df:=fS "sendings" 24 6 ["board","hand","sends","values","roads","whos","ways","mark","amount","way","name","letter","further","chosen","sent","added","targets","roads_behind"] ["board","further"] []
def je:Df:=fS "step_ends" 21 5 ["board","standing","hand","step","letter","family","room","cells","whos","roads","values","place","hands","ends","chosen","roads_behind"] ["board","ends","values"] ["values","values_of"]
def jg:Df:=fS "hand_ends" 17 3 ["board","standing","hand","family","room","cells","whos","values","ends","step","letter"] ["board","ends"] []
def lc:Df:=fS "ends_on" 16 2 ["board","standing","ends","hand"] ["board","ends"] []
def hV:Df:=fS "coming_rows" 37 1 ["plan","board"] ["board","return"] ["<lambda>","rows_from"]
def lf:Df:=fS "comings" 36 1 ["plan"] ["return"] []
def hL:Df:=fS "_law_cell_at" 51 2 ["_law_script","_law_k"] [] []
def gk:Df:=fS "known_truths" 49 3 ["scene","hand","inner_truths","firm","standing","truth","own"] ["firm","scene"] []
def nz:Df:=fS "joined" 41 3 ["kind","ones","others"] ["return"] []
def eU:Df:=fS "knowing_truths" 48 2 ["scene","fact","kind","name","inner","inner_truths","found","hand","known"] ["scene"] []
def sL:Df:=fS "fits" 45 4 ["family","own","room","condition"] [] []
def eA:Df:=fS "fitting_numbers" 44 4 ["scene","members","room","condition","family","known","numbers","standing","number","hand","own"] ["known","members","numbers","scene"] []
def hR:Df:=fS "hand_truths" 43 2 ["scene","fact","kind","name","room","condition","members","numbers"] ["members","return","scene"] []
def fG:Df:=fS "letter_number" 47 3 ["standing","places","mark","number","place"] [] []
def fF:Df:=fS "letter_truths" 46 2 ["scene","fact","one","other","mark","word","number","places"] ["return","scene"] []
def nA:Df:=fS "is_dry" 42 2 ["board","standing","hand"] ["board"] []
def iB:Df:=⟨"Scene.dry_truths","dry_truths","Scene",(L2.dP (zC 35) 1),["self"],["self"],["return","self"],[],Hn⟩
def jd:Df:=fS "truths_in" 40 2 ["scene","fact","kind"] ["return","scene"] ["hand_truths","joined","knowing_truths","letter_truths"]
def nC:Df:=⟨"Scene.__init__","__init__","Scene",(L2.dP (zC 35) 0),["self","plan","standings","around"],["self","plan","standings","around"],["self"],[],Hn⟩
def nw:Df:=fS "truths" 39 3 ["plan","fact","web"] ["return"] ["truths_in"]
def jj:Df:=fS "ends_from" 15 2 ["plan","standing"] ["return"] ["ends_on"]
def oN:Df:=fS "deeds" 14 2 ["plan","standing"] ["return"] []
def ma:Df:=fS "law" 54 1 ["_law_script","_law_drawn","_law_more","_law_number","_law_kind","_law_plan_here","_law_letters","_law_web","_law_place","_law_standing","_law_told","_law_due"] ["_law_letters"] []
noncomputable def Att:At:=[("Board",["families","homes","members","pairs","places"]),("Scene",["around","board","dries","standings"])]
def HB:List Df:=[k_,j8,hU,j7,jf,oO,j9,gj,j6,k9,nB,ji,jc,j_,j3,oM,j4,gm,hG,iA,ny,j5,je,jg,lc,hV,lf,hL,gk,nz,eU,sL,eA,hR,fG,fF,nA,jd,nw,jj,oN,ma]
def M_:List Df:=[i8,nD,gQ,iB,nC]
noncomputable def Tb:List Df:=HB++M_
noncomputable def Ph(n:Nat):Str->GF:=Eg Gv Att Tb n
def eW(h:Str->GF):ES:=(aF 0 (eV (aK ce (vE (U 0)) (vC (.int 2147483648)))))
def iH (h:Str->GF):ES:=(aA (dO (bV (aK KS (vE (U 0)) (aK DW (vC (.int 10)) (vC (.int 12))))) (aA (aF 0 (eV (aK qK (aK ce (vE (U 0)) (aK DW (vC (.int 10)) (vC (.int 12)))) (vC (.int 1)))))
  (aA (cX (qA (aK d9 (vE (U 1)) (vC (.int 61)))) (aQ 2) (eW h))
  (bc (eV (aK d9 (vE (U 0)) (vC (.int 2147483648))))))) eY)
  (aA (aF 3 (eV (aK d9 (aK fH (aK bW (aK bW (aK d9 (vE (U 0)) (vC (.int 1000003))) (aK fH (aK fH (vE (U 1)) (vE (U 1))) (vC (.int 7919)))) (vE (U 1))) (vC (.int 48271))) (vC (.int 2147483629)))))
  (aA (aF 3 (eV (aK d9 (aK fH (vE (U 3)) (vE (U 3))) (vC (.int 2147483587)))))
  (bc (eV (aK ce (aK d9 (aK fH (vE (U 3)) (aK bW (vE (U 3)) (vC (.int 2)))) (vC (.int 2147483579))) (vC (.int 7))))))))
theorem k6(n:Nat):Ph (n+2) "_law_mix"=iu 2 4 (iH (Ph (n+1))):=by kernel_rfl
def j' (h:Str->GF):ES:=(aA (aF 5 (eV (aR (O (vC (.str "number")) (O (vE (U 0)) aj)))))
  (aA (aF 6 (eV (aJ iF (O (aJ iD (O (aK qK (vE (U 0)) (vC (.int 4))) (O (vC (.int 990)) aj))) (O (kl dj (vC (.int 999))) aj)))))
  (aA (aF 7 (eV (be aj)))
  (aA (dO (bT (U 4)) (aA (aF 5 (eV (aR (O (vC (.str "name")) (O (vC (.str "c")) aj)))))
  (aF 7 (eV (be (O (aR (O (vC (.str "c")) (O (vE (U 6)) (O (aK bW (vE (U 6)) (vC (.int 9))) (O (vE (U 0)) aj))))) aj))))) eY)
  (aA (dO (yD (bV (aK tq (vE (U 0)) (vC (.int 0)))) (yC (bT (U 4)))) (aF 5 (eV (aR (O (vC (.str "minus")) (O (aR (O (vC (.str "number")) (O (vC (.int 0)) aj))) (O (aR (O (vC (.str "number")) (O (kl dj (vE (U 0))) aj))) aj)))))) eY)
  (aA (aF 8 (eV (aR (O (vC (.str "plus")) (O (aR (O (vC (.str "name")) (O (vC (.str "it")) aj))) (O (aR (O (vC (.str "number")) (O (vE (U 1)) aj))) aj))))))
  (aA (dO (bV (aK tq (vE (U 1)) (vC (.int 0)))) (aF 8 (eV (aR (O (vC (.str "minus")) (O (aR (O (vC (.str "name")) (O (vC (.str "it")) aj))) (O (aR (O (vC (.str "number")) (O (kl dj (vE (U 1))) aj))) aj)))))) eY)
  (aA (aF 9 (eV (aR (O (vC (.str "go")) (O (vC (.str "r")) (O (aR (O (vC (.str "true")) aj)) (O (vC (.non)) (O (be aj) (O (be (O (aR (O (vC (.str "ma")) (O (vE (U 5)) (O (vC (.str "all")) (O (vC (.str "g")) aj))))) aj)) (O (vC (.str "s")) aj))))))))))
  (aA (aF 10 (eV (aR (O (vC (.str "back")) (O (vC (.str "s")) (O (aR (O (vC (.str "true")) aj)) (O (aR (O (vC (.str "ma")) (O (vC (.str "g")) (O (vC (.str "")) (O (vC (.str "")) aj))))) (O (be aj) (O (be (O (aR (O (vC (.str "ma")) (O (vE (U 8)) (O (vC (.str "all")) (O (vC (.str "g")) aj))))) aj)) (O (vC (.str "s")) aj))))))))))
  (aA (aF 11 (eV (aR (O (vC (.str "forth")) (O (vC (.str "r")) (O (aR (O (vC (.str "true")) aj)) (O (aR (O (vC (.str "ma")) (O (vC (.str "f")) (O (vC (.str "")) (O (vC (.str "")) aj))))) (O (be aj) (O (be (O (aR (O (vC (.str "ma")) (O (vE (U 8)) (O (vC (.str "all")) (O (vC (.str "f")) aj))))) aj)) (O (vC (.str "r")) aj))))))))))
  (aA (aF 12 (eV (be (O (aR (O (vC (.str "f")) (O (vC (.int 1)) (O (be (O (vC (.str "r")) (O (vC (.str "s")) aj))) (O (vE (U 7)) (O (be aj) (O (be (O (vE (U 9)) (O (vE (U 10)) aj))) aj))))))) (O (aR (O (vC (.str "g")) (O (vC (.int 1)) (O (be (O (vC (.str "r")) aj)) (O (be aj) (O (be aj) (O (be (O (vE (U 11)) aj)) aj))))))) aj)))))
  (bc (eV (aR (O (vE (U 12)) (O (be (O (aR (O (vC (.str "f")) (O (vC (.str "g")) (O (vE (U 2)) (O (vE (U 3)) (O (vC (.bl false)) (O (vC (.bl false)) aj))))))) (O (aR (O (vC (.str "g")) (O (vC (.str "f")) (O (vE (U 2)) (O (vE (U 3)) (O (vC (.bl false)) (O (vC (.bl false)) aj))))))) aj))) (O (be aj) aj)))))))))))))))))
theorem qH(n:Nat):Ph (n+2) "_law_plan"=iu 5 13 (j' (Ph (n+1))):=by kernel_rfl
def i9(h:Str->GF):ES:=(bc (i7 (bZ (aT Att) (U 0) "families") (vE (i7 (bZ (aT Att) (U 0) "homes") (vE (U 1))))))
theorem i6(n:Nat):Ph (n+2) "Board.family_of"=iu 2 2 (i9 (Ph (n+1))):=by kernel_rfl
def gq (h:Str->GF):ES:=(dO (bV (bY iX (U 7) (U 3))) (aA (dO (bV (bY k5 (eV (d5 (U 2))) (eV (vC (.int 2000))))) qm eY)
  (aA (xi (U 3) (vE (U 7)) (vC (.bl true)))
  (dA (eE (U 2) (eV (aR (O (vE (U 7)) (O (vE (U 4)) (O (vE (U 6)) aj))))))))) eY)
def bK(h:Str->GF):ES:=(gq h)
def cH (x h:Str->GF):ES:=(aA (aF 5 (i7 (i7 (U 2) (vE (U 4))) (vC (.int 0))))
  (aA (cX (iW (mJ (h "ends_on") 1 (vE (U 5)))) (cA [aQ 6,aQ 7]) (bK x))
  (zU 4 (vC (.int 1)))))
def fY (x h:Str->GF):ES:=(aA (aF 2 (jb (cJ (iW (vE (U 0))) [] 1 (aQ 8) lw (aR (O (vE (U 8)) (O (vC (.non)) (O (vC (.non)) aj)))))))
  (aA (aF 3 (qI (cJ (iW (vE (U 0))) [] 1 (aQ 8) lw (aR (O (vE (U 8)) (O (vC (.bl true)) aj))))))
  (aA (aF 4 (eV (vC (.int 0))))
  (aA (kC 1000 (bV (aK tq (vE (U 4)) (d5 (U 2)))) (cH x h))
  (bc (U 2))))))
theorem nX(n:Nat):Ph (n+2) "rows_from"=iu 2 8 (fY (Ph (n+1)) (Ph n)):=by kernel_rfl
def gn (h:Str->GF):ES:=(aA (aF 2 (eV (Il (d5 (U 1)))))
  (aA (dO (bV (bY k5 (U 0) (eV (vC (.str "row"))))) (bc (U 2)) eY)
  (bc (eV (cJ (iW (vE (U 2))) [] 1 (aQ 3) (bV (bY k5 (eV (zu (vE (U 1)) (aK bD (vE (U 1)) (vE (U 3))))) (U 3))) (vE (U 3)))))))
theorem kM(n:Nat):Ph (n+2) "unlike_spots"=iu 2 3 (gn (Ph (n+1))):=by kernel_rfl
def kP (h:Str->GF):ES:=(aA (aF 11 (eV (aJ (pureOf (h "replaced")) (O (aK bD (vE (U 1)) (vC (.int 1))) (O (vE (U 4)) (O (aJ (pureOf (h "flawed")) (O (vE (U 2)) (O (vE (U 9)) (O (vE (U 10)) aj)))) aj))))))
  (dA (eE (U 3) (eV (aR (O (aR (O (vE (U 2)) (O (vE (U 7)) (O (vE (U 8)) (O (vE (U 10)) aj))))) (O (aR (O (aK bD (vE (U 1)) (vC (.int 0))) (O (vE (U 11)) aj))) aj)))))))
def cI (h:Str->GF):ES:=(aA (zR (cA [aQ 6,aQ 7,aQ 8]) (vE (U 5)))
  (aA (aF 9 (eV (aK bD (aK bD (vE (U 1)) (vC (.int 1))) (vE (U 4)))))
  (dO (bT (eV (aJ (pureOf (h "has_flaw")) (O (vE (U 6)) (O (vE (U 2)) (O (vE (U 9)) aj)))))) (cX (iW (aJ (pureOf (h "unlike_spots")) (O (aK bD (vE (U 6)) (vC (.int 2))) (O (vE (U 9)) aj)))) (aQ 10) (kP h)) eY)))
def f_ (h:Str->GF):ES:=(aA (aF 3 (iz aj))
  (aA (cX (yg (vE (bZ (aT Att) (U 0) "pairs"))) (cA [aQ 4,aQ 5]) (cI h))
  (bc (U 3))))
theorem nZ:Ph 13 "flaw_ends"=iu 3 12 (f_ (Ph 12)):=by kernel_rfl
def g7(h:Str->GF):ES:=(bc (eV (cJ (iW (vE (i7 (bZ (aT Att) (U 0) "members") (vE (U 2))))) [] 1 (aQ 3) (bV (bY DP (U 3) (U 1))) (vE (U 3)))))
theorem gP(n:Nat):Ph (n+2) "Board.hands_beside"=iu 3 3 (g7 (Ph (n+1))):=by kernel_rfl
def d_ (h:Str->GF):ES:=(aA (aF 6 (sI (bZ (aT Att) (U 0) "places") (O (vE (U 5)) (O (vE (U 2)) aj))))
  (aA (aF 7 (i7 (i7 (i7 (bZ (aT Att) (U 0) "pairs") (vE (U 6))) (vC (.int 0))) (vC (.int 2))))
  (aA (aF 8 (eV (aK bD (vE (U 1)) (vE (U 6)))))
  (aA (aF 9 (eV (Im (bV (bY k5 (U 7) (eV (vC (.str "row"))))) (CH (Il (d5 (U 8))) xu (rS (vC (.int 1)))) (aJ (pureOf (h "unlike_spots")) (O (vE (U 7)) (O (vE (U 8)) aj))))))
  (dA (dR (U 4) (cJ (iW (vE (U 9))) [] 1 (aQ 10) (bV (bY k5 (eV (aK bD (aK bD (vE (U 8)) (vE (U 10))) (vC (.int 0)))) (eV (aK bD (vE (U 3)) (vC (.int 0)))))) (aR (O (vE (U 5)) (O (vE (U 10)) aj))))))))))
def gW (h:Str->GF):ES:=(aA (dO (bV (bY yH (U 3) (eV (vC (.non))))) (bc (eV (be (O (vC (.non)) aj)))) eY)
  (aA (aF 4 (iz aj))
  (aA (cX (iW (vE (dC (mT Tb h) (U 0) "hands_beside" (af (U 2) (af (eV (aK bD (vE (U 3)) (vC (.int 1)))) aO))))) (aQ 5) (d_ h))
  (bc (U 4)))))
theorem jY(n:Nat):Ph (n+2) "takeable"=iu 4 10 (gW (Ph (n+1))):=by kernel_rfl
def iG (h:Str->GF):ES:=(aA (dO (bV (bY k5 (U 2) (eV (vC (.str "who"))))) (bc (eV (be (O (aR (O (aR aj) (O (be (O (aK bD (vE (U 4)) (zu (aK bD (vE (dC (mT Tb h) (U 0) "family_of" (af (U 1) aO))) (vC (.int 4))) (vE (U 3)))) aj)) aj))) aj)))) eY)
  (aA (aF 5 (dC (mT Tb h) (U 0) "hands_beside" (af (U 1) (af (U 3) aO))))
  (aA (dO (bV (bY k5 (U 2) (eV (vC (.str "all"))))) (bc (eV (be (O (aR (O (aR aj) (O (vE (U 5)) aj))) aj)))) eY)
  (bc (eV (cJ (iW (vE (U 5))) [] 1 (aQ 6) lw (aR (O (aR (O (vE (U 6)) aj)) (O (be (O (vE (U 6)) aj)) aj)))))))))
theorem nr(n:Nat):Ph (n+2) "targets_of"=iu 5 6 (iG (Ph (n+1))):=by kernel_rfl
def fZ (h:Str->GF):ES:=(aA (aF 6 (sJ (bZ (aT Att) (U 0) "places") (O (vE (U 2)) (O (vE (U 5)) aj))))
  (aA (dO (KY (bV (bY yH (U 6) (eV (vC (.non))))) (bV (aK KR (aJ nJ (O (aK bD (vE (U 4)) (vC (.int 1))) aj)) (vC (.int 999))))) (bc (eV (vC (.non)))) eY)
  (aA (aF 7 (i7 (i7 (bZ (aT Att) (U 0) "pairs") (vE (U 6))) (vC (.int 0))))
  (aA (dO (bV (aK KS (d5 (eV (aK bD (vE (U 1)) (vE (U 6))))) (aK bD (vE (U 7)) (vC (.int 3))))) (bc (eV (vC (.non)))) eY)
  (aA (aF 8 (eV (aK bW (aK bD (vE (U 1)) (vE (U 6))) (aR (O (vE (U 4)) aj)))))
  (aA (dO (bV (bY k5 (eV (aK bD (vE (U 7)) (vC (.int 2)))) (eV (vC (.str "heap"))))) (aF 8 (eV (aJ i0 (O (zr (U 8)) aj)))) eY)
  (aF 1 (eV (aJ (pureOf (h "replaced")) (O (vE (U 1)) (O (vE (U 6)) (O (vE (U 8)) aj))))))))))))
def gY (h:Str->GF):ES:=(aA (cX (iW (vE (U 3))) (aQ 5) (fZ h))
  (bc (U 1)))
theorem uN(n:Nat):Ph (n+2) "posted"=iu 5 9 (gY (Ph (n+1))):=by kernel_rfl
def h7 (h:Str->GF):ES:=(aA (aF 17 (eV (bq (h "posted") (af (U 0) (af (U 14) (af (U 1) (af (U 16) (af (U 11) aO))))))))
  (dO (bV (bY eT (U 17) (eV (vC (.non))))) (dA (eE (U 12) (eV (aR (O (aK bW (vE (U 13)) (vE (U 15))) (O (vE (U 17)) aj)))))) eY))
def eh(h:Str->GF):ES:=(cX (iW (bq (h "targets_of") (af (U 0) (af (U 1) (af (U 9) (af (U 10) (af (U 5) aO))))))) (cA [aQ 15,aQ 16]) (h7 h))
def ee (h:Str->GF):ES:=(aA (aF 11 (eV (aR (O (vE (U 7)) (O (aJ (pureOf (h "value_of")) (O (vE (U 8)) (O (vE (U 3)) aj))) aj)))))
  (aA (aF 12 (iz aj))
  (aA (cX (iW (vE (U 6))) (cA [aQ 13,aQ 14]) (eh h))
  (aF 6 (U 12)))))
def gX (h:Str->GF):ES:=(aA (aF 6 (eV (be (O (aR (O (aR aj) (O (vE (U 4)) aj))) aj))))
  (aA (cX (iW (vE (U 2))) (cA [aQ 7,aQ 8,aQ 9,aQ 10]) (ee h))
  (bc (U 6))))
theorem qG(n:Nat):Ph (n+2) "sendings"=iu 6 18 (gX (Ph (n+1))):=by kernel_rfl
def gp(h:Str->GF):ES:=(dA (eE (U 13) (eV (aR (O (aR (O (vC (.str "step")) (O (vE (U 2)) (O (aK bD (vE (U 3)) (vC (.int 0))) (O (vE (U 4)) (O (vE (U 14)) aj)))))) (O (aR (O (vE (U 12)) (O (vE (U 15)) aj))) aj))))))
def fX (h:Str->GF):ES:=(aA (aF 5 (dC (mT Tb h) (U 0) "family_of" (af (U 2) aO)))
  (aA (zR (cA [aQ 6,aQ 7,aQ 8]) (aK bD (aK bD (vE (U 1)) (vC (.int 0))) (vE (U 2))))
  (aA (aF 9 (eV (aK bD (vE (U 1)) (vC (.int 1)))))
  (aA (aF 10 (d8 (h "values_of") (af (U 5) (af (U 7) aO))))
  (aA (dO (bV (bY eT (U 4) (eV (vC (.non))))) (aA (aF 11 (sI (bZ (aT Att) (U 0) "places") (O (aK bD (vE (U 4)) (vC (.int 0))) (O (vE (U 2)) aj))))
  (aA (jU (U 10) (vC (.str "it")) (aK bD (aK bD (aK bD (vE (U 9)) (vE (U 11))) (aK bD (vE (U 4)) (vC (.int 1)))) (vC (.int 1))))
  (aF 9 (eV (aJ (pureOf (h "replaced")) (O (vE (U 9)) (O (vE (U 11)) (O (aJ (pureOf (h "without")) (O (aK bD (vE (U 9)) (vE (U 11))) (O (aK bD (vE (U 4)) (vC (.int 1))) aj))) aj)))))))) eY)
  (aA (aF 7 (eV (aJ (pureOf (h "cells_behind")) (O (vE (U 5)) (O (vE (U 7)) (O (vE (U 3)) (O (vE (U 10)) aj)))))))
  (aA (dO (bV (bY yH (U 7) (eV (vC (.non))))) (bc (eV (be aj))) eY)
  (aA (aF 8 (eV (aJ (pureOf (h "whos_behind")) (O (vE (U 5)) (O (vE (U 8)) (O (aK bD (vE (U 3)) (vC (.int 3))) (O (vE (U 4)) aj)))))))
  (aA (aF 12 (eV (aJ (pureOf (h "replaced")) (O (aK bD (vE (U 1)) (vC (.int 0))) (O (vE (U 2)) (O (aR (O (zu (aK bD (vE (U 5)) (vC (.int 2))) (aK bD (vE (U 3)) (vC (.int 6)))) (O (vE (U 7)) (O (vE (U 8)) aj)))) aj))))))
  (aA (aF 13 (iz aj))
  (aA (cX (iW (bq (h "sendings") (af (U 0) (af (U 2) (af (eV (aK bD (vE (U 3)) (vC (.int 5)))) (af (U 10) (af (U 9) (af (U 8) aO)))))))) (cA [aQ 14,aQ 15]) (gp h))
  (bc (U 13)))))))))))))
theorem nW(n:Nat):Ph (n+2) "step_ends"=iu 5 16 (fX (Ph (n+1))):=by kernel_rfl
def gu(h:Str->GF):ES:=(dA (dR (U 8) (bq (h "step_ends") (af (U 0) (af (U 1) (af (U 2) (af (U 9) (af (U 10) aO))))))))
def bL(h:Str->GF):ES:=(dO (yD (bV (bY k5 (eV (aK bD (vE (U 9)) (vC (.int 1)))) (eV (aK bD (aK bD (vE (U 3)) (vC (.int 2))) (vE (U 4)))))) (bT (eV (aJ (pureOf (h "holds")) (O (aK bD (vE (U 9)) (vC (.int 2))) (O (vE (U 7)) aj)))))) (cX (iW (bq (h "takeable") (af (U 0) (af (eV (aK bD (vE (U 1)) (vC (.int 1)))) (af (U 2) (af (eV (aK bD (vE (U 9)) (vC (.int 3)))) aO)))))) (aQ 10) (gu h)) eY)
def f8 (h:Str->GF):ES:=(aA (aF 3 (dC (mT Tb h) (U 0) "family_of" (af (U 2) aO)))
  (aA (zR (cA [aQ 4,aQ 5,aQ 6]) (aK bD (aK bD (vE (U 1)) (vC (.int 0))) (vE (U 2))))
  (aA (aF 7 (eV (aJ (pureOf (h "values_of")) (O (vE (U 3)) (O (vE (U 5)) aj)))))
  (aA (aF 8 (iz aj))
  (aA (cX (iW (aK bD (vE (U 3)) (vC (.int 5)))) (aQ 9) (bL h))
  (bc (U 8)))))))
theorem nY:Ph 13 "hand_ends"=iu 3 11 (f8 (Ph 12)):=by kernel_rfl
def eX(h:Str->GF):ES:=(dA (dR (U 2) (bq (h "hand_ends") (af (U 0) (af (U 1) (af (U 3) aO))))))
def iI (h:Str->GF):ES:=(aA (aF 2 (iz aj))
  (aA (cX (qA (d5 (bZ (aT Att) (U 0) "homes"))) (aQ 3) (eX h))
  (aA (dA (dR (U 2) (bq (h "flaw_ends") (af (U 0) (af (U 1) (af (eV (vC (.str "lose"))) aO))))))
  (aA (dA (dR (U 2) (bq (h "flaw_ends") (af (U 0) (af (U 1) (af (eV (vC (.str "double"))) aO))))))
  (bc (U 2))))))
theorem sG:Ph 14 "ends_on"=iu 2 4 (iI (Ph 13)):=by kernel_rfl
def em (h x:Str->GF):ES:=(aA (aF 1 (gi (x "Board.__init__") "Board" (af (U 0) aO)))
  (bc (qJ (h "rows_from") 1 (be (O (aJ (pureOf (h "begin")) (O (vE (U 0)) aj)) aj)))))
theorem lv(n:Nat):Ph (n+2) "coming_rows"=iu 1 2 (em (Ph (n+1)) (Ph n)):=by kernel_rfl
def ll(h:Str->GF):ES:=(bc (jb (cJ (iW (aJ (pureOf (h "coming_rows")) (O (vE (U 0)) aj))) [] 1 (aQ 1) lw (aK bD (vE (U 1)) (vC (.int 0))))))
theorem sH(n:Nat):Ph (n+2) "comings"=iu 1 1 (ll (Ph (n+1))):=by kernel_rfl
def ej (h:Str->GF):ES:=(aA (dO (bV (aK tq (vE (U 1)) (d5 (U 0)))) (bc (eV (aK bD (vE (U 0)) (vE (U 1))))) eY)
  (bc (eV (vC (.int 0)))))
theorem g_(n:Nat):Ph (n+2) "_law_cell_at"=iu 2 2 (ej (Ph (n+1))):=by kernel_rfl
def f6(h:Str->GF):ES:=(dO (bT (eV (bq (h "hand_ends") (af (U 0) (af (U 1) (af (U 2) aO)))))) (bc (eV (vC (.bl false)))) eY)
def jw (h:Str->GF):ES:=(aA (cX (qA (d5 (bZ (aT Att) (U 0) "homes"))) (aQ 2) (f6 h))
  (bc (eV (zt (bq (h "flaw_ends") (af (U 0) (af (U 1) (af (eV (vC (.str "lose"))) aO)))) (bq (h "flaw_ends") (af (U 0) (af (U 1) (af (eV (vC (.str "double"))) aO))))))))
theorem uO(n:Nat):Ph (n+2) "is_dry"=iu 2 3 (jw (Ph (n+1))):=by kernel_rfl
def cF (h:Str->GF):ES:=(aA (dO (bV (bY yH (bZ (aT Att) (U 0) "dries") (eV (vC (.non))))) (ow (aT Att) (U 0) "dries" (eV (cJ (iW (vE (bZ (aT Att) (U 0) "standings"))) [] 1 (aQ 1) lw (bq (h "is_dry") (af (bZ (aT Att) (U 0) "board") (af (U 1) aO)))))) eY)
  (bc (sK (vE (bZ (aT Att) (U 0) "dries")))))
theorem iy(n:Nat):Ph (n+2) "Scene.dry_truths"=iu 1 1 (cF (Ph (n+1))):=by kernel_rfl
def fW (h:Str->GF):ES:=(aA (aF 2 (eV (aK bD (vE (U 1)) (vC (.int 0)))))
  (aA (dO (bV (bY k5 (U 2) (eV (vC (.str "true"))))) (bc (G1 (be (O (vC (.bl true)) aj)) (d5 (bZ (aT Att) (U 0) "standings")))) eY)
  (aA (dO (bV (bY k5 (U 2) (eV (vC (.str "not"))))) (bc (jb (cJ (iW (bq (h "truths_in") (af (U 0) (af (eV (aK bD (vE (U 1)) (vC (.int 1)))) aO)))) [] 1 (aQ 3) lw (vB (yC (bV (vE (U 3)))))))) eY)
  (aA (dO (bV (bY A_ (U 2) (eV (aR (O (vC (.str "and")) (O (vC (.str "or")) aj)))))) (bc (d8 (h "joined") (af (U 2) (af (eV (bq (h "truths_in") (af (U 0) (af (eV (aK bD (vE (U 1)) (vC (.int 1)))) aO)))) (af (eV (bq (h "truths_in") (af (U 0) (af (eV (aK bD (vE (U 1)) (vC (.int 2)))) aO)))) aO))))) eY)
  (aA (dO (bV (bY A_ (U 2) (eV (vC (.tup [.str "some",.str "all",.str "many"]))))) (bc (d8 (h "hand_truths") (af (U 0) (af (U 1) aO)))) eY)
  (aA (dO (bV (bY k5 (U 2) (eV (vC (.str "letters"))))) (bc (d8 (h "letter_truths") (af (U 0) (af (U 1) aO)))) eY)
  (aA (dO (bV (bY k5 (U 2) (eV (vC (.str "dry"))))) (bc (dC (mT Tb h) (U 0) "dry_truths" aO)) eY)
  (bc (d8 (h "knowing_truths") (af (U 0) (af (U 1) aO)))))))))))
theorem nV(n:Nat):Ph (n+2) "truths_in"=iu 2 3 (fW (Ph (n+1))):=by kernel_rfl
def nK(x h:Str->GF):ES:=(bc (d8 (x "truths_in") (af (gi (gD (h "Scene.__init__")) "Scene" (af (U 0) (af (U 2) aO))) (af (U 1) aO))))
theorem uM(n:Nat):Ph (n+2) "truths"=iu 3 3 (nK (Ph (n+1)) (Ph n)):=by kernel_rfl
def dS(x h:Str->GF):ES:=(bc (d8 (x "ends_on") (af (gi (h "Board.__init__") "Board" (af (U 0) aO)) (af (U 1) aO))))
theorem n_(n:Nat):Ph (n+2) "ends_from"=iu 2 2 (dS (Ph (n+1)) (Ph n)):=by kernel_rfl
def kQ(h:Str->GF):ES:=(bc (jb (cJ (iW (aJ (pureOf (h "ends_from")) (O (vE (U 0)) (O (vE (U 1)) aj)))) [] 1 (aQ 2) lw (aK bD (vE (U 2)) (vC (.int 0))))))
theorem oI(n:Nat):Ph (n+2) "deeds"=iu 2 2 (kQ (Ph (n+1))):=by kernel_rfl
def g6(h:Str->GF):ES:=(dA (eE (U 6) (eV (aK bW (vE (i7 (U 6) (kl dj (vC (.int 1))))) (vE (U 2))))))
def gZ (h:Str->GF):ES:=(aA (aF 10 (eV (aK bW (aK bD (aK bD (vE (U 9)) (vC (.int 1))) (vC (.int 0))) (aK bD (aK bD (vE (U 9)) (vC (.int 1))) (vC (.int 1))))))
  (aA (aF 11 (eV (aR aj)))
  (aA (dO (bV (aK KR (vE (U 8)) (vC (.int 0)))) (aF 11 (eV (aR (O (aR (O (vC (.str "ma")) (O (vE (i7 (U 6) (aK qK (vE (U 8)) (vC (.int 1))))) aj))) aj)))) eY)
  (aA (dO (bV (bY DP (U 10) (U 11))) (bc (eV (vC (.bl false)))) eY)
  (dO (bV (bY DP (eV (d5 (eV (aJ (pureOf (h "deeds")) (O (vE (U 5)) (O (vE (U 9)) aj)))))) (eV (aJ fV (O (aK tq (vE (U 8)) (d5 (U 6))) aj))))) (bc (eV (vC (.bl false)))) eY)))))
def mf (h:Str->GF):ES:=(aA (aF 1 (eV (aJ (pureOf (h "_law_mix")) (O (aJ (pureOf (h "_law_cell_at")) (O (vE (U 0)) (O (vC (.int 0)) aj))) (O (vC (.int 0)) aj)))))
  (aA (aF 2 (eV (aK bD (be (O (vC (.int 1)) (O (vC (.int 2)) (O (vC (.int 3)) (O (kl dj (vC (.int 1))) (O (kl dj (vC (.int 2))) (O (kl dj (vC (.int 3))) aj))))))) (aK d9 (vE (U 1)) (vC (.int 6))))))
  (aA (aF 3 (eV (aK qK (vC (.int 999)) (aK d9 (aK ce (vE (U 1)) (vC (.int 6))) (vC (.int 30))))))
  (aA (dO (bV (aK tq (vE (U 2)) (vC (.int 0)))) (aF 3 (eV (kl dj (vE (U 3))))) eY)
  (aA (dO (bV (bY k5 (eV (aK d9 (aK ce (vE (U 1)) (vC (.int 180))) (vC (.int 8)))) (eV (vC (.int 1))))) (aA (aF 3 (eV (aK bW (aK d9 (aK ce (vE (U 1)) (vC (.int 1440))) (vC (.int 200))) (aK bD (be (O (vC (.int 850)) (O (kl dj (vC (.int 1050))) aj))) (aJ fV (O (aK tq (vE (U 2)) (vC (.int 0))) aj))))))
  (aF 3 (eV (aJ iF (O (kl dj (vC (.int 999))) (O (aJ iD (O (vC (.int 999)) (O (vE (U 3)) aj))) aj)))))) eY)
  (aA (aF 4 (eV (aK bD (be (O (vC (.str "row")) (O (vC (.str "heap")) aj))) (aK d9 (aK ce (vE (U 1)) (vC (.int 300000))) (vC (.int 2))))))
  (aA (aF 5 (eV (aJ (pureOf (h "_law_plan")) (O (vE (U 3)) (O (vE (U 2)) (O (vE (U 4)) (O (aK bW (vC (.int 1)) (aK d9 (aK ce (vE (U 1)) (vC (.int 600000))) (vC (.int 3)))) (O (bY k5 (eV (aK d9 (aK ce (vE (U 1)) (vC (.int 1800000))) (vC (.int 2)))) (eV (vC (.int 1)))) aj))))))))
  (aA (aF 6 (iz (O (vE (U 3)) aj)))
  (aA (kC 1000 (bV (eK EG EG (kl dj (vC (.int 999))) (aK bW (vE (i7 (U 6) (kl dj (vC (.int 1))))) (vE (U 2))) (vC (.int 999)))) (g6 h))
  (aA (aF 7 (eV (aJ (pureOf (h "comings")) (O (vE (U 5)) aj))))
  (aA (dO (bV (bY DP (eV (d5 (U 7))) (eV (aK bW (vC (.int 1)) (d5 (U 6)))))) (bc (eV (vC (.bl false)))) eY)
  (aA (cX (yg (vE (U 7))) (cA [aQ 8,aQ 9]) (gZ h))
  (bc (eV (bY k5 (eV (aJ (pureOf (h "truths")) (O (vE (U 5)) (O (aR (O (vC (.str "dry")) aj)) (O (vE (U 7)) aj))))) (eV (aK bW (aK fH (be (O (vC (.bl false)) aj)) (d5 (U 6))) (be (O (vC (.bl true)) aj)))))))))))))))))))
theorem DU(n:Nat):Ph (n+2) "law"=iu 1 12 (mf (Ph (n+1))):=by kernel_rfl
variable{a:Type}{m:List a}{n:Nat}
theorem Kw(h:m.length=n+1):∃a r,m=a::r/\r.length=n:=by
 cases m with
 |nil=>cases h
 |cons a r=>exact⟨a,r,rfl,Nat.succ.inj h⟩
theorem MU(h:m.length=1):∃a,m=[a]:=by obtain⟨a,r,rfl,x⟩:=Kw h;exact⟨a,by rw[fx x]⟩
theorem Mg(h:m.length=2):∃a b,m=[a,b]:=by obtain⟨a,r,rfl,x⟩:=Kw h;obtain⟨b,rfl⟩:=MU x;exact⟨a,b,rfl⟩
theorem Mf(h:m.length=3):∃a b c,m=[a,b,c]:=by obtain⟨a,r,rfl,x⟩:=Kw h;obtain⟨b,c,rfl⟩:=Mg x;exact⟨a,b,c,rfl⟩
theorem ND(h:m.length=4):∃a b c d,m=[a,b,c,d]:=by obtain⟨a,r,rfl,x⟩:=Kw h;obtain⟨b,c,d,rfl⟩:=Mf x;exact⟨a,b,c,d,rfl⟩
theorem qY:∀{s:LS}{m:LV},s.Nodup->m.length=s.length->(s.filterMap λn=>((s.zip m).lookup n).map (n,·))=s.zip m/\∀n ∈ s,((s.zip m).lookup n).isNone=false
 | [],m,_,l=>by cases fx l;simp
 |p::s,[],_,l=>by cases l
 |p::s,u::m,a,l=>by
  obtain⟨f,c⟩:=bN.mp a;obtain⟨i,v⟩:=qY c (Nat.succ.inj l);have k:∀n ∈ s,(n == p)=false:=λn h=>beq_false_of_ne λz=>f (z ▸ h);refine⟨?_,λn t=>?_⟩
  .have r:∀{x:LS},(∀n ∈ x,(n == p)=false)->(x.filterMap λn=>(((p,u)::s.zip m).lookup n).map (n,·))=x.filterMap λn=>((s.zip m).lookup n).map (n,·):=λ{x} h=>by
    induction x with
    |nil=>rfl
    |cons q x d=>rw[jK,jK,d λn a=>h n (aW _ a)];simp[da,h q aV]
   rw[wq,List.filterMap_cons_some (b:=(p,u)) (by simp[List.lookup_cons_self]),r k,i]
  .rw [wq];by_cases e:n=p
   .subst e;simp[da]
   .simp only[da,beq_false_of_ne e];exact v n ((aH.mp t).resolve_left e)
noncomputable def um(a:Arguments)(p:LS):Bool:=a.posonlyargs.isEmpty && a.kwonlyargs.isEmpty && a.vararg.isNone && a.kwarg.isNone && decide (a.args.map (·.arg)=p) && decide p.Nodup
theorem BG{f:FuncData}{p:LS}(h:um f.params p=true)(d:f.defaults=.none){m:LV}(l:m.length=p.length):bindArgs f ⟨m,[]⟩=pure (p.zip m):=by
 simp only[um,aq,pI,jI,Option.isNone_iff_eq_none]at h;obtain⟨⟨⟨⟨⟨x,a⟩,e⟩,s⟩,k⟩,b⟩:=h;obtain⟨t,q⟩:=qY b l;have c:(p.filter λn=>((p.zip m).lookup n).isNone)=[]:=List.filter_eq_nil_iff.mpr λn r=>by simp[q n r]
 have v:p.take p.length=p:=wm;have z:p.drop p.length=[]:=pR;unfold bindArgs;simp only[x,a,e,s,k,d,lO,iM,b9,l];simp[seqItems?,c,t,z];rfl
theorem sc:Tb.all Kr=true:=by decide +kernel
theorem un:(Tb.map (·.name)).Nodup:=by decide +kernel
inductive Fn(K:FG)(x:Str)(st:Stmt):Prop
 |mk (f:Addr) (oc:Value) (od:Option Addr) (kV dc pm:Value) (an:Option Addr) (cd ct:Value) (sl:Array (OV)):kr K mainGlobals x=some (some (.ref f))->K.lookup f=some ⟨oc,od,.func (fM x x (eF st) (cU st) (aX st) .none kV dc pm an cd ct),sl⟩->fN K cd x=true->cC K (.ref f)=true->Fn K x st
def Go(d:Df):Bool:=d.cls.cps.isEmpty && decide (d.short=d.name) && !BU.contains d.cls && um (eF d.st) d.ps
theorem Mc:HB.all Go=true:=by decide +kernel
structure Ck(K:FG)(x:Str)(C:Addr):Prop where
 ns:kr K mainGlobals x=some (some (.ref C))
 get:mE K C Str.empty=true
 dct:pM K C=true
 ovr:tY K C=true
 set:bP K (.ref C) "__setattr__"=some (some (.builtin "object.__setattr__"))
 mak:tT K C=true
 kp:cC K (.ref C)=true
inductive Mt(K:FG)(C:Addr)(st:Stmt)(m q:Str)(dV:Value):Prop
 |mk (f:Addr) (oc:Value) (od:Option Addr) (kV dc pm:Value) (an:Option Addr) (cd ct:Value) (sl:Array (OV)):bP K (.ref C) m=some (some (.ref f))->pF K (.ref f)=true->K.lookup f=some ⟨oc,od,.func (fM m q (eF st) (cU st) (aX st) dV kV dc pm an cd ct),sl⟩->fN K cd q=true->cC K (.ref f)=true->Mt K C st m q dV
section
variable{K:FG}{h:Heap}{r:SV}(X:K.In h)(G:h.Ns mainGlobals r)
include X G
theorem dk{d:Df}(H:Fn K d.name d.st)(p:Go d=true):∃f s,DOk K r d f s:=by obtain⟨x,P,e,st,N,S,y,i,F⟩:=d;simp only[Go,aq,jL,pI]at p;obtain⟨⟨⟨n,rfl⟩,b⟩,t⟩:=p;obtain⟨f,o,j,kV,g,z,v,w,u,A,a,l,c,k⟩:=H;exact⟨_,_,⟨A' l c k,.all λm q=>BG t rfl q,λ_=>⟨_,_,_,_,_,_,rfl⟩,λ_ (h:BU.contains e=true)=>absurd h (by rw[b];decide),λ_=>pq X G a,λ(h:e.cps.isEmpty=false)=>absurd h (by rw[n];decide)⟩⟩
theorem dm(c:Ck K x C)(M:Mt K C st e v A)(g:x.cps.isEmpty=false)
  (b:∀(kV o p:Value)(n:Option Addr)(d t:Value),Binds K (fM e v (eF st) (cU st) (aX st) A kV o p n d t) E []/\(e=("__init__":Str)->BU.contains x=true->Binds K (fM e v (eF st) (cU st) (aX st) A kV o p n d t) E [.none])):∃f u,DOk K r ⟨v,e,x,st,N,E,Q,I,T⟩ f u:=by
 obtain⟨f,i,j,kV,s,p,n,h,t,y,a,w,l,q,k⟩:=M;have m:x.cps.isEmpty=true->False:=λz=>by rw[g]at z;cases z
 exact⟨_,_,⟨A' l q k,(b kV s p n h t).1,λz=>(m z).elim,(b kV s p n h t).2,λz=>(m z).elim,λ_=>⟨C,c.ns,pq X G c.ns,⟨c.get,c.dct,c.ovr,c.set⟩,λz=>⟨c.mak,z ▸ a,w,c.kp⟩,λ_=>⟨a,w,k⟩⟩⟩⟩
end
def Gi(K:FG)(x:Str)(i:Int):Prop:=∃t,kr K mainGlobals x=some (some (.int i t))
variable{i:Int}
theorem A8(X:K.In h)(G:h.Ns mainGlobals r)(H:Gi K x i):kh e K r x (.int i):=by obtain⟨t,a⟩:=H;exact .plain ⟨_,.int i,pq X G a,⟨_,rfl⟩,λ_ _=>rfl⟩ rfl
def Gs(K:FG):Prop:=∃(a:Addr)(n:Nat)(s:Array (OV))(t h x:Tok),kr K mainGlobals "HAND_PARTS"=some (some (.ref a))/\K.lookup a=some ⟨.type "tuple",none,.seq #[.str "some" t,.str "all" h,.str "many" x] n,s⟩
structure BoardOk(K:FG)(C:Addr):Prop where
 ck:Ck K "Board" C
 a_families:bP K (.ref C) "families"=some none
 a_homes:bP K (.ref C) "homes"=some none
 a_members:bP K (.ref C) "members"=some none
 a_pairs:bP K (.ref C) "pairs"=some none
 a_places:bP K (.ref C) "places"=some none
 m_Board_family_of:Mt K C (L2.dP (zC 10) 1) "family_of" "Board.family_of" .none
 m_Board_hands_beside:Mt K C (L2.dP (zC 10) 2) "hands_beside" "Board.hands_beside" .none
 m_Board_init:Mt K C (L2.dP (zC 10) 0) "__init__" "Board.__init__" .none
structure SceneOk(K:FG)(C:Addr)(T:Addr):Prop where
 ck:Ck K "Scene" C
 a_around:bP K (.ref C) "around"=some none
 a_board:bP K (.ref C) "board"=some none
 a_dries:bP K (.ref C) "dries"=some none
 a_standings:bP K (.ref C) "standings"=some none
 m_Scene_dry_truths:Mt K C (L2.dP (zC 35) 1) "dry_truths" "Scene.dry_truths" .none
 m_Scene_init:Mt K C (L2.dP (zC 35) 0) "__init__" "Scene.__init__" (.ref T)
 dv:∃o n,K.lookup T=some o/\o.data=.seq #[.none] n
theorem NE:(Tb.all λd=>!d.deep.contains (Str.ofString "<lambda>") ||decide (d.name=AL))=true:=by decide +kernel
set_option tactic.hygienic true in
theorem CS(k:(PySem.W.kmHook K H e z).says x h)(l:xB (K x.params)=true)(w:((bz (K x.params)).all λP=>z.contains P)=true) :
  ∀P ∈ bz (K x.params),h.get? P=some (mD #[])/\∃c,mB h c P:=λP f=>by
 refine⟨PySem.W.km_tabs_of k P (by simpa using bt.mp w P f),?_⟩;obtain⟨⟨c,o⟩,r,a⟩:=iP.mp f;have s:=bt.mp l _ r;have b:qB o=true:=by
  unfold zE at a;split at a
  .rename_i v m;split at a
   .rename_i q t u n g;split at a
    .rename_i p;unfold qB;have d:o.data=.fields v:=m;rw[d];obtain⟨xs⟩:=v;match xs,n with
     |_::_::_,n=>cases (show _=_ from cO n);simpa using p
    .cases a
   .cases a
  .cases a
 rw[b]at s;simp only[lV,iR]at s;rw[a]at s;exact⟨c,y6 (PySem.W.km_in_of k) s⟩
open PySem.W in
theorem He{w:World}{K:Frag}{h:Heap}{r:SV}(X:K.In h)(G:h.Ns mainGlobals r){C j T:Addr}(b:BoardOk K C)(k:SceneOk K j T)
  (B:∀d ∈ HB,Fn K d.name d.st) (l:xB K=true) (F:Gi K "MOST_STANDINGS" 2000)
  (P:Gs K) (y:Gi K "HIGHEST_LETTER" 999) (S:Gi K "NOBODY" (-1)) (z:∀x ∈ D8,nsIn K mainGlobals x=some none):TOk w Gv Att Tb K r:=by
 refine⟨λd q=>?_,sc,un,λx i=>mg_none_of X G (z x i),λx v t=>?_,λc f A=>?_,l,λd q D=>?_⟩
 .rcases dJ.mp q with q|q
  .exact dk X G (B d q) (bt.mp Mc d q)
  simp only[M_,aH,bF,bE]at q;rcases q with rfl|rfl|rfl|rfl|rfl;all_goals first
   |exact dm X G b.ck b.m_Board_family_of (by decide +kernel) λ_ _ _ _ _ _=>⟨.all λm l=>by obtain⟨_,_,rfl⟩:=Mg l;rfl,λh g=>by first|exact absurd h (by decide +kernel)|exact absurd g (by decide +kernel)⟩
   |exact dm X G b.ck b.m_Board_hands_beside (by decide +kernel) λ_ _ _ _ _ _=>⟨.all λm l=>by obtain⟨_,_,_,rfl⟩:=Mf l;rfl,λh g=>by first|exact absurd h (by decide +kernel)|exact absurd g (by decide +kernel)⟩
   |exact dm X G b.ck b.m_Board_init (by decide +kernel) λ_ _ _ _ _ _=>⟨.all λm l=>by obtain⟨_,_,rfl⟩:=Mg l;rfl,λh g=>by first|exact absurd h (by decide +kernel)|exact absurd g (by decide +kernel)⟩
   |exact dm X G k.ck k.m_Scene_dry_truths (by decide +kernel) λ_ _ _ _ _ _=>⟨.all λm l=>by obtain⟨_,rfl⟩:=MU l;rfl,λh g=>by first|exact absurd h (by decide +kernel)|exact absurd g (by decide +kernel)⟩
   | exact dm X G k.ck k.m_Scene_init (by decide +kernel) fun _ _ _ _ _ _=>⟨fun s m I l=>by
     rw[b9]at l ⊢;obtain⟨_,_,_,_,rfl⟩:=ND l;obtain⟨o,n,u,p⟩:=k.dv;exact .of_defaults rfl (I _ _ u) p rfl rfl,λ_ _ s m I l=>by
     obtain⟨_,_,_,rfl⟩:=Mf (Nat.succ.inj ((bw (as:=m) (bs:=[Value.none])).symm.trans l));obtain⟨o,n,u,p⟩:=k.dv;exact .of_defaults rfl (I _ _ u) p rfl rfl⟩
 .unfold Gv at t;by_cases e:x=("HAND_PARTS":Str)
  .rw [ae e]at t;subst e;cases t;obtain⟨a,n,E,L,M,N,u,p⟩:=P;exact .plain (ym ["some","all","many"] (pq X G u) p (by show 3≤sizeLine;decide) (.cons ⟨_,rfl⟩ (.cons ⟨_,rfl⟩ (.cons ⟨_,rfl⟩ .nil)))) rfl
  rw[ag e]at t;clear e;by_cases e:x=("HIGHEST_LETTER":Str)
  .rw [ae e]at t;subst e;cases t;exact A8 X G y
  rw[ag e]at t;clear e;by_cases e:x=("MOST_STANDINGS":Str)
  .rw [ae e]at t;subst e;cases t;exact A8 X G F
  rw[ag e]at t;clear e;by_cases e:x=("NOBODY":Str)
  .rw [ae e]at t;subst e;cases t;exact A8 X G S
  rw[ag e]at t;clear e;cases t
 .obtain⟨x,i,e⟩:=lR.mp A;rw[aq]at e;have u:=aD e.1;have p:f ∈ x.2:=by simpa using e.2
  subst u;simp only[Att,aH,bF,bE]at i;rcases i with rfl|rfl
  .simp only[aH,bF,bE]at p;rcases p with rfl|rfl|rfl|rfl|rfl
   .exact⟨_,b.ck.ns,⟨b.ck.get,b.ck.dct,b.ck.ovr,b.ck.set⟩,b.a_families⟩
   .exact⟨_,b.ck.ns,⟨b.ck.get,b.ck.dct,b.ck.ovr,b.ck.set⟩,b.a_homes⟩
   .exact⟨_,b.ck.ns,⟨b.ck.get,b.ck.dct,b.ck.ovr,b.ck.set⟩,b.a_members⟩
   .exact⟨_,b.ck.ns,⟨b.ck.get,b.ck.dct,b.ck.ovr,b.ck.set⟩,b.a_pairs⟩
   .exact⟨_,b.ck.ns,⟨b.ck.get,b.ck.dct,b.ck.ovr,b.ck.set⟩,b.a_places⟩
  .simp only[aH,bF,bE]at p;rcases p with rfl|rfl|rfl|rfl
   .exact⟨_,k.ck.ns,⟨k.ck.get,k.ck.dct,k.ck.ovr,k.ck.set⟩,k.a_around⟩
   .exact⟨_,k.ck.ns,⟨k.ck.get,k.ck.dct,k.ck.ovr,k.ck.set⟩,k.a_board⟩
   .exact⟨_,k.ck.ns,⟨k.ck.get,k.ck.dct,k.ck.ovr,k.ck.set⟩,k.a_dries⟩
   .exact⟨_,k.ck.ns,⟨k.ck.get,k.ck.dct,k.ck.ovr,k.ck.set⟩,k.a_standings⟩
 .have:=bt.mp NE d q;rw[D]at this;simpa using this
theorem log2_small(h:i.natAbs < 2 ^ 60):i.natAbs.log2 < 60:=by
 by_cases e:i.natAbs=0
 .rw [e];decide
 .exact (v0 e).mpr h
theorem dZ{i j:Int}(h:i.natAbs < 2 ^ 60)(x:j.natAbs < 2 ^ 60):io i j=true:=by unfold io;have a:=log2_small h;have b:=log2_small x;exact ff (by lia)
variable{xs:List P}
theorem NB(h:∀x ∈ xs,eQ n x=true):eQ (n+1) (.lst xs)=true:=bt.mpr h
@[simp] theorem Ky(c:Nat):lD ⟨#[c]⟩=1:=rfl
theorem oS{g:i3}{c:EB}{e:EV}{Inv:Lc->Prop}{S:aC}{p:P->Bool}{f:P->P}:∀{xs:List P}{L:Lc},(∀v ∈ xs,∀L,Inv L->∃x,g v L=some x/\Inv x/\c x S=some (p v,S)/\(p v=true->e x S=some (f v,S)))->Inv L ->
  cE g c e xs L S=some ((xs.filter p).map f,S)
 | [],L,_,h=>rfl
 |v::r,L,b,h=>by
  obtain⟨x,s,i,a,m⟩:=b v aV L h;have n:=oS (xs:=r) (L:=x) (λw t=>b w (aW _ t)) i;cases k:p v with
  |false=>rw[k]at a;simp[cE,s,a,n,k]
  |true=>rw[k]at a;simp[cE,s,a,n,k,m k]
theorem AD(s n:Str->GF)(xs:List P):∀(a:Int)(p t q:Option D),∃(r:Int)(e:Option D),cB (aQ 2) (eW s) xs [some (.p (.int a)),p,t,q] []=some (.nx,[some (.p (.int r)),p,e,q],[]):=by
 induction xs with
 |nil=>intro a p t q;exact⟨a,t,rfl⟩
 |cons x xs i=>intro a p t q;obtain⟨r,e,h⟩:=i (a / 2147483648) p (some (.p x)) q;exact⟨r,e,by simpa[cB,eW] using h⟩
theorem Gx(a:Int){p:Int}(s:0≤p)(k:p < 1000):∃r:Int,0≤r/\pureOf (Ph (n+2) "_law_mix") [.int a,.int p]=some (.int r):=by
 by_cases h:(1000000000000:Int)≤a
 .obtain⟨r,i,e⟩:=AD (Ph (n+1)) (Ph n) (intsFrom 0 (p % 61).toNat) (a / 1000000000000-1) (some (.p (.int p))) none none;refine⟨r % 2147483648,lB _ (by decide),?_⟩;have c:(p % 61).natAbs < 1000000:=by lia
  rw[k6,bQ];simp[iH,h,c,e]
 .have m:0≤p * p/\p * p≤1000000:=⟨Int.mul_nonneg s s,Int.le_trans (Int.mul_le_mul (u7 k) (u7 k) s (by decide)) (by decide)⟩;have v:io p p=true:=dZ (by lia) (by lia);have d:io (p * p) 7919=true:=dZ (by lia) (by decide);have w:io (a % 1000003+p * p * 7919+p) 48271=true:=dZ (by lia) (by decide);generalize f:(a % 1000003+p * p * 7919+p) * 48271 % 2147483629=x;have t:0≤x/\x < 2147483629:=by subst f;exact⟨lB _ (by decide),u_ _ (by decide)⟩
  have u:io x x=true:=dZ (by lia) (by lia);generalize b:x * x % 2147483587=y;have q:0≤y/\y < 2147483587:=by subst b;exact⟨lB _ (by decide),u_ _ (by decide)⟩
  have g:io y (y+2)=true:=dZ (by lia) (by lia);refine⟨y * (y+2) % 2147483579 / 7,Int.ediv_nonneg (lB _ (by decide)) (by decide),?_⟩;rw[k6,bQ];simp[iH,h,v,d,w,f,u,b,g]
noncomputable def ql(n:List Int):P:=.ro (n.map .int)
theorem D0(s:List Int){k:Int}(x:0≤k):∃r:Int,pureOf (Ph (n+2) "_law_cell_at") [ql s,.int k]=some (.int r):=by
 by_cases h:k < (s.length:Int)
 .have hk:k.toNat < s.length:=by lia
  refine⟨s[k.toNat],?_⟩;have e:L2.atI (s.map P.int) k=some (.int s[k.toNat]):=dq x (by simp[hk]);rw[g_,bQ];simp[ej,ql,d6,js,h,e]
 .refine⟨0,?_⟩;rw[g_,bQ];simp[ej,ql,d6,js,h]
inductive Drw(n:Nat)(ns:List Int)(k p:Int):Prop
 |mk (c r:Int):0≤r->pureOf (Ph (n+2) "_law_cell_at") [ql ns,.int k]=some (.int c)->pureOf (Ph (n+2) "_law_mix") [.int c,.int p]=some (.int r)->Drw n ns k p
theorem DV{n:Nat}(s:List Int){k p:Int}(x:0≤k)(a:0≤p)(f:p < 1000):Drw n s k p:=by obtain⟨c,e⟩:=D0 (n:=n) s x;obtain⟨r,b,h⟩:=Gx (n:=n) c a f;exact⟨c,r,b,e,h⟩
variable{L:Lc}{S:aC}
theorem aB(h:x L S=some (.nx,e,k)):aA x g L S=g e k:=by rw[aA,h]
theorem uF{c:EB}{x y:ES}{L:Lc}{S:aC}(h:c L S=some (true,S)):dO c x y L S=x L S:=by rw[dO,h];rfl
theorem eG(S:aC)(x:SO):(S++[x])[S.length]? = some x:=by simp
theorem Eb(S:aC)(x y:SO):(S++[x]).set S.length y=S++[y]:=by simp
theorem ka(f:a->x)(xs:List a)(i:Int):L2.atI (xs.map f) i=(L2.atI xs i).map f:=by
 unfold L2.atI;rw[a8];cases L2.AO xs.length i with
 |none=>rfl
 |some j=>simp
theorem BK{a:Type}{xs:List a}{p:Nat}{x:a}(h:xs[p]? = some x):L2.atI xs ((p:Nat):Int)=some x:=dq (by lia) (by simpa using h)
variable{d:D}
theorem uh(h:x L S=some (.rt d,e,k)):aA x g L S=some (.rt d,e,k):=by rw[aA,h]
theorem ju{a:Type}{xs:List a}{i:Nat}{x:a}(h:xs[i]? = some x):i < xs.length:=(a9.mp h).1
theorem jr{S:aC}{r:Nat}{o x:SO}(h:S[r]? = some o):(S.set r x)[r]? = some x:=by rw[cy (ju h)]
theorem l_{r:EE}{a:EV}{L:Lc}{S x:aC}{k:Nat}{c y:List P}(n:r L S=some (.ref k,S))(h:S[k]? = some (.lst (c.map .p)))(s:a L S=some (.lst y,x))(e:x[k]? = some (.lst (c.map .p)))(l:c.length+y.length≤1000000):dA (dR r a) L S=some (.nx,L,x.set k (.lst ((c++y).map .p))):=by rw[dA,dR,n,av];simp only[im,h,s,av,e,a8];rw[ae (by rw[D2];exact l),fj];rfl
theorem mh{r a:EE}{L:Lc}{S x:aC}{k:Nat}{c:List P}{y:P}(n:r L S=some (.ref k,S))(h:S[k]? = some (.lst (c.map .p)))(s:a L S=some (.p y,x))(e:x[k]? = some (.lst (c.map .p)))(l:c.length≤1000000):dA (eE r a) L S=some (.nx,L,x.set k (.lst ((c++[y]).map .p))):=by rw[dA,eE,n,av];simp only[im,h,s,av,e];rw[ae (by rw[Bc,a8];exact l),fj];rfl
def ie(S:aC)(j:Nat)(xs:List P):Prop:=S[j]? = some (.lst (xs.map .p))\/S[j]? = some (.fz (.lst xs))
variable{y:List P}
theorem AE(h:xs.map D.p=y.map D.p):xs=y:=(wo (f:=D.p) λ_ _ h=>D.p.inj h).mp h
variable{j:Nat}
theorem ie.lt(h:ie S j xs):j < S.length:=by rcases h with h|h<;>exact(a9.mp h).1
theorem ie.frz(h:ie S j xs):toP 9 (.ref j) S=some (.lst xs,S.set j (.fz (.lst xs))):=by
 rcases h with h|h
 .exact fA h
 .have:S.set j (.fz (.lst xs))=S:=by
   obtain⟨a,x⟩:=a9.mp h;rw[<- x,List.set_getElem_self]
  rw[this];simp[toP,h]
theorem ie.ix(h:ie S j xs)(r:v L S=some (.ref j,S))(hk:k L S=some (.int i,S))(e:L2.atI xs i=some x):i7 v k L S=some (.p x,S):=by
 rw[i7,r,av,hk,av];rcases h with h|h
 .simp only[h];rw[ka,e];rfl
 .simp only[h];show(L2.atI xs i).map _=_;rw[e];rfl
theorem ie.len(h:ie S j xs):d6 (.ref j) S=some xs.length:=by rcases h with h|h<;>simp[d6,h,js]
structure Fr(b:Nat)(S S':aC):Prop where
 len:S.length≤S'.length
 low:∀k o,k < b->S[k]? = some o->S'[k]? = some o\/∃xs,o=.lst (xs.map .p)/\S'[k]? = some (.fz (.lst xs))
 hi:∀k o,b≤k->S[k]? = some o->S'[k]? = some o
theorem Fr.refl(b:Nat)(S:aC):Fr b S S:=⟨ai _,λ_ _ _ h=>.inl h,λ_ _ _ h=>h⟩
variable{b:Nat}{s:aC}
theorem Fr.trans(h:Fr b S s)(g:Fr b s v):Fr b S v:=by
 refine⟨aI h.len g.len,λk o hk e=>?_,λk o hk e=>g.hi k o hk (h.hi k o hk e)⟩;rcases h.low k o hk e with x|⟨xs,rfl,x⟩
 .exact g.low k o hk x
 .rcases g.low k _ hk x with x|⟨y,q,_⟩
  .exact .inr ⟨xs,rfl,x⟩
  .cases q
theorem Fr.app(b:Nat)(S T:aC):Fr b S (S++T):=by
 have y:∀k o,S[k]? = some o->(S++T)[k]? = some o:=λk o e=>by rw[bu (ju e)];exact e
 exact⟨by simp,λk o _ e=>.inl (y k o e),λk o _ e=>y k o e⟩
theorem Fr.set(h:Fr b S s)(a:b≤S.length)(hk:S.length≤k)(o:SO):Fr b S (s.set k o):=by
 refine⟨by rw[cP];exact h.len,λj u x e=>?_,λj u x e=>?_⟩
 .rw [bG (by lia)];exact h.low j u x e
 .have:=ju e;rw[bG (by lia)];exact h.hi j u x e
theorem Fr.frz(x:j < b)(h:ie S j xs):Fr b S (S.set j (.fz (.lst xs))):=by
 refine⟨by simp,λk o hk e=>?_,λk o hk e=>?_⟩
 .by_cases q:j=k
  .subst q;rw[cy h.lt];rcases h with h|h<;>(rw[h]at e;cases e)
   .exact .inr ⟨xs,rfl,rfl⟩
   .exact .inl rfl
  .rw [bG q];exact .inl e
 .rw [bG (by lia)];exact e
theorem Fr.trunc(h:Fr b S s):Fr b S (trunc S.length s):=by
 unfold Ev.trunc;split
 .refine⟨by rw[fq];have:=h.len;lia,λk o hk e=>?_,λk o hk e=>?_⟩
  .rw [fw (ju e)];exact h.low k o hk e
  .rw [fw (ju e)];exact h.hi k o hk e
 .exact h
theorem ie.fr(h:Fr b S s)(g:ie S j xs):ie s j xs:=by
 by_cases x:j < b
 .rcases g with g|g
  .rcases h.low j _ x g with e|⟨y,q,e⟩
   .exact .inl e
   .have:xs=y:=AE (SO.lst.inj q);subst this;exact .inr e
  .rcases h.low j _ x g with e|⟨y,q,e⟩
   .exact .inr e
   .cases q
 .rcases g with g|g
  .exact .inl (h.hi j _ (by lia) g)
  .exact .inr (h.hi j _ (by lia) g)
def i_(S s:aC)(d:D)(y:List P):Prop:=d=.p (.lst y)\/∃k,S.length≤k/\d=.ref k/\ie s k y
theorem i_.toP(h:i_ S s d y)(f:Fr b S s)(a:b≤S.length):∃x,toP 9 d s=some (.lst y,x)/\Fr b S x:=by
 rcases h with rfl|⟨k,hk,rfl,h⟩
 .exact⟨s,by simp,f⟩
 .exact⟨_,h.frz,f.set a hk _⟩
variable{g:GF}{H:qU}{q:List D}
theorem nG(a:H L S=some (q,S))(k:g q S=some (d,s))(r:Fr b S s)(n:b≤S.length)(h:i_ S s d y):∃x,bq g H L S=some (.lst y,x)/\Fr b S x:=by obtain⟨c,e,f⟩:=h.toP r n;exact⟨_,by rw[bq,a,av,k,av,e,av],f.trunc⟩
theorem BA(a:H L S=some (q,S))(x:g q S=some (.p v,s))(f:Fr b S s):∃h,bq g H L S=some (v,h)/\Fr b S h:=
 ⟨_,by rw[bq,a,av,x,av];rfl,f.trunc⟩
structure BD where
 num:Int
 more:Int
 rm:Int
 kd:Str
 t1:P
 nx:P
 cs:List P
 kc:List cn
 cv:List P
noncomputable def ix:Bool->Int|false=>0|true=>1
noncomputable def nm:Bool->Str|false=>"f" |true=>"g"
noncomputable abbrev tk(x:Str):P:=.tup [.str "ma",.str x,.str "",.str ""]
noncomputable abbrev stp(x m:Str)(k t:P)(o r:Str):P:=.tup [.str x,.str m,.tup [.str "true"],k,.lst [],.lst [.tup [.str "ma",t,.str "all",.str o]],.str r]
abbrev ue(B:BD):P:=stp "go" "r" .non B.t1 "g" "s"
abbrev rF(B:BD):P:=stp "back" "s" (tk "g") B.nx "g" "s"
abbrev Fz(B:BD):P:=stp "forth" "r" (tk "f") B.nx "f" "r"
def ig(B:BD):Bool->P
 |false=>.tup [.str "f",.int 1,.lst [.str "r",.str "s"],.lst B.cs,.lst [],.lst [ue B,rF B]]
 |true=>.tup [.str "g",.int 1,.lst [.str "r"],.lst [],.lst [],.lst [Fz B]]
def road(B:BD)(h:Bool):P:=.tup [.str (nm h),.str (nm !h),.str B.kd,.int B.rm,.bl false,.bl false]
def K1(B:BD):List P:=[.tup [road B false,.int 0,.int 1],.tup [road B true,.int 1,.int 0]]
def cK(B:BD):P:=.tup [.lst [ig B false,ig B true],.lst [road B false,road B true],.lst []]
noncomputable def KK(B:BD):Bool->List cn|false=>B.kc|true=>[]
noncomputable def VV(B:BD):Bool->List P|false=>B.cv|true=>[]
inductive CT(B:BD):Prop
 |no:B.cs=[]->B.kc=[]->B.cv=[]->CT B
 |one (lo hi x:Int):B.cs=[.tup [.str "c",.int lo,.int hi,.int x]]->B.kc=[.inr "c"]->B.cv=[.int x]->CT B
structure BW(B:BD):Prop where
 kd:B.kd="row"\/B.kd="heap"
 rm:1≤B.rm
 ct:CT B
 v1:∀n,pureOf (Ph (n+4) "value_of") [B.t1,.dct B.kc B.cv]=some (.int B.num)
 v2:∀n h v,pureOf (Ph (n+4) "value_of") [B.nx,.dct (KK B h++[.inr "it"]) (VV B h++[.int v])]=some (.int (v+B.more))
 nm:B.num.natAbs≤999
noncomputable def fields:LS:=["families","homes","pairs","places","members"]
structure Bat(B:BD)(b i jh jp jl jm j0 j1:Nat)(S:aC):Prop where
 ins:S[i]? = some (.ins "Board" fields [.p (.lst [ig B false,ig B true]),.ref jh,.ref jp,.ref jl,.ref jm])
 ho:ie S jh [.int 0,.int 1]
 pr:ie S jp (K1 B)
 pl:S[jl]? = some (.dtt [[.inl 0,.inl 1],[.inl 1,.inl 0]] [.p (.int 0),.p (.int 1)])
 me:S[jm]? = some (.dct [.inr "f",.inr "g"] [.ref j0,.ref j1])
 m0:ie S j0 [.int 0]
 m1:ie S j1 [.int 1]
 bi:i < b
 bh:jh < b
 bp:jp < b
 bl:jl < b
 bm:jm < b
 b0:j0 < b
 b1:j1 < b
 bs:b≤S.length
inductive Bd(B:BD)(b i:Nat)(S:aC):Prop
 |mk (jh jp jl jm j0 j1:Nat):Bat B b i jh jp jl jm j0 j1 S->Bd B b i S
theorem Bat.fr{B:BD}{b i p w c t u l:Nat}{S s:aC}(h:Bat B b i p w c t u l S)(f:Fr b S s):Bat B b i p w c t u l s where
 ins:=by rcases f.low i _ h.bi h.ins with e|⟨_,q,_⟩;exact e;cases q
 ho:=h.ho.fr f
 pr:=h.pr.fr f
 pl:=by rcases f.low c _ h.bl h.pl with e|⟨_,q,_⟩;exact e;cases q
 me:=by rcases f.low t _ h.bm h.me with e|⟨_,q,_⟩;exact e;cases q
 m0:=h.m0.fr f
 m1:=h.m1.fr f
 bi:=h.bi
 bh:=h.bh
 bp:=h.bp
 bl:=h.bl
 bm:=h.bm
 b0:=h.b0
 b1:=h.b1
 bs:=aI h.bs f.len
theorem Bd.fr{B:BD}{b i:Nat}{S s:aC}(h:Bd B b i S)(f:Fr b S s):Bd B b i s:=by obtain⟨p,w,c,t,u,l,h⟩:=h;exact⟨p,w,c,t,u,l,h.fr f⟩
theorem Bd.le{B:BD}{b i:Nat}{S:aC}(h:Bd B b i S):b≤S.length:=by obtain⟨p,w,c,t,u,l,h⟩:=h;exact h.bs
theorem BJ:aT Att "Board" "families"=true/\aT Att "Board" "homes"=true/\aT Att "Board" "pairs"=true/\aT Att "Board" "places"=true/\aT Att "Board" "members"=true:=by decide +kernel
theorem Jx{a b c d e:D}:eu "families" fields [a,b,c,d,e]=some a/\eu "homes" fields [a,b,c,d,e]=some b/\eu "pairs" fields [a,b,c,d,e]=some c/\eu "places" fields [a,b,c,d,e]=some d/\eu "members" fields [a,b,c,d,e]=some e:=by simp[fields,eu]
section
variable{B:BD}{b i p w c t u l:Nat}{S:aC}(h:Bat B b i p w c t u l S){L:Lc}{o:EE}(ho:o L S=some (.ref i,S))
include h ho
theorem Bat.fld(a:aT Att "Board" x=true)(f:eu x fields [.p (.lst [ig B false,ig B true]),.ref p,.ref w,.ref c,.ref t]=some d):bZ (aT Att) o x L S=some (d,S):=by rw[bZ,ho,av];simp only[h.ins];rw[ae a,f];rfl
theorem Bat.families:bZ (aT Att) o "families" L S=some (.p (.lst [ig B false,ig B true]),S):=h.fld ho BJ.1 Jx.1
theorem Bat.homes:bZ (aT Att) o "homes" L S=some (.ref p,S):=h.fld ho BJ.2.1 Jx.2.1
theorem Bat.pairs:bZ (aT Att) o "pairs" L S=some (.ref w,S):=h.fld ho BJ.2.2.1 Jx.2.2.1
theorem Bat.places:bZ (aT Att) o "places" L S=some (.ref c,S):=h.fld ho BJ.2.2.2.1 Jx.2.2.2.1
theorem Bat.members:bZ (aT Att) o "members" L S=some (.ref t,S):=h.fld ho BJ.2.2.2.2 Jx.2.2.2.2
theorem Bat.meth(m:M "Board" x=some g)(n:fields.contains x=false)(a:H L S=some (q,S)):dC M o x H L S=g (.ref i::q) S:=by rw[dC,ho,av];simp only[h.ins,m,n,a,av];rfl
end
theorem MT(h:Str->GF):mT Tb h "Board" "family_of"=some (h "Board.family_of"):=by kernel_rfl
theorem MS(h:Str->GF):mT Tb h "Board" "hands_beside"=some (h "Board.hands_beside"):=by kernel_rfl
theorem M4:fields.contains "family_of"=false:=by decide +kernel
theorem M3:fields.contains "hands_beside"=false:=by decide +kernel
theorem Be{n:Nat}{B:BD}{b i:Nat}{S:aC}(h:Bd B b i S)(k:Bool):Ph (n+2) "Board.family_of" [.ref i,.p (.int (ix k))] S=some (.p (ig B k),S):=by obtain⟨p,w,c,t,u,l,h⟩:=h;have e:i7 (bZ (aT Att) (U 0) "homes") (vE (U 1)) [some (.ref i),some (.p (.int (ix k)))] S=some (.p (.int (ix k)),S):=h.ho.ix (h.homes rfl) rfl (by cases k<;>rfl);have x:bZ (aT Att) (U 0) "families" [some (.ref i),some (.p (.int (ix k)))] S=some (.p (.lst [ig B false,ig B true]),S):=h.families rfl;rw[i6];show fQ (bc _ [some (.ref i),some (.p (.int (ix k)))] S)=_;rw[bc,i7,x,av,vE,e];cases k<;>rfl
theorem BH{n:Nat}{B:BD}{b i:Nat}{S:aC}(h:Bd B b i S)(k:Bool):∃s,Ph (n+2) "Board.hands_beside" [.ref i,.p (.int (ix k)),.p (.str (nm !k))] S=some (.p (.lst [.int (ix !k)]),s)/\Fr b S s:=by
 obtain⟨p,w,c,t,u,l,h⟩:=h;obtain⟨j,f,e,x⟩:∃j,j < b/\eB (.inr (nm !k)) [.inr "f",.inr "g"] [D.ref u,.ref l]=some (D.ref j)/\ie S j [.int (ix !k)]:=by
  cases k
  .exact⟨l,h.b1,by simp[nm,eB],h.m1⟩
  .exact⟨u,h.b0,by simp[nm,eB],h.m0⟩
 refine⟨_,?_,Fr.frz f x⟩;have a:i7 (bZ (aT Att) (U 0) "members") (vE (U 2)) [some (.ref i),some (.p (.int (ix k))),some (.p (.str (nm !k)))] S=some (.ref j,S):=by rw[i7,h.members rfl];simp[h.me,di,e]
 rw[gP];show fQ (bc _ [some (.ref i),some (.p (.int (ix k))),some (.p (.str (nm !k)))] S)=_;simp only[bc,eV,cJ,iW,vE,a,av,x.frz];cases k<;>rfl
section
variable{B:BD}(f:BW B)
include f
theorem zq(h:Bool)(S:aC):Ph (n+2) "values_of" [.p (ig B h),.p (.tup (VV B h))] S=some (.ref S.length,S++[.dct (KK B h) ((VV B h).map .p)]):=by obtain⟨u,m,r,kd,t,a,c,k,v⟩:=B;rcases f.ct with ⟨rfl,rfl,rfl⟩|⟨lo,i,x,rfl,rfl,rfl⟩<;>cases h<;>kernel_rfl
theorem xU(h:Bool):pureOf (Ph (n+2) "values_of") [ig B h,.tup (VV B h)]=some (.dct (KK B h) (VV B h)):=by obtain⟨u,m,r,kd,t,a,c,k,v⟩:=B;rcases f.ct with ⟨rfl,rfl,rfl⟩|⟨lo,i,x,rfl,rfl,rfl⟩<;>cases h<;>kernel_rfl
theorem FQ(h:Bool)(v:Int)(a:S[j]? = some (.dct (KK B h) ((VV B h).map .p)))(ho:o L S=some (.ref j,S))(hk:k L S=some (.str "it",S))(s:z L S=some (.int v,S)):jU o k z L S=some (.nx,L,S.set j (.dct (KK B h++[.inr "it"]) ((VV B h++[P.int v]).map .p))):=by
 have e:zT o k z L S=some (.nx,L,S.set j (.dct (KK B h++[.inr "it"]) ((VV B h++[P.int v]).map .p))):=by obtain⟨n,m,p,kd,q,t,c,r,b⟩:=B;rcases f.ct with ⟨rfl,rfl,rfl⟩|⟨lo,i,x,rfl,rfl,rfl⟩<;>cases h<;>simp[zT,ho,hk,s,qu,a,di,KK,VV,sM]
 unfold jU;rw[e]
end
def Ko(B:BD):Bool->P|false=>rF B|true=>Fz B
section
variable{B:BD}(f:BW B)
include f
theorem J_:pureOf (Ph (n+5) "cells_behind") [ig B false,.tup (VV B false),ue B,.dct (KK B false) (VV B false)]=some (.tup (VV B false)):=by obtain⟨u,m,r,kd,t,a,c,k,v⟩:=B;rcases f.ct with ⟨rfl,rfl,rfl⟩|⟨lo,h,x,rfl,rfl,rfl⟩<;>kernel_rfl
theorem J8(h:Bool)(v:Int):pureOf (Ph (n+5) "cells_behind") [ig B h,.tup (VV B h),Ko B h,.dct (KK B h++[.inr "it"]) (VV B h++[.int v])]=some (.tup (VV B h)):=by obtain⟨u,m,r,kd,t,e,c,k,a⟩:=B;rcases f.ct with ⟨rfl,rfl,rfl⟩|⟨lo,i,x,rfl,rfl,rfl⟩<;>cases h<;>kernel_rfl
end
theorem Ii:pureOf (Ph (n+4) "whos_behind") [ig B false,.tup [],.non,.non]=some (.tup []):=by kernel_rfl
theorem Ih(h:Bool)(y:P):pureOf (Ph (n+4) "whos_behind") [ig B h,.tup [],tk (nm !h),y]=some (.tup []):=by cases h<;>kernel_rfl
noncomputable def zX(h:Bool)(a b x:P):List P:=match h with|false=>[x,b]|true=>[a,x]
theorem uk(h:Bool)(a b x:P):pureOf (Ph (n+2) "replaced") [.tup [a,b],.int (ix h),x]=some (.tup (zX h a b x)):=by cases h<;>kernel_rfl
theorem Ig(l:P):pureOf (Ph (n+2) "without") [.tup [l],.int 0]=some (.tup []):=by kernel_rfl
theorem Ip(v:Int):pureOf (Ph (n+2) "unlike_spots") [.str "heap",.tup [.tup [.str "ma",.int v]]]=some (.lst [.int 0]):=by
 have e:jt [.tup [.str "ma",.int v]] (.tup [.str "ma",.int v])=some 0:=by
  have o:eQ 19 (.tup [.str "ma",.int v])=true:=by kernel_rfl
  simp[jt,o,eZ,pd,b_,qV]
 rw[kM,bQ];simp[gn,d6,js,cJ,nP,cE,Ev.intsFrom,e]
theorem Fe:pureOf (Ph (n+2) "unlike_spots") [.str "heap",.tup []]=some (.lst []):=by kernel_rfl
noncomputable abbrev lt(v:Int):P:=.tup [.str "ma",.int v]
noncomputable def BS(h:Bool)(a b:List P):List P:=match h with|false=>b|true=>a
noncomputable def RD:Bool->List P->List P|false,x=>[.tup x,.tup []]|true,x=>[.tup [],.tup x]
theorem zD{n:Nat}{i:Nat}{S:aC}{r h:P}:Ph (n+2) "takeable" [.ref i,.p r,.p h,.p .non] S=some (.p (.lst [.non]),S):=by rw[jY];simp[iu,gW,yH,gf]
def GX(h:Bool)(l:List P):List P:=l.map λ_=>.tup [.int (ix !h),.int 0]
theorem Fo{B:BD}(f:BW B){n:Nat}(h:Bool){a b:List P}{s:List P}(H:BS h a b=s)(j:s=[]\/∃v,s=[lt v]){F i:Nat}{S:aC}{r:Nat}(A:Bd B F i S)(o:S[r]? = some (.lst [])) :
  ∃C D E G,d_ (Ph (n+2)) [some (.ref i),some (.p (.tup [.tup a,.tup b])),some (.p (.int (ix h))),some (.p (tk (nm !h))),some (.ref r),some (.p (.int (ix !h))),none,none,none,none] S=some (.nx,[some (.ref i),some (.p (.tup [.tup a,.tup b])),some (.p (.int (ix h))),some (.p (tk (nm !h))),some (.ref r),some (.p (.int (ix !h))),C,D,E,G],S.set r (.lst ((GX h s).map .p))):=by
 obtain⟨p,w,c,t,u,l,g⟩:=A;have z:∃q:List P,q=s.map (λ_=>P.int 0)/\∀(L:Lc)(S:aC),L[7]? = some (some (.p (.str B.kd)))->L[8]? = some (some (.p (.tup s)))->Im (bV (bY k5 (U 7) (eV (vC (.str "row"))))) (CH (Il (d5 (U 8))) xu (rS (vC (.int 1)))) (aJ (pureOf (Ph (n+2) "unlike_spots")) (O (vE (U 7)) (O (vE (U 8)) aj))) L S=some (.lst q,S):=by
  refine⟨_,rfl,λL S e d=>?_⟩;have un:=Fe (n:=n);rcases f.kd with k|k<;>rw[k]at e<;>rcases j with rfl|⟨v,rfl⟩
  .simp [e,d,d6,js];rfl
  .simp [e,d,d6,js];rfl
  .simp [e,d,un]
  .simp [e,d,Ip (n:=n) v]
 obtain⟨q,m,K⟩:=z;refine⟨some (.p (.int (ix !h))),some (.p (.str B.kd)),some (.p (.tup s)),some (.p (.lst q)),?_⟩;unfold d_;refine(aB (e:=[some (.ref i),some (.p (.tup [.tup a,.tup b])),some (.p (.int (ix h))),some (.p (tk (nm !h))),some (.ref r),some (.p (.int (ix !h))),some (.p (.int (ix !h))),none,none,none]) (k:=S) ?_).trans ?_
 .rw [aF,sI,g.places rfl];cases h<;>simp[kG,g.pl,cV,di,g9,ix]
 refine(aB (e:=[some (.ref i),some (.p (.tup [.tup a,.tup b])),some (.p (.int (ix h))),some (.p (tk (nm !h))),some (.ref r),some (.p (.int (ix !h))),some (.p (.int (ix !h))),some (.p (.str B.kd)),none,none]) (k:=S) ?_).trans ?_
 .rw [aF,i7,i7,g.pr.ix (g.pairs rfl) (i:=ix !h) (x:=.tup [road B !h,.int (ix !h),.int (ix h)]) rfl (by cases h<;>rfl)];simp[road]
 refine(aB (e:=[some (.ref i),some (.p (.tup [.tup a,.tup b])),some (.p (.int (ix h))),some (.p (tk (nm !h))),some (.ref r),some (.p (.int (ix !h))),some (.p (.int (ix !h))),some (.p (.str B.kd)),some (.p (.tup s)),none]) (k:=S) ?_).trans ?_
 .cases h<;>(simp only[BS]at H;subst H;rfl)
 refine(aB (e:=[some (.ref i),some (.p (.tup [.tup a,.tup b])),some (.p (.int (ix h))),some (.p (tk (nm !h))),some (.ref r),some (.p (.int (ix !h))),some (.p (.int (ix !h))),some (.p (.str B.kd)),some (.p (.tup s)),some (.p (.lst q))]) (k:=S) ?_).trans ?_
 .rw [aF,eV,K _ S rfl rfl];rfl
 refine l_ (c:=[]) rfl o (y:=GX h s) ?_ o (by rcases j with rfl|⟨v,rfl⟩<;>simp[GX]);subst m;rcases j with rfl|⟨v,rfl⟩<;>simp[cJ,nP,cE,GX]
theorem CQ{B:BD}(f:BW B){n:Nat}(h:Bool){a b:List P}{m:List P}(D:BS h a b=m)(E:m=[]\/∃v,m=[lt v]){j i:Nat}{S:aC}(k:Bd B j i S) :
  ∃d s,Ph (n+4) "takeable" [.ref i,.p (.tup [.tup a,.tup b]),.p (.int (ix h)),.p (tk (nm !h))] S=some (d,s)/\Fr j S s/\i_ S s d (GX h m):=by
 have x:=Fr.app j S [.lst []];obtain⟨z,H,e⟩:=BH (n:=n+1) (k.fr x) h;have A:=x.trans e;have o:z[S.length]? = some (.lst []):=e.hi _ _ k.le (eG _ _);obtain⟨G,I,M,N,F⟩:=Fo f (n:=n+1) h D E (k.fr A) o;refine⟨.ref S.length,_,?_,A.set k.le (ai _) _,.inr ⟨S.length,ai _,rfl,.inl (jr o)⟩⟩;rw[jY];obtain⟨p,w,c,t,u,l,y⟩:=k.fr x;have C:dC (mT Tb (Ph (n+3))) (U 0) "hands_beside" (af (U 2) (af (eV (aK bD (vE (U 3)) (vC (.int 1)))) aO)) [some (.ref i),some (.p (.tup [.tup a,.tup b])),some (.p (.int (ix h))),some (.p (tk (nm !h))),some (.ref S.length),none,none,none,none,none] (S++[.lst []])=some (.p (.lst [.int (ix !h)]),z):=
  (y.meth rfl (MS _) M3 (q:=[.p (.int (ix h)),.p (.str (nm !h))]) (by simp)).trans H
 have K:=bo (g:=aQ 5) (r:=[]) (v:=.int (ix !h)) (L:=[some (.ref i),some (.p (.tup [.tup a,.tup b])),some (.p (.int (ix h))),some (.p (tk (nm !h))),some (.ref S.length),none,none,none,none,none]) rfl F;simp[iu,gW,yH,gf,-dC,C,K];rfl
noncomputable abbrev E0:P:=.tup [.tup [],.tup []]
def BR(h:Bool)(v:Int):P:=if v.natAbs≤999 then .tup (RD h [lt v]) else .non
theorem Dg{B:BD}(f:BW B){n:Nat}(h:Bool)(v:Int){b i:Nat}{S:aC}(H:Bd B b i S):Ph (n+3) "posted" [.ref i,.p E0,.p (.int (ix h)),.p (.lst [.int (ix !h)]),.p (lt v)] S=some (.p (BR h v),S):=by
 obtain⟨p,w,c,t,u,l,m⟩:=H;have z:aF 6 (sJ (bZ (aT Att) (U 0) "places") (O (vE (U 2)) (O (vE (U 5)) aj))) [some (.ref i),some (.p E0),some (.p (.int (ix h))),some (.p (.lst [.int (ix !h)])),some (.p (lt v)),some (.p (.int (ix !h))),none,none,none] S=some (.nx,[some (.ref i),some (.p E0),some (.p (.int (ix h))),some (.p (.lst [.int (ix !h)])),some (.p (lt v)),some (.p (.int (ix !h))),some (.p (.int (ix h))),none,none],S):=by rw[aF,sJ,m.places rfl];cases h<;>simp[kG,m.pl,cV,di,g9,ix]
 rw[uN];show fQ (gY _ [some (.ref i),some (.p E0),some (.p (.int (ix h))),some (.p (.lst [.int (ix !h)])),some (.p (lt v)),none,none,none,none] S)=_;unfold BR;by_cases y:v.natAbs≤999
 .have a:¬(999:Int) < (if v < 0 then -v else v):=by split<;>lia
  have F:=f.rm;have s:¬B.rm≤0:=by lia
  have d:=uk (n:=n) h (.tup []) (.tup []) (.tup [lt v]);have o:nH [lt v]=some (.lst [lt v]):=by kernel_rfl
  have e:fZ (Ph (n+2)) [some (.ref i),some (.p E0),some (.p (.int (ix h))),some (.p (.lst [.int (ix !h)])),some (.p (lt v)),some (.p (.int (ix !h))),none,none,none] S=some (.nx,[some (.ref i),some (.p (.tup (zX h (.tup []) (.tup []) (.tup [lt v])))),some (.p (.int (ix h))),some (.p (.lst [.int (ix !h)])),some (.p (lt v)),some (.p (.int (ix !h))),some (.p (.int (ix h))),some (.p (road B h)),some (.p (.tup [lt v]))],S):=by
   refine(aB z).trans ((aB (e:=[some (.ref i),some (.p E0),some (.p (.int (ix h))),some (.p (.lst [.int (ix !h)])),some (.p (lt v)),some (.p (.int (ix !h))),some (.p (.int (ix h))),none,none]) (k:=S) ?_).trans ((aB (e:=[some (.ref i),some (.p E0),some (.p (.int (ix h))),some (.p (.lst [.int (ix !h)])),some (.p (lt v)),some (.p (.int (ix !h))),some (.p (.int (ix h))),some (.p (road B h)),none]) (k:=S) ?_).trans ?_))
   .simp [yH,gf,nJ,a]
   .rw [aF,i7,m.pr.ix (m.pairs rfl) (i:=ix h) (x:=.tup [road B h,.int (ix h),.int (ix !h)]) rfl (by cases h<;>rfl)];simp
   have j:L2.atI [P.tup [],P.tup []] (ix h)=some (.tup []):=by cases h<;>rfl
   rcases f.kd with k|k
   .simp [road,k,j,d6,js,s,bW,d]
   .simp [road,k,j,d6,js,s,bW,d,C2,C0,o,i0]
  have q:=bo (g:=aQ 5) (r:=[]) (v:=.int (ix !h)) (L:=[some (.ref i),some (.p E0),some (.p (.int (ix h))),some (.p (.lst [.int (ix !h)])),some (.p (lt v)),none,none,none,none]) rfl e;rw[ae y];simp[gY,q];cases h<;>rfl
 .have a:(999:Int) < (if v < 0 then -v else v):=by split<;>lia
  have e:fZ (Ph (n+2)) [some (.ref i),some (.p E0),some (.p (.int (ix h))),some (.p (.lst [.int (ix !h)])),some (.p (lt v)),some (.p (.int (ix !h))),none,none,none] S=some (.rt (.p .non),[some (.ref i),some (.p E0),some (.p (.int (ix h))),some (.p (.lst [.int (ix !h)])),some (.p (lt v)),some (.p (.int (ix !h))),some (.p (.int (ix h))),none,none],S):=by refine(aB z).trans (uh ?_);simp[yH,gf,nJ,a]
  have q:=np (g:=aQ 5) (r:=[]) (v:=.int (ix !h)) (L:=[some (.ref i),some (.p E0),some (.p (.int (ix h))),some (.p (.lst [.int (ix !h)])),some (.p (lt v)),none,none,none,none]) rfl e;rw[ag y];simp[gY,q]
theorem tg_ok{B:BD}{n:Nat}(h:Bool)(e:P){b i:Nat}{S:aC}(a:Bd B b i S):∃s,Ph (n+4) "targets_of" [.ref i,.p (.int (ix h)),.p (.str "all"),.p (.str (nm !h)),.p e] S=some (.p (.lst [.tup [.tup [],.lst [.int (ix !h)]]]),s)/\Fr b S s:=by
 obtain⟨x,k,f⟩:=BH (n:=n+1) a h;obtain⟨p,w,c,t,u,l,r⟩:=a;have m:dC (mT Tb (Ph (n+3))) (U 0) "hands_beside" (af (U 1) (af (U 3) aO)) [some (.ref i),some (.p (.int (ix h))),some (.p (.str "all")),some (.p (.str (nm !h))),some (.p e),none] S=some (.p (.lst [.int (ix !h)]),x):=
  (r.meth rfl (MS _) M3 (q:=[.p (.int (ix h)),.p (.str (nm !h))]) (by simp)).trans k
 refine⟨x,?_,f⟩;rw[nr];simp[iu,iG,-dC,m]
def Fd(h:Bool)(v:Int):List P:=if v.natAbs≤999 then [.tup [.tup [],.tup (RD h [lt v])]] else []
theorem Fc{v:Int}:(BR h v=.non/\Fd h v=[])\/(BR h v=.tup (RD h [lt v])/\Fd h v=[.tup [.tup [],.tup (RD h [lt v])]]):=by
 unfold BR Fd;by_cases x:v.natAbs≤999
 .simp [x]
 .simp [x]
noncomputable abbrev FL(i v r:Nat)(k t m w:P)(d f b c q h:Option D)(x a e s n:Option D):Lc:=[some (.ref i),some (.p k),some (.p t),some (.ref v),some (.p m),some (.p w),d,f,b,c,q,h,some (.ref r),x,a,e,s,n]
theorem IL{B:BD}(f:BW B){n:Nat}(h:Bool){t:P}{v:Int}{K:List cn}{V:List P}(ev:pureOf (Ph (n+5) "value_of") [t,.dct K V]=some (.int v)){b i:Nat}{S:aC}{k:Nat}(m:Bd B b i S)(hkv:b≤k)(hk:S[k]? = some (.fz (.dct K V))) :
  ∃d s,Ph (n+6) "sendings" [.ref i,.p (.int (ix h)),.p (.lst [.tup [.str "ma",t,.str "all",.str (nm !h)]]),.ref k,.p E0,.p (.tup [])] S=some (d,s)/\Fr b S s/\i_ S s d (Fd h v):=by
 have A:=Fr.app b S [.lst []];let p:P:=.lst [.tup [.str "ma",t,.str "all",.str (nm !h)]]
 let F:Option D->Option D->Option D->Option D->Option D->Lc:=λG I M N Q=>FL i k S.length (.int (ix h)) p E0 (.tup []) (some (.p (.lst [.tup [.tup [],E0]]))) (some (.p (.str "ma"))) (some (.p t)) (some (.p (.str "all"))) (some (.p (.str (nm !h)))) (some (.p (lt v))) G I M N Q
 obtain⟨S1,T,z⟩:=tg_ok (n:=n+1) h (.tup []) (m.fr A);obtain⟨j,W,a⟩:=BA (b:=b) (g:=Ph (n+5) "targets_of") (H:=af (U 0) (af (U 1) (af (U 9) (af (U 10) (af (U 5) aO))))) (L:=F (some (.p (.tup []))) (some (.p E0)) none none none) (q:=[.ref i,.p (.int (ix h)),.p (.str "all"),.p (.str (nm !h)),.p (.tup [])]) rfl T z;have c:=A.trans a;have h2:j[S.length]? = some (.lst []):=a.hi _ _ m.le (eG _ _);have ep:=Dg f (n:=n+2) h v (m.fr c);obtain⟨l,X,e⟩:=BA (b:=b) (g:=Ph (n+5) "posted") (H:=af (U 0) (af (U 14) (af (U 1) (af (U 16) (af (U 11) aO))))) (L:=F (some (.p (.tup []))) (some (.p E0)) (some (.p (.tup []))) (some (.p (.lst [.int (ix !h)]))) none) (q:=[.ref i,.p E0,.p (.int (ix h)),.p (.lst [.int (ix !h)]),.p (lt v)]) rfl ep (Fr.refl _ _);have C:=c.trans e;have w:l[S.length]? = some (.lst []):=e.hi _ _ m.le h2;have hg:∃x,h7 (Ph (n+5)) (F (some (.p (.tup []))) (some (.p E0)) (some (.p (.tup []))) (some (.p (.lst [.int (ix !h)]))) none) j=some (.nx,F (some (.p (.tup []))) (some (.p E0)) (some (.p (.tup []))) (some (.p (.lst [.int (ix !h)]))) (some (.p (BR h v))),x)/\Fr b S x/\x[S.length]? = some (.lst ((Fd h v).map .p)):=by
  have u:aF 17 (eV (bq (Ph (n+5) "posted") (af (U 0) (af (U 14) (af (U 1) (af (U 16) (af (U 11) aO))))))) (F (some (.p (.tup []))) (some (.p E0)) (some (.p (.tup []))) (some (.p (.lst [.int (ix !h)]))) none) j=some (.nx,F (some (.p (.tup []))) (some (.p E0)) (some (.p (.tup []))) (some (.p (.lst [.int (ix !h)]))) (some (.p (BR h v))),l):=by rw[aF,eV,X];rfl
  rcases Fc (h:=h) (v:=v) with ⟨E,R⟩|⟨E,R⟩
  .rw [E]at u ⊢;rw[R];exact⟨l,(aB u).trans (by simp[F,eT,gf]),C,w⟩
  .rw [E]at u ⊢;rw[R];refine⟨_,(aB u).trans ?_,C.set m.le (ai _) _,jr w⟩;refine(uF (by simp[F,eT,gf])).trans ?_;exact mh (c:=[]) (y:=.tup [.tup [],.tup (RD h [lt v])]) rfl w (by simp[F,bW]) w (by simp)
 obtain⟨x,Z,o,h4⟩:=hg;refine⟨.ref S.length,x,?_,o,.inr ⟨S.length,ai _,rfl,.inl h4⟩⟩;have e5:eh (Ph (n+5)) (F (some (.p (.tup []))) (some (.p E0)) none none none) (S++[.lst []])=some (.nx,F (some (.p (.tup []))) (some (.p E0)) (some (.p (.tup []))) (some (.p (.lst [.int (ix !h)]))) (some (.p (BR h v))),x):=by unfold eh;rw[cX,iW,W];exact bo (g:=cA [aQ 15,aQ 16]) (v:=.tup [.tup [],.lst [.int (ix !h)]]) (L:=F (some (.p (.tup []))) (some (.p E0)) none none none) (r:=[]) rfl Z
 have tv:toP 9 (.ref k) S=some (.dct K V,S):=by simp[toP,hk]
 have e6:ee (Ph (n+5)) [some (.ref i),some (.p (.int (ix h))),some (.p p),some (.ref k),some (.p E0),some (.p (.tup [])),some (.p (.lst [.tup [.tup [],E0]])),some (.p (.str "ma")),some (.p t),some (.p (.str "all")),some (.p (.str (nm !h))),none,none,none,none,none,none,none] S=some (.nx,FL i k S.length (.int (ix h)) p E0 (.tup []) (some (.ref S.length)) (some (.p (.str "ma"))) (some (.p t)) (some (.p (.str "all"))) (some (.p (.str (nm !h)))) (some (.p (lt v))) (some (.p (.tup []))) (some (.p E0)) (some (.p (.tup []))) (some (.p (.lst [.int (ix !h)]))) (some (.p (BR h v))),x):=by unfold ee;rw[aB (by simp[tv,ev];exact⟨rfl,rfl⟩)];rw[aB (by simp;exact⟨rfl,rfl⟩)];refine(aB (e:=F (some (.p (.tup []))) (some (.p E0)) (some (.p (.tup []))) (some (.p (.lst [.int (ix !h)]))) (some (.p (BR h v)))) (k:=x) ?_).trans rfl;rw[cX,iW];exact bo (g:=cA [aQ 13,aQ 14]) (v:=.tup [.tup [],E0]) (L:=F none none none none none) (r:=[]) rfl e5
 rw[qG];show fQ (gX _ [some (.ref i),some (.p (.int (ix h))),some (.p p),some (.ref k),some (.p E0),some (.p (.tup [])),none,none,none,none,none,none,none,none,none,none,none,none] S)=_;unfold gX;rw[aB (by simp;exact⟨rfl,rfl⟩)];rw[aB (by rw[cX,iW];exact bo (g:=cA [aQ 7,aQ 8,aQ 9,aQ 10]) (v:=.tup [.str "ma",t,.str "all",.str (nm !h)]) (L:=[some (.ref i),some (.p (.int (ix h))),some (.p p),some (.ref k),some (.p E0),some (.p (.tup [])),some (.p (.lst [.tup [.tup [],E0]])),none,none,none,none,none,none,none,none,none,none,none]) (r:=[]) rfl e6)];rfl
end My
namespace My
open PySem L2 Ev
def ew(s:List P)(h:Bool)(x:Str)(y:P)(v:Int):List P:=if v.natAbs≤999 then [.tup [.tup [.str "step",.int (ix h),.str x,y,.tup []],.tup [.tup s,.tup (RD h [lt v])]]] else []
abbrev SL(i:Nat)(st d step y ig r:P)(n k f q h x a e s:Option D):Lc:=[some (.ref i),some (.p st),some (.p d),some (.p step),some (.p y),some (.p ig),some (.p r),n,k,f,q,h,x,a,e,s]
theorem qj(a b c d e f g:P):L2.atI [a,b,c,d,e,f,g] 3=some d:=dq (by decide) rfl
theorem II(a b c d e f g:P):L2.atI [a,b,c,d,e,f,g] 5=some f:=dq (by decide) rfl
theorem zK(a b c d e f g:P):L2.atI [a,b,c,d,e,f,g] 6=some g:=dq (by decide) rfl
theorem JM(B:BD)(h:Bool):∃r,bD (ig B h) (.int 2)=some (.lst r)/\(h=false->r=[.str "r",.str "s"])/\(h=true->r=[.str "r"]):=by
 cases h
 .exact⟨_,rfl,λ_=>rfl,(λq=>by cases q)⟩
 .exact⟨_,rfl,(λq=>by cases q),λ_=>rfl⟩
theorem El{B:BD}(hW:BW B){n:Nat}(h:Bool){x p m:Str}{k t y s u l:P}{r:Int}{K:List cn}{V:List P}{v:Int}{j:Nat}
  (hh:L2.atI [u,l] (ix h)=some (.tup [.int r,.tup (VV B h),.tup []]))
  (X:∀(b i:Nat) (S:aC) (st step fm r':P) (q7 q8 c G I q a:Option D),Bd B b i S->∃E,
   dO (bV (bY eT (U 4) (eV (vC (.non))))) (aA (aF 11 (sI (bZ (aT Att) (U 0) "places") (O (aK bD (vE (U 4)) (vC (.int 0))) (O (vE (U 2)) aj))))
    (aA (jU (U 10) (vC (.str "it")) (aK bD (aK bD (aK bD (vE (U 9)) (vE (U 11))) (aK bD (vE (U 4)) (vC (.int 1)))) (vC (.int 1))))
    (aF 9 (eV (aJ (pureOf (Ph (n+7) "replaced")) (O (vE (U 9)) (O (vE (U 11)) (O (aJ (pureOf (Ph (n+7) "without")) (O (aK bD (vE (U 9)) (vE (U 11))) (O (aK bD (vE (U 4)) (vC (.int 1))) aj))) aj)))))))) eY
    (SL i st (.int (ix h)) step y fm r' q7 q8 (some (.p s)) (some (.ref S.length)) c G I q a) (S++[.dct (KK B h) ((VV B h).map .p)])=some (.nx,SL i st (.int (ix h)) step y fm r' q7 q8 (some (.p E0)) (some (.ref S.length)) E G I q a,S++[.dct K (V.map .p)]))
  (W:pureOf (Ph (n+7) "cells_behind") [ig B h,.tup (VV B h),stp x p k t (nm !h) m,.dct K V]=some (.tup (VV B h)))
  (ewb:pureOf (Ph (n+7) "whos_behind") [ig B h,.tup [],k,y]=some (.tup []))
  (Z:∀e,bD (ig B h) (.int 2)=some (.lst e)->jt e (.str m)=some j)
  (ev:pureOf (Ph (n+6) "value_of") [t,.dct K V]=some (.int v)) {b i:Nat}{S:aC} (f:Bd B b i S) :
  ∃d Q,Ph (n+8) "step_ends" [.ref i,.p (.tup [.tup [u,l],s]),.p (.int (ix h)),.p (stp x p k t (nm !h) m),.p y] S=some (d,Q)/\Fr b S Q/\i_ S Q d (ew (zX h u l (.tup [.int (j:Int),.tup (VV B h),.tup []])) h x y v):=by
 let step:P:=stp x p k t (nm !h) m
 let st:P:=.tup [.tup [u,l],s]
 have tv:toP 9 (.ref S.length) (S++[.dct K (V.map .p)])=some (.dct K V,S++[.fz (.dct K V)]):=by have:uu (toP 8) (V.map .p) (S++[.dct K (V.map .p)])=some (V,S++[.dct K (V.map .p)]):=qv ..;simp[toP,this]
 have A:=Fr.app b S [.fz (.dct K V),.lst []];have hk0:(S++[SO.fz (.dct K V),.lst []])[S.length]? = some (.fz (.dct K V)):=by simp
 have hk1:(S++[SO.fz (.dct K V),.lst []])[S.length+1]? = some (.lst []):=by simp
 have hb1:b≤(S++[SO.fz (.dct K V),.lst []]).length:=aI f.le (by simp);have er:=uk (n:=n+5) h u l (.tup [.int (j:Int),.tup (VV B h),.tup []]);obtain⟨e,H,_⟩:=JM B h;have Z:=Z e H;generalize hhs:zX h u l (.tup [.int (j:Int),.tup (VV B h),.tup []])=C at er ⊢;obtain⟨d1,S1,e1,fr1,T⟩:=IL hW (n:=n+1) h ev (f.fr A) f.le hk0;obtain⟨c,e5⟩:=X b i S st step (ig B h) (.int r) (some (.p (.tup (VV B h)))) (some (.p (.tup []))) none none none none none f;let F:Option D->Option D->Lc:=λq a=>SL i st (.int (ix h)) step y (ig B h) (.int r) (some (.p (.tup (VV B h)))) (some (.p (.tup []))) (some (.p E0)) (some (.ref S.length)) c (some (.p (.tup C))) (some (.ref (S.length+1))) q a
 obtain⟨R,e2,z⟩:=nG (b:=b) (g:=Ph (n+7) "sendings") (H:=af (U 0) (af (U 2) (af (eV (aK bD (vE (U 3)) (vC (.int 5)))) (af (U 10) (af (U 9) (af (U 8) aO)))))) (L:=F none none) (q:=[.ref i,.p (.int (ix h)),.p (.lst [.tup [.str "ma",t,.str "all",.str (nm !h)]]),.ref S.length,.p E0,.p (.tup [])]) (by simp[F,step,II]) e1 fr1 hb1 T;have M:R[S.length+1]? = some (.lst []):=z.hi _ _ (aI f.le (by lia)) hk1;have o:=A.trans z;have hg:∃w q a,cB (cA [aQ 14,aQ 15]) (gp (Ph (n+7))) (Fd h v) (F none none) R=some (.nx,F q a,w)/\Fr b S w/\w[S.length+1]? = some (.lst ((ew C h x y v).map .p)):=by
  unfold Fd ew;by_cases N:v.natAbs≤999
  .rw [ae N,ae N];refine⟨_,some (.p (.tup [])),some (.p (.tup (RD h [lt v]))),bo (g:=cA [aQ 14,aQ 15]) (v:=.tup [.tup [],.tup (RD h [lt v])]) (L:=F none none) (h:=F (some (.p (.tup []))) (some (.p (.tup (RD h [lt v]))))) (r:=[]) rfl ?_,o.set f.le (by lia) _,jr M⟩;exact mh (c:=[]) rfl M (by simp[F,step]) M (by simp)
  .rw [ag N,ag N];exact⟨R,none,none,rfl,o,M⟩
 obtain⟨w,q,a,e3,frC,h3⟩:=hg;refine⟨.ref (S.length+1),w,?_,frC,.inr ⟨S.length+1,by lia,rfl,.inl h3⟩⟩;have ef:=Be (n:=n+5) f h;obtain⟨jh,jp,jl,jm,j0,j1,hb⟩:=f;rw[nW];show fQ (fX _ [some (.ref i),some (.p st),some (.p (.int (ix h))),some (.p step),some (.p y),none,none,none,none,none,none,none,none,none,none,none] S)=_;unfold fX;refine(bR fQ ((aB (e:=[some (.ref i),some (.p st),some (.p (.int (ix h))),some (.p step),some (.p y),some (.p (ig B h)),none,none,none,none,none,none,none,none,none,none]) (k:=S) ?_).trans ?_)).trans (show fQ (some (.rt (.ref (S.length+1)),F q a,w))=_ from rfl)
 .rw [aF,hb.meth rfl (MT _) M4 (q:=[.p (.int (ix h))]) (by simp),ef];rfl
 rw[aB (by simp[st,hh];exact⟨rfl,rfl⟩)];rw[aB (by simp[st];exact⟨rfl,rfl⟩)];refine(aB (e:=SL i st (.int (ix h)) step y (ig B h) (.int r) (some (.p (.tup (VV B h)))) (some (.p (.tup []))) (some (.p s)) (some (.ref S.length)) none none none none none) (k:=S++[.dct (KK B h) ((VV B h).map .p)]) ?_).trans ?_
 .rw [aF,d8];show aZ (aZ (some ([D.p (ig B h),D.p (.tup (VV B h))],S)) _) _=_;rw[av,zq hW (n:=n+5) h S];rfl
 refine(aB e5).trans ?_;rw[aB (by simp[tv,step,W];exact⟨rfl,rfl⟩)];rw[aB (by simp[yH,gf];exact⟨rfl,rfl⟩)];rw[aB (by simp[step,qj,ewb];exact⟨rfl,rfl⟩)];rw[aB (by simp[st,step,zK,H,Z,er];exact⟨rfl,rfl⟩)];rw[aB (by simp;exact⟨rfl,rfl⟩)];rw[aB (by rw[cX,iW,e2];exact e3)];rfl
noncomputable def H0(B:BD)(r:Int):P:=.tup [.int r,.tup B.cv,.tup []]
noncomputable def H1:P:=.tup [.int 0,.tup [],.tup []]
noncomputable def rT:Bool->Int|false=>1|true=>0
noncomputable def xT:Bool->Str|false=>"back" |true=>"forth"
variable{B:BD}
theorem JB:bD (ig B false) (.int 2)=some (.lst m)->jt m (.str "s")=some 1:=λq=>by cases q;kernel_rfl
variable{n:Nat}{b:Nat}{i:Nat}{S:aC}
theorem IK(W:BW B)(e:Bd B b i S) :
  ∃d h,Ph (n+8) "step_ends" [.ref i,.p (.tup [.tup [H0 B 0,H1],E0]),.p (.int 0),.p (ue B),.p .non] S=some (d,h)/\Fr b S h/\i_ S h d (ew [H0 B 1,H1] false "go" .non B.num):=
 El W (n:=n) false (x:="go") (p:="r") (m:="s") (k:=.non) (t:=B.t1) (y:=.non) (s:=E0) (u:=H0 B 0) (l:=H1) (r:=0) (K:=KK B false) (V:=VV B false) (v:=B.num) (j:=1) rfl
  (λb i S st step w l u g a s f c m e=>⟨a,by simp[eT,gf]⟩) (J_ W (n:=n+2)) (Ii (n:=n+3)) (λp q=>JB q) (W.v1 (n+2)) e
variable{r:Int}
theorem IJ(W:BW B)(h:Bool){v:Int}(I:h=false->r=1)(C:Bd B b i S) :
  ∃d F,Ph (n+8) "step_ends" [.ref i,.p (.tup [.tup [H0 B r,H1],.tup (RD (!h) [lt v])]),.p (.int (ix h)),.p (Ko B h),.p (.tup [.int (ix !h),.int 0])] S=some (d,F)/\Fr b S F/\i_ S F d (ew [H0 B r,H1] h (xT h) (.tup [.int (ix !h),.int 0]) (v+B.more)):=by
 have E:∀(b i:Nat)(S:aC)(st step w o:P)(l z u a s f c:Option D),Bd B b i S->∃g,
   dO (bV (bY eT (U 4) (eV (vC (.non))))) (aA (aF 11 (sI (bZ (aT Att) (U 0) "places") (O (aK bD (vE (U 4)) (vC (.int 0))) (O (vE (U 2)) aj))))
    (aA (jU (U 10) (vC (.str "it")) (aK bD (aK bD (aK bD (vE (U 9)) (vE (U 11))) (aK bD (vE (U 4)) (vC (.int 1)))) (vC (.int 1))))
    (aF 9 (eV (aJ (pureOf (Ph (n+7) "replaced")) (O (vE (U 9)) (O (vE (U 11)) (O (aJ (pureOf (Ph (n+7) "without")) (O (aK bD (vE (U 9)) (vE (U 11))) (O (aK bD (vE (U 4)) (vC (.int 1))) aj))) aj)))))))) eY
    (SL i st (.int (ix h)) step (.tup [.int (ix !h),.int 0]) w o l z (some (.p (.tup (RD (!h) [lt v])))) (some (.ref S.length)) u a s f c) (S++[.dct (KK B h) ((VV B h).map .p)])=some (.nx,SL i st (.int (ix h)) step (.tup [.int (ix !h),.int 0]) w o l z (some (.p E0)) (some (.ref S.length)) g a s f c,S++[.dct (KK B h++[.inr "it"]) ((VV B h++[P.int v]).map .p)]):=λb i S st step w o l z u a s f c C=>by
  obtain⟨T,Z,V,X,Q,R,G⟩:=C.fr (Fr.app b S [.dct (KK B h) ((VV B h).map .p)]);refine⟨some (.p (.int (ix !h))),(uF (by simp[eT,gf])).trans ?_⟩;have L:L2.atI (RD (!h) [lt v]) (ix !h)=some (.tup [lt v]):=by cases h<;>rfl
  refine(aB (e:=SL i st (.int (ix h)) step (.tup [.int (ix !h),.int 0]) w o l z (some (.p (.tup (RD (!h) [lt v])))) (some (.ref S.length)) (some (.p (.int (ix !h)))) a s f c) (k:=S++[.dct (KK B h) ((VV B h).map .p)]) ?_).trans ?_
  .rw [aF,sI,G.places rfl];cases h<;>simp[kG,G.pl,cV,di,g9,ix]
  refine(aB (e:=SL i st (.int (ix h)) step (.tup [.int (ix !h),.int 0]) w o l z (some (.p (.tup (RD (!h) [lt v])))) (some (.ref S.length)) (some (.p (.int (ix !h)))) a s f c) (k:=S++[.dct (KK B h++[.inr "it"]) ((VV B h++[P.int v]).map .p)]) ?_).trans ?_
  .rw [FQ W h v (eG _ _) rfl rfl (by simp[L]),Eb]
  .have K:=Ig (n:=n+5) (lt v);have A:pureOf (Ph (n+7) "replaced") [.tup (RD (!h) [lt v]),.int (ix !h),.tup []]=some E0:=by
    have:=uk (n:=n+5) (!h) (.tup (BS h [lt v] [])) (.tup (BS h [] [lt v])) (.tup []);cases h<;>exact this
   simp[L,K,A]
 have N:L2.atI [H0 B r,H1] (ix h)=some (.tup [.int (rT h),.tup (VV B h),.tup []]):=by
  cases h
  .rw [I rfl];rfl
  .rfl
 have M:∀p,bD (ig B h) (.int 2)=some (.lst p)->jt p (.str (match h with|false=>"s" |true=>"r"))=some (rT h).toNat:=λp q=>by cases h<;>(cases q;kernel_rfl)
 have:=λm H (K:Ko B h=stp (xT h) H (tk (nm !h)) B.nx (nm !h) m) (A:m=(match h with|false=>("s":Str)|true=>"r"))=>El W (n:=n) h (x:=xT h) (p:=H) (m:=m) (k:=tk (nm !h)) (t:=B.nx) (y:=.tup [.int (ix !h),.int 0]) (s:=.tup (RD (!h) [lt v])) (u:=H0 B r) (l:=H1) (r:=rT h) (v:=v+B.more) (j:=(rT h).toNat) N E (by rw[<- K];exact J8 W (n:=n+2) h v) (Ih (n:=n+3) h _) (by rw[A];exact M) (W.v2 (n+2) h v) C;have e:zX h (H0 B r) H1 (.tup [.int ((rT h).toNat:Int),.tup (VV B h),.tup []])=[H0 B r,H1]:=by
  cases h
  .rw [I rfl];rfl
  .rfl
 rw[e]at this;cases h
 .exact this "s" "s" rfl rfl
 .exact this "r" "r" rfl rfl
theorem GW:pureOf (Ph (n+2) "holds") [.tup [.str "true"],.dct k v]=some (.bl true):=by kernel_rfl
noncomputable def IQ(h:Bool)(r:Int):Str:=match h with|true=>"r" |false=>if r=0 then "r" else "s"
abbrev HL(B:BD)(i a:Nat)(st:P)(h:Bool)(r:Int)(x q:Option D):Lc:=[some (.ref i),some (.p st),some (.p (.int (ix h))),some (.p (ig B h)),some (.p (.int r)),some (.p (.tup (VV B h))),some (.p (.tup [])),some (.p (.dct (KK B h) (VV B h))),some (.ref a),x,q]
theorem cond_ok{B:BD}(h:Bool){r:Int}(p:r=0\/r=1/\h=false){x m f o:Str}{k t:P}(i g:Nat)(st:P)(s:Option D)(S:aC)(c:Bool)(w:decide (m=IQ h r)=c):(yD (bV (bY k5 (eV (aK bD (vE (U 9)) (vC (.int 1)))) (eV (aK bD (aK bD (vE (U 3)) (vC (.int 2))) (vE (U 4)))))) (bT (eV (aJ (pureOf (Ph 12 "holds")) (O (aK bD (vE (U 9)) (vC (.int 2))) (O (vE (U 7)) aj)))))) (HL B i g st h r (some (.p (stp x m k t o f))) s) S=some (c,S):=by
 have e:=GW (n:=10) (k:=KK B h) (v:=VV B h);obtain⟨b,a,v,d⟩:=JM B h;have u:L2.atI b r=some (.str (IQ h r)):=by
  cases h
  .rw [v rfl];rcases p with rfl|⟨rfl,_⟩<;>rfl
  .rw [d rfl];rcases p with rfl|⟨_,q⟩
   .rfl
   .cases q
 subst w;by_cases q:m=IQ h r<;>simp[a,u,q,e]
theorem A4{B:BD}(hW:BW B)(h:Bool){r:Int}(hr:r=0\/r=1/\h=false){st:P}{a m x o:Str}{k t p:P}{hs:List P}(N:st=.tup [.tup hs,p])(hc:m=IQ h r){l E:List P}{b i:Nat}{s S:aC}(c:Bd B b i s)(K:Fr b s S)(hS:S[s.length]? = some (.lst []))
  (et:∀S,Bd B b i S->∃d e,Ph 12 "takeable" [.ref i,.p p,.p (.int (ix h)),.p k] S=some (d,e)/\Fr b S e/\i_ S e d l)
  (F:(l=[]/\E=[])\/∃y,l=[y]/\∀S,Bd B b i S->∃d e,Ph 12 "step_ends" [.ref i,.p st,.p (.int (ix h)),.p (stp x m k t o a),.p y] S=some (d,e)/\Fr b S e/\i_ S e d E) (hE:E.length≤1) (n:Option D) :
  ∃q e,bL (Ph 12) (HL B i s.length st h r (some (.p (stp x m k t o a))) n) S=some (.nx,HL B i s.length st h r (some (.p (stp x m k t o a))) q,e)/\Fr b s e/\e[s.length]? = some (.lst (E.map .p)):=by
 obtain⟨d1,S1,T,A,z⟩:=et S (c.fr K);have hb:b≤S.length:=aI c.le K.len;obtain⟨w,V,u⟩:=nG (b:=b) (g:=Ph 12 "takeable") (H:=af (U 0) (af (eV (aK bD (vE (U 1)) (vC (.int 1)))) (af (U 2) (af (eV (aK bD (vE (U 9)) (vC (.int 3)))) aO)))) (L:=HL B i s.length st h r (some (.p (stp x m k t o a))) n) (S:=S) (q:=[.ref i,.p p,.p (.int (ix h)),.p k]) (by simp[N,qj]) T A hb z;have f:=K.trans u;have I:w[s.length]? = some (.lst []):=u.hi _ _ c.le hS;have M:∃q e,cB (aQ 10) (gu (Ph 12)) l (HL B i s.length st h r (some (.p (stp x m k t o a))) n) w=some (.nx,HL B i s.length st h r (some (.p (stp x m k t o a))) q,e)/\Fr b s e/\e[s.length]? = some (.lst (E.map .p)):=by
  rcases F with ⟨rfl,rfl⟩|⟨y,rfl,F⟩
  .exact⟨n,w,rfl,f,I⟩
  .obtain⟨d3,S3,W,C,H⟩:=F w (c.fr f);obtain⟨R,X,j⟩:=nG (b:=b) (g:=Ph 12 "step_ends") (H:=af (U 0) (af (U 1) (af (U 2) (af (U 9) (af (U 10) aO))))) (L:=HL B i s.length st h r (some (.p (stp x m k t o a))) (some (.p y))) (S:=w) (q:=[.ref i,.p st,.p (.int (ix h)),.p (stp x m k t o a),.p y]) rfl W C (aI c.le f.len) H;have Q:R[s.length]? = some (.lst []):=j.hi _ _ c.le I;exact⟨some (.p y),_,bo (g:=aQ 10) (v:=y) (L:=HL B i s.length st h r (some (.p (stp x m k t o a))) n) (r:=[]) rfl (l_ (c:=[]) rfl I X Q (by simp;lia)),(f.trans j).set c.le (ai _) _,jr Q⟩
 obtain⟨q,e,Z,G,h5⟩:=M;refine⟨q,e,?_,G,h5⟩;unfold bL;rw[dO,cond_ok h hr i s.length st n S true (by simp[hc]),av,ae rfl,cX,iW,V];exact Z
theorem Ey(h:Bool)(s:r=0\/r=1/\h=false)(c:m≠IQ h r)(i a:Nat)(S:aC)(q:Option D) :
  bL (Ph 12) (HL B i a st h r (some (.p (stp x m k t o e))) q) S=some (.nx,HL B i a st h r (some (.p (stp x m k t o e))) q,S):=by
 unfold bL;rw[dO,cond_ok h s i a st q S false (by simp[c])];rfl
theorem A6(W:BW B)(h:Bool)(j:L2.atI [a,e] (ix h)=some (.tup [.int r,.tup (VV B h),.tup []]))(l:bD (ig B h) (.int 5)=some (.lst t))(k:Bd B b i S)
  (g:∃c q x,cB (aQ 9) (bL (Ph 12)) t (HL B i S.length (.tup [.tup [a,e],s]) h r none none) (S++[.lst []])=some (.nx,HL B i S.length (.tup [.tup [a,e],s]) h r c q,x)/\Fr b S x/\x[S.length]? = some (.lst (E.map .p))) :
  ∃d x,Ph 13 "hand_ends" [.ref i,.p (.tup [.tup [a,e],s]),.p (.int (ix h))] S=some (d,x)/\Fr b S x/\i_ S x d E:=by
 obtain⟨c,q,x,m,f,w⟩:=g;refine⟨.ref S.length,x,?_,f,.inr ⟨S.length,ai _,rfl,.inl w⟩⟩;have p:=Be (n:=10) k h;have v:=xU W (n:=10) h;obtain⟨o,K,H,F,y,z,u⟩:=k;rw[nY];show fQ (f8 _ [some (.ref i),some (.p (.tup [.tup [a,e],s])),some (.p (.int (ix h))),none,none,none,none,none,none,none,none] S)=_;unfold f8;rw[aB (e:=[some (.ref i),some (.p (.tup [.tup [a,e],s])),some (.p (.int (ix h))),some (.p (ig B h)),none,none,none,none,none,none,none]) (k:=S) (by rw[aF,u.meth rfl (MT _) M4 (q:=[.p (.int (ix h))]) (by simp),p];rfl)];rw[aB (by simp[j];exact⟨rfl,rfl⟩)];rw[aB (by simp[v];exact⟨rfl,rfl⟩)];rw[aB (by simp;exact⟨rfl,rfl⟩)];rw[aB (by rw[cX,iW,show(aK bD (vE (U 3)) (vC (.int 5))) (HL B i S.length (.tup [.tup [a,e],s]) h r none none) (S++[.lst []])=some (.lst t,S++[.lst []]) by simp[l]];exact m)];rfl
theorem jX{v:Int}:(ew s h x y v).length≤1:=by unfold ew;split<;>simp
theorem JG(W:BW B)(s:Bd B b i S):∃d a,Ph 13 "hand_ends" [.ref i,.p (.tup [.tup [H0 B 0,H1],E0]),.p (.int 0)] S=some (d,a)/\Fr b S a/\i_ S a d (ew [H0 B 1,H1] false "go" .non B.num):=by refine A6 W false (a:=H0 B 0) (e:=H1) rfl (t:=[ue B,rF B]) rfl s ?_;obtain⟨q,a,e,f,h⟩:=A4 W false (r:=0) (.inl rfl) (x:="go") (m:="r") (a:="s") (o:="g") (k:=.non) (t:=B.t1) (hs:=[H0 B 0,H1]) (p:=E0) rfl rfl (l:=[.non]) s (Fr.app b S [.lst []]) (eG _ _) (λS _=>⟨_,S,zD (n:=10),Fr.refl _ _,.inl rfl⟩) (.inr ⟨.non,rfl,λS c=>IK W (n:=4) c⟩) jX none;have N:=Ey (B:=B) false (r:=0) (.inl rfl) (st:=.tup [.tup [H0 B 0,H1],E0]) (x:="back") (m:="s") (e:="s") (o:="g") (k:=tk "g") (t:=B.nx) (by decide +kernel) i S.length a q;refine⟨some (.p (rF B)),q,a,?_,f,h⟩;rw[bo (h:=HL B i S.length (.tup [.tup [H0 B 0,H1],E0]) false 0 (some (.p (ue B))) none) rfl e,bo (h:=HL B i S.length (.tup [.tup [H0 B 0,H1],E0]) false 0 (some (.p (rF B))) q) rfl N];rfl
theorem su(W:BW B)(h:Bool)(H:h=false->r=1)(o:(BS h a f=[]/\E=[])\/∃v,[.tup a,.tup f]=RD (!h) [lt v]/\E=ew [H0 B r,H1] h (xT h) (.tup [.int (ix !h),.int 0]) (v+B.more))(w:Bd B b i S) :
  ∃d s,Ph 13 "hand_ends" [.ref i,.p (.tup [.tup [H0 B r,H1],.tup [.tup a,.tup f]]),.p (.int (ix h))] S=some (d,s)/\Fr b S s/\i_ S s d E:=by
 have z:E.length≤1:=by rcases o with ⟨_,rfl⟩|⟨v,_,rfl⟩;simp;exact jX
 have m:∃l,BS h a f=l/\(l=[]\/∃v,l=[lt v])/\((GX h l=[]/\E=[])\/∃y,GX h l=[y]/\∀S,Bd B b i S->∃d s,Ph 12 "step_ends" [.ref i,.p (.tup [.tup [H0 B r,H1],.tup [.tup a,.tup f]]),.p (.int (ix h)),.p (Ko B h),.p y] S=some (d,s)/\Fr b S s/\i_ S s d E):=by
  rcases o with ⟨q,rfl⟩|⟨v,q,rfl⟩
  .exact⟨[],q,.inl rfl,.inl ⟨rfl,rfl⟩⟩
  .refine⟨[lt v],?_,.inr ⟨v,rfl⟩,.inr ⟨_,rfl,λS c=>?_⟩⟩
   .cases h
    .cases q;rfl
    .cases q;rfl
   .rw [q];exact IJ W (n:=4) h H c
 obtain⟨l,K,P,j⟩:=m;have F:=λ{s:aC}(c:Bd B b i s)=>CQ W (n:=8) h K P c;cases h
 .have:=H rfl;subst this;refine A6 W false (a:=H0 B 1) (e:=H1) rfl (t:=[ue B,rF B]) rfl w ?_;obtain⟨p,s,e,u,h⟩:=A4 W false (r:=1) (.inr ⟨rfl,rfl⟩) (x:="back") (m:="s") (a:="s") (o:="g") (k:=tk "g") (t:=B.nx) (hs:=[H0 B 1,H1]) rfl rfl w (Fr.app b S [.lst []]) (eG _ _) (λS c=>F c) j z none;have N:=Ey (B:=B) false (r:=1) (.inr ⟨rfl,rfl⟩) (st:=.tup [.tup [H0 B 1,H1],.tup [.tup a,.tup f]]) (x:="go") (m:="r") (e:="s") (o:="g") (k:=.non) (t:=B.t1) (by decide +kernel) i S.length (S++[.lst []]) none;refine⟨some (.p (rF B)),p,s,?_,u,h⟩;rw[bo (h:=HL B i S.length (.tup [.tup [H0 B 1,H1],.tup [.tup a,.tup f]]) false 1 (some (.p (ue B))) none) rfl N,bo (h:=HL B i S.length (.tup [.tup [H0 B 1,H1],.tup [.tup a,.tup f]]) false 1 (some (.p (rF B))) none) rfl e];rfl
 .refine A6 W true (a:=H0 B r) (e:=H1) (r:=0) rfl (t:=[Fz B]) rfl w ?_;obtain⟨p,s,e,u,h⟩:=A4 W true (r:=0) (.inl rfl) (x:="forth") (m:="r") (a:="r") (o:="f") (k:=tk "f") (t:=B.nx) (hs:=[H0 B r,H1]) rfl rfl w (Fr.app b S [.lst []]) (eG _ _) (λS c=>F c) j z none;exact⟨_,_,s,bo (g:=aQ 9) (r:=[]) rfl e,u,h⟩
theorem JF{n:Nat}{B:BD}{w:Str}(x:w="lose"\/w="double")(h:Bool)(l:P):pureOf (Ph (n+2) "has_flaw") [road B h,.str w,l]=some (.bl false):=by rcases x with rfl|rfl<;>kernel_rfl
theorem EA{B:BD}{w:Str}(K:w="lose"\/w="double"){l:P}{a c:List P}{b i:Nat}{S:aC}(y:Bd B b i S):∃d v,Ph 13 "flaw_ends" [.ref i,.p (.tup [l,.tup [.tup a,.tup c]]),.p (.str w)] S=some (d,v)/\Fr b S v/\i_ S v d []:=by
 have f:=Fr.app b S [.lst []];have A:=y.le;obtain⟨G,z,I,L,C,E,h⟩:=y.fr f;have j:=f.trans (Fr.frz h.bp h.pr);have H:=h.bp;let F:Option D->Option D->Option D->Option D->Option D->Option D->Lc:=λt p x e s q=>[some (.ref i),some (.p (.tup [l,.tup [.tup a,.tup c]])),some (.p (.str w)),some (.ref S.length),t,p,x,e,s,q,none,none]
 have o:∀(k:Bool)(t p x e s q:Option D)(S:aC)(r:List P),∃m,cB (cA [aQ 4,aQ 5]) (cI (Ph 12)) (.tup [.int (ix k),.tup [road B k,.int (ix k),.int (ix !k)]]::r) (F t p x e s q) S=cB (cA [aQ 4,aQ 5]) (cI (Ph 12)) r (F (some (.p (.int (ix k)))) (some (.p (.tup [road B k,.int (ix k),.int (ix !k)]))) (some (.p (road B k))) (some (.p (.int (ix k)))) (some (.p (.int (ix !k)))) m) S:=λk t p x e s q S r=>by
  have u:=JF (n:=10) (B:=B) K k (.tup (BS (!k) a c));have g:L2.atI [P.tup a,.tup c] (ix k)=some (.tup (BS (!k) a c)):=by cases k<;>rfl
  refine⟨some (.p (.tup (BS (!k) a c))),bo (h:=F (some (.p (.int (ix k)))) (some (.p (.tup [road B k,.int (ix k),.int (ix !k)]))) x e s q) rfl ?_⟩;unfold cI;rw[aB (by simp[F];exact⟨rfl,rfl⟩),aB (by simp[g];exact⟨rfl,rfl⟩)];simp[u,F]
 obtain⟨q,u⟩:=o false none none none none none none ((S++[SO.lst []]).set z (.fz (.lst (K1 B)))) [.tup [.int 1,.tup [road B true,.int 1,.int 0]]];obtain⟨m,g⟩:=o true (some (.p (.int 0))) (some (.p (.tup [road B false,.int 0,.int 1]))) (some (.p (road B false))) (some (.p (.int 0))) (some (.p (.int 1))) q ((S++[SO.lst []]).set z (.fz (.lst (K1 B)))) [];refine⟨.ref S.length,_,?_,j,.inr ⟨S.length,ai _,rfl,.inl (by rw[bG (by lia)];exact eG _ _)⟩⟩;rw[nZ];show fQ (f_ _ [some (.ref i),some (.p (.tup [l,.tup [.tup a,.tup c]])),some (.p (.str w)),none,none,none,none,none,none,none,none,none] S)=_;unfold f_;rw[aB (by simp;exact⟨rfl,rfl⟩)];rw[aB (by rw[cX,yg,vE,h.pairs rfl,av,h.pr.frz];exact u.trans g)];rfl
theorem Fx:∀n:Nat,Ph (n+13) "hand_ends"=Ph 13 "hand_ends"/\Ph (n+13) "flaw_ends"=Ph 13 "flaw_ends"
 |0=>⟨rfl,rfl⟩
 |n+1=>by have h:gC 13 (n+13)=true:=v7 (by lia);obtain⟨x,a⟩:=Fx n;rw[<- x,<- a];exact⟨kE (n:=n+13) (by unfold stays;rw[h];generalize gC 14 (n+13)=c;revert c;decide +kernel),kE (n:=n+13) (by unfold stays;rw[h];generalize gC 14 (n+13)=c;revert c;decide +kernel)⟩
theorem Fy:∀n:Nat,Ph (n+14) "ends_on"=Ph 14 "ends_on"
 |0=>rfl
 |n+1=>by have h:gC 14 (n+14)=true:=v7 (by lia);rw[<- Fy n];exact kE (n:=n+14) (by unfold stays;rw[h];generalize gC 13 (n+14)=c;revert c;decide +kernel)
def HE(B:BD)(st:P)(k:Int)(X:List P):Prop:=∀(b i:Nat)(S:aC),Bd B b i S->∃d h,Ph 13 "hand_ends" [.ref i,.p st,.p (.int k)] S=some (d,h)/\Fr b S h/\i_ S h d X
def SE(B:BD)(st:P)(E:List P):Prop:=(∀(b i:Nat)(S:aC),Bd B b i S->∃h,Ph 14 "ends_on" [.ref i,.p st] S=some (.ref S.length,h)/\Fr b S h/\h[S.length]? = some (.lst (E.map .p))) /\
 ∀(n b i:Nat)(S:aC),Bd B b i S->∃h,Ph (n+14) "is_dry" [.ref i,.p st] S=some (.p (.bl E.isEmpty),h)/\Fr b S h
theorem Bh(hX:HE B (.tup [hs,.tup [.tup a,.tup c]]) 0 xa)(hY:HE B (.tup [hs,.tup [.tup a,.tup c]]) 1 ya)(h1:xa.length≤1)(h2:ya.length≤1):SE B (.tup [hs,.tup [.tup a,.tup c]]) (xa++ya):=by
 let st:P:=.tup [hs,.tup [.tup a,.tup c]]
 let Lx:Nat->Nat->Option D->Lc:=λi r' q3=>[some (.ref i),some (.p st),some (.ref r'),q3]
 refine⟨λb i S hB=>?_,λn b i S hB=>?_⟩
 .have hb:=hB.le;have one:∀{k:Int}{Z acc:List P},HE B st k Z->Z.length≤1->acc.length≤1->∀(S1:aC)(q3:Option D),Fr b S S1->S1[S.length]? = some (.lst (acc.map .p))->∃S2,(∀r,cB (aQ 3) (eX (Ph 13)) (.int k::r) (Lx i S.length q3) S1=cB (aQ 3) (eX (Ph 13)) r (Lx i S.length (some (.p (.int k)))) S2)/\Fr b S S2/\S2[S.length]? = some (.lst ((acc++Z).map .p)):=λ{k Z acc} hZ hl ha S1 q3 fr1 hS1=>by
   obtain⟨d,T,e1,f1,an⟩:=hZ b i S1 (hB.fr fr1);obtain⟨S2,e2,fr2⟩:=nG (b:=b) (g:=Ph 13 "hand_ends") (H:=af (U 0) (af (U 1) (af (U 3) aO))) (L:=Lx i S.length (some (.p (.int k)))) (S:=S1) (q:=[.ref i,.p st,.p (.int k)]) rfl e1 f1 (aI hb fr1.len) an;have hS2:=fr2.hi _ _ hb hS1;exact⟨_,λr=>bo (h:=Lx i S.length (some (.p (.int k)))) rfl (l_ rfl hS1 e2 hS2 (by lia)),(fr1.trans fr2).set hb (ai _) _,jr hS2⟩
  have frA:=Fr.app b S [.lst []];obtain⟨S1,e1,fr1,hl1⟩:=one hX h1 (acc:=[]) (by simp) (S++[.lst []]) none frA (eG _ _);obtain⟨S2,e2,fr2,hl2⟩:=one hY h2 (acc:=[]++xa) (by simpa using h1) S1 (some (.p (.int 0))) fr1 hl1;have fl:∀{w:Str},(w="lose"\/w="double")->∀{S1:aC}{q3:Option D},Fr b S S1->S1[S.length]? = some (.lst (([]++xa++ya).map .p))->∃S2,dA (dR (U 2) (bq (Ph 13 "flaw_ends") (af (U 0) (af (U 1) (af (eV (vC (.str w))) aO))))) (Lx i S.length q3) S1=some (.nx,Lx i S.length q3,S2)/\Fr b S S2/\S2[S.length]? = some (.lst (([]++xa++ya).map .p)):=λ{w} hw {S1 q3} fr1 hS1=>by obtain⟨d,T,e1,f1,an⟩:=EA (B:=B) hw (l:=hs) (a:=a) (c:=c) (hB.fr fr1);obtain⟨S2,e2,fr2⟩:=nG (b:=b) (g:=Ph 13 "flaw_ends") (H:=af (U 0) (af (U 1) (af (eV (vC (.str w))) aO))) (L:=Lx i S.length q3) (S:=S1) (q:=[.ref i,.p st,.p (.str w)]) rfl e1 f1 (aI hb fr1.len) an;have hS2:=fr2.hi _ _ hb hS1;exact⟨_,l_ rfl hS1 e2 hS2 (by simp;lia),(fr1.trans fr2).set hb (ai _) _,by rw[jr hS2,b9]⟩
  obtain⟨S3,e3,fr3,hl3⟩:=fl (.inl rfl) (q3:=some (.p (.int 1))) fr2 hl2;obtain⟨S4,e4,fr4,hl4⟩:=fl (.inr rfl) (q3:=some (.p (.int 1))) fr3 hl3;refine⟨S4,?_,fr4,by simpa using hl4⟩;obtain⟨jh,jp,jl,jm,j0,j1,h⟩:=hB.fr frA;rw[sG];show fQ (iI _ [some (.ref i),some (.p st),none,none] S)=_;unfold iI;rw[aB (by simp;exact⟨rfl,rfl⟩)];rw[aB (e:=Lx i S.length (some (.p (.int 1)))) (k:=S2) (by rw[cX,show qA (d5 (bZ (aT Att) (U 0) "homes")) (Lx i S.length none) (S++[.lst []])=some ([.int 0,.int 1],S++[.lst []]) by rw[xE,w_,h.homes rfl];simp[h.ho.len];rfl];exact(e1 _).trans (e2 _))]
  rw[aB e3,aB e4];rfl
 .have hb:=hB.le;have one:∀{k:Int}{Z:List P},HE B st k Z->∀(S1:aC)(q2:Option D),Fr b S S1->∃S2,Fr b S S2/\f6 (Ph (n+13)) [some (.ref i),some (.p st),some (.p (.int k))] S1=some (if Z.isEmpty=true then .nx else .rt (.p (.bl false)),[some (.ref i),some (.p st),some (.p (.int k))],S2):=λ{k Z} hZ S1 q2 fr1=>by
   obtain⟨d,T,e1,f1,an⟩:=hZ b i S1 (hB.fr fr1);rw[<- (Fx n).1]at e1;obtain⟨S2,e2,fr2⟩:=nG (b:=b) (g:=Ph (n+13) "hand_ends") (H:=af (U 0) (af (U 1) (af (U 2) aO))) (L:=[some (.ref i),some (.p st),some (.p (.int k))]) (S:=S1) (q:=[.ref i,.p st,.p (.int k)]) rfl e1 f1 (aI hb fr1.len) an;refine⟨S2,fr1.trans fr2,?_⟩;unfold f6;rw[dO,bT,eV,e2];cases Z<;>rfl
  obtain⟨S1,fr1,e1⟩:=one hX S none (Fr.refl _ _);obtain⟨S2,fr2,e2⟩:=one hY S1 (some (.p (.int 0))) fr1;obtain⟨jh,jp,jl,jm,j0,j1,h⟩:=id hB;have e0:qA (d5 (bZ (aT Att) (U 0) "homes")) [some (.ref i),some (.p st),none] S=some ([.int 0,.int 1],S):=by rw[xE,w_,h.homes rfl];simp[h.ho.len];rfl
  rw[uO];show ∃S',fQ (jw _ [some (.ref i),some (.p st),none] S)=_/\_;unfold jw;cases xa with
  |cons x xa=>refine⟨S1,?_,fr1⟩;rw[uh (by rw[cX,e0];exact np (g:=aQ 2) (v:=.int 0) (L:=[some (.ref i),some (.p st),none]) rfl e1)];rfl
  |nil=>
   cases ya with
   |cons y ya=>refine⟨S2,?_,fr2⟩;rw[uh (by rw[cX,e0];exact(bo (g:=aQ 2) (v:=.int 0) (L:=[some (.ref i),some (.p st),none]) rfl e1).trans (np (g:=aQ 2) (v:=.int 1) (L:=[some (.ref i),some (.p st),some (.p (.int 0))]) rfl e2))];rfl
   |nil=>
    rw[aB (by rw[cX,e0];exact(bo (g:=aQ 2) (v:=.int 0) (L:=[some (.ref i),some (.p st),none]) rfl e1).trans (bo (g:=aQ 2) (r:=[]) (v:=.int 1) (L:=[some (.ref i),some (.p st),some (.p (.int 0))]) rfl e2))];have fl:∀{w:Str},(w="lose"\/w="double")->∀{S1:aC},Fr b S S1->∃S2,bq (Ph (n+13) "flaw_ends") (af (U 0) (af (U 1) (af (eV (vC (.str w))) aO))) [some (.ref i),some (.p st),some (.p (.int 1))] S1=some (.lst [],S2)/\Fr b S S2:=λ{w} hw {S1} fr1=>by obtain⟨d,T,e1,f1,an⟩:=EA (B:=B) hw (l:=hs) (a:=a) (c:=c) (hB.fr fr1);rw[<- (Fx n).2]at e1;obtain⟨S2,e2,fr2⟩:=nG (b:=b) (g:=Ph (n+13) "flaw_ends") (H:=af (U 0) (af (U 1) (af (eV (vC (.str w))) aO))) (L:=[some (.ref i),some (.p st),some (.p (.int 1))]) (S:=S1) (q:=[.ref i,.p st,.p (.str w)]) rfl e1 f1 (aI hb fr1.len) an;exact⟨S2,e2,fr1.trans fr2⟩
    obtain⟨S3,e3,fr3⟩:=fl (.inl rfl) fr2;obtain⟨S4,e4,fr4⟩:=fl (.inr rfl) fr3;exact⟨S4,by rw[bc,eV,zt,e3];show fQ (aZ (aZ (aZ (bq (Ph (n+13) "flaw_ends") _ _ S3) _) _) _)=_;rw[e4];rfl,fr4⟩
end My
namespace My
open PySem L2 Ev
noncomputable def FA(B:BD):P:=.tup [.tup [H0 B 0,H1],E0]
def zJ(B:BD)(s:Bool)(v:Int):P:=.tup [.tup [H0 B 1,H1],.tup (RD s [lt v])]
noncomputable def par(k:Nat):Bool:=k % 2 == 1
theorem Am(k:Nat):par (k+1)=!par k:=by
 unfold par;rcases Nat.mod_two_eq_zero_or_one k with h|h
 .rw [show(k+1) % 2=1 by lia,h];rfl
 .rw [show(k+1) % 2=0 by lia,h];rfl
noncomputable def cj(B:BD)(k:Nat):Int:=B.num+k * B.more
def stN(B:BD):Nat->P
 |0=>FA B
 |k+1=>zJ B (par k) (cj B k)
def dd(B:BD):Nat->P
 |0=>.tup [.str "step",.int 0,.str "go",.non,.tup []]
 |k+1=>.tup [.str "step",.int (ix !par k),.str (xT !par k),.tup [.int (ix (par k)),.int 0],.tup []]
structure Cnt(B:BD)(N:Nat):Prop where
 lo:∀k:Nat,k < N->(cj B k).natAbs≤999
 hi:¬(cj B N).natAbs≤999
 pos:1≤N
 few:N≤300
 ne:B.more≠0
theorem mX(B:BD)(k:Nat):cj B k+B.more=cj B (k+1):=by unfold cj;rw[Int.natCast_add,Int.add_mul];lia
def iw(B:BD)(N k:Nat):List P:=if k < N then [.tup [dd B k,stN B (k+1)]] else []
variable{B:BD}{N:Nat}{k:Nat}
theorem qF(W:BW B)(s:Cnt B N)(hk:k≤N):SE B (stN B k) (iw B N k):=by
 cases k with
 |zero=>
  have h:=Bh (B:=B) (hs:=.tup [H0 B 0,H1]) (a:=[]) (c:=[]) (xa:=ew [H0 B 1,H1] false "go" .non B.num) (ya:=[]) (λb i S x=>JG W x) (λb i S x=>su W true (λq=>by cases q) (.inl ⟨rfl,rfl⟩) x) jX (by simp);have e:ew [H0 B 1,H1] false "go" .non B.num++[]=iw B N 0:=by unfold ew iw;rw[ae W.nm,ae (by have:=s.pos;lia)];show _=[P.tup [dd B 0,zJ B (par 0) (cj B 0)]];rw[show cj B 0=B.num by unfold cj;simp];rfl
  rw[e]at h;exact h
 |succ k=>
  have y:ew [H0 B 1,H1] (!par k) (xT !par k) (.tup [.int (ix (par k)),.int 0]) (cj B k+B.more)=iw B N (k+1):=by
   unfold ew iw;rw[mX];by_cases q:k+1 < N
   .rw [ae (s.lo _ q),ae q];show _=[P.tup [dd B (k+1),zJ B (par (k+1)) (cj B (k+1))]];rw[Am];rfl
   .have:k+1=N:=by lia
    rw[ag (by rw[this];exact s.hi),ag q]
  show SE B (zJ B (par k) (cj B k)) _;rw[<- y];generalize cj B k=v;cases par k
  .have h:=Bh (B:=B) (hs:=.tup [H0 B 1,H1]) (a:=[lt v]) (c:=[]) (xa:=[]) (ya:=ew [H0 B 1,H1] true (xT true) (.tup [.int (ix false),.int 0]) (v+B.more)) (λb i S x=>su W false (λ_=>rfl) (.inl ⟨rfl,rfl⟩) x) (λb i S x=>su W true (λq=>by cases q) (.inr ⟨v,rfl,rfl⟩) x) (by simp) jX;exact h
  .have h:=Bh (B:=B) (hs:=.tup [H0 B 1,H1]) (a:=[]) (c:=[lt v]) (xa:=ew [H0 B 1,H1] false (xT false) (.tup [.int (ix true),.int 0]) (v+B.more)) (ya:=[]) (λb i S x=>su W false (λ_=>rfl) (.inr ⟨v,rfl,rfl⟩) x) (λb i S x=>su W true (λq=>by cases q) (.inl ⟨rfl,rfl⟩) x) jX (by simp);rw[b9]at h;exact h
theorem jS(h:BW B)(k:Nat):bO (stN B k)=true:=by
 obtain⟨n,m,r,kd,t,s,c,e,a⟩:=B;cases k with
 |zero=>rcases h.ct with ⟨rfl,rfl,rfl⟩|⟨lo,i,x,rfl,rfl,rfl⟩<;>kernel_rfl
 |succ k=>show bO (zJ _ (par k) (cj _ k))=true;generalize cj _ k=v;cases par k<;>rcases h.ct with ⟨rfl,rfl,rfl⟩|⟨lo,i,x,rfl,rfl,rfl⟩<;>kernel_rfl
theorem CV(a:Cnt B N)(h:pd (stN B j)=pd (stN B k)):j=k:=by
 cases j with
 |zero=>
  cases k with
  |zero=>rfl
  |succ k=>simp[stN,FA,zJ,H0,pd,eZ]at h
 |succ j=>
  cases k with
  |zero=>simp[stN,FA,zJ,H0,pd,eZ]at h
  |succ k=>
   have v:cj B j=cj B k:=by have h:pd (zJ B (par j) (cj B j))=pd (zJ B (par k) (cj B k)):=h;revert h;cases par j<;>cases par k<;>simp[zJ,pd,eZ,RD]
   unfold cj at v;have x:(j:Int) * B.more=k * B.more:=by lia
   have:=Int.eq_of_mul_eq_mul_right a.ne x;lia
def dU(B:BD)(m:Nat):List P:=(List.range m).map (stN B)
theorem zo(B:BD)(m:Nat):dU B (m+1)=dU B m++[stN B m]:=by simp[dU,pQ]
theorem q_(h:BW B)(m:Nat):(dU B m).all bO=true:=bt.mpr λk hk=>by obtain⟨j,_,rfl⟩:=dH.mp hk;exact jS h j
theorem Al:∀{k:List P},x ∈ eZ k->∃q ∈ k,pd q=x
 |q::k,h=>by
  rw[eZ]at h;rcases aH.mp h with rfl|h
  .exact⟨q,aV,rfl⟩
  .obtain⟨s,a,e⟩:=Al h;exact⟨s,aW _ a,e⟩
theorem CF(W:BW B)(x:Cnt B N)(m:Nat):lu (stN B m) (dU B m)=false:=by
 rw[Bool.eq_false_iff];intro h;obtain⟨q,s,e⟩:=Al ((ni (jS W m) (q_ W m)).mp h);obtain⟨j,a,rfl⟩:=dH.mp s;have:=CV x e
 have:=lP.mp a;lia
def SB(c:Nat)(B:BD):aC:=[.ins "Board" fields [.p (.lst [ig B false,ig B true]),.ref (c+1),.ref (c+2),.ref (c+3),.ref (c+4)],.lst [.p (.int 0),.p (.int 1)],.fz (.lst (K1 B)),.dtt [[.inl 0,.inl 1],[.inl 1,.inl 0]] [.p (.int 0),.p (.int 1)],.dct [.inr "f",.inr "g"] [.ref (c+5),.ref (c+6)],.lst [.p (.int 0)],.lst [.p (.int 1)]]
variable{n:Nat}
theorem BC(B:BD):Ph (n+4) "Board.__init__" [.ref 0,.p (cK B)] [.ins "Board" [] []]=some (.p .non,SB 0 B):=by kernel_rfl
theorem M8(B:BD)(T:aC):Bd B 7 0 (SB 0 B++T):=⟨1,2,3,4,5,6,rfl,.inl rfl,.inr rfl,rfl,rfl,.inl rfl,.inl rfl,by decide,by decide,by decide,by decide,by decide,by decide,by decide,by simp[SB]⟩
theorem BI(h:BW B):pureOf (Ph (n+4) "begin") [cK B]=some (stN B 0):=by obtain⟨u,m,r,kd,t,a,c,k,v⟩:=B;rcases h.ct with ⟨rfl,rfl,rfl⟩|⟨lo,i,x,rfl,rfl,rfl⟩<;>kernel_rfl
noncomputable def BQ(k:List P):List D:=k.map λ_=>.p (.bl true)
theorem zh(s:List P)(k:P):BQ (s++[k])=BQ s++[.p (.bl true)]:=by simp[BQ]
noncomputable def il(t:P×P×P):P:=.tup [t.1,t.2.1,t.2.2]
noncomputable abbrev nM(f:P)(j r:Nat)(a:P)(q h x:Option D):Lc:=[some (.p f),some (.ref j),some (.ref r),some (.ref (r+1)),some (.p a),q,h,x]
structure RI(b:Nat)(S0:aC)(ks:List P)(rs:List (P×P×P))(S:aC):Prop where
 fr:Fr b S0 S
 ro:S[S0.length]? = some (.lst ((rs.map il).map .p))
 li:S[S0.length+1]? = some (.dtn ks (BQ ks))
 ek:rs.map (·.1)=ks
variable{b:Nat}{S:aC}
theorem C5(K:Str->GF)(i:b≤f.length)(x:P)(j:Nat)(t:P)(q:Option D)(g:bO s=true)(u:c.all bO=true)(H:lu s c=false)(A:c.length≤1000)(h:RI b f c m S) :
  ∃w,bK K (nM x j f.length t q (some (.p d)) (some (.p s))) S=some (.nx,nM x j f.length t q (some (.p d)) (some (.p s)),w)/\RI b f (c++[s]) (m++[(s,t,d)]) w:=by
 have e:c.length≤1000000:=by lia
 have B:m.length=c.length:=by rw[<- h.ek,a8]
 have n:m.length≤1000000:=by lia
 have v:¬((m.length:Int)=2000):=by lia
 have z:nS (.ref (f.length+1)) S=some (f.length+1,c,BQ c):=by simp[nS,h.li]
 have F:(bV (bY iX (U 7) (U 3))) (nM x j f.length t q (some (.p d)) (some (.p s))) S=some (true,S):=by simp[iX,KC,z,g,u,H]
 have p:f.length < S.length:=ju h.ro;have l:f.length+1 < S.length:=ju h.li;have o:(S.set (f.length+1) (.dtn (c++[s]) (BQ c++[.p (.bl true)])))[f.length]? = some (.lst ((m.map il).map .p)):=by rw[bG (by lia)];exact h.ro
 refine⟨(S.set (f.length+1) (.dtn (c++[s]) (BQ c++[.p (.bl true)]))).set f.length (.lst (((m++[(s,t,d)]).map il).map .p)),?_,?_⟩
 .unfold bK gq;rw [dO,F,av];show aA _ _ _ _=_;rw [aB (e:=nM x j f.length t q (some (.p d)) (some (.p s))) (k:=S) (by simp [d6,h.ro,v])];rw [aB (e:=nM x j f.length t q (some (.p d)) (some (.p s))) (k:=S.set (f.length+1) (.dtn (c++[s]) (BQ c++[.p (.bl true)]))) (by
   simp[xi,z,g,u,H,e])]
  have:=mh (r:=U 2) (a:=eV (aR (O (vE (U 7)) (O (vE (U 4)) (O (vE (U 6)) aj))))) (L:=nM x j f.length t q (some (.p d)) (some (.p s))) (k:=f.length) (c:=m.map il) (y:=il (s,t,d)) rfl o (x:=S.set (f.length+1) (.dtn (c++[s]) (BQ c++[.p (.bl true)]))) (by simp[il]) o (by rw[a8];exact n);rw[this,show(m++[(s,t,d)]).map il=m.map il++[il (s,t,d)] by simp]
 .refine⟨(h.fr.set i (by lia) _).set i (by lia) _,?_,?_,by simp[h.ek]⟩
  .rw [cy (by simpa using p)]
  .rw [bG (by lia),cy l,zh]
variable{i:Nat}
theorem Ka(m:SE B st E)(x:Bd B b i S)(t:S[f]? = some (.fn (some (.ref i))))(hk:L[k]? = some (some (.ref f)))(p:L[j]? = some (some (.p st))):∃h,mJ (Ph 14 "ends_on") k (vE (U j)) L S=some (.lst E,h)/\Fr b S h:=by
 obtain⟨q,n,r,c⟩:=m.1 b i S x;refine⟨_,?_,(r.set x.le (ai _) (.fz (.lst E))).trunc⟩;have a:U k L S=some (.ref f,S):=by simp[hk]
 have e:vE (U j) L S=some (st,S):=by simp[p]
 have s:fnOf (.ref f) S=some (.ref i):=by simp[fnOf,t]
 unfold mJ;rw[a,av,s];show aZ (vE (U j) L S) _=_;rw[e,av,n,av,fA c,av]
theorem jN(B:BD)(m:Nat):(dU B m).length=m:=by simp[dU]
theorem mQ{n:Nat}{B:BD}(W:BW B){N:Nat}(C:Cnt B N){b i f:Nat}{h:aC}(E:Bd B b i h)(hj:b≤f)(hf:h[f]? = some (.fn (some (.ref i))))(s:P):∀(m p:Nat){l:List (P×P×P)}{S:aC}(M w g:Option D),RI b h (dU B (p+1)) l S->m+p=1000->p≤N->∃p' q5' t v K I,db (bV (aK tq (vE (U 4)) (d5 (U 2)))) (cH (Ph (n+15)) (Ph (n+14))) m (nM s f h.length (.int (p:Int)) M w g) S=some (.nx,nM s f h.length p' q5' t v,I)/\RI b h (dU B (N+1)) K I
 |0,p,l,S,_,_,_,R,hm,X=>by have:=C.few;lia
 |1,p,l,S,_,_,_,R,hm,X=>by have:=C.few;lia
 |m+2,p,l,S,M,w,g,R,hm,X=>by
  have hfew:=C.few;have hl:l.length=p+1:=by rw[<- jN B (p+1),<- R.ek,a8]
  have c1:(bV (aK tq (vE (U 4)) (d5 (U 2)))) (nM s f h.length (.int (p:Int)) M w g) S=some (true,S):=by simp[d6,R.ro,hl];lia
  have e:(dU B (p+1))[p]? = some (stN B p):=by simp[dU]
  have hE:=qF W C X;obtain⟨⟨k0,x,y⟩,hr⟩:∃u,l[p]? = some u:=⟨_,wv (by lia)⟩;have hk0:k0=stN B p:=by have:=e;rw[<- R.ek,cR,hr]at this;exact cO this
  subst hk0;have Z:L2.atI ((l.map il).map D.p) (p:Int)=some (.p (.tup [stN B p,x,y])):=by rw[ka,ka,BK hr];rfl
  obtain⟨z,e1,H⟩:=Ka (k:=1) (j:=5) (L:=nM s f h.length (.int (p:Int)) (some (.p (stN B p))) w g) hE (E.fr R.fr) (R.fr.hi _ _ hj hf) rfl rfl;have F:RI b h (dU B (p+1)) l z:=⟨R.fr.trans H,H.hi _ _ E.le R.ro,H.hi _ _ (aI E.le (e_ _)) R.li,R.ek⟩;have o:∀{t v:Option D}{A:aC},cB (cA [aQ 6,aQ 7]) (bK (Ph (n+15))) (iw B N p) (nM s f h.length (.int (p:Int)) (some (.p (stN B p))) w g) z=some (.nx,nM s f h.length (.int (p:Int)) (some (.p (stN B p))) t v,A)->cH (Ph (n+15)) (Ph (n+14)) (nM s f h.length (.int (p:Int)) M w g) S=some (.nx,nM s f h.length (.int ((p+1:Nat):Int)) (some (.p (stN B p))) t v,A):=λ{t v A} Q=>by
   unfold cH;rw[aB (e:=nM s f h.length (.int (p:Int)) (some (.p (stN B p))) w g) (k:=S) (by simp[-pL,R.ro,Z])];rw[Fy,aB (e:=nM s f h.length (.int (p:Int)) (some (.p (stN B p))) t v) (k:=A) (by rw[cX,iW,e1];exact Q)]
   simp[zU]
  unfold db;rw[c1,av,ae rfl];by_cases q:p < N
  .obtain⟨A,Q,G⟩:=C5 (Ph (n+15)) E.le s f (.int (p:Int)) (some (.p (stN B p))) (d:=dd B p) (jS W (p+1)) (q_ W (p+1)) (CF W C (p+1)) (by rw[jN];lia) F;rw[<- zo]at G;have T:cB (cA [aQ 6,aQ 7]) (bK (Ph (n+15))) (iw B N p) (nM s f h.length (.int (p:Int)) (some (.p (stN B p))) w g) z=some (.nx,nM s f h.length (.int (p:Int)) (some (.p (stN B p))) (some (.p (dd B p))) (some (.p (stN B (p+1)))),A):=by
    unfold iw;rw[ae q];exact bo (h:=nM s f h.length (.int (p:Int)) (some (.p (stN B p))) (some (.p (dd B p))) (some (.p (stN B (p+1))))) (r:=[]) rfl Q
   obtain⟨p',a,b',c,K,I,e4,V⟩:=mQ (n:=n) W C E hj hf s (m+1) (p+1) (some (.p (stN B p))) (some (.p (dd B p))) (some (.p (stN B (p+1)))) G (by lia) (by lia);exact⟨p',a,b',c,K,I,by rw[o T];exact e4,V⟩
  .have hp:p=N:=by lia
   subst hp;have T:cB (cA [aQ 6,aQ 7]) (bK (Ph (n+15))) (iw B p p) (nM s f h.length (.int (p:Int)) (some (.p (stN B p))) w g) z=some (.nx,nM s f h.length (.int (p:Int)) (some (.p (stN B p))) w g,z):=by unfold iw;rw[ag q];rfl
   have c2:(bV (aK tq (vE (U 4)) (d5 (U 2)))) (nM s f h.length (.int ((p+1:Nat):Int)) (some (.p (stN B p))) w g) z=some (false,z):=by simp[d6,F.ro,hl]
   refine⟨.int ((p+1:Nat):Int),some (.p (stN B p)),w,g,l,z,?_,F⟩;rw[o T];show db _ _ (m+1) _ _=_;unfold db;rw[c2];rfl
theorem C4(W:BW B)(k:Cnt B N)(x:Bd B b i s)(m:b≤j)(f:s[j]? = some (.fn (some (.ref i)))):∃(r:List (P×P×P))(S:aC),Ph (n+16) "rows_from" [.p (.lst [stN B 0]),.ref j] s=some (.ref s.length,S)/\S[s.length]? = some (.lst ((r.map il).map .p))/\r.map (·.1)=dU B (N+1):=by have g:=jS W 0;have R:RI b s (dU B (0+1)) [(stN B 0,.non,.non)] (s++[.lst [.p (.tup [stN B 0,.non,.non])],.dtn [stN B 0] [.p (.bl true)]]):=⟨Fr.app ..,by simp[il],by simp[BQ,dU],rfl⟩;obtain⟨p,a,t,c,r,S,e,h⟩:=mQ (n:=n) W k x m f (.lst [stN B 0]) 1000 0 none none none R (by lia) (by lia);generalize stN B 0=st at g e R;refine⟨r,S,?_,h.ro,h.ek⟩;rw[nX];show fQ (fY _ _ [some (.p (.lst [st])),some (.ref j),none,none,none,none,none,none] s)=_;unfold fY;rw[aB (e:=[some (.p (.lst [st])),some (.ref j),some (.ref s.length),none,none,none,none,none]) (k:=s++[.lst [.p (.tup [st,.non,.non])]]) (by simp[cJ,cE,nP])];rw[aB (e:=[some (.p (.lst [st])),some (.ref j),some (.ref s.length),some (.ref (s.length+1)),none,none,none,none]) (k:=s++[.lst [.p (.tup [st,.non,.non])],.dtn [st] [.p (.bl true)]]) (by simp[cJ,cE,nP,qI,rM,Eu,lu,g])];rw[aB (e:=nM (.lst [st]) j s.length (.int 0) none none none) (k:=s++[.lst [.p (.tup [st,.non,.non])],.dtn [st] [.p (.bl true)]]) (by simp)];rw[aB (by unfold kC;exact e)];simp
theorem JX(h:BW B)(t:Cnt B N):∃r:List (P×P×P),pureOf (Ph (n+17) "coming_rows") [cK B]=some (.lst (r.map il))/\r.map (·.1)=dU B (N+1):=by
 obtain⟨r,S,k,c,p⟩:=C4 (n:=n) h t (M8 B [.fn (some (.ref 0))]) (j:=7) (ai _) rfl;refine⟨r,?_,p⟩;have s:Ph (n+15) "Board.__init__" [.ref 0,.p (cK B)] [.ins "Board" [] []]=some (.p .non,SB 0 B):=BC (n:=n+11) B;have f:Ph (n+17) "coming_rows" [.p (cK B)] []=some (.ref (SB 0 B++[SO.fn (some (.ref 0))]).length,S.map yx):=by
  rw[lv];show fQ (em (Ph (n+16)) (Ph (n+15)) [some (.p (cK B)),none] [])=_;unfold em;rw[aB (e:=[some (.p (cK B)),some (.ref 0)]) (k:=SB 0 B) (by simp only[aF,af,gi,U,aO,av,pU,pT,jH,iM,s];rfl)]
  have b:=BI (n:=n+12) h;have a:be (O (aJ (pureOf (Ph (n+16) "begin")) (O (vE (U 0)) aj)) aj) [some (.p (cK B)),some (.ref 0)] (SB 0 B)=some (.lst [stN B 0],SB 0 B):=by simp[b]
  have x:U 1 [some (.p (cK B)),some (.ref 0)] (SB 0 B)=some (.ref 0,SB 0 B):=rfl;rw[bc,qJ,a,av,x,av];have e:Ph (n+16) "rows_from" [.p (.lst [stN B 0]),.ref (SB 0 B).length] (SB 0 B++[.fn (some (.ref 0))])=some (.ref (SB 0 B++[SO.fn (some (.ref 0))]).length,S):=k;rw[e,av,av];rfl
 have m:(S.map yx)[(SB 0 B++[SO.fn (some (.ref 0))]).length]? = some (.lst ((r.map il).map .p)):=by rw[cR,c];rfl
 unfold pureOf;rw[az,lO,f];show(toP 9 (.ref _) (S.map yx)).map (·.1)=_;rw[fA m];rfl
theorem J2{n:Nat}{B:BD}(W:BW B){N:Nat}(b:Cnt B N):pureOf (Ph (n+18) "comings") [cK B]=some (.lst (dU B (N+1))):=by
 obtain⟨r,m,s⟩:=JX (n:=n) W b;have h:r.length≤1000000:=by
  have:=jN B (N+1);rw[<- s,a8]at this;have:=b.few
  lia
 have k:=oS (g:=aQ 1) (c:=lw) (e:=aK bD (vE (U 1)) (vC (.int 0))) (S:=[]) (p:=λ_=>true) (f:=λc=>match c with | .tup (x::_)=>x|_=>.non) (xs:=r.map il) (L:=[some (.p (cK B)),none]) (Inv:=λa=>∃d,a=[some (.p (cK B)),d]) (λv w a q=>by obtain⟨d,rfl⟩:=q;obtain⟨t,_,rfl⟩:=dH.mp w;exact⟨_,rfl,⟨_,rfl⟩,rfl,λ_=>by simp[il]⟩) ⟨none,rfl⟩
 rw[List.filter_eq_self.mpr λ_ _=>rfl,pL,show(λc:P=>match c with | .tup (x::_)=>x|_=>.non) ∘ il=(·.1) from rfl,s]at k;rw[sH,bQ];simp[ll,cJ,nP,m,k,h];exact⟨_,fA rfl⟩
theorem sR{f:Type}{g:i3}{e:EV}{Inv:Lc->Prop}{Sp:aC->Prop}{F G:f->P}:∀{dU:List f}{L:Lc}{S:aC},(∀st ∈ dU,∀L S,Inv L->Sp S->∃x s,g (F st) L=some x/\Inv x/\e x S=some (G st,s)/\Sp s)->Inv L->Sp S->∃a,cE g lw e (dU.map F) L S=some (dU.map G,a)/\Sp a
 | [],L,S,_,_,n=>⟨S,rfl,n⟩
 |v::r,L,S,k,h,n=>by obtain⟨x,s,b,i,c,p⟩:=k v aV L S h n;obtain⟨a,m,q⟩:=sR (dU:=r) (λw t=>k w (aW _ t)) i p;exact⟨a,by simp[cE,b,c,m],q⟩
theorem GU{c:EB}{a:EE}{r:ES}{L:Lc}{S:aC}(h:c L S=some (true,S)):fQ (aA (dO c (bc a) eY) r L S)=fQ (bc a L S):=by
 have:dO c (bc a) eY L S=bc a L S:=by rw[dO,h];rfl
 rw[aA,this,bc];cases a L S<;>rfl
theorem ss{c:EB}{x r:ES}{L:Lc}{S:aC}(h:c L S=some (false,S)):aA (dO c x eY) r L S=r L S:=by
 have:dO c x eY L S=some (.nx,L,S):=by rw[dO,h];rfl
 exact aB this
theorem JO(W:BW B)(m:Cnt B N)(hk:k≤N):pureOf (Ph (n+18) "ends_from") [cK B,stN B k]=some (.lst (iw B N k)):=by
 have f:=M8 B [];rw[b9]at f;obtain⟨x,h,r,c⟩:=(qF W m hk).1 7 0 _ f;rw[<- Fy (n+3)]at h;have s:=BC (n:=n+12) B;have b:=fA (n:=8) c;generalize SB 0 B=S at *
 generalize iw B N k=E at *
 generalize cK B=p at *
 generalize stN B k=st at *
 rw[n_,bQ];have e:dS (Ph (n+16+1)) (Ph (n+16)) [some (.p p),some (.p st)] []=some (.rt (.ref S.length),[some (.p p),some (.p st)],x):=by
  unfold dS;have a:af (gi (Ph (n+16) "Board.__init__") "Board" (af (U 0) aO)) (af (U 1) aO) [some (.p p),some (.p st)] []=some ([.ref 0,.p st],S):=by have s:Ph (n+16) "Board.__init__" [.ref 0,.p p] [.ins "Board" [] []]=some (.p .non,S):=s;simp only[af,gi,U,aO,av,pU,pT,jH,iM,s]
  rw[bc,d8,a,av];have h:Ph (n+16+1) "ends_on" [.ref 0,.p st] S=some (.ref S.length,x):=h;rw[h];rfl
 show (match dS (Ph (n+16+1)) (Ph (n+16)) [some (.p p),some (.p st)] [] with
  |some (.rt d,_,S)=>(toP 9 d S).map Prod.fst
  |some (.nx,_,_)=>some P.non
  |_=>none)=_
 rw[e];show(toP 9 (.ref S.length) x).map Prod.fst=_;rw[b];rfl
theorem Br(W:BW B)(h:Cnt B N)(hk:k≤N):∃y:List P,y.length=(if k < N then 1 else 0)/\pureOf (Ph (n+19) "deeds") [cK B,stN B k]=some (.lst y):=by
 have e:=JO (n:=n) W h hk;unfold iw at e;generalize cK B=p at *
 generalize stN B k=st at *
 by_cases q:k < N
 .rw [ae q]at e;refine⟨[dd B k],by simp[q],?_⟩;rw[oI,bQ];simp[kQ,e,cJ,nP,cE];exact⟨_,fA (T:=[dd B k]) rfl⟩
 .rw [ag q]at e;refine⟨[],by simp[q],?_⟩;rw[oI,bQ];simp[kQ,e,cJ,nP,cE];exact⟨_,fA (T:=[]) rfl⟩
noncomputable def rH:LS:=["board","standings","around","dries"]
theorem xh:aT Att "Scene" "board"=true/\aT Att "Scene" "standings"=true/\aT Att "Scene" "around"=true/\aT Att "Scene" "dries"=true:=by decide +kernel
theorem FC{a b c d:D}:eu "board" rH [a,b,c,d]=some a/\eu "standings" rH [a,b,c,d]=some b/\eu "dries" rH [a,b,c,d]=some d:=by simp[eu,rH]
theorem Ju(h:Str->GF):mT Tb h "Scene" "dry_truths"=some (h "Scene.dry_truths"):=by kernel_rfl
theorem JL:rH.contains "dry_truths"=false:=by decide +kernel
theorem IU:putK "dries" rH=rH:=by decide +kernel
theorem IV{a b c d y:D}:ul "dries" y rH [a,b,c,d]=[a,b,c,y]:=by simp[ul,rH]
def SS(B:BD)(w:List P):aC:=.ins "Scene" rH [.ref 1,.p (.lst w),.ref 0,.p .non]::SB 1 B
theorem FF(B:BD)(w:List P):gD (Ph (n+6) "Scene.__init__") [.ref 0,.p (cK B),.p (.lst w)] [.ins "Scene" [] []]=some (.p .non,SS B w):=by kernel_rfl
theorem NY(B:BD)(w:List P):Bd B 8 1 (SS B w):=⟨2,3,4,5,6,7,rfl,.inl rfl,.inr rfl,rfl,rfl,.inl rfl,.inl rfl,by decide,by decide,by decide,by decide,by decide,by decide,by decide,by simp[SS,SB]⟩
theorem Fr.ins(f:Fr b S a)(x:i < b)(h:S[i]? = some (.ins c s d)):a[i]? = some (.ins c s d):=by
 rcases f.low i _ x h with e|⟨_,q,_⟩
 .exact e
 .cases q
section
variable{S:aC}{o:EE}{L:Lc}{x y:D}{w:List P}(h:S[0]? = some (.ins "Scene" rH [.ref 1,.p (.lst w),.ref 0,x]))(e:o L S=some (.ref 0,S))
include h e
theorem zQ:bZ (aT Att) o "board" L S=some (.ref 1,S):=by rw[bZ,e,av];simp only[h,xh,FC,cG];rfl
theorem zP:bZ (aT Att) o "standings" L S=some (.p (.lst w),S):=by rw[bZ,e,av];simp only[h,xh,FC,cG];rfl
theorem rG:bZ (aT Att) o "dries" L S=some (x,S):=by rw[bZ,e,av];simp only[h,xh,FC,cG];rfl
end
def drs(B:BD)(N:Nat):List P:=(List.range (N+1)).map λk=>.bl (iw B N k).isEmpty
theorem JQ(W:BW B)(v:Cnt B N):∃k h,Ph (n+15) "Scene.dry_truths" [.ref 0] (SS B (dU B (N+1)))=some (.ref k,h)/\h[k]? = some (.lst ((drs B N).map .p)):=by
 have w:=v.few;have e:(SS B (dU B (N+1)))[0]? = some (.ins "Scene" rH [.ref 1,.p (.lst (dU B (N+1))),.ref 0,.p .non]):=rfl;have p:=NY B (dU B (N+1));generalize SS B (dU B (N+1))=S at e p;rw[iy];show ∃k h,fQ (cF _ [some (.ref 0)] S)=_/\_;unfold cF;obtain⟨x,s,f⟩:=sR (g:=aQ 1) (e:=(bq (Ph (n+14) "is_dry") (af (bZ (aT Att) (U 0) "board") (af (U 1) aO)))) (dU:=List.range (N+1)) (F:=stN B) (G:=λk=>.bl (iw B N k).isEmpty) (L:=[some (.ref 0),none]) (S:=S) (Sp:=λh=>Fr 8 S h) (Inv:=λm=>∃q,m=[some (.ref 0),q]) (λk hk m h ⟨q,c⟩ a=>by subst c;have hk:=lP.mp hk;obtain⟨l,d,j⟩:=(qF W v (k:=k) (by lia)).2 n 8 1 h (p.fr a);have i:=a.ins (by decide) e;obtain⟨x,s,f⟩:=BA (b:=8) (g:=Ph (n+14) "is_dry") (H:=af (bZ (aT Att) (U 0) "board") (af (U 1) aO)) (L:=[some (.ref 0),some (.p (stN B k))]) (S:=h) (q:=[.ref 1,.p (stN B k)]) (by rw[af,zQ i rfl];rfl) d j;exact⟨[some (.ref 0),some (.p (stN B k))],x,rfl,⟨_,rfl⟩,s,a.trans f⟩) ⟨none,rfl⟩ (Fr.refl _ _)
 have i:=f.ins (by decide) e;have c:(dU B (N+1)).length≤1000000:=by rw[jN];lia
 have u:cJ (iW (vE (bZ (aT Att) (U 0) "standings"))) [] 1 (aQ 1) lw (bq (Ph (n+14) "is_dry") (af (bZ (aT Att) (U 0) "board") (af (U 1) aO))) [some (.ref 0)] S=some (.lst (drs B N),x):=by rw[cJ,iW,vE,zP e rfl,av];show aZ (some (dU B (N+1),S)) _=_;rw[av,ae (by rw[Bc];exact c)];show aZ (cE _ _ _ _ [some (.ref 0),none] S) _=_;rw[show dU B (N+1)=(List.range (N+1)).map (stN B) from rfl,s];rfl
 rw[aB (e:=[some (.ref 0)]) (k:=x.set 0 (.ins "Scene" rH [.ref 1,.p (.lst (dU B (N+1))),.ref 0,.p (.lst (drs B N))])) (by rw[dO,bV,bY,rG e rfl];show ow (aT Att) (U 0) "dries" _ [some (.ref 0)] S=_;rw[ow,eV,u,av,av];show aZ (some (D.ref 0,x)) _=_;rw[av];simp only[i,xh,IU,IV];rfl)]
 have t:(x.set 0 (.ins "Scene" rH [.ref 1,.p (.lst (dU B (N+1))),.ref 0,.p (.lst (drs B N))]))[0]? = some (.ins "Scene" rH [.ref 1,.p (.lst (dU B (N+1))),.ref 0,.p (.lst (drs B N))]):=jr i;generalize x.set 0 (.ins "Scene" rH [.ref 1,.p (.lst (dU B (N+1))),.ref 0,.p (.lst (drs B N))])=r at t;refine⟨r.length,r++[.lst ((drs B N).map .p)],?_,eG _ _⟩;rw[bc,sK,vE,rG t rfl];rfl
theorem x0{n:Nat}{B:BD}(W:BW B){N:Nat}(r:Cnt B N):pureOf (Ph (n+19) "truths") [cK B,.tup [.str "dry"],.lst (dU B (N+1))]=some (.lst (drs B N)):=by
 obtain⟨k,h,a,c⟩:=JQ (n:=n+2) W r;have e:=FF (n:=n+11) B (dU B (N+1));have x:(SS B (dU B (N+1)))[0]? = some (.ins "Scene" rH [.ref 1,.p (.lst (dU B (N+1))),.ref 0,.p .non]):=rfl;have s:Ph (n+18) "truths_in" [.ref 0,.p (.tup [.str "dry"])] (SS B (dU B (N+1)))=some (.ref k,h):=by
  have m:dC (mT Tb (Ph (n+17))) (U 0) "dry_truths" aO [some (.ref 0),some (.p (.tup [.str "dry"])),some (.p (.str "dry"))] (SS B (dU B (N+1)))=some (.ref k,h):=by rw[dC,show U 0 [some (.ref 0),some (.p (.tup [.str "dry"])),some (.p (.str "dry"))] (SS B (dU B (N+1)))=some (.ref 0,SS B (dU B (N+1))) from rfl,av];simp only[x,Ju,JL,aO,av];exact a
  generalize SS B (dU B (N+1))=S at m;rw[nV];show fQ (fW _ [some (.ref 0),some (.p (.tup [.str "dry"])),none] S)=_;unfold fW;rw[aB (e:=[some (.ref 0),some (.p (.tup [.str "dry"])),some (.p (.str "dry"))]) (k:=S) rfl];rw[ss (by kernel_rfl),ss (by kernel_rfl),ss (by kernel_rfl),ss (by kernel_rfl),ss (by kernel_rfl),GU (by kernel_rfl),bc,m];rfl
 have f:=fA (n:=8) c;rw[uM,bQ];have b:gi (gD (Ph (n+17) "Scene.__init__")) "Scene" (af (U 0) (af (U 2) aO)) [some (.p (cK B)),some (.p (.tup [.str "dry"])),some (.p (.lst (dU B (N+1))))] []=some (.ref 0,SS B (dU B (N+1))):=by have e:gD (Ph (n+17) "Scene.__init__") [.ref 0,.p (cK B),.p (.lst (dU B (N+1)))] [.ins "Scene" [] []]=some (.p .non,SS B (dU B (N+1))):=e;simp only[af,gi,U,aO,av,pU,pT,jH,iM,e]
 simp[nK,-gi,b,s,f]
noncomputable def Gz(n:Int):Int:=if (-999:Int) > (if (990:Int) < n-4 then 990 else n-4) then -999 else (if (990:Int) < n-4 then 990 else n-4)
def tm(num more rm:Int)(kd:Str)(byc:Bool):BD:=⟨num,more,rm,kd,if byc=true then .tup [.str "name",.str "c"] else if num < 0 then .tup [.str "minus",.tup [.str "number",.int 0],.tup [.str "number",.int (-num)]] else .tup [.str "number",.int num],if more < 0 then .tup [.str "minus",.tup [.str "name",.str "it"],.tup [.str "number",.int (-more)]] else .tup [.str "plus",.tup [.str "name",.str "it"],.tup [.str "number",.int more]],if byc=true then [.tup [.str "c",.int (Gz num),.int (Gz num+9),.int num]] else [],if byc=true then [.inr "c"] else [],if byc=true then [.int num] else []⟩
theorem Dj(num more rm:Int)(kd:Str)(byc:Bool):pureOf (Ph (n+2) "_law_plan") [.int num,.int more,.str kd,.int rm,.bl byc]=some (cK (tm num more rm kd byc)):=by rw[qH,bQ];by_cases h1:num < 0<;>by_cases h2:more < 0<;>cases byc<;>simp[j',h1,h2,iF,iD,cK,ig,road,tm,nm,Gz]
theorem Jv{num more rm:Int}{kd:Str}{byc:Bool}(hk:kd="row"\/kd="heap")(hr:1≤rm)(hn:num.natAbs≤999):BW (tm num more rm kd byc) where
 kd:=hk
 rm:=hr
 ct:=by
  cases byc
  .exact .no rfl rfl rfl
  .exact .one _ _ _ rfl rfl rfl
 v1:=λn=>by
  cases byc
  .by_cases h:num < 0
   .simp only[tm,h,cG,dG,jM];have:pureOf (Ph (n+4) "value_of") [.tup [.str "minus",.tup [.str "number",.int 0],.tup [.str "number",.int (-num)]],.dct [] []]=some (.int (0-(-num))):=by kernel_rfl
    rw[this,show 0-(-num)=num by lia]
   .simp only[tm,h,cG,dG,jM];kernel_rfl
  .kernel_rfl
 v2:=λn h v=>by
  have key:∀(K:List cn)(V:List P),(K=[]/\V=[])\/(K=[.inr "c"]/\V=[.int num])->pureOf (Ph (n+4) "value_of") [(tm num more rm kd byc).nx,.dct (K++[.inr "it"]) (V++[.int v])]=some (.int (v+more)):=λK V hKV=>by
   by_cases hm:more < 0
   .simp only[tm,hm,cG];have:pureOf (Ph (n+4) "value_of") [.tup [.str "minus",.tup [.str "name",.str "it"],.tup [.str "number",.int (-more)]],.dct (K++[.inr "it"]) (V++[.int v])]=some (.int (v-(-more))):=by
     rcases hKV with ⟨rfl,rfl⟩|⟨rfl,rfl⟩<;>kernel_rfl
    rw[this,show v-(-more)=v+more by lia]
   .simp only[tm,hm,dG];rcases hKV with ⟨rfl,rfl⟩|⟨rfl,rfl⟩<;>kernel_rfl
  cases h
  .cases byc
   .exact key _ _ (.inl ⟨rfl,rfl⟩)
   .exact key _ _ (.inr ⟨rfl,rfl⟩)
  .exact key _ _ (.inl ⟨rfl,rfl⟩)
 nm:=hn
theorem G7{n m r:Int}{kd:Str}{h:Bool}(f:n.natAbs≤999)(x:(m=1\/m=2\/m=3)/\800≤n\/(m=-1\/m=-2\/m=-3)/\n≤-800):∃N,Cnt (tm n m r kd h) N:=by
 have y:∀N:Nat,(∀k:Nat,k < N->(n+k * m).natAbs≤999)->¬(n+N * m).natAbs≤999->1≤N->N≤300->m≠0->∃N,Cnt (tm n m r kd h) N:=λN a b c d e=>⟨N,a,b,c,d,e⟩;rcases x with ⟨x,s⟩|⟨x,s⟩
 .rcases x with rfl|rfl|rfl
  .exact y ((999-n) / 1+1).toNat (λk hk=>by lia) (by lia) (by lia) (by lia) (by lia)
  .exact y ((999-n) / 2+1).toNat (λk hk=>by lia) (by lia) (by lia) (by lia) (by lia)
  .exact y ((999-n) / 3+1).toNat (λk hk=>by lia) (by lia) (by lia) (by lia) (by lia)
 .rcases x with rfl|rfl|rfl
  .exact y ((999+n) / 1+1).toNat (λk hk=>by lia) (by lia) (by lia) (by lia) (by lia)
  .exact y ((999+n) / 2+1).toNat (λk hk=>by lia) (by lia) (by lia) (by lia) (by lia)
  .exact y ((999+n) / 3+1).toNat (λk hk=>by lia) (by lia) (by lia) (by lia) (by lia)
def gw(B:BD)(k:Nat):List P:=(List.range k).map λj=>.int (cj B j)
theorem r_(B:BD)(k:Nat):gw B (k+1)=gw B k++[.int (cj B k)]:=by simp[gw,pQ]
theorem gN(B:BD)(k:Nat):(gw B k).length=k:=by simp[gw]
theorem D'(s:List a)(x:a):L2.atI (s++[x]) (-1)=some x:=by unfold L2.atI L2.AO;simp;rw[show(-1+((s.length:Int)+1)).toNat=s.length by lia,ae (by lia)];exact List.getElem?_concat_length
abbrev LL(sc d m n kd p:P)(x a e q h:Option D):Lc:=[some (.p sc),some (.p d),some (.p m),some (.p n),some (.p kd),some (.p p),some (.ref 0),x,a,e,q,h]
theorem xz(u:Str->GF){B:BD}{N:Nat}(t:Cnt B N)(sc d n kd p:P)(s f r h x:Option D):∀(m k:Nat),m+k=1000->k+1≤N ->
  db (bV (eK EG EG (kl dj (vC (.int 999))) (aK bW (vE (i7 (U 6) (kl dj (vC (.int 1))))) (vE (U 2))) (vC (.int 999)))) (g6 u) m (LL sc d (.int B.more) n kd p s f r h x) [.lst ((gw B (k+1)).map .p)]=some (.nx,LL sc d (.int B.more) n kd p s f r h x,[.lst ((gw B N).map .p)])
 |0,k,z,hk=>by have:=t.few;lia
 |m+1,k,z,hk=>by
  have i:=t.few;have v:i7 (U 6) (kl dj (vC (.int 1))) (LL sc d (.int B.more) n kd p s f r h x) [.lst ((gw B (k+1)).map .p)]=some (.p (.int (cj B k)),[.lst ((gw B (k+1)).map .p)]):=by
   have:L2.atI ((gw B (k+1)).map D.p) (-1)=some (.p (.int (cj B k))):=by rw[ka,r_,D'];rfl
   simp[this]
  have g:∀c:Bool,decide ((cj B (k+1)).natAbs≤999)=c->(bV (eK EG EG (kl dj (vC (.int 999))) (aK bW (vE (i7 (U 6) (kl dj (vC (.int 1))))) (vE (U 2))) (vC (.int 999)))) (LL sc d (.int B.more) n kd p s f r h x) [.lst ((gw B (k+1)).map .p)]=some (c,[.lst ((gw B (k+1)).map .p)]):=λc l=>by
   subst l;have e:=mX B k;generalize cj B (k+1)=w at e ⊢;by_cases a:-999≤w
   .by_cases b:w≤999
    .have:w.natAbs≤999:=by lia
     simp[eK,-i7,v,e,a,b,this]
    .have:¬w.natAbs≤999:=by lia
     simp[eK,-i7,v,e,a,b,this]
   .have:¬w.natAbs≤999:=by lia
    simp[eK,-i7,v,e,a,this]
  unfold db;by_cases q:k+1 < N
  .rw [g true (by simpa using t.lo _ q),av,ae rfl];have j:g6 u (LL sc d (.int B.more) n kd p s f r h x) [.lst ((gw B (k+1)).map .p)]=some (.nx,LL sc d (.int B.more) n kd p s f r h x,[.lst ((gw B (k+1+1)).map .p)]):=by
    unfold g6;rw[r_ B (k+1)];exact mh (k:=0) (S:=[.lst ((gw B (k+1)).map .p)]) (x:=[.lst ((gw B (k+1)).map .p)]) (c:=gw B (k+1)) (y:=.int (cj B (k+1))) rfl rfl (by simp[-i7,v,mX]) rfl (by rw[gN];lia)
   rw[j];exact xz u t sc d n kd p s f r h x m (k+1) (by lia) (by lia)
  .have:k+1=N:=by lia
   rw[g false (by rw[this];simpa using t.hi),this];rfl
theorem LC(k:Nat):∃a b:List P,(∃h,stN B k=.tup [h,.tup [.tup a,.tup b]])/\bW (.tup a) (.tup b)=some (.tup (if k=0 then [] else [lt (cj B (k-1))])):=by
 cases k with
 |zero=>exact⟨[],[],⟨_,rfl⟩,rfl⟩
 |succ k=>
  rw[ag (by lia),Nat.add_sub_cancel];show ∃a b:List P,(∃h,zJ B (par k) (cj B k)=.tup [h,.tup [.tup a,.tup b]])/\_;cases par k
  .exact⟨[lt (cj B k)],[],⟨_,rfl⟩,by kernel_rfl⟩
  .exact⟨[],[lt (cj B k)],⟨_,rfl⟩,by kernel_rfl⟩
theorem Jw(v:Int):eQ 20 (.tup [lt v])=true:=by kernel_rfl
theorem CI(hW:BW B)(hN:Cnt B N)(sc d mo nu kd:P)(q7 q10 q11:Option D)(hk:k≤N):∃q10' q11',gZ (Ph (n+19)) (LL sc d mo nu kd (cK B) q7 (some (.p (.int (k:Int)))) (some (.p (stN B k))) q10 q11) [.lst ((gw B N).map .p)]=some (.nx,LL sc d mo nu kd (cK B) q7 (some (.p (.int (k:Int)))) (some (.p (stN B k))) q10' q11',[.lst ((gw B N).map .p)]):=by
 obtain⟨a,b,⟨hs,es⟩,ea⟩:=LC (B:=B) k;obtain⟨ys,hy,ed⟩:=Br (n:=n) hW hN hk;rw[es]at ed ⊢;let due:P:=.tup (if k=0 then [] else [lt (cj B (k-1))])
 have hdue:eQ 20 due=true:=by
  show eQ 20 (.tup (if k=0 then [] else [lt (cj B (k-1))]))=true;split
  .rfl
  .exact Jw _
 have n1:=Az hdue;have hd:due=P.tup (if k=0 then [] else [lt (cj B (k-1))]):=rfl;refine⟨some (.p due),some (.p due),?_⟩
 clear_value due
 rw[<- hd]at ea;generalize cK B=pl at *
 have hlen:d6 (.ref 0) [.lst ((gw B N).map .p)]=some N:=by simp[d6,gN]
 unfold gZ;rw [aB (e:=LL sc d mo nu kd pl q7 (some (.p (.int (k:Int)))) (some (.p (.tup [hs,.tup [.tup a,.tup b]]))) (some (.p due)) q11) (k:=[.lst ((gw B N).map .p)]) (by simp [ea])];rw [aB (e:=LL sc d mo nu kd pl q7 (some (.p (.int (k:Int)))) (some (.p (.tup [hs,.tup [.tup a,.tup b]]))) (some (.p due)) (some (.p (.tup [])))) (k:=[.lst ((gw B N).map .p)]) (by simp)];rw [aB (e:=LL sc d mo nu kd pl q7 (some (.p (.int (k:Int)))) (some (.p (.tup [hs,.tup [.tup a,.tup b]]))) (some (.p due)) (some (.p due))) (k:=[.lst ((gw B N).map .p)]) (by
  cases k with
  |zero=>rw[hd];rfl
  |succ k=>
   have e1:(gw B N)[k]? = some (.int (cj B k)):=by unfold gw;rw[cR,List.getElem?_range (by lia)];rfl
   have e2:L2.atI ((gw B N).map D.p) (k:Int)=some (.p (.int (cj B k))):=by rw[ka,BK e1];rfl
   have e3:((k+1:Nat):Int)-1=(k:Int):=by lia
   have e4:(0:Int) < ((k+1:Nat):Int):=by lia
   have hd:due=P.tup [lt (cj B k)]:=by simpa using hd
   generalize ((k+1:Nat):Int)=i at e3 e4 ⊢;have e5:i7 (U 6) (aK qK (vE (U 8)) (vC (.int 1))) (LL sc d mo nu kd pl q7 (some (.p (.int i))) (some (.p (.tup [hs,.tup [.tup a,.tup b]]))) (some (.p due)) (some (.p (.tup [])))) [.lst ((gw B N).map .p)]=some (.p (.int (cj B k)),[.lst ((gw B N).map .p)]):=by simp[e3,e2]
   refine(uF (by simp[e4])).trans ?_;rw[hd]at e5 ⊢;simp[-i7,e5])]
 rw[aB (e:=LL sc d mo nu kd pl q7 (some (.p (.int (k:Int)))) (some (.p (.tup [hs,.tup [.tup a,.tup b]]))) (some (.p due)) (some (.p due))) (k:=[.lst ((gw B N).map .p)]) (by simp[DP,n1])]
 by_cases q:k < N
 .rw [ae q]at hy;simp[ed,hlen,d6,js,hy,q,gN,fV,nI]
 .rw [ag q]at hy;simp[ed,hlen,d6,js,hy,q,gN,fV,nI]
theorem sF(B:BD):∀(m k:Nat),dB (k:Int) ((jF k m).map (stN B))=(jF k m).map λ(j:Nat)=>.tup [.int (j:Int),stN B j]
 |0,k=>rfl
 |m+1,k=>by
  rw[lT,az,az,dB];have:=sF B m (k+1)
  rw[show((k+1:Nat):Int)=(k:Int)+1 by lia]at this;rw[this]
theorem rj{n:Nat}{B:BD}(W:BW B){N:Nat}(p:Cnt B N)(sc d o u kd:P)(e:Option D):∀(m k:Nat),k+m≤N+1->∀(s f q h:Option D),∃r t x a,cB (cA [aQ 8,aQ 9]) (gZ (Ph (n+19))) ((jF k m).map λ(j:Nat)=>.tup [.int (j:Int),stN B j]) (LL sc d o u kd (cK B) e s f q h) [.lst ((gw B N).map .p)]=some (.nx,LL sc d o u kd (cK B) e r t x a,[.lst ((gw B N).map .p)])
 |0,k,_,s,f,q,h=>⟨s,f,q,h,rfl⟩
 |m+1,k,hk,s,f,q,h=>by obtain⟨x,a,g⟩:=CI (n:=n) W p sc d o u kd e q h (k:=k) (by lia);obtain⟨v,w,b,c,i⟩:=rj (n:=n) W p sc d o u kd e m (k+1) (by lia) (some (.p (.int (k:Int)))) (some (.p (stN B k))) x a;refine⟨v,w,b,c,?_⟩;rw[lT,az];exact(bo (h:=LL sc d o u kd (cK B) e (some (.p (.int (k:Int)))) (some (.p (stN B k))) q h) rfl g).trans i
theorem G2{B:BD}{N:Nat}:drs B N=List.replicate N (.bl false)++[.bl true]:=by
 unfold drs;rw[pQ,fj];congr 1
 .refine List.ext_getElem (by simp) λi h x=>?_;simp at h;simp[iw,h]
 .simp [iw]
theorem Ny(d:Int):∃m:Int,L2.atI [P.int 1,.int 2,.int 3,.int (-1),.int (-2),.int (-3)] (d % 6)=some (.int m)/\((m=1\/m=2\/m=3)\/(m=-1\/m=-2\/m=-3)):=by
 have h:d % 6=0\/d % 6=1\/d % 6=2\/d % 6=3\/d % 6=4\/d % 6=5:=by lia
 rcases h with h|h|h|h|h|h<;>rw[h]
 .exact⟨1,rfl,by lia⟩
 .exact⟨2,rfl,by lia⟩
 .exact⟨3,rfl,by lia⟩
 .exact⟨-1,rfl,by lia⟩
 .exact⟨-2,rfl,by lia⟩
 .exact⟨-3,rfl,by lia⟩
theorem Lz(d:Int):∃k:Str,L2.atI [P.str "row",.str "heap"] (d % 2)=some (.str k)/\(k="row"\/k="heap"):=by
 have h:d % 2=0\/d % 2=1:=by lia
 rcases h with h|h<;>rw[h]
 .exact⟨"row",rfl,.inl rfl⟩
 .exact⟨"heap",rfl,.inr rfl⟩
theorem FY {n:Nat} (s:List Int):∃(d u m r:Int) (kd:Str) (b:Bool),(kd="row"\/kd="heap")/\1≤r/\u.natAbs≤999/\((m=1\/m=2\/m=3)/\800≤u\/(m=-1\/m=-2\/m=-3)/\u≤-800)/\∀g:ES,(aA (aF 1 (eV (aJ (pureOf (Ph (n+19) "_law_mix")) (O (aJ (pureOf (Ph (n+19) "_law_cell_at")) (O (vE (U 0)) (O (vC (.int 0)) aj))) (O (vC (.int 0)) aj)))))
  (aA (aF 2 (eV (aK bD (be (O (vC (.int 1)) (O (vC (.int 2)) (O (vC (.int 3)) (O (kl dj (vC (.int 1))) (O (kl dj (vC (.int 2))) (O (kl dj (vC (.int 3))) aj))))))) (aK d9 (vE (U 1)) (vC (.int 6))))))
  (aA (aF 3 (eV (aK qK (vC (.int 999)) (aK d9 (aK ce (vE (U 1)) (vC (.int 6))) (vC (.int 30))))))
  (aA (dO (bV (aK tq (vE (U 2)) (vC (.int 0)))) (aF 3 (eV (kl dj (vE (U 3))))) eY)
  (aA (dO (bV (bY k5 (eV (aK d9 (aK ce (vE (U 1)) (vC (.int 180))) (vC (.int 8)))) (eV (vC (.int 1))))) (aA (aF 3 (eV (aK bW (aK d9 (aK ce (vE (U 1)) (vC (.int 1440))) (vC (.int 200))) (aK bD (be (O (vC (.int 850)) (O (kl dj (vC (.int 1050))) aj))) (aJ fV (O (aK tq (vE (U 2)) (vC (.int 0))) aj))))))
  (aF 3 (eV (aJ iF (O (kl dj (vC (.int 999))) (O (aJ iD (O (vC (.int 999)) (O (vE (U 3)) aj))) aj)))))) eY)
  (aA (aF 4 (eV (aK bD (be (O (vC (.str "row")) (O (vC (.str "heap")) aj))) (aK d9 (aK ce (vE (U 1)) (vC (.int 300000))) (vC (.int 2))))))
  (aA (aF 5 (eV (aJ (pureOf (Ph (n+19) "_law_plan")) (O (vE (U 3)) (O (vE (U 2)) (O (vE (U 4)) (O (aK bW (vC (.int 1)) (aK d9 (aK ce (vE (U 1)) (vC (.int 600000))) (vC (.int 3)))) (O (bY k5 (eV (aK d9 (aK ce (vE (U 1)) (vC (.int 1800000))) (vC (.int 2)))) (eV (vC (.int 1)))) aj))))))))
  (aA (aF 6 (iz (O (vE (U 3)) aj))) g))))))))
  [some (.p (ql s)),none,none,none,none,none,none,none,none,none,none,none] []=g (LL (ql s) (.int d) (.int m) (.int u) (.str kd) (cK (tm u m r kd b)) none none none none none) [.lst [.p (.int u)]]:=by
 obtain⟨c,d,y,a,f⟩:=DV (n:=n+17) s (k:=0) (p:=0) (by decide) (by decide) (by decide);obtain⟨m,w,z⟩:=Ny d;obtain⟨kd,v,hk⟩:=Lz (d / 300000);let L:Option D->Lc:=λq=>[some (.p (ql s)),some (.p (.int d)),some (.p (.int m)),q,none,none,none,none,none,none,none,none]
 have e:∃u:Int,u.natAbs≤999/\((m=1\/m=2\/m=3)/\800≤u\/(m=-1\/m=-2\/m=-3)/\u≤-800)/\∀g:ES,(aA (aF 3 (eV (aK qK (vC (.int 999)) (aK d9 (aK ce (vE (U 1)) (vC (.int 6))) (vC (.int 30))))))
  (aA (dO (bV (aK tq (vE (U 2)) (vC (.int 0)))) (aF 3 (eV (kl dj (vE (U 3))))) eY)
  (aA (dO (bV (bY k5 (eV (aK d9 (aK ce (vE (U 1)) (vC (.int 180))) (vC (.int 8)))) (eV (vC (.int 1))))) (aA (aF 3 (eV (aK bW (aK d9 (aK ce (vE (U 1)) (vC (.int 1440))) (vC (.int 200))) (aK bD (be (O (vC (.int 850)) (O (kl dj (vC (.int 1050))) aj))) (aJ fV (O (aK tq (vE (U 2)) (vC (.int 0))) aj))))))
  (aF 3 (eV (aJ iF (O (kl dj (vC (.int 999))) (O (aJ iD (O (vC (.int 999)) (O (vE (U 3)) aj))) aj)))))) eY) g))) (L none) []=g (L (some (.p (.int u)))) []:=by
  by_cases h:d / 180 % 8=1
  .by_cases x:m < 0
   .refine⟨if (-999:Int) < (if d / 1440 % 200+-1050 < 999 then d / 1440 % 200+-1050 else 999) then (if d / 1440 % 200+-1050 < 999 then d / 1440 % 200+-1050 else 999) else -999,by split<;>split<;>lia,.inr ⟨by lia,by split<;>split<;>lia⟩,λg=>?_⟩;simp[L,h,x,fV,nI,iF,iD]
   .refine⟨if (-999:Int) < (if d / 1440 % 200+850 < 999 then d / 1440 % 200+850 else 999) then (if d / 1440 % 200+850 < 999 then d / 1440 % 200+850 else 999) else -999,by split<;>split<;>lia,.inl ⟨by lia,by split<;>split<;>lia⟩,λg=>?_⟩;simp[L,h,x,fV,nI,iF,iD]
  .by_cases x:m < 0
   .exact⟨-(999-d / 6 % 30),by lia,.inr ⟨by lia,by lia⟩,λg=>by simp[L,h,x]⟩
   .exact⟨999-d / 6 % 30,by lia,.inl ⟨by lia,by lia⟩,λg=>by simp[L,h,x]⟩
 obtain⟨u,j,l,t⟩:=e;refine⟨d,u,m,1+d / 600000 % 3,kd,decide (d / 1800000 % 2=1),hk,by lia,j,l,λg=>?_⟩;have i:=Dj (n:=n+17) u m (1+d / 600000 % 3) kd (decide (d / 1800000 % 2=1));rw[aB (e:=[some (.p (ql s)),some (.p (.int d)),none,none,none,none,none,none,none,none,none,none]) (k:=[]) (by simp[a,f])];rw[aB (e:=L none) (k:=[]) (by simp[w,L])];rw[t];rw[aB (e:=[some (.p (ql s)),some (.p (.int d)),some (.p (.int m)),some (.p (.int u)),some (.p (.str kd)),none,none,none,none,none,none,none]) (k:=[]) (by simp[L,v])];rw[aB (e:=[some (.p (ql s)),some (.p (.int d)),some (.p (.int m)),some (.p (.int u)),some (.p (.str kd)),some (.p (cK (tm u m (1+d / 600000 % 3) kd (decide (d / 1800000 % 2=1))))),none,none,none,none,none,none]) (k:=[]) (by simp[i])];rw[aB (by simp;exact⟨rfl,rfl⟩)]
theorem GB{n:Nat}(s:List Int):pureOf (Ph (n+20) "law") [ql s]=some (.bl true):=by
 obtain⟨d,u,m,r,kd,b,hk,Q,g,L,t⟩:=FY (n:=n) s;have W:=Jv (more:=m) (byc:=b) hk Q g;obtain⟨N,h⟩:=G7 (r:=r) (kd:=kd) (h:=b) g L;have y:(tm u m r kd b).more=m:=rfl;have v:gw (tm u m r kd b) (0+1)=[.int u]:=by simp[gw,cj,tm]
 generalize tm u m r kd b=B at W h y v t;have i:=h.few;have o:=h.pos;have c:=xz (Ph (n+19)) h (ql s) (.int d) (.int u) (.str kd) (cK B) none none none none none 1000 0 (by lia) (by lia);rw[v,y]at c;have D:=J2 (n:=n+1) W h;have I:=x0 (n:=n) W h;obtain⟨z,H,q,a,E⟩:=rj (n:=n) W h (ql s) (.int d) (.int m) (.int u) (.str kd) (some (.p (.lst (dU B (N+1))))) (N+1) 0 (by lia) none none none none;have f:dB 0 (dU B (N+1))=(jF 0 (N+1)).map λ(j:Nat)=>.tup [.int (j:Int),stN B j]:=by have:=sF B (N+1) 0;rw[<- this];unfold dU;rw[List.range_eq_range'];rfl
 have T:eQ 20 (.lst (drs B N))=true:=NB λx R=>by obtain⟨k,_,rfl⟩:=dH.mp R;rfl
 have G:=Bg T;rw[DU,bQ];have e:mf (Ph (n+19)) [some (.p (ql s)),none,none,none,none,none,none,none,none,none,none,none] []=some (.rt (.p (.bl true)),LL (ql s) (.int d) (.int m) (.int u) (.str kd) (cK B) (some (.p (.lst (dU B (N+1))))) z H q a,[.lst ((gw B N).map .p)]):=by
  unfold mf;rw[t];rw[aB (by unfold kC;exact c)];generalize cK B=p at *
  have l:=jN B (N+1);have M:d6 (.ref 0) [.lst ((gw B N).map .p)]=some N:=by simp[d6,gN]
  generalize dU B (N+1)=w at *
  rw [aB (e:=LL (ql s) (.int d) (.int m) (.int u) (.str kd) p (some (.p (.lst w))) none none none none) (k:=[.lst ((gw B N).map .p)]) (by simp [D])];rw [aB (e:=LL (ql s) (.int d) (.int m) (.int u) (.str kd) p (some (.p (.lst w))) none none none none) (k:=[.lst ((gw B N).map .p)]) (by
   have:(1:Int)+(N:Int)=((N+1:Nat):Int):=by lia
   simp[d6,js,gN,l,this])]
  rw[aB (by rw[cX,yg];show aZ (some (dB 0 w,[SO.lst ((gw B N).map .p)])) _=_;rw[av,f];exact E)]
  have C:aK bW (aK fH (be (O (vC (.bl false)) aj)) (d5 (U 6))) (be (O (vC (.bl true)) aj)) (LL (ql s) (.int d) (.int m) (.int u) (.str kd) p (some (.p (.lst w))) z H q a) [.lst ((gw B N).map .p)]=some (.lst (drs B N),[.lst ((gw B N).map .p)]):=by
   have F:N≤1000000:=by lia
   have K:N < 1000000:=by lia
   have A:N+1≤1000000:=by lia
   rw[G2];simp[d6,gN,F,K,A,bW,qL]
  simp[-aK,C,I,k5,G]
 show (match mf (Ph (n+19)) [some (.p (ql s)),none,none,none,none,none,none,none,none,none,none,none] [] with
  |some (.rt d,_,S)=>(toP 9 d S).map Prod.fst
  |some (.nx,_,_)=>some P.non
  |_=>none)=_
 rw[e];rfl
theorem AH{K:FG}{H:Hp}{a:Addr}{s:List Int}(l:s.length≤63)(h:yG H)(S:dw K H a (s.map V.int)):km K (Eg Gv Att Tb 200 "law") [.ref a] H (λv _=>v=.bl true) (λ_ _ _=>False):=by have e:pureOf (Eg Gv Att Tb 200 "law") [.ro (s.map .int)]=some (.bl true):=GB (n:=180) s;exact GC h S e
end My
set_option tactic.hygienic true
namespace PySem.W.Fast
def tw11150559880645130587:=Nat
def tw2144668264277846176:=Nat
def tw16596448137966660470:=Nat
def tw12748591588069756678:=Nat
def tw11018925114867534724:=Nat
def tw9205859580706744088:=Nat
def tw7866259548676224161:=Nat
def tw3415157759840264543:=Nat
def tw15014354778303318439:=Nat
def tw10426582321004029772:=Nat
def tw17477621860468932275:=Nat
def tw17048444225748791676:=Nat
def tw10589652118375192730:=Nat
def tw3505003559995895598:=Nat
def tw6983637256754540539:=Nat
def tw1761423849753706214:=Nat
def tw3508300241267381170:=Nat
def tw14387061868425756690:=Nat
def tw5293632354129180398:=Nat
def tw12919859828371425168:=Nat
def tw6733771471622424105:=Nat
def tw10958135859042837375:=Nat
def tw10452089070634426063:=Nat
def tw11008490078294603886:=Nat
def tw721129554280393811:=Nat
def tw16604582299278526155:=Nat
def tw16830740614554779012:=Nat
def tw4430101520596451646:=Nat
def tw13869088032352430632:=Nat
def tw15682059264628780420:=Nat
def tw13216088923508795314:=Nat
def tw2538834613690273738:=Nat
def tw6062446787117172084:=Nat
def tw7762965009473782507:=Nat
def tw5290464849865671630:=Nat
def tw7164758273643687823:=Nat
def tw1276514820615704029:=Nat
def tw2738806897600815101:=Nat
def tw15867543768805525011:=Nat
def tw5076990280219953088:=Nat
def tw7719379690167918034:=Nat
def tw873986064793951805:=Nat
def tw13223517185740413653:=Nat
def tw3270246775583005156:=Nat
def tw17729763084946233928:=Nat
def tw10635095079477167127:=Nat
def tw1819098223965214709:=Nat
def tw1639580507198840459:=Nat
def tw827771928233915200:=Nat
def tw18253660733306837131:=Nat
def tw758075736825673978:=Nat
def tw3949144790829066802:=Nat
def tw18101546346072577287:=Nat
def tw10150174605731758191:=Nat
def tw7765131091496123766:=Nat
def tw3509173140443364449:=Nat
def tw4010640693236950772:=Nat
def tw4606230621415180150:=Nat
def tw3166182038511267500:=Nat
def tw11699538850084851907:=Nat
def tw11963951597869509137:=Nat
def tw4963342385017964662:=Nat
def tw1307224763741449106:=Nat
def tw11896818434773252979:=Nat
def tw3371883743537634813:=Nat
def tw17490495730485275189:=Nat
def tw12001969916144556767:=Nat
def tw1424482194459189817:=Nat
def tw8404414560411798718:=Nat
def tw8196649338734494914:=Nat
def tw14947568704587702203:=Nat
def tw4434840135654137466:=Nat
def tw3817359320936739480:=Nat
def tw17286968524219794895:=Nat
def tw1901285043296227928:=Nat
def tw17470095470580598605:=Nat
def tw4439043173131346333:=Nat
def tw7903002943111842226:=Nat
def tw1246585517075195979:=Nat
def tw6545083070216525687:=Nat
def tw3907431447768024166:=Nat
def tw5371684834996012388:=Nat
def tw6145873378059233198:=Nat
def tw256294127616261488:=Nat
def tw6736326059035252313:=Nat
def tw7168727874834922279:=Nat
def tw756809245751643446:=Nat
def tw6346269114703111832:=Nat
def tw16535659491351597691:=Nat
def tw5795204647274745694:=Nat
def tw4766322198545054576:=Nat
def tw7812594316755573332:=Nat
def tw8498795022011798002:=Nat
def tw5460654831945910594:=Nat
def tw4580392353594607730:=Nat
def tw7597910930414050028:=Nat
def tw13415403829106035587:=Nat
def tw13365305378395130083:=Nat
def tw9550845905269364780:=Nat
def tw12024060739809396690:=Nat
def tw5548633956154933785:=Nat
def tw7285558499754638565:=Nat
def tw11451759896382824910:=Nat
def tw3187359204443170263:=Nat
def tw9376309216201886761:=Nat
def tw7212723269666073449:=Nat
def tw14013024371554378108:=Nat
def tw16434058060683273161:=Nat
def tw17609625746180806237:=Nat
def tw10528440178216489766:=Nat
def tw14633927923845920454:=Nat
def tw14257400940600041603:=Nat
def tw12831465250844456861:=Nat
def tw4023394893915851067:=Nat
def tw5543953708224894634:=Nat
def tw16769167798934186598:=Nat
def tw16873718977777975438:=Nat
def tw1458991974019907297:=Nat
def tw153263734074148304:=Nat
def tw5840600312534881593:=Nat
def tw15310899486177760311:=Nat
def tw7353869574028023573:=Nat
def tw5238220686785231637:=Nat
def tw1996138729169855928:=Nat
def tw14333838342822352884:=Nat
def tw7966638244164725852:=Nat
def tw8307493667083728422:=Nat
def tw7643142507017710111:=Nat
def tw4916620712091807425:=Nat
def tw6636695312486234735:=Nat
def tw12384908821930156525:=Nat
def tw4312553333359711064:=Nat
def tw17136751037306508242:=Nat
def tw1324878849817931735:=Nat
def tw2307992133447745502:=Nat
def tw11828339278563252871:=Nat
def tw6393084963238985925:=Nat
def tw7120469550638187480:=Nat
def tw11545879071903325221:=Nat
def tw10919755867171940290:=Nat
def tw9619495341028153622:=Nat
def tw18140180221199470728:=Nat
def tw10201911811695636696:=Nat
def tw901517849585431334:=Nat
def tw5110386543706046578:=Nat
def tw13698455648742550313:=Nat
def tw16258943034700703839:=Nat
def tw154372561483885495:=Nat
def tw15297131743114976346:=Nat
def tw12873629991415240455:=Nat
def tw17968127317930120637:=Nat
def tw2033655676565853231:=Nat
def tw7449726295349618206:=Nat
def tw2228607702133596904:=Nat
def tw12894350936964291122:=Nat
def tw6622276774456230589:=Nat
def tw8275217380657303088:=Nat
def tw15559128278805933706:=Nat
def tw7660100695777816126:=Nat
def tw15093987059624344836:=Nat
def tw15419335550803081618:=Nat
def tw387044690465754312:=Nat
def tw6887125309148755107:=Nat
def tw4290807139722198899:=Nat
def tw7962320217562530019:=Nat
def tw10663323214868589665:=Nat
def tw9227265600637958368:=Nat
def tw9577683290306469072:=Nat
def tw12536365919217736626:=Nat
def tw14287549379278208132:=Nat
def tw13030818751611903702:=Nat
def tw14448490815682029624:=Nat
def tw7766670612337584411:=Nat
def tw6251740512986112648:=Nat
def tw17782242536145170978:=Nat
def tw14883372909832170657:=Nat
def tw313771789046351306:=Nat
def tw14095355313378423820:=Nat
def tw12421697888441455759:=Nat
def tw1974999951415558417:=Nat
def tw13097718838700014085:=Nat
def tw786939631108216685:=Nat
def tw2675327544776411835:=Nat
def tw3486390892791843495:=Nat
def tw2542201855597028383:=Nat
def tw5854722141025411781:=Nat
def tw742318786176408092:=Nat
def tw14720448579090484875:=Nat
def tw1550784067587449117:=Nat
def tw4042209416776825063:=Nat
def tw5851872582099726008:=Nat
def tw1403225319347522541:=Nat
def tw4302518613027811866:=Nat
def tw8483262492054302744:=Nat
def tw16481198460427972656:=Nat
def tw2513116018373604799:=Nat
def tw8293720174033431316:=Nat
def tw14436124204366150758:=Nat
def tw12122586747206746478:=Nat
def tw16634332850606136669:=Nat
def tw960454211376423204:=Nat
def tw4079701732599581988:=Nat
def tw12154849310732969748:=Nat
def tw6002658830984199567:=Nat
def tw7357350841048901087:=Nat
def tw7885569808259029222:=Nat
def tw12293217833925574137:=Nat
def tw11188472582952576518:=Nat
def tw10296123509344738276:=Nat
end PySem.W.Fast
open PySem PySem.W PyProof.Rows
set_option maxRecDepth 100000 in
set_option maxHeartbeats 0 in
theorem PySem.Challenge.cw_roadsall_k44_tickets_end_holds : PySem.Challenge.rw_roadsall_k44_tickets_end.Holds := by
 w_on;o_law;k_head;(case hw=>w_witness2)
 k_fill
 refine L2.zp (l:=PySem.Challenge.rw_roadsall_k44_tickets_end) (n:=63) (k:=200) (x:="_law_script") (CX:=L2.kW) (sp:=fun K=>Ev.km K (Ev.Eg My.Gv My.Att My.Tb 200 "law")) rfl (by decide) rfl ⟨rfl,by decide,by decide⟩ (fun w h Y=>PySem.W.km_in_of Y) (fun w=>by kernel_rfl) (fun w h Y=>My.CS Y (by kernel_rfl) (by kernel_rfl)) ?F ?S ?C
 case F=>
  intro w mg fa h KX G hmg
  have T:Ev.TOk w My.Gv My.Att My.Tb (L2.Nb KX) mg:=by
   dsimp only [L2.Nb]
   refine' My.He KX G ?cb ?cs ?hh ?lmk ?gv2 ?gvs ?gv0 ?gv1 ?z
   case cb=>exact⟨⟨by k_is,by k_is,by k_is,by k_is,by k_is,by k_is,by k_is⟩,by k_is,by k_is,by k_is,by k_is,by k_is,⟨_,_,_,_,_,_,_,_,_,_,by k_is,by k_is,by k_is,by k_is,by k_is⟩,⟨_,_,_,_,_,_,_,_,_,_,by k_is,by k_is,by k_is,by k_is,by k_is⟩,⟨_,_,_,_,_,_,_,_,_,_,by k_is,by k_is,by k_is,by k_is,by k_is⟩⟩
   case cs=>exact⟨⟨by k_is,by k_is,by k_is,by k_is,by k_is,by k_is,by k_is⟩,by k_is,by k_is,by k_is,by k_is,⟨_,_,_,_,_,_,_,_,_,_,by k_is,by k_is,by k_is,by k_is,by k_is⟩,⟨_,_,_,_,_,_,_,_,_,_,by k_is,by k_is,by k_is,by k_is,by k_is⟩,⟨_,_,by k_is,by first|rfl|kernel_rfl⟩⟩
   case hh=>
    intro d hd
    simp only [My.HB,List.mem_cons,List.not_mem_nil,or_false] at hd
    rcases hd with rfl|rfl|rfl|rfl|rfl|rfl|rfl|rfl|rfl|rfl|rfl|rfl|rfl|rfl|rfl|rfl|rfl|rfl|rfl|rfl|rfl|rfl|rfl|rfl|rfl|rfl|rfl|rfl|rfl|rfl|rfl|rfl|rfl|rfl|rfl|rfl|rfl|rfl|rfl|rfl|rfl|rfl <;> (dsimp only [My.k_,My.j8,My.hU,My.j7,My.jf,My.oO,My.j9,My.gj,My.j6,My.k9,My.nB,My.ji,My.jc,My.j_,My.j3,My.oM,My.j4,My.gm,My.hG,My.iA,My.ny,My.j5,My.je,My.jg,My.lc,My.hV,My.lf,My.hL,My.gk,My.nz,My.eU,My.sL,My.eA,My.hR,My.fG,My.fF,My.nA,My.jd,My.nw,My.jj,My.oN,My.ma,My.fS];exact⟨_,_,_,_,_,_,_,_,_,_,by k_is,by k_is,by k_is,by k_is⟩)
   case lmk=>kernel_rfl
   case gvs=>exact⟨_,_,_,_,_,_,by k_is,by k_is⟩
   case gv0|gv1|gv2=>exact⟨_,by k_is⟩
   case z=>
    intro x hx
    simp only [Ev.D8,List.mem_cons,List.not_mem_nil,or_false] at hx
    rcases hx with rfl|rfl|rfl|rfl|rfl|rfl|rfl|rfl|rfl|rfl|rfl|rfl|rfl|rfl|rfl|rfl|rfl|rfl|rfl <;> k_is
  obtain⟨f,fd,h1⟩:=T.fn My.ma (by simp [My.Tb,My.HB])
  have e0:=hmg.symm.trans (h1.gl (by decide +kernel))
  cases e0
  refine⟨fd,?_,fun base kb nb=>(Ev.xK T 200).1 My.ma (by simp [My.Tb,My.HB]) _ fd h1.fn⟩
  obtain⟨kV,doc,pm,an,cdv,ct,rfl⟩:=h1.pl (by decide +kernel)
  exact fun s v=>.of_eq rfl
 case S=>exact fun w H a ns hl hO hS=>My.AH hl hO hS
 case C=>exact fun _ _ _ _ z=>z
